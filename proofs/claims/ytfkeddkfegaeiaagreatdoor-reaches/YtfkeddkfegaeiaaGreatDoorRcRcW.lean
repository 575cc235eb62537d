/-
  Part 51.
-/
import Derived.Test.YtfkeddkfegaeiaaGreatDoorRcCtE
import Derived.Deep.CutBlock
import Derived.BigRegion
namespace Go.Proofs.YtfkeddkfegaeiaaGreatDoor
open Go.RowKit
/-- the table with its first six rows alone. -/
theorem TbR.six {W : World} {lo p bx : Nat} {adv : Option Addr} {capv : Nat} {vs : List Value} {rows : Rws'} (h : TbR W lo p bx adv capv vs rows) (h6 : 6 < vs.length) : 6 ≤ capv ∧ TbR (W.setCell ⟨bx, 2, none⟩ (.slice adv 6 capv)) lo p bx adv capv (vs.take 6) (rows.take 6) := by
  have hl : (vs.take 6).length = 6 := by rw [List.length_take]; omega
  have ne : ∀ {b : Nat} {cs : Array Value} {t : TypeId}, W.heap[b]? = some (.cells cs t (0, 0)) → t ≠ 44 → b ≠ bx := fun hb ht e => by
    subst e
    rw [h.box] at hb
    injection hb with hb
    injection hb with _ hb _
    exact ht hb.symm
  rcases h.own.2 with ⟨hv, h0⟩ | ⟨g, c, cur, hv, hge, hh, c1, c2, c3, c4⟩
  · omega
  · injection hv with hv1 _ hv2
    subst hv1 hv2
    refine ⟨by omega, ?_, ?_, ⟨by rw [hl], Or.inr ⟨g, capv, cur, by rw [hl], hge, ?_, by omega, c2, c3, ?_⟩⟩, ⟨by rw [hl, List.length_take, ← h.rn.1]; omega, fun i u r hu hr => ?_⟩⟩
    · rw [Below.heap_setCell _ _ _ _ (ne h.cols (by decide))]
      exact h.cols
    · rw [heap_set h.box, hl]
      rfl
    · rw [Below.heap_setCell _ _ _ _ (ne hh (by decide))]
      exact hh
    · have : (cur.toList.take (vs.length * 1)).take 6 = vs.take 6 := by rw [c4]
      rw [List.take_take, Nat.mul_one, Nat.min_eq_left (by omega)] at this
      rw [hl]
      exact this
    · have hi : i < 6 := by have := (List.getElem?_eq_some_iff.1 hu).1; omega
      rw [List.getElem?_take_of_lt hi] at hu hr
      obtain ⟨b, q1, q2, q3⟩ := h.rn.2 i u r hu hr
      exact ⟨b, q1, q2, by rw [Below.heap_setCell _ _ _ _ (ne q3 (by decide))]; exact q3⟩
theorem cell_far (W : World) (x o : Nat) (u : Value) {y q : Nat} (h : y ≠ x) : (W.setCell ⟨x, o, none⟩ u).cell? ⟨y, q, none⟩ = W.cell? ⟨y, q, none⟩ := by
  simp only [World.cell?, Below.heap_setCell _ _ _ _ (show y ≠ (⟨x, o, none⟩ : Addr).block from h)]
theorem Sm.take {n : Int} {rows : Rws'} (h : Sm n rows) (k : Nat) : Sm n (rows.take k) := fun r hr => h r (List.mem_of_mem_take hr)
set_option maxRecDepth 100000 in
set_option maxHeartbeats 4000000 in
theorem reaches_any (a : Nat → Addr) (Bd : Nat) (w : World) (hE : EnvX a Bd w) (raw : List Int) (hraw : ∀ z ∈ raw, InR z) (ad : Option Addr) (cap : Nat) (hr : RowAt w (.slice ad raw.length cap) (intsV raw)) (Y : Int) (hY : InR Y) :
    Calls Tryz.prog 11 #[.slice ad raw.length cap, .int .i64 Y] w fun e w' => e = .returned (.bool true) ∧ Below w.heap.size w w' := by
  have HE := hide hE
  have HP := hide (pairs_any raw hraw ad cap 10 30 (by omega) (by omega) (by omega) w hr)
  obtain ⟨d, hd⟩ : ∃ d : Nat, (d : Int) = pickI Y 3 := ⟨(pickI Y 3).toNat, by have := pickI_lt Y 3 (by omega); omega⟩
  have hd3 : d < 3 := by have := pickI_lt Y 3 (by omega); omega
  have HPY : Hid (∀ W, Calls Tryz.prog 31 #[.int .i64 Y, .int .i64 3] W fun e w' => e = .returned (.int .i64 (d : Nat)) ∧ w' = W) := fun W => by
    rw [hd]; exact pick_any Y 3 hY.1 hY.2 (by omega) (by omega) W
  clear hE hr hraw hY hd
  go_enter Tryz.func11, Tryz.ntmps11
  go_wp2_with fail
  refine (unhide HP).mono ?_
  rintro e w1 ⟨rows, rv, vs, rfl, hcol, hown, hrn, hsm, hlen, hb1⟩
  obtain ⟨adv, capv, rfl⟩ := owns_shape hown
  have HT1 : Hid (TbR (w1.alloc (.cells #[.string ⟨#[101]⟩, .slice (some ⟨w.heap.size + 1, 0, none⟩) 2 2, .slice adv vs.length capv] 44)) w.heap.size (w.heap.size + 1) w1.heap.size adv capv vs rows) := ⟨heap_prev hcol, heap_last rfl, hown.alloc _, hrn.below ((Below.refl _ _).alloc (Nat.le_refl _) _)⟩
  have HB1 : Hid (Below w.heap.size w (w1.alloc (.cells #[.string ⟨#[101]⟩, .slice (some ⟨w.heap.size + 1, 0, none⟩) 2 2, .slice adv vs.length capv] 44))) := hb1.alloc hb1.size _
  have HSM := hide hsm
  have hsz1 := hb1.size
  clear hcol hown hrn hsm hb1 HP
  go_wp2_with fail
  refine ((unhide HPY) _).mono ?_
  rintro e w3 ⟨rfl, hw3⟩
  obtain rfl := hw3.symm
  go_upto_block 0 with (fail)
  go_cut [6] from 18 to 33 (fun text W => ∃ s vs' rows' X x m, text = .string s ∧ TbR W w.heap.size (w.heap.size + 1) w1.heap.size adv capv vs' rows' ∧ Sm 10 rows' ∧ rows'.length ≤ 30 ∧ AskdW (tR rows') s X x (some m) ∧ OrdS m ∧ (∀ r, r ∈ m ↔ RcP rows' r) ∧ Below w.heap.size w W)
  case first =>
    have h3 : d = 0 ∨ d = 1 ∨ d = 2 := by omega
    have HB2 := HB1
    generalize (w1.alloc (.cells #[.string ⟨#[101]⟩, .slice (some ⟨w.heap.size + 1, 0, none⟩) 2 2, .slice adv vs.length capv] 44)) = W2 at *
    obtain ⟨kt, ft⟩ := blk (unhide HT1).box
    have t2 : W2.cell? ⟨w1.heap.size, 2, none⟩ = some (.slice adv vs.length capv) := kt 2
    have tf2 : W2.frozen? ⟨w1.heap.size, 2, none⟩ = false := ft 2
    have zt := lt_of_heap (unhide HT1).box
    have HVL : Hid (vs.length = rows.length) := (unhide HT1).rn.1
    clear kt ft
    rcases h3 with rfl | rfl | rfl
    · obtain ⟨X, x, m, hA, hom, hmm⟩ := ra_askd (unhide HSM) hlen
      have HA := hide (⟨hA, hom, hmm⟩ : AskdW (tR rows) rT1 X x (some m) ∧ OrdS m ∧ ∀ r, r ∈ m ↔ RcP rows r)
      clear hA hom hmm
      go_wp2_with fail
      go_meet
      case rel => exact ⟨rT1, vs, rows, X, x, m, rfl, unhide HT1, unhide HSM, hlen, (unhide HA).1, (unhide HA).2.1, (unhide HA).2.2, unhide HB1⟩
    · obtain ⟨X, x, m, hA, hom, hmm⟩ := rb_askd (unhide HSM) hlen
      have HA := hide (⟨hA, hom, hmm⟩ : AskdW (tR rows) rT2 X x (some m) ∧ OrdS m ∧ ∀ r, r ∈ m ↔ RcP rows r)
      clear hA hom hmm
      go_wp2_with fail
      go_meet
      case rel => exact ⟨rT2, vs, rows, X, x, m, rfl, unhide HT1, unhide HSM, hlen, (unhide HA).1, (unhide HA).2.1, (unhide HA).2.2, unhide HB1⟩
    · by_cases h6 : 6 < vs.length
      · have hlt : decide ((6 : Int) < (vs.length : Int)) = true := by simp; omega
        obtain ⟨hc6, ht6⟩ := (unhide HT1).six h6
        have hc6' : (6 : Int) ≤ (capv : Int) := by omega
        obtain ⟨X, x, m, hA, hom, hmm⟩ := rc_askd ((unhide HSM).take 6) (by rw [List.length_take]; omega)
        have HA := hide (⟨hA, hom, hmm⟩ : AskdW (tR (rows.take 6)) rT3 X x (some m) ∧ OrdS m ∧ ∀ r, r ∈ m ↔ RcP (rows.take 6) r)
        have HT6 := hide ht6
        clear hA hom hmm ht6
        go_wp2_with fail
        go_meet
        case rel => exact ⟨rT3, vs.take 6, rows.take 6, X, x, m, rfl, unhide HT6, (unhide HSM).take 6, by rw [List.length_take]; omega, (unhide HA).1, (unhide HA).2.1, (unhide HA).2.2, (unhide HB1).setCell (by show w.heap.size ≤ w1.heap.size; exact hsz1) _⟩
      · have hlt : decide ((6 : Int) < (vs.length : Int)) = false := by simp; omega
        obtain ⟨X, x, m, hA, hom, hmm⟩ := rc_askd (unhide HSM) (by rw [← unhide HVL]; omega)
        have HA := hide (⟨hA, hom, hmm⟩ : AskdW (tR rows) rT3 X x (some m) ∧ OrdS m ∧ ∀ r, r ∈ m ↔ RcP rows r)
        clear hA hom hmm
        go_wp2_with fail
        go_meet
        case rel => exact ⟨rT3, vs, rows, X, x, m, rfl, unhide HT1, unhide HSM, hlen, (unhide HA).1, (unhide HA).2.1, (unhide HA).2.2, unhide HB1⟩
  case rest =>
    clear HT1 HB1 HSM hlen HPY
    clear vs rows
    obtain ⟨s, vs, rows, X, x, m, rfl, htb, hsm, hlen, hA, hom, hmm, hbc⟩ := hcut
    have HT4 := hide htb
    have HSM := hide hsm
    have HA := hide hA
    have HOM := hide hom
    have HMM := hide hmm
    have HB4 := hide hbc
    have hm9 : m.length ≤ 100 := few_100p hsm hom fun r hr => (hmm r).1 hr
    obtain ⟨kt, -⟩ := blk htb.box
    have t0 : wc.cell? ⟨w1.heap.size, 0, none⟩ = some (.string ⟨#[101]⟩) := kt 0
    have t1 : wc.cell? ⟨w1.heap.size, 1, none⟩ = some (.slice (some ⟨w.heap.size + 1, 0, none⟩) 2 2) := kt 1
    have t2 : wc.cell? ⟨w1.heap.size, 2, none⟩ = some (.slice adv vs.length capv) := kt 2
    have zt := lt_of_heap htb.box
    clear htb hsm hA hom hmm hbc kt
    go_wp2_with fail
    have hzE := (unhide HE).env.size
    refine (asked_with a Bd _ (by exact (unhide HE).keep ((unhide HB4).mono hzE)) (tR rows) _ _ (by exact (unhide HT4).colsAt) (Nat.le_refl _) (by exact (unhide HT4).rowsAt (by omega)) (p6R (by omega) (unhide HSM).two) (by show 2 ≤ 6; omega) (by show rows.length ≤ 200; omega) (unhide HSM).two s X x m (by exact unhide HA)).mono ?_
    rintro e w5 ⟨g1, rfl, hg1, hrb1, hb5⟩
    have HT5 := hide ((unhide HT4).keep hb5)
    have HB5 : Hid (Below w.heap.size w w5) := (unhide HB4).trans (hb5.mono (unhide HB4).size)
    have HRB : Hid (RowsB w5 g1 32 m.length m) := by
      have := hrb1
      rw [(unhide HOM).sortL] at this
      exact this
    clear hrb1 hb5 HT4 t0 t1 t2 HA
    go_wp2_with fail
    have hz6 : Tryz.zeroCells80 = ((List.replicate 100 false).map Value.bool).toArray := by kernel_rfl
    rw [hz6]
    have hb6 : Below w5.heap.size w5 (w5.alloc (.cells ((List.replicate 100 false).map Value.bool).toArray 80)) := (Below.refl _ _).alloc (Nat.le_refl _) _
    have hh6 : (w5.alloc (.cells ((List.replicate 100 false).map Value.bool).toArray 80)).heap[w5.heap.size]? = some (.cells ((List.replicate 100 false).map Value.bool).toArray 80 (0, 0)) := heap_last rfl
    have hs6 : (w5.alloc (.cells ((List.replicate 100 false).map Value.bool).toArray 80)).heap.size = w5.heap.size + 1 := by simp
    generalize (w5.alloc (.cells ((List.replicate 100 false).map Value.bool).toArray 80)) = W6 at *
    have HB6 := hide hb6
    have HH6 := hide hh6
    have HVL : Hid (vs.length = rows.length) := (unhide HT5).rn.1
    have hv9 : vs.length ≤ 30 := by rw [unhide HVL]; exact hlen
    have zt5 := lt_of_heap (unhide HT5).box
    clear hb6 hh6 hz6
    go_loopg [10] vs.length (fun f i W => ∃ k h, k + f = vs.length ∧ i = .int .i64 (k : Nat) ∧ CanI h (fun i j => [(i : Int), (j : Int)] ∈ rows.take k) (RcU rows) ∧ W.heap[w5.heap.size]? = some (.cells (h.map Value.bool).toArray 80 (0, 0)) ∧ Below w5.heap.size w5 W ∧ W.heap.size = w5.heap.size + 1)
    case atStart => exact ⟨0, List.replicate 100 false, by omega, rfl, (CanI.start _).weak (fun i j _ _ h => by simp at h), unhide HH6, unhide HB6, hs6⟩
    case round =>
      obtain ⟨k, h, hkf, rfl, hcan, hhb, hbw, hsz⟩ := hrel
      have HCAN := hide hcan
      have HHB := hide hhb
      have HBW := hide hbw
      have htb := (unhide HT5).keep hbw
      obtain ⟨kt, -⟩ := blk htb.box
      have t2 : wr.cell? ⟨w1.heap.size, 2, none⟩ = some (.slice adv vs.length capv) := kt 2
      have zt := lt_of_heap htb.box
      have hl1 := hcan.len
      clear hbw kt
      cases gk with
      | zero =>
        have hlt : decide ((k : Int) < (vs.length : Int)) = false := by simp; omega
        have hkv : k = vs.length := by omega
        subst hkv
        have HC0 : Hid (CanI h (PtR rows 0) (RcU rows)) := hcan.weak (fun i j _ _ hp => by rw [List.take_of_length_le (by rw [unhide HVL]; exact Nat.le_refl _)]; exact hp.zero)
        clear htb hhb hcan HCAN
        go_wp2_with fail
        clear t2 zt hlt hkf
        generalize wr = Wz at *
        go_loopg [11] 10 (fun f kv W => ∃ k h, k + f = 10 ∧ kv = .int .i64 (k : Nat) ∧ CanI h (PtR rows k) (RcU rows) ∧ W.heap[w5.heap.size]? = some (.cells (h.map Value.bool).toArray 80 (0, 0)) ∧ Below w5.heap.size w5 W ∧ W.heap.size = w5.heap.size + 1)
        case atStart => exact ⟨0, h, by omega, rfl, unhide HC0, unhide HHB, unhide HBW, hsz⟩
        case round =>
          clear HC0 HHB HBW hsz hl1
          clear h Wz
          obtain ⟨k, h, hkf, rfl, hcan, hhb, hbw, hsz⟩ := hrel
          have HCAN := hide hcan
          have HHB := hide hhb
          have HBW := hide hbw
          clear hhb hbw hcan
          cases gk with
          | zero =>
            have hlt : decide ((k : Int) < 10) = false := by simp; omega
            obtain rfl : k = 10 := by omega
            obtain ⟨i0, hi, hinf⟩ := Option.map_eq_some_iff.1 infoRow
            simp only [Prod.mk.injEq] at hinf
            obtain ⟨hz0, hz1, hz2⟩ := hinf
            have HI := hide hi
            have HZ0 := hide hz0
            have HZ1 := hide hz1
            have HZ2 := hide hz2
            have hl1 := (unhide HCAN).len
            have HWE : Hid (m = wantQ h 100) := wantQ_eq (unhide HSM) (unhide HCAN) (unhide HOM) (unhide HMM)
            have hsz2 : w5.heap.size < wr.heap.size := by omega
            clear hi hz0 hz1 hz2 HCAN
            go_wp2_with fail
            clear hlt hsz
            generalize wr = Wz at *
            go_loopg [14, 15] 10 (fun f wv n W => ∃ i vs', i + f = 10 ∧ n = .int .i64 (i : Nat) ∧ W.ownsRow Wz.heap.size 32 1 wv vs'.length vs' ∧ RowsN W 2 vs' (wantQ h (i * 10)) ∧ Below Wz.heap.size Wz W)
            case atStart => exact ⟨0, [], by omega, rfl, World.ownsRow_nil _ _ _ _, ⟨rfl, fun i u r e => by simp at e⟩, Below.refl _ _⟩
            case round =>
              obtain ⟨i, vs', hif, rfl, hown, hrows, hbw⟩ := hrel
              have hvl : vs'.length ≤ 100 := by
                rw [hrows.1]
                exact Nat.le_trans (wantQ_len _ _) (by omega)
              obtain ⟨ad', cap', rfl⟩ := owns_shape hown
              have HOW := hide hown
              have HRO := hide hrows
              have HBW2 := hide hbw
              clear hown hrows hbw
              cases gk with
              | zero =>
                have hlt : decide ((i : Int) < 10) = false := by simp; omega
                obtain rfl : i = 10 := by omega
                have HB58 : Hid (Below w5.heap.size w5 wr) := (unhide HBW).trans ((unhide HBW2).mono (by omega))
                have HRM : Hid (RowsAt wr (.slice (some ⟨g1, 0, none⟩) m.length m.length) m) := ((unhide HRB).atW (by unfold maxLen; omega)).keep (unhide HB58)
                have HRW : Hid (RowsAt wr (.slice ad' vs'.length cap') (wantQ h 100)) := (unhide HRO).rows (by unfold maxLen; omega) (unhide HOW) (by unfold maxLen; omega)
                have HB8 : Hid (Below w.heap.size w wr) := (unhide HB5).trans ((unhide HB58).mono (unhide HB5).size)
                go_wp2_with fail
                refine (sameRows_any _ _ m (wantQ h 100) _ (by exact unhide HRM) (by exact unhide HRW) (by omega)).mono ?_
                rintro e w9 ⟨rfl, hb9⟩
                rw [decide_eq_true (unhide HWE)]
                have HB9 : Hid (Below w.heap.size w w9) := (unhide HB8).trans (hb9.mono (unhide HB8).size)
                clear hb9
                go_wp2
                go_ret
                exact ⟨rfl, unhide HB9⟩
              | succ gi =>
                have hlt : decide ((i : Int) < 10) = true := by simp; omega
                have hi10 : i < 10 := by omega
                go_wp2_with fail
                clear hlt
                go_loopg [14, 16] 10 (fun f wv n W => ∃ j vs', j + f = 10 ∧ n = .int .i64 (j : Nat) ∧ W.ownsRow Wz.heap.size 32 1 wv vs'.length vs' ∧ RowsN W 2 vs' (wantQ h (i * 10 + j)) ∧ Below Wz.heap.size Wz W)
                case atStart => exact ⟨0, vs', by omega, rfl, unhide HOW, unhide HRO, unhide HBW2⟩
                case round =>
                  clear HOW HRO HBW2 hvl
                  clear vs'
                  obtain ⟨j, vs', hjf, rfl, hown, hrows, hbw⟩ := hrel
                  have hvl : vs'.length ≤ 110 := by
                    rw [hrows.1]
                    exact Nat.le_trans (wantQ_len _ _) (by omega)
                  obtain ⟨ad'', cap'', rfl⟩ := owns_shape hown
                  have HOW := hide hown
                  have HRO := hide hrows
                  have HBW2 := hide hbw
                  have hz2 := hbw.size
                  clear hown hrows hbw
                  cases gk with
                  | zero =>
                    have hlt : decide ((j : Int) < 10) = false := by simp; omega
                    obtain rfl : j = 10 := by omega
                    go_wp2
                    go_roundg gi
                    case measure => omega
                    case rel =>
                      refine ⟨i + 1, vs', by omega, ?_, unhide HOW, ?_, unhide HBW2⟩
                      · go_num
                      · rw [show (i + 1) * 10 = i * 10 + 10 by omega]
                        exact unhide HRO
                  | succ gj =>
                    have hlt : decide ((j : Int) < 10) = true := by simp; omega
                    have hj10 : j < 10 := by omega
                    have hhb := ((unhide HBW2).block _ (lt_of_heap (unhide HHB))).trans (unhide HHB)
                    obtain ⟨kh, -⟩ := blk hhb
                    have zh := lt_of_heap hhb
                    obtain ⟨bv, hbv⟩ : ∃ bv, h[i * 10 + j]? = some bv := ⟨_, List.getElem?_eq_getElem (by omega)⟩
                    have kh1 : wr.cell? ⟨w5.heap.size, i * 10 + j, none⟩ = some (.bool bv) := by rw [kh]; simp [hbv]
                    have hi1 : (0 : Int) ≤ (i : Int) := by omega
                    have hi2 : (i : Int) < 10 := by omega
                    have hi3 : (0 : Int) ≤ (j : Int) := by omega
                    have hi4 : (j : Int) < 10 := by omega
                    have HCS := hide (wantQ_succ h (i * 10 + j))
                    have HGD : Hid (h.getD (i * 10 + j) false = bv) := by
                      show h.getD (i * 10 + j) false = bv
                      rw [List.getD_eq_getElem?_getD, hbv]; rfl
                    clear hhb kh hbv
                    cases bv with
                    | false =>
                      go_wp2
                      go_roundg gj
                      case measure => simp
                      case rel =>
                        refine ⟨j + 1, vs', by omega, ?_, unhide HOW, ?_, unhide HBW2⟩
                        · go_num
                        · rw [← Nat.add_assoc, unhide HCS, unhide HGD]
                          simpa using unhide HRO
                    | true =>
                      go_wp2_with (at_builtin; refine wpList_append_lies _ rfl _ _ 42 rfl Wz.heap.size 32 i0 (.slice none 0 0) 1 24 Tryz.underlying42 (unhide HI) (unhide HZ0) (unhide HZ1) (unhide HZ2) rfl (by decide) _ _ _ rfl (((unhide HOW).alloc _).alloc _) ⟨wr.heap.size + 1, 0, none⟩ 1 1 [.slice (some ⟨wr.heap.size, 0, none⟩) 2 2] ?c0 rfl ?c1 ?c2 (by decide) ?c3 ?c4 ?c5 _ rfl ?_)
                      case c0 => simp [Act.eval]
                      case c1 => exact news1 (heap_last (by simp))
                      case c2 => exact one1l _ _ _
                      case c3 => unfold maxLen; omega
                      case c4 => omega
                      case c5 => simp; omega
                      intro g cap3 w4' ho hg hat _
                      have hown := ((unhide HOW).alloc (.cells #[.int .i64 (i : Nat), .int .i64 (j : Nat)] 3)).alloc (.cells #[.slice (some ⟨wr.heap.size, 0, none⟩) 2 2] 32)
                      have hb2 : Below wr.heap.size wr ((wr.alloc (.cells #[.int .i64 (i : Nat), .int .i64 (j : Nat)] 3)).alloc (.cells #[.slice (some ⟨wr.heap.size, 0, none⟩) 2 2] 32)) := ((Below.refl _ _).alloc (Nat.le_refl _) _).alloc (by simp) _
                      have hrow : ((wr.alloc (.cells #[.int .i64 (i : Nat), .int .i64 (j : Nat)] 3)).alloc (.cells #[.slice (some ⟨wr.heap.size, 0, none⟩) 2 2] 32)).heap[wr.heap.size]? = some (.cells (intsV [(i : Int), (j : Int)]).toArray 3 (0, 0)) := heap_prev (heap_last rfl)
                      have HO4 := hide ho
                      have HRO4 := hide (((((unhide HRO).below hb2).snoc (r := [(i : Int), (j : Int)]) rfl hrow).grown hown hg))
                      have HB4' : Hid (Below Wz.heap.size Wz w4') := ((unhide HBW2).trans (hb2.mono hz2)).grown hg (by simp; omega) (fun b e => (hown.lt b e).1)
                      clear ho hg hat hown hb2 hrow
                      go_wp2
                      go_roundg gj
                      case measure => simp
                      case rel =>
                        refine ⟨j + 1, vs' ++ [.slice (some ⟨wr.heap.size, 0, none⟩) 2 2], by omega, ?_, ?_, ?_, unhide HB4'⟩
                        · go_num
                        · rw [List.length_append]; exact unhide HO4
                        · rw [← Nat.add_assoc, unhide HCS, unhide HGD, if_pos rfl, show (i * 10 + j) / 10 = i by omega, show (i * 10 + j) % 10 = j by omega]; exact unhide HRO4
          | succ gm =>
            have hlt : decide ((k : Int) < 10) = true := by simp; omega
            have hk10 : k < 10 := by omega
            have HC1 : Hid (CanI h (RdK rows k (0 * 10)) (RcU rows)) := (unhide HCAN).weak (fun i j _ _ hh => hh.elim id (fun hh => absurd hh.1 (by omega)))
            go_wp2_with fail
            clear hlt
            generalize wr = Wk at *
            go_loopg [12] 10 (fun f iv W => ∃ i h, i + f = 10 ∧ iv = .int .i64 (i : Nat) ∧ CanI h (RdK rows k (i * 10)) (RcU rows) ∧ W.heap[w5.heap.size]? = some (.cells (h.map Value.bool).toArray 80 (0, 0)) ∧ Below w5.heap.size w5 W ∧ W.heap.size = w5.heap.size + 1)
            case atStart => exact ⟨0, h, by omega, rfl, unhide HC1, unhide HHB, unhide HBW, hsz⟩
            case round =>
              clear HCAN HC1 HHB HBW hsz
              clear h Wk
              obtain ⟨i, h, hif, rfl, hcan, hhb, hbw, hsz⟩ := hrel
              have HCAN := hide hcan
              have HHB := hide hhb
              have HBW := hide hbw
              clear hhb hbw hcan
              cases gk with
              | zero =>
                have hlt : decide ((i : Int) < 10) = false := by simp; omega
                obtain rfl : i = 10 := by omega
                go_wp2
                go_roundg gm
                case measure => omega
                case rel =>
                  refine ⟨k + 1, h, by omega, ?_, (unhide HCAN).weak (fun i j hi hj hh => Or.inr ⟨by omega, hh⟩), unhide HHB, unhide HBW, hsz⟩
                  go_num
              | succ gi =>
                have hlt : decide ((i : Int) < 10) = true := by simp; omega
                have hi10 : i < 10 := by omega
                go_wp2_with fail
                clear hlt
                generalize wr = Wi at *
                go_loopg [13] 10 (fun f jv W => ∃ j h, j + f = 10 ∧ jv = .int .i64 (j : Nat) ∧ CanI h (RdK rows k (i * 10 + j)) (RcU rows) ∧ W.heap[w5.heap.size]? = some (.cells (h.map Value.bool).toArray 80 (0, 0)) ∧ Below w5.heap.size w5 W ∧ W.heap.size = w5.heap.size + 1)
                case atStart => exact ⟨0, h, by omega, rfl, unhide HCAN, unhide HHB, unhide HBW, hsz⟩
                case round =>
                  clear HCAN HHB HBW hsz
                  clear h Wi
                  obtain ⟨j, h, hjf, rfl, hcan, hhb, hbw, hsz⟩ := hrel
                  have HCAN := hide hcan
                  have HHB := hide hhb
                  have HBW := hide hbw
                  have hl1 := hcan.len
                  cases gk with
                  | zero =>
                    have hlt : decide ((j : Int) < 10) = false := by simp; omega
                    obtain rfl : j = 10 := by omega
                    clear hhb hbw hcan
                    go_wp2
                    go_roundg gi
                    case measure => omega
                    case rel =>
                      refine ⟨i + 1, h, by omega, ?_, ?_, unhide HHB, unhide HBW, hsz⟩
                      · go_num
                      · rw [show (i + 1) * 10 = i * 10 + 10 by omega]
                        exact unhide HCAN
                  | succ gj =>
                    have hlt : decide ((j : Int) < 10) = true := by simp; omega
                    have hj10 : j < 10 := by omega
                    obtain ⟨kh, fh⟩ := blk hhb
                    have zh := lt_of_heap hhb
                    obtain ⟨bx, hbx⟩ : ∃ bv, h[i * 10 + j]? = some bv := ⟨_, List.getElem?_eq_getElem (by omega)⟩
                    obtain ⟨by', hby⟩ : ∃ bv, h[i * 10 + k]? = some bv := ⟨_, List.getElem?_eq_getElem (by omega)⟩
                    obtain ⟨bz, hbz⟩ : ∃ bv, h[k * 10 + j]? = some bv := ⟨_, List.getElem?_eq_getElem (by omega)⟩
                    have kx : wr.cell? ⟨w5.heap.size, i * 10 + j, none⟩ = some (.bool bx) := by rw [kh]; simp [hbx]
                    have ky : wr.cell? ⟨w5.heap.size, i * 10 + k, none⟩ = some (.bool by') := by rw [kh]; simp [hby]
                    have kz : wr.cell? ⟨w5.heap.size, k * 10 + j, none⟩ = some (.bool bz) := by rw [kh]; simp [hbz]
                    have kf : wr.frozen? ⟨w5.heap.size, i * 10 + j, none⟩ = false := fh _
                    have HCR := hide (can_round hk10 hi10 hj10 hcan hbx hby hbz)
                    have hi1 : (0 : Int) ≤ (i : Int) := by omega
                    have hi2 : (i : Int) < 10 := by omega
                    have hi3 : (0 : Int) ≤ (j : Int) := by omega
                    have hi4 : (j : Int) < 10 := by omega
                    have hi5 : (0 : Int) ≤ (k : Int) := by omega
                    have hi6 : (k : Int) < 10 := by omega
                    clear hhb hbw hcan kh fh hbx hby hbz
                    go_wp2_with fail
                    have HEND : Hid (∀ W u, (bx || (by' && bz)) = u → W = (wr.setCell ⟨w5.heap.size, i * 10 + j, none⟩ (.bool u)).drew → ∃ j' h', j' + gj = 10 ∧ (.int .i64 ((j : Int) + 1) : Value) = .int .i64 (j' : Nat) ∧ CanI h' (RdK rows k (i * 10 + j')) (RcU rows) ∧ W.heap[w5.heap.size]? = some (.cells (h'.map Value.bool).toArray 80 (0, 0)) ∧ Below w5.heap.size w5 W ∧ W.heap.size = w5.heap.size + 1) := fun W u hu hW => by
                      subst hu hW
                      refine ⟨j + 1, h.set (i * 10 + j) (bx || (by' && bz)), by omega, rfl, ?_, ?_, ((unhide HBW).setCell (Nat.le_refl _) _).drew, ?_⟩
                      · rw [← Nat.add_assoc]
                        exact unhide HCR
                      · show (wr.setCell ⟨w5.heap.size, i * 10 + j, none⟩ (.bool (bx || (by' && bz)))).heap[w5.heap.size]? = _
                        rw [heap_set (unhide HHB), set_marks]
                      · show (wr.setCell ⟨w5.heap.size, i * 10 + j, none⟩ (.bool (bx || (by' && bz)))).heap.size = _
                        simpa [World.setCell] using hsz
                    cases bx <;> cases by' <;> cases bz <;> (go_region; go_wp2; go_roundg gj; (case measure => simp); (case rel => exact (unhide HEND) _ _ rfl rfl))
      | succ gm =>
        have hlt : decide ((k : Int) < (vs.length : Int)) = true := by simp; omega
        obtain ⟨r, hr⟩ : ∃ r, rows[k]? = some r := ⟨_, List.getElem?_eq_getElem (by rw [← unhide HVL]; omega)⟩
        obtain ⟨xa, xb, rfl, hx0, hx1, hx2, hx3⟩ := (unhide HSM) r (List.mem_of_getElem? hr)
        obtain ⟨ia, rfl⟩ : ∃ v0 : Nat, xa = (v0 : Int) := ⟨xa.toNat, by omega⟩
        obtain ⟨ib, rfl⟩ : ∃ v0 : Nat, xb = (v0 : Int) := ⟨xb.toNat, by omega⟩
        obtain ⟨g, b, rfl, zg5, zb5, c0', c1', c2'⟩ := (unhide HT5).at hr
        have c0 := ((unhide HBW).cell (p := ⟨g, k, none⟩) zg5).trans c0'
        have c1 := ((unhide HBW).cell (p := ⟨b, 0, none⟩) zb5).trans c1'
        have c2 := ((unhide HBW).cell (p := ⟨b, 1, none⟩) zb5).trans c2'
        have zg : g < wr.heap.size := by omega
        have zb : b < wr.heap.size := by omega
        have hne1 : w1.heap.size ≠ w5.heap.size := by omega
        have hne2 : g ≠ w5.heap.size := by omega
        have hne3 : b ≠ w5.heap.size := by omega
        clear c0' c1' c2'
        obtain ⟨kh, fh⟩ := blk hhb
        have zh := lt_of_heap hhb
        have ha10 : ia < 10 := by omega
        have hb10 : ib < 10 := by omega
        obtain ⟨bv, hbv⟩ : ∃ bv, h[ia * 10 + ib]? = some bv := ⟨_, List.getElem?_eq_getElem (by omega)⟩
        have kh1 : wr.cell? ⟨w5.heap.size, ia * 10 + ib, none⟩ = some (.bool bv) := by rw [kh]; simp [hbv]
        have kf1 : wr.frozen? ⟨w5.heap.size, ia * 10 + ib, none⟩ = false := fh _
        have hi1 : (0 : Int) ≤ (k : Int) := by omega
        have hi2 : (k : Int) < (vs.length : Int) := by omega
        have hi3 : (0 : Int) ≤ (ia : Int) := by omega
        have hi4 : (ia : Int) < 10 := by omega
        have hi5 : (0 : Int) ≤ (ib : Int) := by omega
        have hi6 : (ib : Int) < 10 := by omega
        have HR := hide hr
        clear htb hhb kh fh hr hx0 hx1 hx2 hx3 hcan
        have s1 := (cell_far wr w5.heap.size (ia * 10 + ib) (.bool true) (q := 2) hne1).trans t2
        have s2 := (cell_far wr w5.heap.size (ia * 10 + ib) (.bool true) (q := k) hne2).trans c0
        have s3 := (cell_far wr w5.heap.size (ia * 10 + ib) (.bool true) (q := 0) hne3).trans c1
        have s4 := (cell_far wr w5.heap.size (ia * 10 + ib) (.bool true) (q := 1) hne3).trans c2
        have HS := hide (⟨s1, s2, s3, s4⟩ : _ ∧ _ ∧ _ ∧ _)
        clear s1 s2 s3 s4
        go_wp2_with fail
        go_region_held3 (fun w' => w'.cell? ⟨w1.heap.size, 2, none⟩ = some (.slice (some ⟨g, 0, none⟩) vs.length capv) ∧ w'.cell? ⟨g, k, none⟩ = some (.slice (some ⟨b, 0, none⟩) 2 2) ∧ w'.cell? ⟨b, 0, none⟩ = some (.int .i64 (ia : Nat)) ∧ w'.cell? ⟨b, 1, none⟩ = some (.int .i64 (ib : Nat))) (first | exact unhide HS | go_keep) (first | fail)
        go_wp2
        go_roundg gm
        case measure => simp
        case rel =>
          refine ⟨k + 1, h.set (ia * 10 + ib) true, by omega, ?_, ?_, ?_, ((unhide HBW).setCell (Nat.le_refl _) _).drew, ?_⟩
          · go_num
          · refine ((unhide HCAN).mark ha10 hb10 (Rc.one (List.mem_of_getElem? (unhide HR)))).weak (fun i j _ _ hh => ?_)
            rw [take_snoc (unhide HR)] at hh
            rcases List.mem_append.1 hh with hh | hh
            · exact Or.inl hh
            · simp at hh
              exact Or.inr (by omega)
          · show (wr.setCell ⟨w5.heap.size, ia * 10 + ib, none⟩ (.bool true)).heap[w5.heap.size]? = _
            rw [heap_set (unhide HHB), set_marks]
          · show (wr.setCell ⟨w5.heap.size, ia * 10 + ib, none⟩ (.bool true)).heap.size = _
            simpa [World.setCell] using hsz
end Go.Proofs.YtfkeddkfegaeiaaGreatDoor
