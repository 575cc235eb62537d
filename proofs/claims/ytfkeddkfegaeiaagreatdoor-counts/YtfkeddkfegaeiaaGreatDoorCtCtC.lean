/-
  Part 51.
-/
import Derived.Test.YtfkeddkfegaeiaaGreatDoorCtCtD
namespace Go.Proofs.YtfkeddkfegaeiaaGreatDoor
open Go.RowKit
/-- the table, as it lies. -/
structure TbR (W : World) (lo p bx : Nat) (adv : Option Addr) (capv : Nat) (vs : List Value) (rows : Rws') : Prop where
  cols : W.heap[p]? = some (.cells #[.string ⟨#[97]⟩, .string ⟨#[98]⟩] 9 (0, 0))
  box : W.heap[bx]? = some (.cells #[.string ⟨#[101]⟩, .slice (some ⟨p, 0, none⟩) 2 2, .slice adv vs.length capv] 44 (0, 0))
  own : W.ownsRow lo 32 1 (.slice adv vs.length capv) vs.length vs
  rn : RowsN W 2 vs rows
theorem TbR.keep {W W' : World} {lo p bx : Nat} {adv : Option Addr} {capv : Nat} {vs : List Value} {rows : Rws'} (h : TbR W lo p bx adv capv vs rows) (hb : Below W.heap.size W W') : TbR W' lo p bx adv capv vs rows :=
  ⟨(hb.block _ (lt_of_heap h.cols)).trans h.cols, (hb.block _ (lt_of_heap h.box)).trans h.box, owns_below h.own hb, h.rn.below hb⟩
theorem TbR.colsAt {W : World} {lo p bx : Nat} {adv : Option Addr} {capv : Nat} {vs : List Value} {rows : Rws'} (h : TbR W lo p bx adv capv vs rows) : RowAt W (.slice (some ⟨p, 0, none⟩) 2 2) (textsV (tR rows).cols) := row_full (xs := [.string ⟨#[97]⟩, .string ⟨#[98]⟩]) h.cols (by simp [maxLen]) 2
theorem TbR.rowsAt {W : World} {lo p bx : Nat} {adv : Option Addr} {capv : Nat} {vs : List Value} {rows : Rws'} (h : TbR W lo p bx adv capv vs rows) (hm : rows.length ≤ 200) : RowsAt W (.slice adv vs.length capv) (tR rows).rows := h.rn.rows (by unfold maxLen; omega) h.own (by rw [h.rn.1]; unfold maxLen; omega)
/-- a row's cells. -/
theorem TbR.at {W : World} {lo p bx : Nat} {adv : Option Addr} {capv : Nat} {vs : List Value} {rows : Rws'} (h : TbR W lo p bx adv capv vs rows) {i : Nat} {x y : Int} (hi : rows[i]? = some [x, y]) : ∃ g b, adv = some ⟨g, 0, none⟩ ∧ g < W.heap.size ∧ b < W.heap.size ∧ W.cell? ⟨g, i, none⟩ = some (.slice (some ⟨b, 0, none⟩) 2 2) ∧ W.cell? ⟨b, 0, none⟩ = some (.int .i64 x) ∧ W.cell? ⟨b, 1, none⟩ = some (.int .i64 y) := by
  have hl := (List.getElem?_eq_some_iff.1 hi).1
  have hl2 : i < vs.length := by rw [h.rn.1]; exact hl
  obtain ⟨b, e1, -, e3⟩ := h.rn.2 i _ _ (List.getElem?_eq_getElem hl2) hi
  rcases h.own.2 with ⟨hv, h0⟩ | ⟨g, c, cur, hv, hge, hh, c1, c2, c3, c4⟩
  · omega
  · injection hv with hv _ _
    refine ⟨g, b, hv, lt_of_heap hh, lt_of_heap e3, ?_, (blk e3).1 0, (blk e3).1 1⟩
    rw [(blk hh).1, ← Array.getElem?_toList]
    have : (cur.toList.take (vs.length * 1))[i]? = vs[i]? := by rw [c4]
    rw [Nat.mul_one, List.getElem?_take_of_lt hl2] at this
    rw [this, List.getElem?_eq_getElem hl2, e1]
theorem set_marks (h : List Bool) (n : Nat) (b : Bool) : (h.map Value.bool).toArray.setIfInBounds n (.bool b) = ((h.set n b).map Value.bool).toArray := by
  rw [List.setIfInBounds_toArray, List.map_set]
theorem RowsB.atW {W : World} {g : Nat} {t : TypeId} {cap : Nat} {l : List (List Int)} (h : RowsB W g t cap l) (hm : l.length ≤ maxLen) : RowsAt W (.slice (some ⟨g, 0, none⟩) l.length cap) l := by
  obtain ⟨cur, h1, h2, h3, h4⟩ := h
  have hl : (cur.toList.take l.length).length = l.length := by rw [List.length_take, show cur.toList.length = cap by simpa using h2]; exact Nat.min_eq_left h3
  refine ⟨cur.toList.take l.length, ?_, hl, fun k r u hr hu => ?_⟩
  · refine ⟨_, cap, by rw [hl], by omega, fun _ => ⟨g, 0, rfl, lt_of_heap h1, fun j hj => ?_⟩⟩
    rw [hl] at hj
    rw [Nat.zero_add, (blk h1).1, List.getElem?_take_of_lt hj]
    simp
  · obtain ⟨v, hv, ho⟩ := h4 k r hr
    have hk := (List.getElem?_eq_some_iff.1 hr).1
    rw [List.getElem?_take_of_lt hk, Array.getElem?_toList, hv] at hu
    injection hu with hu
    subst hu
    exact ho.row
theorem take_snoc {rows : Rws'} {k : Nat} {r : List Int} (h : rows[k]? = some r) : rows.take (k + 1) = rows.take k ++ [r] := by
  rw [List.take_add_one, h]; rfl
set_option maxRecDepth 100000 in
set_option maxHeartbeats 4000000 in
theorem counts_any (a : Nat → Addr) (Bd : Nat) (w : World) (hE : EnvX a Bd w) (raw : List Int) (hraw : ∀ z ∈ raw, InR z) (ad : Option Addr) (cap : Nat) (hr : RowAt w (.slice ad raw.length cap) (intsV raw)) (S M : Int) (hS : InR S) (hM : InR M) :
    Calls Tryz.prog 12 #[.slice ad raw.length cap, .int .i64 S, .int .i64 M] w fun e w' => e = .returned (.bool true) ∧ Below w.heap.size w w' := by
  have HE := hide hE
  have HP := hide (pairs_any raw hraw ad cap 20 5 (by omega) (by omega) (by omega) w hr)
  have HS := hide hS
  have HM := hide hM
  clear hE hr hraw hS hM
  go_enter Tryz.func12, Tryz.ntmps12
  go_wp2_with fail
  refine (unhide HP).mono ?_
  rintro e w1 ⟨rows, rv, vs, rfl, hcol, hown, hrn, hsm, hlen, hb1⟩
  obtain ⟨adv, capv, rfl⟩ := owns_shape hown
  have HCOL := hide hcol
  have HOWN := hide hown
  have HRN := hide hrn
  have HSM := hide hsm
  have HB1 := hide hb1
  have HT1 : Hid (TbR (w1.alloc (.cells #[.string ⟨#[101]⟩, .slice (some ⟨w.heap.size + 1, 0, none⟩) 2 2, .slice adv vs.length capv] 44)) w.heap.size (w.heap.size + 1) w1.heap.size adv capv vs rows) := ⟨heap_prev hcol, heap_last rfl, hown.alloc _, hrn.below ((Below.refl _ _).alloc (Nat.le_refl _) _)⟩
  have HB1' : Hid (Below w.heap.size w (w1.alloc (.cells #[.string ⟨#[101]⟩, .slice (some ⟨w.heap.size + 1, 0, none⟩) 2 2, .slice adv vs.length capv] 44))) := hb1.alloc hb1.size _
  clear hcol hown hrn hsm hb1 HP
  obtain ⟨d, hd⟩ : ∃ d : Nat, (d : Int) = pickI S 5 := ⟨(pickI S 5).toNat, by have := pickI_lt S 5 (by omega); omega⟩
  obtain ⟨t, ht⟩ : ∃ t : Nat, (t : Int) = pickI M 60 := ⟨(pickI M 60).toNat, by have := pickI_lt M 60 (by omega); omega⟩
  have hd5 : d < 5 := by have := pickI_lt S 5 (by omega); omega
  have ht60 : t < 60 := by have := pickI_lt M 60 (by omega); omega
  have HPS : Hid (∀ W, Calls Tryz.prog 31 #[.int .i64 S, .int .i64 5] W fun e w' => e = .returned (.int .i64 (d : Nat)) ∧ w' = W) := fun W => by
    rw [hd]; exact pick_any S 5 (unhide HS).1 (unhide HS).2 (by omega) (by omega) W
  have HPM : Hid (∀ W, Calls Tryz.prog 31 #[.int .i64 M, .int .i64 60] W fun e w' => e = .returned (.int .i64 (t : Nat)) ∧ w' = W) := fun W => by
    rw [ht]; exact pick_any M 60 (unhide HM).1 (unhide HM).2 (by omega) (by omega) W
  clear hd ht
  obtain ⟨D1, hD1⟩ : ∃ D1 : ByteArray, D1 = ⟨(dig (d + 1)).toArray⟩ := ⟨_, rfl⟩
  obtain ⟨D2, hD2⟩ : ∃ D2 : ByteArray, D2 = ⟨(dig t).toArray⟩ := ⟨_, rfl⟩
  have z1 : D1.size ≤ 3 := by rw [hD1]; exact dig_len _
  have z2 : D2.size ≤ 3 := by rw [hD2]; exact dig_len _
  have HDD : Hid (∀ W, Calls Tryz.prog 32 #[.int .i64 (1 + (d : Int))] W fun e w' => e = .returned (.string D1) ∧ Below W.heap.size W w') := fun W => by
    have := digits_any (d + 1) (by omega) W
    rw [show ((d + 1 : Nat) : Int) = 1 + (d : Int) by omega, ← hD1] at this
    exact this
  have HDT : Hid (∀ W, Calls Tryz.prog 32 #[.int .i64 (t : Nat)] W fun e w' => e = .returned (.string D2) ∧ Below W.heap.size W w') := fun W => by
    have := digits_any t (by omega) W
    rw [← hD2] at this
    exact this
  have HD1 := hide hD1
  have HD2 := hide hD2
  clear hD1 hD2
  go_wp2_with fail
  generalize (w1.alloc (.cells #[.string ⟨#[101]⟩, .slice (some ⟨w.heap.size + 1, 0, none⟩) 2 2, .slice adv vs.length capv] 44)) = W2 at *
  refine ((unhide HPS) _).mono ?_
  rintro e w3 ⟨rfl, hw3⟩
  obtain rfl := hw3.symm
  go_wp2_with fail
  refine ((unhide HPM) _).mono ?_
  rintro e w3 ⟨rfl, hw3⟩
  obtain rfl := hw3.symm
  go_wp2_with fail
  refine ((unhide HDD) _).mono ?_
  rintro e w3 ⟨rfl, hb3⟩
  have HT3 := hide ((unhide HT1).keep hb3)
  have HB3 : Hid (Below w.heap.size w w3) := (unhide HB1').trans (hb3.mono (unhide HB1').size)
  clear hb3
  go_wp2_with fail
  refine ((unhide HDT) _).mono ?_
  rintro e w4 ⟨rfl, hb4⟩
  have HT4 := hide ((unhide HT3).keep hb4)
  have HB4 : Hid (Below w.heap.size w w4) := (unhide HB3).trans (hb4.mono (unhide HB3).size)
  clear hb4 HT3 HB3 HT1 HB1'
  obtain ⟨X1, x1, m, hA1, hom, hmm⟩ := c_askd (d := d + 1) (t := t) (rows := rows) (by omega) (by omega) ht60 (unhide HSM) hlen
  obtain ⟨X2, x2, hA2⟩ := u_askd (rows := rows) (unhide HSM) hlen
  rw [← unhide HD1, ← unhide HD2] at hA1
  have HA1 := hide hA1
  have HA2 := hide hA2
  have HOM := hide hom
  have HMM := hide hmm
  have hm9 : m.length ≤ 100 := few_100 hom fun r hr => by
    obtain ⟨v, rfl, hv⟩ := (hmm r).1 hr
    exact ⟨v, rfl, hv.in (by omega) (by omega) (by omega) (unhide HSM)⟩
  obtain ⟨kt, -⟩ := blk (unhide HT4).box
  have t0 : w4.cell? ⟨w1.heap.size, 0, none⟩ = some (.string ⟨#[101]⟩) := kt 0
  have t1 : w4.cell? ⟨w1.heap.size, 1, none⟩ = some (.slice (some ⟨w.heap.size + 1, 0, none⟩) 2 2) := kt 1
  have t2 : w4.cell? ⟨w1.heap.size, 2, none⟩ = some (.slice adv vs.length capv) := kt 2
  have zt := lt_of_heap (unhide HT4).box
  clear hA1 hA2 hom hmm kt
  go_wp2_with fail
  have hzE := (unhide HE).env.size
  refine (asked_with a Bd _ (by exact (unhide HE).keep ((unhide HB4).mono hzE)) (tR rows) _ _ (by exact (unhide HT4).colsAt) (Nat.le_refl _) (by exact (unhide HT4).rowsAt (by omega)) (p6R (by omega) (unhide HSM).two) (by show 2 ≤ 6; omega) (by show rows.length ≤ 200; omega) (unhide HSM).two _ X1 x1 m (by exact unhide HA1)).mono ?_
  rintro e w5 ⟨g1, rfl, hg1, hrb1, hb5⟩
  have HT5 := hide ((unhide HT4).keep hb5)
  have HB5 : Hid (Below w.heap.size w w5) := (unhide HB4).trans (hb5.mono (unhide HB4).size)
  have HRB : Hid (RowsB w5 g1 32 m.length m) := by
    have := hrb1
    rw [(unhide HOM).sortL] at this
    exact this
  have HA1' := HA1
  clear hrb1 hb5 HT4 t0 t1 t2 HA1
  go_wp2_with fail
  have hz6 : Tryz.zeroCells81 = ((List.replicate 100 false).map Value.bool).toArray := by kernel_rfl
  rw [hz6]
  have hb6 : Below w5.heap.size w5 (w5.alloc (.cells ((List.replicate 100 false).map Value.bool).toArray 81)) := (Below.refl _ _).alloc (Nat.le_refl _) _
  have hh6 : (w5.alloc (.cells ((List.replicate 100 false).map Value.bool).toArray 81)).heap[w5.heap.size]? = some (.cells ((List.replicate 100 false).map Value.bool).toArray 81 (0, 0)) := heap_last rfl
  have hs6 : (w5.alloc (.cells ((List.replicate 100 false).map Value.bool).toArray 81)).heap.size = w5.heap.size + 1 := by simp
  generalize (w5.alloc (.cells ((List.replicate 100 false).map Value.bool).toArray 81)) = W6 at *
  have HB6 := hide hb6
  have HH6 := hide hh6
  have HVL : Hid (vs.length = rows.length) := (unhide HT5).rn.1
  have hv9 : vs.length ≤ 5 := by rw [unhide HVL]; exact hlen
  have zt5 := lt_of_heap (unhide HT5).box
  have HHL : Hid (∀ h S, HasI h S → h.length = 100) := fun h S hh => hh.1
  clear hb6 hh6 hz6 HCOL HOWN HRN HB1 HS HM HPS HPM HDD HDT HD1 HD2 HA1'
  go_loopg [14] vs.length (fun f i W => ∃ k h, k + f = vs.length ∧ i = .int .i64 (k : Nat) ∧ HasI h (Cn ((d + 1 : Nat) : Int) t (rows.take k)) ∧ W.heap[w5.heap.size]? = some (.cells (h.map Value.bool).toArray 81 (0, 0)) ∧ Below w5.heap.size w5 W ∧ W.heap.size = w5.heap.size + 1)
  case atStart => exact ⟨0, List.replicate 100 false, by omega, rfl, HasI.start.congr (fun v => ⟨False.elim, fun ⟨r, hr, _⟩ => by simp at hr⟩), unhide HH6, unhide HB6, hs6⟩
  case round =>
    obtain ⟨k, h, hkf, rfl, hhas, hhb, hbw, hsz⟩ := hrel
    have HHAS := hide hhas
    have HHB := hide hhb
    have HBW := hide hbw
    have htb := (unhide HT5).keep hbw
    obtain ⟨kt, -⟩ := blk htb.box
    have t2 : wr.cell? ⟨w1.heap.size, 2, none⟩ = some (.slice adv vs.length capv) := kt 2
    have zt := lt_of_heap htb.box
    have HTB := hide htb
    clear hhas hbw kt
    cases gk with
    | zero =>
      have hlt : decide ((k : Int) < (vs.length : Int)) = false := by simp; omega
      clear htb hhb
      have hkv : k = vs.length := by omega
      subst hkv
      have HHF : Hid (HasI h (Cn ((d + 1 : Nat) : Int) t rows)) := by
        have := unhide HHAS
        rw [List.take_of_length_le (by rw [unhide HVL]; exact Nat.le_refl _)] at this
        exact this
      obtain ⟨i0, hi, hinf⟩ := Option.map_eq_some_iff.1 infoRow
      simp only [Prod.mk.injEq] at hinf
      obtain ⟨hz0, hz1, hz2⟩ := hinf
      have HI := hide hi
      have HZ0 := hide hz0
      have HZ1 := hide hz1
      have HZ2 := hide hz2
      have hl1 := (unhide HHL) h _ (unhide HHAS)
      have HWE : Hid (m = wantN h 100) := want_eq (unhide HHF) (fun v hv => hv.in (by omega) (by omega) (by omega) (unhide HSM)) (unhide HOM) (unhide HMM)
      clear hi hz0 hz1 hz2 HHAS HHF
      go_wp2_with fail
      have hsz2 : w5.heap.size < wr.heap.size := by omega
      clear t2 zt hsz
      generalize wr = Wz at *
      go_loopg [16, 17] 100 (fun f wv n W => ∃ k vs', k + f = 100 ∧ n = .int .i64 (k : Nat) ∧ W.ownsRow Wz.heap.size 32 1 wv vs'.length vs' ∧ RowsN W 1 vs' (wantN h k) ∧ Below Wz.heap.size Wz W)
      case atStart => exact ⟨0, [], by omega, rfl, World.ownsRow_nil _ _ _ _, ⟨rfl, fun i u r e => by simp at e⟩, Below.refl _ _⟩
      case round =>
        obtain ⟨k, vs', hkf, rfl, hown, hrows, hbw⟩ := hrel
        have hvl : vs'.length ≤ 100 := by
          rw [hrows.1]
          exact Nat.le_trans (wantN_len _ _) (by omega)
        obtain ⟨ad', cap', rfl⟩ := owns_shape hown
        have HOW := hide hown
        have HRO := hide hrows
        have HBW2 := hide hbw
        have hz2 := hbw.size
        clear hown hrows hbw
        cases gk with
        | zero =>
          have hlt : decide ((k : Int) < 100) = false := by simp; omega
          have hk100 : k = 100 := by omega
          subst hk100
          have HB58 : Hid (Below w5.heap.size w5 wr) := (unhide HBW).trans ((unhide HBW2).mono (by omega))
          have HRM : Hid (RowsAt wr (.slice (some ⟨g1, 0, none⟩) m.length m.length) m) := ((unhide HRB).atW (by unfold maxLen; omega)).keep (unhide HB58)
          have HRW : Hid (RowsAt wr (.slice ad' vs'.length cap') (wantN h 100)) := (unhide HRO).rows (by unfold maxLen; omega) (unhide HOW) (by unfold maxLen; omega)
          have HB8 : Hid (Below w.heap.size w wr) := (unhide HB5).trans ((unhide HB58).mono (unhide HB5).size)
          have HT8 := hide ((unhide HT5).keep (unhide HB58))
          go_wp2_with fail
          refine (sameRows_any _ _ m (wantN h 100) _ (by exact unhide HRM) (by exact unhide HRW) (by omega)).mono ?_
          rintro e w9 ⟨rfl, hb9⟩
          rw [decide_eq_true (unhide HWE)]
          have HT9 := hide ((unhide HT8).keep hb9)
          have HB9 : Hid (Below w.heap.size w w9) := (unhide HB8).trans (hb9.mono (unhide HB8).size)
          obtain ⟨kt, -⟩ := blk (unhide HT9).box
          have t0 : w9.cell? ⟨w1.heap.size, 0, none⟩ = some (.string ⟨#[101]⟩) := kt 0
          have t1 : w9.cell? ⟨w1.heap.size, 1, none⟩ = some (.slice (some ⟨w.heap.size + 1, 0, none⟩) 2 2) := kt 1
          have t2 : w9.cell? ⟨w1.heap.size, 2, none⟩ = some (.slice adv vs.length capv) := kt 2
          have zt := lt_of_heap (unhide HT9).box
          clear hb9 kt HRM HRW HB8 HT8 HB58 HWE
          go_wp2_with fail
          have hb10 : Below w9.heap.size w9 (w9.alloc (.cells #[.string ⟨#[101]⟩, .slice (some ⟨w.heap.size + 1, 0, none⟩) 2 2, .slice adv vs.length capv] 44)) := (Below.refl _ _).alloc (Nat.le_refl _) _
          have hx10 : (w9.alloc (.cells #[.string ⟨#[101]⟩, .slice (some ⟨w.heap.size + 1, 0, none⟩) 2 2, .slice adv vs.length capv] 44)).heap[w9.heap.size]? = some (.cells #[.string ⟨#[101]⟩, .slice (some ⟨w.heap.size + 1, 0, none⟩) 2 2, .slice adv vs.length capv] 44 (0, 0)) := heap_last rfl
          generalize (w9.alloc (.cells #[.string ⟨#[101]⟩, .slice (some ⟨w.heap.size + 1, 0, none⟩) 2 2, .slice adv vs.length capv] 44)) = W10 at *
          have HT10 := hide ((unhide HT9).keep hb10)
          have HB10 : Hid (Below w.heap.size w W10) := (unhide HB9).trans (hb10.mono (unhide HB9).size)
          have HE10 := hide ((unhide HE).keep ((unhide HB10).mono hzE))
          have HTA : Hid (TabsAt W10 (.slice (some ⟨w9.heap.size, 0, none⟩) 1 1) [tR rows]) := tabs_one hx10 (unhide HT10).colsAt (Nat.le_refl _) ((unhide HT10).rowsAt (by omega))
          have hzB := (unhide HE10).env.size
          clear hb10 hx10 t0 t1 t2 zt
          refine (pNew_fine (fun j => a (errG j)) _ [tR rows] _ (by exact (unhide HE10).sents) (by exact unhide HTA) (p6R (by omega) (unhide HSM).two)).mono ?_
          rintro e w11 ⟨q, mb, g, F, D, rfl, htab, hF, hm0, hmq, hmap, hqb, hb11⟩
          have hA := unhide HA2
          have HAS := hide (ask_with a Bd w11 ((unhide HE10).keep (hb11.mono hzB)) q mb 0 (by omega) (by omega) (.map []) cTU hA.short X2 hA.read g 0 1 [tR rows] 0 0 ⟨by omega, by omega⟩ (by omega) (by omega) hqb (map_empty hmap) rfl (fun _ => rfl) x2 hA.wt
            (fun W hW => htab.tabsAt (fun b o e => by obtain ⟨h1, h2, h3⟩ := hF b o e; exact (hW.block b (lt_size h3) (by omega) (by omega)).trans h3) (by simp [maxLen])) (by simp) (by simp) (fun u hu => by simp at hu; subst hu; show 2 ≤ 6; omega) (fun u hu => by simp at hu; subst hu; show rows.length ≤ 200; omega) (fun u hu => by simp at hu; subst hu; exact (unhide HSM).two) hA.fine hA.main)
          rw [← hA.res] at HAS
          have HB11 : Hid (Below w.heap.size w w11) := (unhide HB10).trans (hb11.mono (unhide HB10).size)
          have HBB := hide hb11
          have HQB := hide (⟨hm0, hmq, (unhide HB10).size⟩ : W10.heap.size ≤ mb ∧ mb < q ∧ w.heap.size ≤ W10.heap.size)
          clear htab hF hmap hqb hb11 hA hm0 hmq
          go_wp2_with fail
          refine (unhide HAS).mono ?_
          rintro e w12 ⟨hoff, hno, hok⟩
          have HT12 : Hid (TbR w12 w.heap.size (w.heap.size + 1) w1.heap.size adv capv vs rows) := by
            obtain ⟨q1, q2, q3⟩ := unhide HQB
            exact (unhide HT10).keep ((unhide HBB).trans (hoff.below (unhide HBB).size (by omega) (by omega)))
          have HB12 : Hid (Below w.heap.size w w12) := by
            obtain ⟨q1, q2, q3⟩ := unhide HQB
            exact (unhide HB10).trans (((unhide HBB).trans (hoff.below (unhide HBB).size (by omega) (by omega))).mono (unhide HB10).size)
          obtain ⟨kt, -⟩ := blk (unhide HT12).box
          have t2 : w12.cell? ⟨w1.heap.size, 2, none⟩ = some (.slice adv vs.length capv) := kt 2
          have zt := lt_of_heap (unhide HT12).box
          have hmany : w12.cell? ⟨4, 0, none⟩ = some (errV a 4) := ((unhide HE).keep ((unhide HB12).mono hzE)).cell _ (by decide)
          have zmany : 4 < w12.heap.size := World.block_lt_of_cell? w12 _ hmany
          clear kt
          by_cases hr0 : rows = []
          · rw [if_pos hr0] at hok
            obtain ⟨gc, gr, es, -, rfl, -⟩ := hok [] rfl
            have hv0 : ((vs.length : Int) == 0) = true := by
              have : vs.length = 0 := by rw [unhide HVL, hr0]; rfl
              simp [this]
            clear hok hno hoff hmany zmany
            go_wp2
            go_ret
            exact ⟨rfl, (unhide HB12).alloc (unhide HB12).size _⟩
          · rw [if_neg hr0] at hno
            obtain rfl := hno rfl
            have hv0 : ((vs.length : Int) == 0) = false := by
              have : vs.length ≠ 0 := by rw [unhide HVL]; intro e; exact hr0 (List.eq_nil_of_length_eq_zero e)
              rw [beq_eq_false_iff_ne]
              omega
            clear hok hno hoff
            have heql := fun W => err_same a W 4
            unfold errV at hmany heql ⊢
            unfold eMany
            have hnil : ∀ W : World, (binOp .eql 42 (.slice none 0 0) (.slice none 0 0)).run Tryz.prog W = .ok (.bool true) W := fun W => by kernel_rfl
            go_wp2
            go_ret
            exact ⟨rfl, (unhide HB12).alloc (unhide HB12).size _⟩
        | succ gm =>
          have hlt : decide ((k : Int) < 100) = true := by simp; omega
          have hhb := ((unhide HBW2).block _ (lt_of_heap (unhide HHB))).trans (unhide HHB)
          obtain ⟨kh, -⟩ := blk hhb
          have zh := lt_of_heap hhb
          obtain ⟨bv, hbv⟩ : ∃ bv, h[k]? = some bv := ⟨_, List.getElem?_eq_getElem (by omega)⟩
          have kh1 : wr.cell? ⟨w5.heap.size, k, none⟩ = some (.bool bv) := by rw [kh]; simp [hbv]
          have hi1 : (0 : Int) ≤ (k : Int) := by omega
          have hi2 : (k : Int) < 100 := by omega
          have HCS := hide (wantN_succ h k)
          have HGD : Hid (h.getD k false = bv) := by
            show h.getD k false = bv
            rw [List.getD_eq_getElem?_getD, hbv]; rfl
          clear hhb kh hbv
          cases bv with
          | false =>
            go_wp2
            go_roundg gm
            case measure => simp
            case rel =>
              refine ⟨k + 1, vs', by omega, ?_, unhide HOW, ?_, unhide HBW2⟩
              · go_num
              · rw [unhide HCS, unhide HGD]
                simpa using unhide HRO
          | true =>
            go_wp2_with (at_builtin; refine wpList_append_lies _ rfl _ _ 42 rfl Wz.heap.size 32 i0 (.slice none 0 0) 1 24 Tryz.underlying42 (unhide HI) (unhide HZ0) (unhide HZ1) (unhide HZ2) rfl (by decide) _ _ _ rfl (((unhide HOW).alloc _).alloc _) ⟨wr.heap.size + 1, 0, none⟩ 1 1 [.slice (some ⟨wr.heap.size, 0, none⟩) 1 1] ?c0 rfl ?c1 ?c2 (by decide) ?c3 ?c4 ?c5 _ rfl ?_)
            case c0 => simp [Act.eval]
            case c1 => exact news1 (heap_last (by simp))
            case c2 => exact one1l _ _ _
            case c3 => unfold maxLen; omega
            case c4 => omega
            case c5 => simp; omega
            intro g cap'' w4' ho hg hat _
            have hown := ((unhide HOW).alloc (.cells #[.int .i64 (k : Nat)] 3)).alloc (.cells #[.slice (some ⟨wr.heap.size, 0, none⟩) 1 1] 32)
            have hb2 : Below wr.heap.size wr ((wr.alloc (.cells #[.int .i64 (k : Nat)] 3)).alloc (.cells #[.slice (some ⟨wr.heap.size, 0, none⟩) 1 1] 32)) := ((Below.refl _ _).alloc (Nat.le_refl _) _).alloc (by simp) _
            have hrow : ((wr.alloc (.cells #[.int .i64 (k : Nat)] 3)).alloc (.cells #[.slice (some ⟨wr.heap.size, 0, none⟩) 1 1] 32)).heap[wr.heap.size]? = some (.cells (intsV [(k : Int)]).toArray 3 (0, 0)) := heap_prev (heap_last rfl)
            have HO4 := hide ho
            have HRO4 := hide (((((unhide HRO).below hb2).snoc (r := [(k : Int)]) rfl hrow).grown hown hg))
            have HB4' : Hid (Below Wz.heap.size Wz w4') := ((unhide HBW2).trans (hb2.mono hz2)).grown hg (by simp; omega) (fun b e => (hown.lt b e).1)
            clear ho hg hat hown hb2 hrow
            go_wp2
            go_roundg gm
            case measure => simp
            case rel =>
              refine ⟨k + 1, vs' ++ [.slice (some ⟨wr.heap.size, 0, none⟩) 1 1], by omega, ?_, ?_, ?_, unhide HB4'⟩
              · go_num
              · rw [List.length_append]; exact unhide HO4
              · rw [unhide HCS, unhide HGD, if_pos rfl]; exact unhide HRO4
    | succ gm =>
      have hlt : decide ((k : Int) < (vs.length : Int)) = true := by simp; omega
      obtain ⟨r, hr⟩ : ∃ r, rows[k]? = some r := ⟨_, List.getElem?_eq_getElem (by rw [← unhide HVL]; omega)⟩
      obtain ⟨x, y, rfl, hx0, hx1, -, -⟩ := (unhide HSM) r (List.mem_of_getElem? hr)
      obtain ⟨v0, rfl⟩ : ∃ v0 : Nat, x = (v0 : Int) := ⟨x.toNat, by omega⟩
      obtain ⟨g, b, rfl, zg, zb, c0, c1, -⟩ := htb.at hr
      have hl1 := (unhide HHL) h _ (unhide HHAS)
      obtain ⟨kh, fh⟩ := blk hhb
      have zh := lt_of_heap hhb
      have hv20 : v0 < 100 := by omega
      obtain ⟨bv, hbv⟩ : ∃ bv, h[v0]? = some bv := ⟨_, List.getElem?_eq_getElem (by omega)⟩
      have kh1 : wr.cell? ⟨w5.heap.size, v0, none⟩ = some (.bool bv) := by rw [kh]; simp [hbv]
      have kf1 : wr.frozen? ⟨w5.heap.size, v0, none⟩ = false := fh v0
      have hi1 : (0 : Int) ≤ (k : Int) := by omega
      have hi2 : (k : Int) < (vs.length : Int) := by omega
      have hi3 : (0 : Int) ≤ (v0 : Int) := by omega
      have hi4 : (v0 : Int) < 100 := by omega
      have HR := hide hr
      clear htb hhb kh fh hr hx0 hx1
      go_wp2_with fail
      have HF1 : Hid (HasI (h.set v0 true) (fun u => Cn ((d + 1 : Nat) : Int) t (rows.take k) u ∨ (Ch ((d + 1 : Nat) : Int) t v0 u ∧ u ≤ v0))) := has_first (by omega) (unhide HHAS) hv20
      go_loopg [15] (t - v0) (fun f n W => ∃ v h', n = .int .i64 (v : Nat) ∧ f = t - v ∧ v < 100 ∧ Ch ((d + 1 : Nat) : Int) t v0 v ∧ HasI h' (fun u => Cn ((d + 1 : Nat) : Int) t (rows.take k) u ∨ (Ch ((d + 1 : Nat) : Int) t v0 u ∧ u ≤ v)) ∧ W.heap[w5.heap.size]? = some (.cells (h'.map Value.bool).toArray 81 (0, 0)) ∧ Below w5.heap.size w5 W ∧ W.heap.size = w5.heap.size + 1)
      case atStart => exact ⟨v0, h.set v0 true, rfl, rfl, hv20, .base, unhide HF1, by rw [heap_set (unhide HHB), set_marks], (unhide HBW).setCell (Nat.le_refl _) _, by simpa [World.setCell] using hsz⟩
      case round =>
        clear kh1 kf1 hbv
        obtain ⟨v, h', rfl, rfl, hv1, hch, hh', hhb', hbw', hsz'⟩ := hrel
        have HCH := hide hch
        have HH' := hide hh'
        have HHB' := hide hhb'
        have HBW' := hide hbw'
        by_cases hvt : v < t
        · have hlt2 : decide ((v : Int) < (t : Int)) = true := by simp; omega
          have hn1 : v + (d + 1) < 100 := by omega
          have hl2 := (unhide HHL) h' _ hh'
          obtain ⟨kh, fh⟩ := blk hhb'
          have zh' := lt_of_heap hhb'
          obtain ⟨bv', hbv'⟩ : ∃ bv, h'[v + (d + 1)]? = some bv := ⟨_, List.getElem?_eq_getElem (by omega)⟩
          have kh1 : wr.cell? ⟨w5.heap.size, v + (1 + d), none⟩ = some (.bool bv') := by rw [kh, show v + (1 + d) = v + (d + 1) by omega]; simp [hbv']
          have kf1 : wr.frozen? ⟨w5.heap.size, v + (1 + d), none⟩ = false := fh _
          have hj1 : (0 : Int) ≤ (v : Int) + (1 + (d : Int)) := by omega
          have hj2 : (v : Int) + (1 + (d : Int)) < 100 := by omega
          have hj3 : ((v : Int) + (1 + (d : Int))).toNat = v + (1 + d) := by omega
          clear hch hh' hhb' hbw' kh fh hbv'
          go_wp2
          go_roundg (t - (v + (d + 1)))
          case measure => omega
          case rel =>
            refine ⟨v + (d + 1), h'.set (v + (d + 1)) true, ?_, rfl, hn1, ?_, ?_, ?_, (unhide HBW').setCell (Nat.le_refl _) _, by simpa [World.setCell] using hsz'⟩
            · congr 1; omega
            · have := (unhide HCH).step (show (v : Int) < t by omega)
              rw [show ((v + (d + 1) : Nat) : Int) = (v : Int) + ((d + 1 : Nat) : Int) by omega]
              exact this
            · have := has_next (by omega) (unhide HCH) (show (v : Int) < t by omega) (unhide HH') (k := v + (d + 1)) hn1 (by omega)
              rw [show ((v + (d + 1) : Nat) : Int) = (v : Int) + ((d + 1 : Nat) : Int) by omega]
              exact this
            · rw [heap_set (unhide HHB'), set_marks, show v + (1 + d) = v + (d + 1) by omega]
        · have hlt2 : decide ((v : Int) < (t : Int)) = false := by simp; omega
          clear hch hh' hhb' hbw'
          go_wp2
          go_roundg gm
          case measure => omega
          case rel =>
            refine ⟨k + 1, h', by omega, ?_, ?_, unhide HHB', unhide HBW', hsz'⟩
            · go_num
            · rw [take_snoc (unhide HR)]
              exact has_last (by omega) (unhide HCH) (by omega) (unhide HH')
end Go.Proofs.YtfkeddkfegaeiaaGreatDoor
