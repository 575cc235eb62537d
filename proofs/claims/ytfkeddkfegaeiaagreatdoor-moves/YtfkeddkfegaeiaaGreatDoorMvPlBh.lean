/-
  Part 42.
-/
import Derived.Test.YtfkeddkfegaeiaaGreatDoorMvPlBe
namespace Go.Proofs.YtfkeddkfegaeiaaGreatDoor
open Go.RowKit
abbrev sl (k b : Nat) : Value := .slice (some ⟨b, 0, none⟩) k k
/-- rows of k numbers, each in a block of its own; so many are still to be made. -/
structure Mat (W : World) (lo g : Nat) (bs : List Nat) (k rest : Nat) (C : Nat → List Int) : Prop where
  out : W.heap[g]? = some (.cells (bs.map (sl k) ++ List.replicate rest (Value.slice none 0 0)).toArray 32 (0, 0))
  row : ∀ (i b : Nat), bs[i]? = some b → b ≠ g ∧ lo ≤ b ∧ (C i).length = k ∧ W.heap[b]? = some (.cells (intsV (C i)).toArray 3 (0, 0))
  one : ∀ (i j b : Nat), bs[i]? = some b → bs[j]? = some b → i = j
theorem Mat.below {W W' : World} {lo g : Nat} {bs : List Nat} {k rest : Nat} {C : Nat → List Int} (h : Mat W lo g bs k rest C) (hb : Below W.heap.size W W') : Mat W' lo g bs k rest C :=
  ⟨(hb.block g (lt_of_heap h.out)).trans h.out, fun i b e => by
    obtain ⟨h1, h2, h3, h4⟩ := h.row i b e
    exact ⟨h1, h2, h3, (hb.block b (lt_of_heap h4)).trans h4⟩, h.one⟩
theorem Mat.congr {W : World} {lo g : Nat} {bs : List Nat} {k rest : Nat} {C C' : Nat → List Int} (h : Mat W lo g bs k rest C) (e : ∀ i, i < bs.length → C' i = C i) : Mat W lo g bs k rest C' :=
  ⟨h.out, fun i b hb => by
    obtain ⟨h1, h2, h3, h4⟩ := h.row i b hb
    rw [e i (List.getElem?_eq_some_iff.1 hb).1]
    exact ⟨h1, h2, h3, h4⟩, h.one⟩
/-- a row that is made is put into its place. -/
theorem Mat.put {W W1 : World} {lo g : Nat} {bs : List Nat} {k rest : Nat} {C : Nat → List Int} (h : Mat W lo g bs k (rest + 1) C) (hb : Below W.heap.size W W1) {nb : Nat} (hlo : lo ≤ W.heap.size) (hnb : W.heap.size ≤ nb) {z : List Int} (hz : z.length = k) (hn : W1.heap[nb]? = some (.cells (intsV z).toArray 3 (0, 0))) :
    Mat (W1.setCell ⟨g, bs.length, none⟩ (sl k nb)) lo g (bs ++ [nb]) k rest (fun i => if i = bs.length then z else C i) := by
  have h1 := h.below hb
  have zg := lt_of_heap h.out
  refine ⟨?_, fun i b e => ?_, fun i j b e1 e2 => ?_⟩
  · rw [heap_set h1.out]
    congr 2
    simp only [List.replicate_succ, List.setIfInBounds_toArray]
    rw [List.set_append_right _ _ (by simp)]
    simp
  · rcases snoc_get e with ⟨hi, e⟩ | ⟨hi, rfl⟩
    · obtain ⟨h2, h3, h4, h5⟩ := h1.row i b e
      rw [if_neg (by omega)]
      exact ⟨h2, h3, h4, by rw [Below.heap_setCell _ _ _ _ (by show b ≠ g; omega)]; exact h5⟩
    · rw [if_pos hi]
      exact ⟨by omega, by omega, hz, by rw [Below.heap_setCell _ _ _ _ (by show b ≠ g; omega)]; exact hn⟩
  · rcases snoc_get e1 with ⟨hi, e1⟩ | ⟨hi, f1⟩ <;> rcases snoc_get e2 with ⟨hj, e2⟩ | ⟨hj, f2⟩
    · exact h.one i j b e1 e2
    · have := lt_of_heap (h.row i b e1).2.2.2; omega
    · have := lt_of_heap (h.row j b e2).2.2.2; omega
    · omega
/-- a number is put into a row. -/
theorem Mat.set {W : World} {lo g : Nat} {bs : List Nat} {k rest : Nat} {C : Nat → List Int} (h : Mat W lo g bs k rest C) {i b j : Nat} (hb : bs[i]? = some b) (x : Int) :
    Mat (W.setCell ⟨b, j, none⟩ (.int .i64 x)) lo g bs k rest (fun n => if n = i then (C i).set j x else C n) := by
  obtain ⟨h1, h2, h3, h4⟩ := h.row i b hb
  refine ⟨by rw [Below.heap_setCell _ _ _ _ (by show g ≠ b; exact fun e => h1 e.symm)]; exact h.out, fun n d e => ?_, h.one⟩
  by_cases hn : n = i
  · subst hn
    rw [hb] at e
    injection e with e
    subst e
    rw [if_pos rfl]
    refine ⟨h1, h2, by simpa using h3, ?_⟩
    rw [heap_set h4]
    congr 2
    simp
  · obtain ⟨k1, k2, k3, k4⟩ := h.row n d e
    rw [if_neg hn]
    refine ⟨k1, k2, k3, ?_⟩
    rw [Below.heap_setCell _ _ _ _ (by show d ≠ b; intro e'; subst e'; exact hn (h.one _ _ _ e hb))]
    exact k4
/-- what a row holds when j items are done. -/
def rowJ (fns : List (List (List Int) → List Int)) (ch : List (List Int)) (j i : Nat) : List Int := (fns.take j).map (fun f => (f ch).getD i 0) ++ List.replicate (fns.length - j) 0
theorem rowJ_len (fns : List (List (List Int) → List Int)) (ch : List (List Int)) {j : Nat} (hj : j ≤ fns.length) (i : Nat) : (rowJ fns ch j i).length = fns.length := by
  simp [rowJ]; omega
theorem rowJ_set (pre : List (List (List Int) → List Int)) (f : List (List Int) → List Int) (suf : List (List (List Int) → List Int)) (ch : List (List Int)) (i : Nat) : (rowJ (pre ++ f :: suf) ch pre.length i).set pre.length ((f ch).getD i 0) = rowJ (pre ++ f :: suf) ch (pre.length + 1) i := by
  unfold rowJ
  rw [List.take_left' rfl, List.set_append_right _ _ (by simp)]
  rw [show pre ++ f :: suf = (pre ++ [f]) ++ suf by simp, show pre.length + 1 = (pre ++ [f]).length by simp, List.take_left' rfl]
  simp only [List.length_map, Nat.sub_self, List.length_append, List.length_cons, List.length_nil, Nat.zero_add, List.map_append, List.map_cons, List.map_nil]
  rw [show pre.length + 1 + suf.length - pre.length = suf.length + 1 by omega, show pre.length + 1 + suf.length - (pre.length + 1) = suf.length by omega, List.replicate_succ]
  simp
/-- rows as a sort wants them. -/
theorem Mat.rows {W : World} {lo g : Nat} {bs : List Nat} {k : Nat} {C : Nat → List Int} (h : Mat W lo g bs k 0 C) (hk : k ≤ maxLen) (l : List (List Int)) (hl : l.length = bs.length) (he : ∀ i, i < bs.length → l[i]? = some (C i)) : RowsB W g 32 bs.length l := by
  refine ⟨_, h.out, by simp, by omega, fun i zs e => ?_⟩
  have hi : i < bs.length := by have := (List.getElem?_eq_some_iff.1 e).1; omega
  rw [he i hi] at e
  injection e with e
  subst e
  obtain ⟨b, hb⟩ : ∃ b, bs[i]? = some b := ⟨_, List.getElem?_eq_getElem hi⟩
  obtain ⟨h1, h2, h3, h4⟩ := h.row i b hb
  refine ⟨sl k b, ?_, some ⟨b, 0, none⟩, k, by rw [h3], by omega, fun _ => ⟨b, 0, rfl, h1, lt_of_heap h4, fun j hj => ?_⟩⟩
  · simp [hb]
  · rw [Nat.zero_add, (blk h4).1]; simp
theorem RowAt.set {W : World} {v : Value} {xs : List Value} (h : RowAt W v xs) {a : Addr} (ha : ∀ b o n c, v = .slice (some ⟨b, o, none⟩) n c → b ≠ a.block) (u : Value) : RowAt (W.setCell a u) v xs := by
  obtain ⟨ad, cap, rfl, hm, hc⟩ := h
  refine ⟨ad, cap, rfl, hm, fun hp => ?_⟩
  obtain ⟨b, o, rfl, hb, hj⟩ := hc hp
  refine ⟨b, o, rfl, by simpa [World.setCell] using hb, fun j h1 => ?_⟩
  rw [← hj j h1]
  simp only [World.cell?, Below.heap_setCell _ _ _ _ (ha b o _ _ rfl)]
/-- what rows leaves. -/
def RwDone (a : Nat → Addr) (w : World) (N : Nat) (l : List (List Int)) (e : Ending) (w' : World) : Prop := Below w.heap.size w w' ∧ if 4000 < N then e = .returned (.tuple #[.slice none 0 0, errV a eMany]) else ∃ g, e = .returned (.tuple #[.slice (some ⟨g, 0, none⟩) l.length l.length, .nilIface]) ∧ w.heap.size ≤ g ∧ RowsB w' g 32 l.length l
set_option maxRecDepth 100000 in
set_option maxHeartbeats 4000000 in
theorem srows_any (w0 : World) (G : Fx) (c : Fc) (ss : List Sr) (wd : Nat) (fns : List (List (List Int) → List Int)) (tns : List (List Int → Bool)) (h : SelM w0 G c ss wd fns tns) (hs0 : 0 < ss.length) (hf6 : fns.length ≤ 6) (w : World) (hw : Fits w0 G w) (B : Nat) (hE : EnvX c.a B w) (T : List Tb) (tc : Nat) (hT : TabsAt w (.slice (some ⟨c.tb, c.tof, none⟩) T.length tc) T) (ho : TabsOk c T ss wd) (N : Nat) (hN : N = mulN (rowsOf T ss)) (ch : List (List Int)) (hch : ch = chosenN T ss tns N) :
    Calls Tryz.prog 126 #[.pointer (some ⟨c.fb, 2, none⟩)] w fun e w' => RwDone c.a w N (turned ch.length (fns.map fun f => f ch)) e w' := by
  obtain ⟨i0, hi, hinf⟩ := Option.map_eq_some_iff.1 infoRow
  simp only [Prod.mk.injEq] at hinf
  obtain ⟨hz0, hz1, hz2⟩ := hinf
  have HI := hide hi
  have HZ0 := hide hz0
  have HZ1 := hide hz1
  have HZ2 := hide hz2
  clear hi hz0 hz1 hz2
  obtain ⟨i1, hi, hinf⟩ := Option.map_eq_some_iff.1 infoInt
  simp only [Prod.mk.injEq] at hinf
  obtain ⟨hz0, hz1, hz2⟩ := hinf
  have HJ := hide hi
  have HJ0 := hide hz0
  have HJ1 := hide hz1
  have HJ2 := hide hz2
  clear hi hz0 hz1 hz2
  have hcl : ch.length ≤ N := by rw [hch]; exact chosenN_le _ _ _ _
  have HCW : Hid (0 < ch.length → ∀ r ∈ ch, r.length = wd) := fun hp r hr => by
    have hps := (mul_pos T ss 1 (by rw [hN] at hcl; show 0 < mulN (rowsOf T ss); omega)).2
    rw [hch] at hr
    obtain ⟨n, -, rfl⟩ := List.mem_map.1 (List.mem_filter.1 hr).1
    rw [togR_len T n ss (fun s hs => ho.shape _ (getD_mem (by rw [ho.len]; exact h.ok s hs))) hps, ← ho.wide]
  have HCH := hide (schosen_any w0 G c ss wd fns tns h hs0 w hw B hE T tc hT ho)
  rw [← hN, ← hch] at HCH
  obtain ⟨sv, iv, tv, ev, ivs, tvs, hbx, -, ⟨hrow, hil, his⟩, -⟩ := h.lies
  obtain ⟨adt, ct, rfl, mt, htc⟩ := hrow.row rfl hw
  rw [hil] at mt htc
  have HTC := hide htc
  have HIS := hide his
  have HIL := hide hil
  have hb := hw.new _ _ hbx
  have zb := lt_of_heap hb
  obtain ⟨kb, -⟩ := blk hb
  have k4 : w.cell? ⟨c.fb, 4, none⟩ = some (.slice adt fns.length ct) := (kb 4).trans (by rw [← hil]; rfl)
  have HW := hide hw
  clear h hw hE hT ho hN hch hrow htc his hil kb hb hbx
  go_enter Tryz.func126, Tryz.ntmps126
  go_wp2_with fail
  refine (unhide HCH).mono ?_
  rintro e w1 ⟨hb1, hres⟩
  have HB1 := hide hb1
  clear HCH
  by_cases h4 : 4000 < N
  · rw [if_pos h4] at hres
    subst hres
    clear hb1
    go_wp2
    go_ret2
    exact ⟨unhide HB1, by rw [if_pos h4]; rfl⟩
  · rw [if_neg h4] at hres
    obtain ⟨v, rfl, hrows⟩ := hres
    have HRO := hide hrows
    obtain ⟨vs, ⟨adv, capv, rfl, mv, -⟩, lv, -⟩ := hrows
    rw [lv] at HRO ⊢
    clear hb1 mv lv
    go_wp2_with (at_make; refine wpList_make_full _ rfl _ _ 42 rfl w1.heap.size 32 i0 (.slice none 0 0) 1 Tryz.underlying42 (unhide HI) (unhide HZ0) (unhide HZ1) .i64 .i64 _ _ ch.length rfl rfl ?c1 ?c2 ?c3 ?c4 ?c5 ?_)
    case c1 => simp
    case c2 => simp
    case c3 => rw [unhide HZ2]; omega
    case c4 => unfold maxLen; omega
    case c5 => exact Nat.le_refl _
    intro w2 ho2 hg2
    rcases ho2.2 with ⟨hv, _⟩ | ⟨g1, cap, cur, hv, hge, hh, c1, c2, c3, c4⟩
    · cases hv
    injection hv with hv1 hv2 hv3
    injection hv1 with hv1
    injection hv1 with hv1
    subst hv1
    have hcu : cur.toList = List.replicate ch.length (Value.slice none 0 0) := by
      have hcl2 : cur.toList.length = ch.length := by rw [Array.length_toList, c3]; omega
      rw [Nat.mul_one, List.take_of_length_le (by omega)] at c4
      rw [c4]
      simp only [madeCells]
      apply List.ext_getElem
      · simp
      · intro i h1 h2
        simp [Nat.mod_one]
    have HM2 : Hid (Mat w2 w1.heap.size w1.heap.size [] fns.length ch.length (rowJ fns ch 0)) := by
      refine ⟨?_, fun i b e => by simp at e, fun i j b e => by simp at e⟩
      rw [List.map_nil, List.nil_append, ← hcu, Array.toArray_toList]
      exact hh
    have HB2 : Hid (Below w1.heap.size w1 w2) := (Below.refl _ _).grown hg2 (Nat.le_refl _) (fun k e => by cases e)
    have k41 := ((unhide HB1).cell (p := ⟨c.fb, 4, none⟩) zb).trans k4
    have zb1 : c.fb < w1.heap.size := Nat.lt_of_lt_of_le zb (unhide HB1).size
    have HRES : Hid (∀ W, Below w1.heap.size w1 W → Below w.heap.size w W) := fun W hW => (unhide HB1).trans (hW.mono (unhide HB1).size)
    clear ho2 hg2 hh c1 c2 c3 c4 hv2 hv3 hge hcu k4 zb
    go_wp2_with fail
    go_loopg [7, 25] ch.length (fun f _ i W => ∃ bs, bs.length + f = ch.length ∧ i = .int .i64 (bs.length : Nat) ∧ Mat W w1.heap.size w1.heap.size bs fns.length f (rowJ fns ch 0) ∧ Below w1.heap.size w1 W)
    case atStart => exact ⟨[], by simp, rfl, unhide HM2, unhide HB2⟩
    case round =>
      obtain ⟨bs, hbl, rfl, hmat, hbw⟩ := hrel
      have HMA := hide hmat
      have HBW := hide hbw
      have k4r := (hbw.cell (p := ⟨c.fb, 4, none⟩) zb1).trans k41
      have zbr : c.fb < wr.heap.size := Nat.lt_of_lt_of_le zb1 hbw.size
      have zwr := hbw.size
      clear hmat hbw
      cases gk with
      | zero =>
        have hlt : decide ((bs.length : Int) < (ch.length : Int)) = false := by simp; omega
        have hlt2 : decide (bs.length < ch.length) = false := by simp; omega
        go_wp2_with fail
        clear hlt hlt2 k4r
        go_loopg [8, 9, 10, 11, 43] fns.length (fun f _ _ _ _ j W => ∃ pre suf, fns = pre ++ suf ∧ f = suf.length ∧ j = .int .i64 (pre.length : Nat) ∧ Mat W w1.heap.size w1.heap.size bs fns.length 0 (rowJ fns ch pre.length) ∧ Below w1.heap.size w1 W)
        case atStart => exact ⟨[], fns, rfl, rfl, rfl, unhide HMA, unhide HBW⟩
        case round =>
          obtain ⟨pre, suf, h1, rfl, rfl, hmb, hbb⟩ := hrel
          have l1 : pre.length + suf.length = fns.length := by rw [h1, List.length_append]
          have HZ := hide h1
          have HMB := hide hmb
          have HBB := hide hbb
          have zwb := hbb.size
          clear h1 hmb hbb
          cases suf with
          | nil =>
            have hlt : decide ((pre.length : Int) < (fns.length : Int)) = false := by simp at l1 ⊢; omega
            obtain rfl : pre = fns := by rw [unhide HZ, List.append_nil]
            go_wp2
            go_ret2
            refine ⟨(unhide HRES) _ (unhide HBB), ?_⟩
            rw [if_neg h4]
            have hll : (turned ch.length (pre.map fun f => f ch)).length = ch.length := by simp [turned]
            refine ⟨w1.heap.size, by rw [hll]; rfl, (unhide HB1).size, ?_⟩
            rw [hll, show ch.length = bs.length by omega]
            refine (unhide HMB).rows (by unfold maxLen; omega) _ (by simp [turned]) (fun i hi => ?_)
            simp [turned, rowJ, hi]
          | cons f suf =>
            rw [List.length_cons] at l1
            have hlt : decide ((pre.length : Int) < (fns.length : Int)) = true := by simp; omega
            have HZ2 : Hid (fns = (pre ++ [f]) ++ suf) := by unfold Hid; rw [unhide HZ]; simp
            obtain ⟨b1, o1, rfl, z1, c1⟩ := (unhide HTC) (by omega)
            obtain ⟨u, hu⟩ : ∃ u, ivs[pre.length]? = some u := ⟨ivs[pre.length]'(by rw [unhide HIL]; omega), List.getElem?_eq_getElem _⟩
            obtain ⟨g, fa, cb, rfl, hg⟩ := (unhide HIS) pre.length u f hu (by rw [unhide HZ]; simp)
            have hbw := (unhide HRES) _ (unhide HBB)
            have k1 : wr.cell? ⟨b1, o1 + pre.length, none⟩ = some (.func (.func g) fa cb) := by
              rw [hbw.cell (p := ⟨b1, o1 + pre.length, none⟩) z1, c1 _ (by omega), hu]
            have eg := hg.1
            have HC := hide (hg.2 wr _ ch ((unhide HW).below hbw) (fun r hr => (unhide HCW) (List.length_pos_of_mem hr) r hr) (by omega) ((unhide HRO).keep (unhide HBB)))
            clear hbw hg c1 hu
            go_wp2_with fail
            refine (unhide HC).mono ?_
            rintro e w3 ⟨u, rfl, hru, hnu, hlu, hb3⟩
            have HRU := hide hru
            have HNU := hide hnu
            have HLU := hide hlu
            have HM3 := hide ((unhide HMB).below hb3)
            have HB3 : Hid (Below w1.heap.size w1 w3) := (unhide HBB).trans (hb3.mono zwb)
            have HFR : Hid (∀ b ∈ bs, b < wr.heap.size) := fun b hb => by
              obtain ⟨i, hi⟩ := List.getElem?_of_mem hb
              exact lt_of_heap ((unhide HMB).row i b hi).2.2.2
            obtain ⟨adu, capu, rfl, mu, hcu⟩ := hru
            rw [List.length_map, hlu] at mu HRU HNU hcu ⊢
            have HCU := hide hcu
            clear hnu hlu hb3 hcu HC k1 eg
            go_wp2_with fail
            go_loopg [10, 11, 52] ch.length (fun q _ _ i W => ∃ k, k + q = ch.length ∧ i = .int .i64 (k : Nat) ∧ Mat W w1.heap.size w1.heap.size bs fns.length 0 (fun n => if n < k then rowJ fns ch (pre.length + 1) n else rowJ fns ch pre.length n) ∧ Below w1.heap.size w1 W ∧ RowAt W (.slice adu ch.length capu) (intsV (f ch)))
            case atStart => exact ⟨0, by omega, rfl, (unhide HM3).congr (fun i _ => by rw [if_neg (by omega)]), unhide HB3, unhide HRU⟩
            case round =>
              obtain ⟨k, hkq, rfl, hmk, hbk, hrk⟩ := hrel
              have HMK := hide hmk
              have HBK := hide hbk
              have HRK := hide hrk
              cases gk with
              | zero =>
                have hlt : decide ((k : Int) < (ch.length : Int)) = false := by simp; omega
                clear hmk hbk hrk
                go_wp2
                go_roundg suf.length
                case measure => simp
                case rel =>
                  refine ⟨pre ++ [f], suf, unhide HZ2, rfl, ?_, ?_, unhide HBK⟩
                  · rw [List.length_append]; go_num
                  · rw [List.length_append]
                    exact (unhide HMK).congr (fun i hi => by rw [if_pos (by omega)]; rfl)
              | succ gm =>
                have hlt : decide ((k : Int) < (ch.length : Int)) = true := by simp; omega
                have hlt2 : decide (k < ch.length) = true := by simp; omega
                obtain ⟨bk, hbk2⟩ : ∃ b, bs[k]? = some b := ⟨_, List.getElem?_eq_getElem (by omega)⟩
                obtain ⟨ne1, lo1, ln1, hrowk⟩ := hmk.row k bk hbk2
                rw [if_neg (by omega)] at ln1 hrowk
                obtain ⟨kg, -⟩ := blk hmk.out
                have kg1 : wr.cell? ⟨w1.heap.size, k, none⟩ = some (.slice (some ⟨bk, 0, none⟩) fns.length fns.length) := by
                  rw [kg, List.replicate_zero, List.append_nil, List.getElem?_toArray, List.getElem?_map, hbk2]; rfl
                obtain ⟨kr, fr⟩ := blk hrowk
                have hpl : pre.length < (rowJ fns ch pre.length k).length := by omega
                obtain ⟨ov, hov⟩ : ∃ ov : Int, (rowJ fns ch pre.length k)[pre.length]? = some ov := ⟨_, List.getElem?_eq_getElem hpl⟩
                have kr1 : wr.cell? ⟨bk, pre.length, none⟩ = some (.int .i64 ov) := by rw [kr]; simp [hov]
                have zg1 := lt_of_heap hmk.out
                have zr1 := lt_of_heap hrowk
                obtain ⟨ad9, cap9, e9, -, hc9⟩ := hrk
                injection e9 with e9 e9b e9c
                clear e9b e9c
                subst e9
                rw [List.length_map, unhide HLU] at hc9
                obtain ⟨bu, ou, rfl, zu, cu⟩ := hc9 (by omega)
                obtain ⟨xv, hxv⟩ : ∃ xv : Int, (f ch)[k]? = some xv := ⟨_, List.getElem?_eq_getElem (by rw [unhide HLU]; omega)⟩
                have ku : wr.cell? ⟨bu, ou + k, none⟩ = some (.int .i64 xv) := by rw [cu k (by omega)]; simp [hxv]
                have hne : bu ≠ bk := by
                  have h5 := (unhide HNU) bu ou _ _ rfl
                  have h6 := (unhide HFR) bk (List.mem_of_getElem? hbk2)
                  omega
                have HXV : Hid (xv = (f ch).getD k 0) := by unfold Hid; rw [List.getD_eq_getElem?_getD, hxv]; rfl
                have hi1 : (0 : Int) ≤ (k : Int) := by omega
                have hi2 : (k : Int) < (ch.length : Int) := by omega
                have hj1 : (0 : Int) ≤ (pre.length : Int) := by omega
                have hj2 : (pre.length : Int) < (fns.length : Int) := by omega
                have HBK2 := hide hbk2
                have HLO := hide lo1
                clear hmk hbk kg kr hc9 cu hov hxv hrowk ln1 hpl hbk2 lo1
                go_wp2
                go_roundg gm
                case measure => simp
                case rel =>
                  refine ⟨k + 1, by omega, ?_, ?_, (unhide HBK).setCell (unhide HLO) _, (unhide HRK).set (fun b o n c e => ?_) _⟩
                  · go_num
                  · refine ((unhide HMK).set (j := pre.length) (unhide HBK2) xv).congr (fun i hi => ?_)
                    by_cases e : i = k
                    · subst e
                      rw [if_pos (by omega), if_pos rfl, if_neg (by omega), unhide HXV, unhide HZ, rowJ_set]
                    · rw [if_neg e]
                      by_cases e2 : i < k
                      · rw [if_pos (by omega), if_pos e2]
                      · rw [if_neg (by omega), if_neg e2]
                  · injection e with e _ _
                    injection e with e
                    injection e with e
                    subst e
                    exact hne
      | succ gm =>
        have hlt : decide ((bs.length : Int) < (ch.length : Int)) = true := by simp; omega
        go_wp2_with (at_make; refine wpList_make_full _ rfl _ _ 32 rfl wr.heap.size 3 i1 (.int .i64 0) 1 Tryz.underlying32 (unhide HJ) (unhide HJ0) (unhide HJ1) .i64 .i64 _ _ fns.length rfl rfl ?c1 ?c2 ?c3 ?c4 ?c5 ?_)
        case c1 => simp
        case c2 => simp
        case c3 => rw [unhide HJ2]; omega
        case c4 => unfold maxLen; omega
        case c5 => exact Nat.le_refl _
        intro w3 ho3 hg3
        rcases ho3.2 with ⟨hv, _⟩ | ⟨g1, cap, cur, hv, hge, hh, c1, c2, c3, c4⟩
        · cases hv
        injection hv with hv1 hv2 hv3
        injection hv1 with hv1
        injection hv1 with hv1
        subst hv1
        have hcu : cur.toList = intsV (rowJ fns ch 0 bs.length) := by
          have hcl2 : cur.toList.length = fns.length := by rw [Array.length_toList, c3]; omega
          rw [Nat.mul_one, List.take_of_length_le (by omega)] at c4
          rw [c4]
          simp only [madeCells]
          apply List.ext_getElem
          · simp [rowJ]
          · intro i h1 h2
            simp [rowJ, Nat.mod_one]
        have HH3 : Hid (w3.heap[wr.heap.size]? = some (.cells (intsV (rowJ fns ch 0 bs.length)).toArray 3 (0, 0))) := by
          unfold Hid
          rw [← hcu, Array.toArray_toList]
          exact hh
        have HB3 : Hid (Below wr.heap.size wr w3) := (Below.refl _ _).grown hg3 (Nat.le_refl _) (fun k e => by cases e)
        have hm3 := (unhide HMA).below (unhide HB3)
        obtain ⟨kg, fg⟩ := blk hm3.out
        have kg3 : w3.cell? ⟨w1.heap.size, bs.length, none⟩ = some (.slice none 0 0) := by
          rw [kg, List.getElem?_toArray, List.getElem?_append_right (by simp)]
          simp
        have zg3 := lt_of_heap hm3.out
        clear ho3 hg3 hh c1 c2 c3 c4 hv2 hv3 hge hcu kg hm3
        have hi1 : (0 : Int) ≤ (bs.length : Int) := by omega
        have hi2 : (bs.length : Int) < (ch.length : Int) := by omega
        go_wp2
        go_roundg gm
        case measure => simp
        case rel =>
          refine ⟨bs ++ [wr.heap.size], by simp; omega, ?_, ?_, ?_⟩
          · rw [List.length_append]; go_num
          · exact ((unhide HMA).put (unhide HB3) zwr (Nat.le_refl _) (rowJ_len fns ch (Nat.zero_le _) _) (unhide HH3)).congr (fun i _ => by split <;> simp [rowJ])
          · exact ((unhide HBW).trans ((unhide HB3).mono zwr)).setCell (Nat.le_refl _) _
end Go.Proofs.YtfkeddkfegaeiaaGreatDoor
namespace Go.Proofs.YtfkeddkfegaeiaaGreatDoor
open Go.RowKit
/-- an error at a place. -/
def AtErr (a : Nat → Addr) (w : World) (p k : Nat) (ev : Value) (w' : World) : Prop := ∃ b, ev = .iface 110 (.pointer (some ⟨b, 0, none⟩)) ∧ w.heap.size ≤ b ∧ w'.heap[b]? = some (.cells #[.int .i64 (p : Nat), errV a k] 113 (0, 0))
/-- what meaning leaves. -/
def MeanDone (a : Nat → Addr) (w : World) (tb tof tc : Nat) (T : List Tb) (fs : Fs) (fns : List (List (List Int) → List Int)) (tns : List (List Int → Bool)) (er : Option (Nat × Nat)) (e : Ending) (w' : World) : Prop := Below w.heap.size w w' ∧
  (er = none → ∃ wb fb G, e = .returned (.tuple #[.pointer (some ⟨wb, 0, none⟩), .nilIface]) ∧ w'.heap[wb]? = some (.cells #[.pointer none, .pointer (some ⟨fb, 2, none⟩)] 288 (0, 0)) ∧ Fits w G w' ∧ SelM w G ⟨w, a, fb, tb, tof, tc, T, fun b => b == wb, false⟩ fs.ss fs.wd fns tns) ∧
  (∀ p k, er = some (p, k) → ∃ ev, e = .returned (.tuple #[.pointer none, ev]) ∧ AtErr a w p k ev w')
set_option maxRecDepth 100000 in
set_option maxHeartbeats 4000000 in
theorem meaning_plain (a : Nat → Addr) (w : World) (hE : EnvX a w.heap.size w) (q lo : Nat) (qp : Int) (b : Nat) (hq : w.heap[q]? = some (.cells #[.int .i64 qp, .pointer none, .pointer (some ⟨b, 0, none⟩)] 180 (0, 0)))
    (tb tof tc : Nat) (T : List Tb) (hT : TabsAt w (.slice (some ⟨tb, tof, none⟩) T.length tc) T) (hc6 : ∀ t ∈ T, t.cols.length ≤ 6)
    (pl : Int) (vi vs vt : Value) (srcs : List (Tk × Tk)) (hb : w.heap[b]? = some (.cells #[.int .i64 pl, vi, vs, vt] 256 (0, 0))) (hs : w.ownsRow lo 260 5 vs srcs.length (srCells srcs)) (hs0 : 0 < srcs.length) (hs3 : srcs.length ≤ 3)
    (es : List (ItemA × Value × Option Addr)) (hi : w.ownsRow lo 251 5 vi es.length (itCells es)) (hi0 : 0 < es.length) (hi6 : es.length ≤ 6) (eo : ItemA → List Sr → Option (Nat × Nat)) (fo : ItemA → List Sr → List (List Int) → List Int) (hspec : ∀ (c : Fc), c.w0 = w → c.T = T → c.iw = false → ∀ e ∈ es, ItemSpec c e.1.place e.2.1 (.pointer e.2.2) e.1.asP e.1.asT (eo e.1) (fo e.1)) (hone : ∀ e ∈ es, IsI e.2.1)
    (us : List (TestA × Value × Value)) (ht : w.ownsRow lo 263 4 vt us.length (tsCells us)) (hu9 : us.length ≤ 1000) (hex : ∀ u ∈ us, ∃ n, ExP w (fun _ => True) n u.2.1 u.1.l ∧ ExP w (fun _ => True) n u.2.2 u.1.r) :
    Calls Tryz.prog 81 #[.pointer (some ⟨q, 0, none⟩), .slice (some ⟨tb, tof, none⟩) T.length tc] w fun e w' => MeanDone a w tb tof tc T (foldS T srcs) (es.map fun e => fo e.1 (foldS T srcs).ss) (us.map fun u => tsHolds (colAt T (foldS T srcs).ss) u.1) (errT T (foldS T srcs) (errI eo (foldS T srcs) es) us) e w' := by
  obtain ⟨R, hR⟩ : ∃ R, R = errT T (foldS T srcs) (errI eo (foldS T srcs) es) us := ⟨_, rfl⟩
  rw [← hR]
  have HR := hide hR
  have HE := hide hE
  have HT := hide hT
  have HB := hide hb
  have HS := hide hs
  have HI := hide hi
  have HSP := hide hspec
  have HO := hide hone
  have HTS := hide ht
  have HX := hide hex
  have HC6 := hide hc6
  have zq := lt_of_heap hq
  obtain ⟨kq, -⟩ := blk hq
  have q1 : w.cell? ⟨q, 1, none⟩ = some (.pointer none) := kq 1
  have q2 : w.cell? ⟨q, 2, none⟩ = some (.pointer (some ⟨b, 0, none⟩)) := kq 2
  clear hR hE hT hb hs hi hspec hone ht hex hc6 hq kq
  have HFS : Hid (FS ⟨w, a, w.heap.size + 1, tb, tof, tc, T, fun k => k == w.heap.size, false⟩ (Fx.set (fun _ => none) w.heap.size (.cells #[.pointer none, .pointer none] 288 (0, 0))) ((w.alloc (.cells #[.pointer none, .pointer none] 288)).alloc (.cells #[.slice (some ⟨tb, tof, none⟩) T.length tc, .bool false, .slice none 0 0, .int .i64 0, .slice none 0 0, .slice none 0 0, .nilIface] 299)) (.slice none 0 0) (.slice none 0 0) (.slice none 0 0) .nilIface 0 [] none) := by
    have hbl : Below w.heap.size w ((w.alloc (.cells #[.pointer none, .pointer none] 288)).alloc (.cells #[.slice (some ⟨tb, tof, none⟩) T.length tc, .bool false, .slice none 0 0, .int .i64 0, .slice none 0 0, .slice none 0 0, .nilIface] 299)) := ((Below.refl _ _).alloc (Nat.le_refl _) _).alloc (by simp) _
    refine ⟨(unhide HE).keep hbl, hbl, ⟨fun k o e => ?_, ?_, by simp, fun v hv k e => ?_, ?_⟩, heap_last (by simp), rfl, fun W' hW' => (unhide HT).keep hW'.old, World.ownsRow_nil _ _ _ _, by simp, fun s hs => by simp at hs, ⟨by simp, fun s hs => by simp at hs, unhide HC6⟩, fun k e => ?_, by simp⟩
    · by_cases hk : k = w.heap.size
      · subst hk
        rw [Fx.set_same] at e
        injection e with e
        subst e
        exact ⟨Nat.le_refl _, heap_prev (heap_last rfl)⟩
      · rw [Fx.set_other _ _ hk] at e
        cases e
    · exact Fx.set_other _ _ (by simp)
    · simp only [List.mem_cons, List.mem_nil_iff, or_false, or_self] at hv
      subst hv
      simp [Value.ownBlock] at e
    · refine .cons (fun v hv => ?_) (.cons (fun v hv => ?_) (.cons (fun v hv => by cases hv) .nil)) <;> exact Dis.nilL _ _ _
    · have : k = w.heap.size := by simpa using e
      subst this
      simp
      omega
  go_enter Tryz.func81, Tryz.ntmps81
  go_wp2_with fail
  refine (fselection_any _ _ _ b lo pl vi vs vt srcs (unhide HFS) (unhide HB) (unhide HS) hs0 hs3 es (unhide HI) hi0 hi6 eo fo ((unhide HSP) _ rfl rfl rfl) (unhide HO) us (unhide HTS) hu9 (unhide HX)).mono ?_
  intro e w2 hdone
  obtain ⟨F', sv, iv, tv, ev, ivs, tvs, hle, hft, he⟩ := hdone
  simp only at hft he
  rw [← unhide HR] at hft he
  clear HFS HB HS HI HSP HO HTS HX HC6 HT HE HR
  have hlow : w.heap.size < w2.heap.size := by have := hft.st.grow.ltp; simp at this; omega
  have hxw : w2.heap[w.heap.size]? = some (.cells #[.pointer none, .pointer none] 288 (0, 0)) := (hft.st.grow.fits _ _ (hle _ _ (Fx.set_same _ _ _))).2
  have hold := hft.st.old
  simp only at hold
  cases R with
  | none =>
    obtain rfl : ev = .nilIface := hft.st.err
    simp only [Option.isNone_none, if_true] at he
    subst he
    have hl1 : ivs.length = es.length := by have := (hft.its rfl).1; simpa using this
    have hl2 : tvs.length = us.length := by have := (hft.tst rfl).1; simpa using this
    obtain ⟨F2, hle2, hF2, hsel⟩ := hft.seal (fun k hk => by
      have : k = w.heap.size := by simpa using hk
      subst this
      exact ⟨_, hle _ _ (Fx.set_same _ _ _)⟩) (by unfold maxLen; omega) (by unfold maxLen; omega)
    have HF2 := hide hF2
    have HSEL := hide hsel
    have HXW := hide hxw
    have HOLD := hide hold
    obtain ⟨kx, fx⟩ := blk hxw
    have kx1 : w2.cell? ⟨w.heap.size, 1, none⟩ = some (.pointer none) := kx 1
    clear hft hle hle2 hF2 hsel hxw hold kx hl1 hl2
    go_wp2
    go_ret2
    refine ⟨(unhide HOLD).setCell (Nat.le_refl _) _, fun _ => ⟨w.heap.size, w.heap.size + 1, _, rfl, ?_, ⟨(unhide HOLD).setCell (Nat.le_refl _) _, fun k o e => ?_⟩, unhide HSEL⟩, fun p k e => by cases e⟩
    · rw [heap_set (unhide HXW)]
      rfl
    · unfold Fx.off at e
      split at e
      · cases e
      · rename_i hk
        rw [Below.heap_setCell _ _ _ _ (by show k ≠ w.heap.size; intro e'; subst e'; simp at hk)]
        exact ((unhide HF2) k o e).2
  | some pk =>
    obtain ⟨p, k⟩ := pk
    obtain ⟨b9, rfl, hb9⟩ := hft.st.err
    simp only [Option.isNone_some, Bool.false_eq_true, if_false] at he
    subst he
    have HB9 := hide (hft.st.grow.fits _ _ hb9)
    have HOLD := hide hold
    clear hft hle hxw hold hb9
    go_wp2
    go_ret2
    refine ⟨unhide HOLD, (fun e => by cases e), fun p' k' e => ?_⟩
    cases e
    exact ⟨_, rfl, b9, rfl, (unhide HB9).1, (unhide HB9).2⟩
end Go.Proofs.YtfkeddkfegaeiaaGreatDoor
