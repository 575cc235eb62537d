/-
  Part 38.
-/
import Derived.Test.YtfkeddkfegaeiaaGreatDoorRcPlBe
import Derived.Test.YtfkeddkfegaeiaaGreatDoorRcNwO
import Derived.Deep.AppendLies
namespace Go.Proofs.YtfkeddkfegaeiaaGreatDoor
open Go.RowKit
/-- rows of numbers, each in a block of its own. -/
def RowsN (W : World) (wd : Nat) (vs : List Value) (l : List (List Int)) : Prop := vs.length = l.length ∧ ∀ (i : Nat) u r, vs[i]? = some u → l[i]? = some r → ∃ b, u = .slice (some ⟨b, 0, none⟩) wd wd ∧ r.length = wd ∧ W.heap[b]? = some (.cells (intsV r).toArray 3 (0, 0))
theorem RowsN.below {W W' : World} {wd : Nat} {vs : List Value} {l : List (List Int)} (h : RowsN W wd vs l) (hb : Below W.heap.size W W') : RowsN W' wd vs l := ⟨h.1, fun i u r hu hr => by
  obtain ⟨b, h1, h2, h3⟩ := h.2 i u r hu hr
  exact ⟨b, h1, h2, (hb.block b (lt_of_heap h3)).trans h3⟩⟩
/-- another block grew. -/
theorem RowsN.grown {W W' : World} {wd lo : Nat} {v : Value} {n : Nat} {xs vs : List Value} {l : List (List Int)} (h : RowsN W wd vs l) (ho : W.ownsRow lo 32 1 v n xs) (hg : W.grownBy W' v.ownBlock) : RowsN W' wd vs l := ⟨h.1, fun i u r hu hr => by
  obtain ⟨b, h1, h2, h3⟩ := h.2 i u r hu hr
  refine ⟨b, h1, h2, (hg.block b (lt_of_heap h3) (fun e => ?_)).trans h3⟩
  rcases ho.2 with ⟨hv, _⟩ | ⟨g, cap, cur, hv, hge, hh, _⟩
  · rw [hv] at e; cases e
  · rw [hv] at e
    injection e with e
    subst e
    rw [h3] at hh
    injection hh with hh
    injection hh with _ e2 _
    exact absurd e2 (by decide)⟩
theorem RowsN.snoc {W : World} {wd : Nat} {vs : List Value} {l : List (List Int)} (h : RowsN W wd vs l) {b : Nat} {r : List Int} (hr : r.length = wd) (hb : W.heap[b]? = some (.cells (intsV r).toArray 3 (0, 0))) : RowsN W wd (vs ++ [.slice (some ⟨b, 0, none⟩) wd wd]) (l ++ [r]) := by
  refine ⟨by simp [h.1], fun i u q hu hq => ?_⟩
  by_cases hi : i < vs.length
  · rw [List.getElem?_append_left hi] at hu
    rw [List.getElem?_append_left (by rw [← h.1]; exact hi)] at hq
    exact h.2 i u q hu hq
  · rw [List.getElem?_append_right (by omega)] at hu
    rw [List.getElem?_append_right (by rw [← h.1]; omega), ← h.1] at hq
    have h0 : i - vs.length = 0 := by
      have := (List.getElem?_eq_some_iff.1 hu).1
      simp at this; omega
    rw [h0] at hu hq
    simp at hu hq
    subst hu hq
    exact ⟨b, rfl, hr, hb⟩
theorem RowsN.rows {W : World} {wd lo : Nat} {v : Value} {vs : List Value} {l : List (List Int)} (h : RowsN W wd vs l) (hwd : wd ≤ maxLen) (ho : W.ownsRow lo 32 1 v vs.length vs) (hm : vs.length ≤ maxLen) : RowsAt W v l := by
  refine ⟨vs, ?_, h.1, fun k r u hr hu => ?_⟩
  · rcases ho.2 with ⟨hv, h0⟩ | ⟨g, cap, cur, hv, hge, hh, c1, c2, c3, c4⟩
    · exact ⟨none, 0, by rw [hv, h0], hm, fun hp => by omega⟩
    · refine ⟨_, cap, hv, hm, fun hp => ⟨g, 0, rfl, lt_of_heap hh, fun j hj => ?_⟩⟩
      rw [Nat.zero_add, (blk hh).1]
      rw [Nat.mul_one] at c4
      have : cur.toList[j]? = vs[j]? := by
        rw [← c4, List.getElem?_take_of_lt hj]
      rw [← this]; simp
  · obtain ⟨b, rfl, h2, h3⟩ := h.2 k u r hu hr
    have := row_full h3 (by simp only [List.length_map]; omega) wd
    rw [List.length_map, h2] at this
    exact this
/-- the rows chosen among the first n. -/
def chosenN (T : List Tb) (ss : List Sr) (ts : List (List Int → Bool)) (n : Nat) : List (List Int) := ((List.range n).map (togR (rowsOf T ss))).filter fun r => ts.all fun t => t r
theorem chosenN_succ (T : List Tb) (ss : List Sr) (ts : List (List Int → Bool)) (n : Nat) : chosenN T ss ts (n + 1) = chosenN T ss ts n ++ (if (ts.all fun t => t (togR (rowsOf T ss) n)) = true then [togR (rowsOf T ss) n] else []) := by
  unfold chosenN
  rw [List.range_succ, List.map_append, List.filter_append, List.map_singleton]
  congr 1
  rw [List.filter_cons, List.filter_nil]
theorem chosenN_le (T : List Tb) (ss : List Sr) (ts : List (List Int → Bool)) (n : Nat) : (chosenN T ss ts n).length ≤ n := by
  unfold chosenN
  exact Nat.le_trans (List.length_filter_le _ _) (by simp)
theorem togR_len (T : List Tb) (n : Nat) : ∀ (ss : List Sr), (∀ s ∈ ss, ∀ r ∈ (T.getD s.tab tb0).rows, r.length = (colsOf T s).length) → (∀ s ∈ ss, 0 < (T.getD s.tab tb0).rows.length) → (togR (rowsOf T ss) n).length = wdS T ss
  | [], _, _ => rfl
  | s :: ss, hr, hp => by
    have h1 := togR_len T n ss (fun x hx => hr x (List.mem_cons_of_mem _ hx)) (fun x hx => hp x (List.mem_cons_of_mem _ hx))
    have h2 := row_len (n := n / madeN (rowsOf T ss)) (hr s List.mem_cons_self) (hp s List.mem_cons_self)
    rw [List.length_map] at h2
    show ((T.getD s.tab tb0).rows.getD (n / madeN (rowsOf T ss) % (T.getD s.tab tb0).rows.length) [] ++ togR (rowsOf T ss) n).length = _
    rw [List.length_append, h1, h2]
    simp [wdS]
theorem mul_pos (T : List Tb) : ∀ (ss : List Sr) (a : Nat), 0 < ((rowsOf T ss).map List.length).foldl (· * ·) a → 0 < a ∧ ∀ s ∈ ss, 0 < (T.getD s.tab tb0).rows.length
  | [], a, h => ⟨h, fun s hs => by cases hs⟩
  | s :: ss, a, h => by
    have := mul_pos T ss (a * (T.getD s.tab tb0).rows.length) h
    refine ⟨Nat.pos_of_mul_pos_right this.1, fun x hx => ?_⟩
    rcases List.mem_cons.1 hx with rfl | hx
    · exact Nat.pos_of_mul_pos_left this.1
    · exact this.2 x hx
/-- what chosen leaves. -/
def ChDone (a : Nat → Addr) (w : World) (N : Nat) (l : List (List Int)) (e : Ending) (w' : World) : Prop := Below w.heap.size w w' ∧ if 4000 < N then e = .returned (.tuple #[.slice none 0 0, errV a eMany]) else ∃ v, e = .returned (.tuple #[v, .nilIface]) ∧ RowsAt w' v l
set_option maxRecDepth 100000 in
set_option maxHeartbeats 4000000 in
theorem schosen_any (w0 : World) (G : Fx) (c : Fc) (ss : List Sr) (wd : Nat) (fns : List (List (List Int) → List Int)) (tns : List (List Int → Bool)) (h : SelM w0 G c ss wd fns tns) (hs0 : 0 < ss.length) (w : World) (hw : Fits w0 G w) (B : Nat) (hE : EnvX c.a B w) (T : List Tb) (tc : Nat) (hT : TabsAt w (.slice (some ⟨c.tb, c.tof, none⟩) T.length tc) T) (ho : TabsOk c T ss wd) :
    Calls Tryz.prog 201 #[.pointer (some ⟨c.fb, 2, none⟩)] w fun e w' => ChDone c.a w (mulN (rowsOf T ss)) (chosenN T ss tns (mulN (rowsOf T ss))) e w' := by
  have HH := hide h
  have HW := hide hw
  have HE := hide hE
  have HT := hide hT
  have HO := hide ho
  have hmany : w.cell? ⟨4, 0, none⟩ = some (errV c.a 4) := hE.cell _ (by decide)
  have hsm : mulN (rowsOf T ss) ≤ 8000000 := by
    refine mulN_small (fun r hr => ?_) (by simp [rowsOf]; exact h.few)
    obtain ⟨q, hq, rfl⟩ := List.mem_map.1 hr
    exact ho.few _ (getD_mem (by rw [ho.len]; exact h.ok q hq))
  have HP : Hid (0 < mulN (rowsOf T ss) → ∀ s ∈ ss, 0 < (T.getD s.tab tb0).rows.length) := fun hp => (mul_pos T ss 1 hp).2
  obtain ⟨i0, hi, hinf⟩ := Option.map_eq_some_iff.1 infoRow
  simp only [Prod.mk.injEq] at hinf
  obtain ⟨hz0, hz1, hz2⟩ := hinf
  have HI := hide hi
  have HZ0 := hide hz0
  have HZ1 := hide hz1
  have HZ2 := hide hz2
  clear hi hz0 hz1 hz2
  have hwd := h.wide.1
  obtain ⟨N, hN⟩ : ∃ N, N = mulN (rowsOf T ss) := ⟨_, rfl⟩
  have HM := hide (smade_any w0 G c ss wd fns tns h w hw T tc hT ho.len ho.few)
  rw [← hN] at hsm HP HM ⊢
  have HN := hide hN
  clear h hw hE hT ho hN
  go_enter Tryz.func201, Tryz.ntmps201
  go_wp2_with fail
  refine (unhide HM).mono ?_
  rintro e w1 ⟨rfl, hb1⟩
  have HB1 := hide hb1
  have hmany1 := (hb1.cell (p := ⟨4, 0, none⟩) (World.block_lt_of_cell? w _ hmany)).trans hmany
  clear hb1 HM hmany
  by_cases h4 : 4000 < N
  · have hd : decide ((4000 : Int) < (N : Int)) = true := by simp; omega
    go_wp2_with fail
    go_region
    all_goals go_wp2
    all_goals go_ret2
    all_goals exact ⟨(unhide HB1).drew, by rw [if_pos h4]; rfl⟩
  · have hd : decide ((4000 : Int) < (N : Int)) = false := by simp; omega
    clear hmany1
    go_wp2_with fail
    go_loopg [5, 6, 7, 14] N (fun f v _ _ i W => ∃ k vs, k + f = N ∧ i = .int .i64 (k : Nat) ∧ W.ownsRow w.heap.size 32 1 v vs.length vs ∧ RowsN W wd vs (chosenN T ss tns k) ∧ Below w.heap.size w W)
    case atStart => exact ⟨0, [], by omega, rfl, World.ownsRow_nil _ _ _ _, ⟨rfl, fun i u r e => by simp at e⟩, unhide HB1⟩
    case round =>
      obtain ⟨k, vs, hkf, rfl, hown, hrows, hbw⟩ := hrel
      have hvl : vs.length ≤ 4000 := by
        rw [hrows.1]
        exact Nat.le_trans (chosenN_le _ _ _ _) (by omega)
      obtain ⟨adv, capv, rfl⟩ := owns_shape hown
      have HOW := hide hown
      have HRO := hide hrows
      have HBW := hide hbw
      clear hown hrows hbw
      by_cases hk : k < N
      · have hlt : decide ((k : Int) < (N : Int)) = true := by simp; omega
        obtain ⟨gm, rfl⟩ : ∃ gm, gk = gm + 1 := ⟨gk - 1, by omega⟩
        have hps := (unhide HP) (by omega)
        have HTG := hide (tog_sel w0 G c ss wd fns tns (unhide HH) hs0 wr ((unhide HW).below (unhide HBW)) T tc ((unhide HT).keep (unhide HBW)) (unhide HO) hps k (by omega))
        have hrl : (togR (rowsOf T ss) k).length = wd := by
          rw [togR_len T k ss (fun s hs => (unhide HO).shape _ (getD_mem (by rw [(unhide HO).len]; exact (unhide HH).ok s hs))) hps, ← (unhide HO).wide]
        have HCS := hide (chosenN_succ T ss tns k)
        generalize togR (rowsOf T ss) k = row at *
        have HRL := hide hrl
        clear hps hrl
        go_wp2_with fail
        refine (unhide HTG).mono ?_
        rintro e w2 ⟨rfl, hb2, hh2⟩
        have HB2 : Hid (Below w.heap.size w w2) := (unhide HBW).trans (hb2.mono (unhide HBW).size)
        have HRW2 : Hid (RowAt w2 (.slice (some ⟨wr.heap.size + 1, 0, none⟩) wd wd) (intsV row)) := by
          have := row_full hh2 (by rw [List.length_map, unhide HRL]; unfold maxLen; omega) wd
          rw [List.length_map, unhide HRL] at this
          exact this
        have HOW2 := hide (owns_below (unhide HOW) hb2)
        have HRO2 := hide (((unhide HRO).below hb2).snoc (unhide HRL) hh2)
        have HRN2 := hide ((unhide HRO).below hb2)
        clear hb2 hh2 HTG HOW HRO
        go_wp2_with fail
        refine (sholds_any w0 G c ss wd fns tns (unhide HH) _ (by exact (unhide HW).below (unhide HB2)) _ row (unhide HRL) (by exact unhide HRW2)).mono ?_
        rintro e w3 ⟨rfl, hb3⟩
        have HB3 : Hid (Below w.heap.size w w3) := (unhide HB2).trans (hb3.mono (unhide HB2).size)
        have HOW3 := hide (owns_below (unhide HOW2) hb3)
        have HRO3 := hide ((unhide HRO2).below hb3)
        have HRN3 := hide ((unhide HRN2).below hb3)
        have z3 := (unhide HB3).size
        clear hb3 HOW2 HRO2 HRN2 HRW2
        cases hal : tns.all (fun t => t row) with
        | false =>
          have HAL := hide hal
          clear hal
          go_wp2
          go_roundg gm
          case measure => simp
          case rel =>
            refine ⟨k + 1, vs, by omega, ?_, unhide HOW3, ?_, unhide HB3⟩
            · go_num
            · rw [unhide HCS, unhide HAL]
              simpa using unhide HRN3
        | true =>
          have HAL := hide hal
          clear hal
          go_wp2_with (at_builtin; refine wpList_append_lies _ rfl _ _ 42 rfl w.heap.size 32 i0 (.slice none 0 0) 1 24 Tryz.underlying42 (unhide HI) (unhide HZ0) (unhide HZ1) (unhide HZ2) rfl (by decide) _ _ _ rfl ((unhide HOW3).alloc _) ⟨w3.heap.size, 0, none⟩ 1 1 [.slice (some ⟨wr.heap.size + 1, 0, none⟩) wd wd] rfl rfl ?c1 ?c2 (by decide) ?c3 ?c4 ?c5 _ rfl ?_)
          case c1 => exact news1 (heap_last rfl)
          case c2 => exact one1l _ _ _
          case c3 => unfold maxLen; omega
          case c4 => omega
          case c5 => simp; omega
          intro g cap w4 ho hg hat _
          have HO4 := hide ho
          have HRO4 := hide ((((unhide HRO3).below ((Below.refl _ _).alloc (Nat.le_refl _) _))).grown ((unhide HOW3).alloc _) hg)
          have HB4 : Hid (Below w.heap.size w w4) := ((unhide HB3).alloc z3 _).grown hg (by simp; omega) (fun b e => ((unhide HOW3).lt b e).1)
          clear ho hg hat
          go_wp2
          go_roundg gm
          case measure => simp
          case rel =>
            refine ⟨k + 1, vs ++ [.slice (some ⟨wr.heap.size + 1, 0, none⟩) wd wd], by omega, ?_, ?_, ?_, unhide HB4⟩
            · go_num
            · rw [List.length_append]; exact unhide HO4
            · rw [unhide HCS, unhide HAL, if_pos rfl]; exact unhide HRO4
      · have hlt : decide ((k : Int) < (N : Int)) = false := by simp; omega
        go_wp2
        go_ret2
        refine ⟨unhide HBW, ?_⟩
        rw [if_neg h4]
        have hkN : k = N := by omega
        subst hkN
        exact ⟨_, rfl, (unhide HRO).rows (by unfold maxLen; omega) (unhide HOW) (by unfold maxLen; omega)⟩
end Go.Proofs.YtfkeddkfegaeiaaGreatDoor
