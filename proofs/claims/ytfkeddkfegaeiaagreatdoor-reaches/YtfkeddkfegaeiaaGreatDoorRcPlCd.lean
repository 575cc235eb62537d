/-
  Part 40.
-/
import Derived.Test.YtfkeddkfegaeiaaGreatDoorRcPlCc
import Derived.Test.YtfkeddkfegaeiaaGreatDoorRcPlBh
namespace Go.Proofs.YtfkeddkfegaeiaaGreatDoor
open Go.RowKit
set_option maxRecDepth 100000 in
set_option maxHeartbeats 1000000 in
theorem gtable_any (w : World) (gb tb tof n c : Nat) (p1 p2 : Value) (hg : w.heap[gb]? = some (.cells #[.slice (some ⟨tb, tof, none⟩) n c, p1, p2] 292 (0, 0))) (hn0 : 0 < n) (hn : n < 1000000) :
    Calls Tryz.prog 200 #[.pointer (some ⟨gb, 0, none⟩)] w fun e w' => e = .returned (.pointer (some ⟨tb, tof + (n - 1) * 3, none⟩)) ∧ Below w.heap.size w w' := by
  obtain ⟨kg, -⟩ := blk hg
  have k0 : w.cell? ⟨gb, 0, none⟩ = some (.slice (some ⟨tb, tof, none⟩) n c) := kg 0
  have zg := lt_of_heap hg
  have hs1 : IntKind.i64.wrap ((n : Int) - 1) = ((n - 1 : Nat) : Int) := by unfold IntKind.wrap; simp [IntKind.bits, IntKind.signed]; omega
  have hi1 : (0 : Int) ≤ ((n - 1 : Nat) : Int) := by omega
  have hi2 : ((n - 1 : Nat) : Int) < (n : Int) := by omega
  clear kg hg
  go_enter Tryz.func200, Tryz.ntmps200
  go_wp2_with fail
  go_region_held3 (fun w' => w'.cell? ⟨gb, 0, none⟩ = some (.slice (some ⟨tb, tof, none⟩) n c)) (go_keep) (first | fail)
  all_goals go_wp2
  all_goals go_ret
  all_goals exact ⟨rfl, (Below.refl _ _).drew⟩
theorem owns_rowAt {W : World} {lo : Nat} {T : TypeId} {v : Value} {n : Nat} {xs : List Value} (h : W.ownsRow lo T 1 v n xs) : RowAt W v xs := by
  have hl := h.1
  rw [Nat.mul_one] at hl
  rcases h.2 with ⟨h1, h2⟩ | ⟨g, cap, cur, h1, _, hb, h2, h3, h4, h5⟩
  · subst h2
    exact ⟨none, 0, by rw [hl]; exact h1, by rw [hl]; unfold maxLen; omega, fun hp => by omega⟩
  · refine ⟨_, cap, by rw [hl]; exact h1, by omega, fun _ => ⟨g, 0, rfl, lt_of_heap hb, fun j hj => ?_⟩⟩
    rw [Nat.zero_add, (blk hb).1, ← h5, List.getElem?_take_of_lt (by omega)]
    simp
theorem owns_cap {W : World} {lo : Nat} {T : TypeId} {v : Value} {n : Nat} {xs : List Value} (h : W.ownsRow lo T 1 v n xs) : n ≤ scap v := by
  rcases h.2 with ⟨h1, h2⟩ | ⟨g, cap, cur, h1, _, hb, h2, h3, h4, h5⟩
  · omega
  · rw [h1]
    exact h2
/-- rows of the table that grows, off the block of tables. -/
def RowsOff (W : World) (tb : Nat) (rv : Value) (rows : List (List Int)) : Prop := (rv = .slice none 0 0 ∧ rows = []) ∨ ∃ g cap, rv = .slice (some ⟨g, 0, none⟩) rows.length cap ∧ g ≠ tb ∧ cap ≤ maxLen ∧ RowsB W g 32 cap rows
theorem RowsB.rowsAt {W : World} {g cap c : Nat} {t : TypeId} {l : List (List Int)} (h : RowsB W g t cap l) (hm : l.length ≤ maxLen) : RowsAt W (.slice (some ⟨g, 0, none⟩) l.length c) l := by
  obtain ⟨cur, h1, h2, h3, h4⟩ := h
  have hl : (cur.toList.take l.length).length = l.length := by simp [List.length_take]; omega
  refine ⟨cur.toList.take l.length, ⟨_, c, by rw [hl], by omega, fun hp => ⟨g, 0, rfl, lt_of_heap h1, fun j hj => ?_⟩⟩, hl, fun k r u e1 e2 => ?_⟩
  · rw [hl] at hj
    rw [Nat.zero_add, (blk h1).1, List.getElem?_take_of_lt hj]
    simp
  · obtain ⟨v, hv, ho⟩ := h4 k r e1
    have hk := (List.getElem?_eq_some_iff.1 e1).1
    rw [List.getElem?_take_of_lt hk, Array.getElem?_toList, hv] at e2
    injection e2 with e2
    subst e2
    exact ho.row
theorem RowsOff.rowsAt {W : World} {tb : Nat} {rv : Value} {rows : List (List Int)} (h : RowsOff W tb rv rows) (hm : rows.length ≤ maxLen) : RowsAt W rv rows := by
  rcases h with ⟨rfl, rfl⟩ | ⟨g, cap, rfl, _, _, hb⟩
  · exact ⟨[], ⟨none, 0, rfl, Nat.zero_le _, fun h => absurd h (by decide)⟩, rfl, fun k r u e => by simp at e⟩
  · exact hb.rowsAt hm
theorem RowsOff.turn {W W' : World} {tb : Nat} {rv : Value} {rows : List (List Int)} (h : RowsOff W tb rv rows) (hk : Kp tb W W') (hx : ∀ o z, W.cell? ⟨tb, o, none⟩ ≠ some (.int .i64 z)) : RowsOff W' tb rv rows := by
  rcases h with h | ⟨g, cap, h1, h2, h3, hb⟩
  · exact Or.inl h
  · exact Or.inr ⟨g, cap, h1, h2, h3, hb.turn hk.size hk.block h2 hx⟩
/-- the tables as they lie while the last one grows. -/
structure GrowAt (w0 W : World) (tb tc : Nat) (T0 : List Tb) (t : Tb) (cur : Array Value) (cv rv : Value) : Prop where
  low : w0.heap.size ≤ tb
  blk : W.heap[tb]? = some (.cells cur 44 (0, 0))
  old : ∀ (j : Nat) t0, T0[j]? = some t0 → ∃ c r, TbV w0 [.string t0.name, c, r] t0 ∧ cur[j * 3]? = some (.string t0.name) ∧ cur[j * 3 + 1]? = some c ∧ cur[j * 3 + 2]? = some r
  nm : cur[T0.length * 3]? = some (.string t.name)
  cl : cur[T0.length * 3 + 1]? = some cv
  rw' : cur[T0.length * 3 + 2]? = some rv
  cols : W.ownsRow w0.heap.size 9 1 cv t.cols.length (textsV t.cols)
  coff : cv.ownBlock ≠ some tb
  rows : RowsOff W tb rv t.rows
  noint : ∀ (i : Nat) v, cur[i]? = some v → ∀ z, v ≠ .int .i64 z
  cap : T0.length + 1 ≤ tc
  few : T0.length < 1000
theorem GrowAt.nz {w0 W : World} {tb tc : Nat} {T0 : List Tb} {t : Tb} {cur : Array Value} {cv rv : Value} (h : GrowAt w0 W tb tc T0 t cur cv rv) : ∀ o z, W.cell? ⟨tb, o, none⟩ ≠ some (.int .i64 z) := fun o z e => by
  rw [(Go.Proofs.YtfkeddkfegaeiaaGreatDoor.blk h.blk).1] at e
  exact h.noint o _ e z rfl
theorem GrowAt.tabs {w0 W : World} {tb tc : Nat} {T0 : List Tb} {t : Tb} {cur : Array Value} {cv rv : Value} (h : GrowAt w0 W tb tc T0 t cur cv rv) (hb : Below w0.heap.size w0 W) (hm : t.rows.length ≤ maxLen) : TabsAt W (.slice (some ⟨tb, 0, none⟩) (T0 ++ [t]).length tc) (T0 ++ [t]) := by
  have hf := h.few
  have hc := h.cap
  obtain ⟨kb, -⟩ := Go.Proofs.YtfkeddkfegaeiaaGreatDoor.blk h.blk
  refine ⟨_, tc, rfl, by simp; unfold maxLen; omega, by simpa using hc, fun _ => ⟨tb, 0, rfl, lt_of_heap h.blk, fun j t1 e => ?_⟩⟩
  rw [Nat.zero_add, kb, kb, kb]
  by_cases hj : j < T0.length
  · rw [List.getElem?_append_left hj] at e
    obtain ⟨c, r, q1, q2, q3, q4⟩ := h.old j t1 e
    exact ⟨c, r, q1.keep hb, q2, q3, q4⟩
  · have hj2 := (List.getElem?_eq_some_iff.1 e).1
    rw [List.length_append, List.length_singleton] at hj2
    obtain rfl : j = T0.length := by omega
    simp at e
    subst e
    exact ⟨cv, rv, ⟨cv, rv, rfl, owns_rowAt h.cols, owns_cap h.cols, h.rows.rowsAt hm⟩, h.nm, h.cl, h.rw'⟩
theorem owns_kp {W W' : World} {lo : Nat} {T : TypeId} {k : Nat} {v : Value} {n : Nat} {xs : List Value} {r : Nat} (h : W.ownsRow lo T k v n xs) (hk : Kp r W W') (hr : v.ownBlock ≠ some r) : W'.ownsRow lo T k v n xs := by
  refine ⟨h.1, ?_⟩
  rcases h.2 with h1 | ⟨g, cap, cur, h1, hg, hb, h2⟩
  · exact Or.inl h1
  · exact Or.inr ⟨g, cap, cur, h1, hg, (hk.block g (lt_of_heap hb) (fun e => hr (by rw [h1, ← e]; rfl))).trans hb, h2⟩
/-- blocks are laid; the tables stay. -/
theorem GrowAt.below {w0 W W' : World} {tb tc : Nat} {T0 : List Tb} {t : Tb} {cur : Array Value} {cv rv : Value} (h : GrowAt w0 W tb tc T0 t cur cv rv) (hb : Below W.heap.size W W') : GrowAt w0 W' tb tc T0 t cur cv rv :=
  ⟨h.low, (hb.block tb (lt_of_heap h.blk)).trans h.blk, h.old, h.nm, h.cl, h.rw', owns_kp h.cols (Kp.ofBelow (r := tb) hb) h.coff, h.coff, h.rows.turn (Kp.ofBelow hb) h.nz, h.noint, h.cap, h.few⟩
/-- the rows are others. -/
theorem GrowAt.set {w0 W : World} {tb tc : Nat} {T0 : List Tb} {t : Tb} {cur : Array Value} {cv rv : Value} (h : GrowAt w0 W tb tc T0 t cur cv rv) {g cap : Nat} {l : List (List Int)} (hg : g ≠ tb) (hm : cap ≤ maxLen) (hl : RowsB W g 32 cap l) : ∃ cur', GrowAt w0 (W.setCell ⟨tb, T0.length * 3 + 2, none⟩ (.slice (some ⟨g, 0, none⟩) l.length cap)) tb tc T0 ⟨t.name, t.cols, l⟩ cur' cv (.slice (some ⟨g, 0, none⟩) l.length cap) := by
  have hsz := (Array.getElem?_eq_some_iff.1 h.rw').1
  have hk : Kp tb W (W.setCell ⟨tb, T0.length * 3 + 2, none⟩ (.slice (some ⟨g, 0, none⟩) l.length cap)) := (Kp.refl _ _).setCell _ _
  refine ⟨_, h.low, heap_set h.blk _, fun j t0 e => ?_, ?_, ?_, ?_, owns_kp h.cols hk h.coff, h.coff, ?_, fun i v e z => ?_, h.cap, h.few⟩
  · obtain ⟨c, r, q1, q2, q3, q4⟩ := h.old j t0 e
    have hj := (List.getElem?_eq_some_iff.1 e).1
    exact ⟨c, r, q1, by rw [Array.getElem?_setIfInBounds_ne (by omega)]; exact q2, by rw [Array.getElem?_setIfInBounds_ne (by omega)]; exact q3, by rw [Array.getElem?_setIfInBounds_ne (by omega)]; exact q4⟩
  · rw [Array.getElem?_setIfInBounds_ne (by omega)]; exact h.nm
  · rw [Array.getElem?_setIfInBounds_ne (by omega)]; exact h.cl
  · exact Array.getElem?_setIfInBounds_self_of_lt hsz
  · exact Or.inr ⟨g, cap, rfl, hg, hm, hl.turn hk.size hk.block hg h.nz⟩
  · by_cases hi : i = T0.length * 3 + 2
    · subst hi
      rw [Array.getElem?_setIfInBounds_self_of_lt hsz] at e
      injection e with e
      subst e
      exact fun e => by cases e
    · rw [Array.getElem?_setIfInBounds_ne (by omega)] at e
      exact h.noint i v e z
end Go.Proofs.YtfkeddkfegaeiaaGreatDoor
namespace Go.Proofs.YtfkeddkfegaeiaaGreatDoor
open Go.RowKit
theorem sortL_len (l : List (List Int)) : (sortL l).length = l.length := (List.mergeSort_perm _ _).length_eq
/-- the rows behind an add. -/
def addR (l m : List (List Int)) : List (List Int) := compL (sortL (l ++ m))
/-- what add leaves. -/
def AddDone (a : Nat → Addr) (w0 w : World) (tb tc : Nat) (T0 : List Tb) (t : Tb) (N : Nat) (l : List (List Int)) (e : Ending) (w' : World) : Prop := Kp tb w w' ∧
  (4000 < N → e = .returned (errV a eMany)) ∧ (N ≤ 4000 → 200 < (addR l t.rows).length → e = .returned (errV a eMany)) ∧
  (N ≤ 4000 → (addR l t.rows).length ≤ 200 → e = .returned .nilIface ∧ ∃ cur cv rv, GrowAt w0 w' tb tc T0 ⟨t.name, t.cols, addR l t.rows⟩ cur cv rv)
/-- nothing is appended. -/
theorem wpList_append_zero {P : Program} {w : World} {ops : Array Oper} {rest : List Oper} {o : Oper} {a : Act} {Q : Exit → Act → World → Prop} (hgd : o.guard = none) (s x : Operand) (t : TypeId)
    (ho : o.op = .call { callee := .builtin .append, args := #[s, x], argTypes := #[t, t] })
    (e : TypeId) (i : TypeInfo) (ht : P.underlying t = some (.slice e)) (hi : P.info? e = some i)
    (g n cap : Nat) (hnc : n ≤ cap) (hs : a.eval s = .slice (some ⟨g, 0, none⟩) n cap) (ad : Option Addr) (c : Nat) (hx : a.eval x = .slice ad 0 c)
    (h : wpList P ops Q rest (a.put o.dst (.slice (some ⟨g, 0, none⟩) n cap)) w) : wpList P ops Q (o :: rest) a w := by
  refine wpList_plain hgd fun K hK => ?_
  have hrun : (Builtin.append_ #[t, t] o.type #[.slice (some ⟨g, 0, none⟩) n cap, .slice ad 0 c]).run P w = .ok (.slice (some ⟨g, 0, none⟩) n cap) w := by
    cases ad <;> simp [Builtin.append_, run_underlying ht, sizeOf, typeInfo, hi, Builtin.lenOf, Builtin.firstCells, hnc, storeCells, loadCells, loadCellsFrom]
  unfold Oper.wp
  simp [execOp, ho, resolve, invoke, builtin, hs, hx, hrun, Result.andThen]
  exact hK _ _ h
theorem RowsB.below {w w' : World} {g : Nat} {t : TypeId} {cap : Nat} {l : List (List Int)} (h : RowsB w g t cap l) (hb : Below w.heap.size w w') : RowsB w' g t cap l := by
  obtain ⟨cur, h1, h2, h3, h4⟩ := h
  refine ⟨cur, (hb.block g (lt_of_heap h1)).trans h1, h2, h3, fun i zs e => ?_⟩
  obtain ⟨v, hv, ho⟩ := h4 i zs e
  exact ⟨v, hv, ho.keep hb.size (fun k hk _ => hb.block k hk)⟩
theorem OffAt.other {g h : Nat} {w w' : World} {v : Value} {zs : List Int} (ho : OffAt h w v zs) (hg : w.heap.size ≤ g) (hb : Below w.heap.size w w') : OffAt g w' v zs := by
  obtain ⟨ad, cap, h1, h2, h3⟩ := ho
  refine ⟨ad, cap, h1, h2, fun hp => ?_⟩
  obtain ⟨b, o, e1, _, e3, e4⟩ := h3 hp
  exact ⟨b, o, e1, by omega, Nat.lt_of_lt_of_le e3 hb.size, fun j hj => (hb.cell (p := ⟨b, o + j, none⟩) e3).trans (e4 j hj)⟩
/-- rows are put behind rows. -/
theorem rows_join {w w' : World} {g : Nat} {l m : List (List Int)} {xs ys : List Value} (hl : ∀ (i : Nat) zs, l[i]? = some zs → ∃ v, xs[i]? = some v ∧ OffAt g w v zs) (hm : ∀ (i : Nat) zs, m[i]? = some zs → ∃ v, ys[i]? = some v ∧ OffAt g w v zs) (hx : xs.length = l.length) {g' cap lo : Nat}
    (ho : w'.ownsRow lo 32 1 (.slice (some ⟨g', 0, none⟩) (l.length + m.length) cap) (l.length + m.length) (xs ++ ys)) (hg : w.grownBy w' (some g)) (hor : some g = some g' ∨ g' = w.heap.size) : lo ≤ g' ∧ cap ≤ maxLen ∧ RowsB w' g' 32 cap (l ++ m) := by
  rcases ho.2 with ⟨h1, -⟩ | ⟨g2, cap2, cur, h1, hlo, hb, h2, h3, h4, h5⟩
  · cases h1
  · injection h1 with e1 e2 e3
    injection e1 with e1
    injection e1 with e1
    subst e1 e3
    rw [Nat.mul_one] at h4 h5
    have hsz := hg.size
    refine ⟨hlo, h3, cur, hb, h4, by rw [List.length_append]; exact h2, fun i zs e => ?_⟩
    have hi := (List.getElem?_eq_some_iff.1 e).1
    rw [List.length_append] at hi
    have hv : ∃ v, (xs ++ ys)[i]? = some v ∧ OffAt g w v zs := by
      by_cases hil : i < l.length
      · rw [List.getElem?_append_left hil] at e
        rw [List.getElem?_append_left (by omega)]
        exact hl i zs e
      · rw [List.getElem?_append_right (by omega)] at e
        rw [List.getElem?_append_right (by omega), hx]
        exact hm _ zs e
    obtain ⟨v, hv, ad, cp, q1, q2, q3⟩ := hv
    refine ⟨v, ?_, ad, cp, q1, q2, fun hp => ?_⟩
    · rw [← h5, List.getElem?_take_of_lt hi, Array.getElem?_toList] at hv
      exact hv
    · obtain ⟨b, o, r1, r2, r3, r4⟩ := q3 hp
      refine ⟨b, o, r1, ?_, by omega, fun j hj => ?_⟩
      · rcases hor with e1 | e1
        · injection e1 with e1
          omega
        · omega
      · rw [← r4 j hj]
        have hblk := hg.block b r3 (fun e => r2 (by injection e with e))
        simp only [World.cell?, hblk]
set_option maxRecDepth 100000 in
set_option maxHeartbeats 4000000 in
theorem gadd_any (a : Nat → Addr) (w0 w : World) (B : Nat) (hE : EnvX a B w) (gb tb tc fb : Nat) (p1 p2 : Value) (T0 : List Tb) (t : Tb) (cur : Array Value) (cv rv : Value) (hg : w.heap[gb]? = some (.cells #[.slice (some ⟨tb, 0, none⟩) (T0.length + 1) tc, p1, p2] 292 (0, 0))) (hG : GrowAt w0 w tb tc T0 t cur cv rv) (ht : t.rows.length ≤ 200)
    (N : Nat) (l : List (List Int)) (hl : N ≤ 4000 → l.length ≤ 4000) (h : Calls Tryz.prog 126 #[.pointer (some ⟨fb, 2, none⟩)] w fun e w' => RwDone a w N l e w') :
    Calls Tryz.prog 199 #[.pointer (some ⟨gb, 0, none⟩), .pointer (some ⟨fb, 2, none⟩)] w fun e w' => AddDone a w0 w tb tc T0 t N l e w' := by
  have HE := hide hE
  have HG := hide hG
  have HGB := hide hg
  have HC := hide h
  have hmany : w.cell? ⟨4, 0, none⟩ = some (errV a 4) := hE.cell _ (by decide)
  have zmany := World.block_lt_of_cell? w _ hmany
  have HM := hide hmany
  clear hE hG hg h
  go_enter Tryz.func199, Tryz.ntmps199
  go_wp2_with fail
  refine (unhide HC).mono ?_
  rintro e w1 ⟨hb1, hr⟩
  have HB1 := hide hb1
  clear hb1
  by_cases h4 : 4000 < N
  · rw [if_pos h4] at hr
    subst hr
    go_wp2
    go_ret
    exact ⟨Kp.ofBelow (unhide HB1), fun _ => rfl, fun h => absurd h4 (by omega), fun h => absurd h4 (by omega)⟩
  · have hl := hl (by omega)
    rw [if_neg h4] at hr
    obtain ⟨g, rfl, hgs, hrb⟩ := hr
    have HRB := hide hrb
    clear hrb hmany
    have HG1 := hide ((unhide HG).below (unhide HB1))
    have HGB1 := hide (((unhide HB1).block gb (lt_of_heap (unhide HGB))).trans (unhide HGB))
    have HTB := hide (gtable_any w1 gb tb 0 (T0.length + 1) tc p1 p2 (unhide HGB1) (by omega) (by have := (unhide HG).few; omega))
    rw [Nat.zero_add, Nat.add_sub_cancel] at HTB
    have htg : tb < w.heap.size := lt_of_heap (unhide HG).blk
    obtain ⟨i0, hi, hinf⟩ := Option.map_eq_some_iff.1 infoRow
    simp only [Prod.mk.injEq] at hinf
    obtain ⟨hz0, hz1, hz2⟩ := hinf
    have HI := hide hi
    have HZ0 := hide hz0
    have HZ1 := hide hz1
    have HZ2 := hide hz2
    clear hi hz0 hz1 hz2
    go_upto_region 4 with (fail)
    go_cut [5] (fun v W => ∃ g' cap, v = .slice (some ⟨g', 0, none⟩) (l.length + t.rows.length) cap ∧ w.heap.size ≤ g' ∧ cap ≤ maxLen ∧ RowsB W g' 32 cap (l ++ t.rows) ∧ Below w.heap.size w W)
    case first =>
      go_wp2_with fail
      refine (unhide HTB).mono ?_
      rintro e w2 ⟨rfl, hb2⟩
      have HB2 : Hid (Below w.heap.size w w2) := (unhide HB1).trans (hb2.mono (unhide HB1).size)
      have HG2 := hide ((unhide HG1).below hb2)
      have HRB2 := hide ((unhide HRB).below hb2)
      obtain ⟨kb, -⟩ := blk (unhide HG2).blk
      have krv : w2.cell? ⟨tb, T0.length * 3 + 2, none⟩ = some rv := (kb _).trans (unhide HG2).rw'
      clear hb2 kb HTB
      have hrows := (unhide HG2).rows
      by_cases hm0 : t.rows.length = 0
      · have hrv : ∃ ad c, rv = .slice ad 0 c := by
          rcases hrows with ⟨h1, -⟩ | ⟨g9, c9, h1, -⟩
          · exact ⟨none, 0, h1⟩
          · exact ⟨_, c9, by rw [h1, hm0]⟩
        obtain ⟨ad, c, rfl⟩ := hrv
        have hnil : t.rows = [] := List.eq_nil_of_length_eq_zero hm0
        have HNIL := hide hnil
        clear hrows hnil
        go_wp2_with (at_builtin; refine wpList_append_zero rfl _ _ 42 rfl 32 i0 Tryz.underlying42 (unhide HI) g l.length l.length (Nat.le_refl _) rfl ad c rfl ?_)
        go_wp2_with fail
        go_meet
        case rel => exact ⟨g, l.length, by rw [hm0]; rfl, hgs, by unfold maxLen; omega, by rw [unhide HNIL, List.append_nil]; exact unhide HRB2, unhide HB2⟩
      · obtain ⟨h9, c9, rfl, hht, hc9, hrh⟩ : ∃ h9 c9, rv = .slice (some ⟨h9, 0, none⟩) t.rows.length c9 ∧ h9 ≠ tb ∧ c9 ≤ maxLen ∧ RowsB w h9 32 c9 t.rows := by
          rcases (unhide HG).rows with ⟨-, h1⟩ | h1
          · exact absurd (by rw [h1]; rfl) hm0
          · exact h1
        obtain ⟨curH, b1, b2, b3, b4⟩ := hrh
        obtain ⟨curG, d1, d2, d3, d4⟩ := unhide HRB2
        have hzh := lt_of_heap b1
        have b1' := ((unhide HB2).block h9 hzh).trans b1
        obtain ⟨kh, -⟩ := blk b1'
        have HOWN : Hid (w2.ownsRow w.heap.size 32 1 (.slice (some ⟨g, 0, none⟩) l.length l.length) l.length curG.toList) := ⟨by simp [d2], Or.inr ⟨g, l.length, curG, rfl, hgs, d1, Nat.le_refl _, by unfold maxLen; omega, by simp [d2], by rw [Nat.mul_one, List.take_of_length_le (by simp [d2])]⟩⟩
        have HNW : Hid (∀ j u, (curH.toList.take t.rows.length)[j]? = some u → w2.cell? (Addr.add ⟨h9, 0, none⟩ j) = some u) := fun j u e => by
          have hj := (List.getElem?_eq_some_iff.1 e).1
          rw [List.length_take] at hj
          rw [List.getElem?_take_of_lt (by omega), Array.getElem?_toList] at e
          rw [show Addr.add ⟨h9, 0, none⟩ j = ⟨h9, j, none⟩ by unfold Addr.add; split <;> simp_all, kh, e]
        have HLN : Hid ((curH.toList.take t.rows.length).length = t.rows.length * 1) := by
          show _ = _
          rw [List.length_take, Array.length_toList]
          omega
        have HOC : Hid (∀ u ∈ curH.toList.take t.rows.length, u.oneCell' = true) := fun u hu => by
          obtain ⟨j, hj, e⟩ := List.getElem_of_mem hu
          have hj2 := hj
          rw [List.length_take] at hj2
          obtain ⟨v, hv, ad, cp, h0, -⟩ := b4 j _ (List.getElem?_eq_getElem (show j < t.rows.length by omega))
          have e2 : (curH.toList.take t.rows.length)[j]? = some v := by rw [List.getElem?_take_of_lt (by omega), Array.getElem?_toList, hv]
          rw [List.getElem?_eq_getElem hj, e] at e2
          injection e2 with e2
          subst e2
          rw [h0]
          rfl
        have HJL : Hid (∀ (i : Nat) zs, l[i]? = some zs → ∃ v, curG.toList[i]? = some v ∧ OffAt g w2 v zs) := fun i zs e => by
          obtain ⟨v, hv, ho⟩ := d4 i zs e
          exact ⟨v, by rw [Array.getElem?_toList, hv], ho⟩
        have HJM : Hid (∀ (i : Nat) zs, t.rows[i]? = some zs → ∃ v, (curH.toList.take t.rows.length)[i]? = some v ∧ OffAt g w2 v zs) := fun i zs e => by
          obtain ⟨v, hv, ho⟩ := b4 i zs e
          have hi := (List.getElem?_eq_some_iff.1 e).1
          exact ⟨v, by rw [List.getElem?_take_of_lt hi, Array.getElem?_toList, hv], ho.other hgs (unhide HB2)⟩
        have HXL : Hid (curG.toList.length = l.length) := by show _ = _; simp [d2]
        have z2 := (unhide HB2).size
        clear hrows b1 b2 b3 b4 d1 d2 d3 d4 b1' kh
        generalize curG.toList = xs at *
        generalize curH.toList.take t.rows.length = ys at *
        go_wp2_with (at_builtin; refine wpList_append_lies _ rfl _ _ 42 rfl w.heap.size 32 i0 (.slice none 0 0) 1 24 Tryz.underlying42 (unhide HI) (unhide HZ0) (unhide HZ1) (unhide HZ2) rfl (by decide) _ _ _ rfl (unhide HOWN) ⟨h9, 0, none⟩ t.rows.length c9 ys rfl (unhide HLN) (unhide HNW) (unhide HOC) (by omega) ?c3 ?c4 ?c5 _ rfl ?_)
        case c3 => unfold maxLen; omega
        case c4 => omega
        case c5 => exact z2
        intro g' cap w3 ho hgr hat _
        have HJ := hide (rows_join (unhide HJL) (unhide HJM) (unhide HXL) ho hgr hat)
        have HB3 : Hid (Below w.heap.size w w3) := (unhide HB2).grown hgr z2 (fun b e => by have e' : some g = some b := e; injection e' with e'; omega)
        clear ho hgr hat
        go_wp2_with fail
        go_meet
        case rel => exact ⟨g', cap, rfl, (unhide HJ).1, (unhide HJ).2.1, (unhide HJ).2.2, unhide HB3⟩
    case rest =>
      obtain ⟨g', cap, rfl, hg', hcap, hrj, hbw⟩ := hcut
      have HBW := hide hbw
      have HSR := hide (sortRows_any wc g' cap 32 _ hrj (by simp; omega))
      rw [List.length_append] at HSR
      clear HTB hbw hrj HB1 HRB HG1 HGB1
      go_wp2_with fail
      refine (unhide HSR).mono ?_
      rintro e w4 ⟨rfl, hgr4, hrb4⟩
      have hsl : (sortL (l ++ t.rows)).length = l.length + t.rows.length := by rw [sortL_len, List.length_append]
      have hcp : l.length + t.rows.length ≤ cap := by
        obtain ⟨_, _, _, h9, _⟩ := hrb4
        omega
      have HCF := hide (compact_any w4 g' cap cap 32 _ hrb4 (by omega) (by omega))
      rw [hsl] at HCF
      change Hid (Calls _ _ _ _ fun e w' => e = .returned (.slice (some ⟨g', 0, none⟩) (addR l t.rows).length cap) ∧ Kp g' w4 w' ∧ RowsB w' g' 32 cap (addR l t.rows)) at HCF
      have hadl : (addR l t.rows).length ≤ 4200 := by
        have := compN_len (sortL (l ++ t.rows)) (sortL (l ++ t.rows)).length
        show (compL (sortL (l ++ t.rows))).length ≤ 4200
        unfold compL
        omega
      obtain ⟨new, HNEW⟩ : ∃ new, Hid (new = addR l t.rows) := ⟨_, rfl⟩
      rw [← unhide HNEW] at HCF hadl
      have HB4 : Hid (Below w.heap.size w w4) := (unhide HBW).grown hgr4 (unhide HBW).size (fun b e => by injection e with e; omega)
      clear hgr4 hrb4 hsl HSR HBW
      go_wp2_with fail
      refine (unhide HCF).mono ?_
      rintro e w5 ⟨rfl, hk5, hrb5⟩
      have HB5 : Hid (Below w.heap.size w w5) := (unhide HB4).trans (hk5.below hg' (unhide HB4).size)
      have HRB5 := hide hrb5
      have hmany5 := ((unhide HB5).cell (p := ⟨4, 0, none⟩) zmany).trans (unhide HM)
      have zmany5 := Nat.lt_of_lt_of_le zmany (unhide HB5).size
      clear hk5 hrb5 HCF HB4
      by_cases h2 : 200 < new.length
      · have hd : decide ((200 : Int) < (new.length : Int)) = true := by simp; omega
        go_wp2
        go_ret
        exact ⟨Kp.ofBelow (unhide HB5), fun h => absurd h h4, fun _ _ => rfl, fun _ h => absurd h2 (by rw [unhide HNEW]; omega)⟩
      · have hd : decide ((200 : Int) < (new.length : Int)) = false := by simp; omega
        have HG5 := hide ((unhide HG).below (unhide HB5))
        have HGB5 := hide (((unhide HB5).block gb (lt_of_heap (unhide HGB))).trans (unhide HGB))
        have HTB := hide (gtable_any w5 gb tb 0 (T0.length + 1) tc p1 p2 (unhide HGB5) (by omega) (by have := (unhide HG).few; omega))
        rw [Nat.zero_add, Nat.add_sub_cancel] at HTB
        clear hmany5
        go_wp2_with fail
        refine (unhide HTB).mono ?_
        rintro e w6 ⟨rfl, hb6⟩
        have HB6 : Hid (Below w.heap.size w w6) := (unhide HB5).trans (hb6.mono (unhide HB5).size)
        have HG6 := hide ((unhide HG5).below hb6)
        have HRB6 := hide ((unhide HRB5).below hb6)
        obtain ⟨kb, fb'⟩ := blk (unhide HG6).blk
        have k2 : w6.cell? ⟨tb, T0.length * 3 + 2, none⟩ = some rv := (kb _).trans (unhide HG6).rw'
        have f2 : w6.frozen? ⟨tb, T0.length * 3 + 2, none⟩ = false := fb' _
        clear hb6 HTB HG5 HGB5 HRB5 HB5 kb fb'
        go_wp2
        go_ret
        refine ⟨(Kp.ofBelow (unhide HB6)).setCell _ _, fun h => absurd h h4, fun _ h => absurd h (by rw [← unhide HNEW]; exact h2), fun _ _ => ⟨rfl, ?_⟩⟩
        rw [← unhide HNEW]
        obtain ⟨cur', h'⟩ := (unhide HG6).set (g := g') (cap := cap) (l := new) (by omega) hcap (unhide HRB6)
        exact ⟨cur', cv, _, h'⟩
end Go.Proofs.YtfkeddkfegaeiaaGreatDoor
