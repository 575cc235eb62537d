/-
  Part 22.
-/
import Derived.Test.YtfkeddkfegaeiaaDoorMNwQ
namespace Go.Proofs.YtfkeddkfegaeiaaDoor
open Go.RowKit

theorem row_all {W : World} {g : Nat} {T : TypeId} {xs : List Value} (h : W.heap[g]? = some (.cells xs.toArray T (0, 0))) (n : Nat) (hn : n ≤ xs.length) (hm : n ≤ maxLen) (cap : Nat) : RowAt W (.slice (some ⟨g, 0, none⟩) n cap) (xs.take n) := by
  refine ⟨_, cap, by rw [List.length_take, Nat.min_eq_left hn], by rw [List.length_take, Nat.min_eq_left hn]; exact hm, fun _ => ⟨g, 0, rfl, lt_of_heap h, fun j hj => ?_⟩⟩
  rw [List.length_take, Nat.min_eq_left hn] at hj
  rw [Nat.zero_add, (blk h).1, List.getElem?_take, if_pos hj]
  simp
theorem ltexts_row {W : World} {F : Fx} {g : Nat} {ts : List ByteArray} (hF : ∀ b o, F b = some o → W.heap[b]? = some o) (h : LTexts F g ts) (hm : ts.length ≤ 1048576) : RowAt W (.slice (some ⟨g, 0, none⟩) (ts.length + 8) (ts.length + 8)) (textsV (ts ++ List.replicate 8 beyondB)) := by
  have := row_all (hF _ _ h) (ts.length + 8) (by simp) (by unfold maxLen; omega) (ts.length + 8)
  rw [List.take_of_length_le (by simp)] at this
  exact this
theorem lints_row {W : World} {F : Fx} {g : Nat} {zs : List Int} (hF : ∀ b o, F b = some o → W.heap[b]? = some o) (h : LInts F g zs) (hm : zs.length ≤ 1048576) : RowAt W (.slice (some ⟨g, 0, none⟩) (zs.length + 8) (zs.length + 8)) (intsV (zs ++ List.replicate 8 (-77))) := by
  have := row_all (hF _ _ h) (zs.length + 8) (by simp) (by unfold maxLen; omega) (zs.length + 8)
  rw [List.take_of_length_le (by simp)] at this
  exact this
theorem lints_cut {W : World} {F : Fx} {g : Nat} {zs : List Int} (hF : ∀ b o, F b = some o → W.heap[b]? = some o) (h : LInts F g zs) (hm : zs.length ≤ 1048576) : RowAt W (.slice (some ⟨g, 0, none⟩) zs.length (zs.length + 8)) (intsV zs) := by
  have := row_all (hF _ _ h) zs.length (by simp) (by unfold maxLen; omega) (zs.length + 8)
  rw [intsV, List.map_append, List.take_append_of_le_length (by simp), List.take_of_length_le (by simp)] at this
  exact this
theorem lpad_row {W : World} {F : Fx} {v : Value} (hF : ∀ b o, F b = some o → W.heap[b]? = some o) (h : LPad F v) : ∃ q, v = .slice (some ⟨q, 0, none⟩) 1 1 ∧ RowAt W (.slice (some ⟨q, 0, none⟩) 1 1) (intsV [-77]) := by
  obtain ⟨q, rfl, hq⟩ := h
  exact ⟨q, rfl, row_all (xs := [.int .i64 (-77)]) (hF _ _ hq) 1 (by simp) (by unfold maxLen; omega) 1⟩

theorem pads_len (n : Nat) : (pads n).length = n * 3 := by
  induction n with
  | zero => rfl
  | succ n ih => simp only [pads, List.length_append, ih, List.length_cons, List.length_nil]; omega
theorem pads_at (n : Nat) : ∀ m, m < n → (pads n)[m * 3]? = some (.string beyondB) := by
  induction n with
  | zero => intro m h; omega
  | succ n ih =>
    intro m h
    have hl := pads_len n
    rcases Nat.lt_or_ge m n with hm | hm
    · rw [pads, List.getElem?_append_left (by omega)]
      exact ih m hm
    · obtain rfl : m = n := by omega
      rw [pads, List.getElem?_append_right (by omega), ← hl, Nat.sub_self]
      rfl

/-- the cells of a list of rows. -/
theorem row_part {W : World} {g : Nat} {T : TypeId} {cur : Array Value} {xs ys : List Value} (h : W.heap[g]? = some (.cells cur T (0, 0))) (n : Nat) (ht : cur.toList.take n = xs ++ ys) (hm : xs.length ≤ maxLen) (cap : Nat) : RowAt W (.slice (some ⟨g, 0, none⟩) xs.length cap) xs := by
  refine ⟨_, cap, rfl, hm, fun _ => ⟨g, 0, rfl, lt_of_heap h, fun j hj => ?_⟩⟩
  have hn : j < n := by
    have := congrArg List.length ht
    rw [List.length_take, List.length_append] at this
    omega
  have e : (cur.toList.take n)[j]? = xs[j]? := by rw [ht, List.getElem?_append_left hj]
  rw [List.getElem?_take, if_pos hn] at e
  rw [Nat.zero_add, (blk h).1, ← e]
  simp
theorem LTab.tbV {W : World} {F : Fx} (hF : ∀ b o, F b = some o → W.heap[b]? = some o) {t : Tb} {gc gr capr : Nat} {cur : Array Value} {ls : List Value} (h : LTab F t gc gr capr cur ls) (h1 : t.cols.length ≤ 1048576) (h2 : t.rows.length ≤ 1048576) (h3 : ∀ r ∈ t.rows, r.length ≤ 1048576) :
    TbV W [.string t.name, .slice (some ⟨gc, 0, none⟩) t.cols.length (t.cols.length + 8), .slice (some ⟨gr, 0, none⟩) t.rows.length capr] t := by
  obtain ⟨hc, hr, es, ps, hlr, hps, hpad, htk⟩ := h
  refine ⟨_, _, rfl, ?_, by simp [scap], es, ?_, hlr.len.1, fun k r u e1 e2 => ?_⟩
  · have := row_all (hF _ _ hc) t.cols.length (by simp) (by unfold maxLen; omega) (t.cols.length + 8)
    rw [textsV, List.map_append, List.take_append_of_le_length (by simp), List.take_of_length_le (by simp)] at this
    exact this
  · have := row_part (hF _ _ hr) (t.rows.length + 8) htk (by rw [hlr.len.1]; unfold maxLen; omega) capr
    rw [hlr.len.1] at this
    exact this
  · obtain ⟨g, hg, he, _⟩ := hlr.at k r e1
    rw [he] at e2
    injection e2 with e2
    subst e2
    exact lints_cut hF hg (h3 r (List.mem_of_getElem? e1))
/-- tables that are lent are tables as they lie. -/
theorem lent_tabs {W : World} {F : Fx} (hF : ∀ b o, F b = some o → W.heap[b]? = some o) {lo p bt ct : Nat} {cv rv lv : Value} {ts cs rs ls : List Value} {l : List Tb} (hlt : LTabs F l ts cs rs ls) (hln : Lnt lo p W (.slice (some ⟨bt, 0, none⟩) (l.length + 8) ct) cv rv lv (l.length + 8) l.length l.length (nrows l) (ts ++ pads 8) cs rs ls) (hf : Fit l) : TabsAt W (.slice (some ⟨bt, 0, none⟩) l.length ct) l := by
  have hct : l.length + 8 ≤ ct := by
    rcases hln.tab.2 with ⟨h, _⟩ | ⟨g, cap, cur, h, _, _, hle, _⟩
    · cases h
    · injection h with _ _ h
      omega
  have hfl := hf.len
  have hts := hlt.len.1
  have zt := (hln.tab.lt _ rfl).2
  refine ⟨_, ct, rfl, by unfold maxLen; omega, by omega, fun _ => ⟨bt, 0, rfl, zt, fun j t e => ?_⟩⟩
  have hj : j < l.length := (List.getElem?_eq_some_iff.1 e).1
  have hsplit : l = l.take j ++ t :: l.drop (j + 1) := by
    have := (List.take_append_drop j l).symm
    rw [List.drop_eq_getElem_cons hj] at this
    rw [(List.getElem?_eq_some_iff.1 e).2] at this
    exact this
  obtain ⟨gc, gr, cap, cur, ls1, ls2, ls3, htab, _, _, x1, x2, x3, _, _⟩ := hlt.at _ _ t hsplit
  have hm : t ∈ l := List.mem_of_getElem? e
  have hlj : (l.take j).length = j := by rw [List.length_take]; omega
  rw [hlj] at x1 x2 x3
  refine ⟨_, _, htab.tbV hF (hf.cols t hm) (hf.rows t hm) (hf.row t hm), ?_, ?_, ?_⟩
  · rw [Nat.zero_add, hln.tab.cellAt _ (by omega), List.getElem?_append_left (by omega), x1]
  · rw [Nat.zero_add, hln.tab.cellAt _ (by omega), List.getElem?_append_left (by omega), x2]
  · rw [Nat.zero_add, hln.tab.cellAt _ (by omega), List.getElem?_append_left (by omega), x3]
end Go.Proofs.YtfkeddkfegaeiaaDoor
