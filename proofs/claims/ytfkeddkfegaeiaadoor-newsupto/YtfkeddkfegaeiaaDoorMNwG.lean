/-
  Part 11.
-/
import Derived.Test.YtfkeddkfegaeiaaDoorMNwF
namespace Go.Proofs.YtfkeddkfegaeiaaDoor
open Go.RowKit

abbrev beyondB : ByteArray := ⟨#[98, 101, 121, 111, 110, 100]⟩
/-- a list of texts as it is lent. -/
def LTexts (F : Fx) (g : Nat) (ts : List ByteArray) : Prop := F g = some (.cells (textsV (ts ++ List.replicate 8 beyondB)).toArray 9 (0, 0))
/-- a list of numbers as it is lent. -/
def LInts (F : Fx) (g : Nat) (zs : List Int) : Prop := F g = some (.cells (intsV (zs ++ List.replicate 8 (-77))).toArray 3 (0, 0))
/-- the elements of a list of rows: the rows themselves, and the lists that they are cut from. -/
inductive LRows (F : Fx) : List (List Int) → List Value → List Value → Prop
  | nil : LRows F [] [] []
  | snoc {rs : List (List Int)} {es ls : List Value} (z : List Int) (g : Nat) : LRows F rs es ls → LInts F g z → LRows F (rs ++ [z]) (es ++ [.slice (some ⟨g, 0, none⟩) z.length (z.length + 8)]) (ls ++ [.slice (some ⟨g, 0, none⟩) (z.length + 8) (z.length + 8)])
theorem LRows.mono {F F' : Fx} (hF : F.le F') {rs : List (List Int)} {es ls : List Value} (h : LRows F rs es ls) : LRows F' rs es ls := by
  induction h with
  | nil => exact .nil
  | snoc z g _ hi ih => exact .snoc z g ih (hF _ _ hi)
theorem LRows.len {F : Fx} {rs : List (List Int)} {es ls : List Value} (h : LRows F rs es ls) : es.length = rs.length ∧ ls.length = rs.length := by
  induction h with
  | nil => exact ⟨rfl, rfl⟩
  | snoc z g _ hi ih => simp [ih.1, ih.2]
theorem LRows.at {F : Fx} {rs : List (List Int)} {es ls : List Value} (h : LRows F rs es ls) : ∀ (k : Nat) (z : List Int), rs[k]? = some z → ∃ g, LInts F g z ∧ es[k]? = some (.slice (some ⟨g, 0, none⟩) z.length (z.length + 8)) ∧ ls[k]? = some (.slice (some ⟨g, 0, none⟩) (z.length + 8) (z.length + 8)) := by
  induction h with
  | nil => intro k z e; simp at e
  | @snoc rs es ls z g hr hi ih =>
    intro k y e
    have hl := hr.len
    rcases Nat.lt_trichotomy k rs.length with hk | hk | hk
    · rw [List.getElem?_append_left hk] at e
      obtain ⟨g', h1, h2, h3⟩ := ih k y e
      exact ⟨g', h1, by rw [List.getElem?_append_left (by omega)]; exact h2, by rw [List.getElem?_append_left (by omega)]; exact h3⟩
    · subst hk
      rw [List.getElem?_append_right (Nat.le_refl _), Nat.sub_self] at e
      simp at e
      subst e
      refine ⟨g, hi, ?_, ?_⟩
      · rw [← hl.1, List.getElem?_append_right (Nat.le_refl _), Nat.sub_self]; rfl
      · rw [← hl.2, List.getElem?_append_right (Nat.le_refl _), Nat.sub_self]; rfl
    · rw [List.getElem?_eq_none (by simp; omega)] at e
      cases e
/-- what stands behind the rows. -/
def LPad (F : Fx) (v : Value) : Prop := ∃ q, v = .slice (some ⟨q, 0, none⟩) 1 1 ∧ F q = some (.cells #[.int .i64 (-77)] 3 (0, 0))
theorem LPad.mono {F F' : Fx} (hF : F.le F') {v : Value} (h : LPad F v) : LPad F' v := by
  obtain ⟨q, h1, h2⟩ := h
  exact ⟨q, h1, hF _ _ h2⟩
/-- a table as it is lent: its three cells, its columns, its rows, its lists. -/
structure LTab (F : Fx) (t : Tb) (gc gr capr : Nat) (cur : Array Value) (ls : List Value) : Prop where
  cols : LTexts F gc t.cols
  rows : F gr = some (.cells cur 54 (0, 0))
  els : ∃ es ps, LRows F t.rows es ls ∧ ps.length = 8 ∧ (∀ v ∈ ps, LPad F v) ∧ cur.toList.take (t.rows.length + 8) = es ++ ps
theorem LTab.mono {F F' : Fx} (hF : F.le F') {t : Tb} {gc gr capr : Nat} {cur : Array Value} {ls : List Value} (h : LTab F t gc gr capr cur ls) : LTab F' t gc gr capr cur ls := by
  obtain ⟨h1, h2, es, ps, h3, h4, h5, h6⟩ := h
  exact ⟨hF _ _ h1, hF _ _ h2, es, ps, h3.mono hF, h4, fun v hv => (h5 v hv).mono hF, h6⟩
/-- tables as they are lent: the cells of the tables, of the columns, of the rows, of the lists. -/
inductive LTabs (F : Fx) : List Tb → List Value → List Value → List Value → List Value → Prop
  | nil : LTabs F [] [] [] [] []
  | snoc {l : List Tb} {ts cs rs ls ls2 : List Value} (t : Tb) (gc gr capr : Nat) (cur : Array Value) : LTabs F l ts cs rs ls → LTab F t gc gr capr cur ls2 →
      LTabs F (l ++ [t]) (ts ++ [.string t.name, .slice (some ⟨gc, 0, none⟩) t.cols.length (t.cols.length + 8), .slice (some ⟨gr, 0, none⟩) t.rows.length capr]) (cs ++ [.slice (some ⟨gc, 0, none⟩) (t.cols.length + 8) (t.cols.length + 8)]) (rs ++ [.slice (some ⟨gr, 0, none⟩) (t.rows.length + 8) capr]) (ls ++ ls2)
theorem LTabs.mono {F F' : Fx} (hF : F.le F') {l : List Tb} {ts cs rs ls : List Value} (h : LTabs F l ts cs rs ls) : LTabs F' l ts cs rs ls := by
  induction h with
  | nil => exact .nil
  | snoc t gc gr capr cur _ ht ih => exact .snoc t gc gr capr cur ih (ht.mono hF)
/-- how many rows tables have. -/
def nrows : List Tb → Nat
  | [] => 0
  | t :: r => t.rows.length + nrows r
theorem nrows_append (a b : List Tb) : nrows (a ++ b) = nrows a + nrows b := by
  induction a with
  | nil => simp [nrows]
  | cons t r ih => simp only [List.cons_append, nrows, ih]; omega
theorem LTabs.len {F : Fx} {l : List Tb} {ts cs rs ls : List Value} (h : LTabs F l ts cs rs ls) : ts.length = l.length * 3 ∧ cs.length = l.length ∧ rs.length = l.length ∧ ls.length = nrows l := by
  induction h with
  | nil => exact ⟨rfl, rfl, rfl, rfl⟩
  | snoc t gc gr capr cur _ ht ih =>
    obtain ⟨_, _, es, ps, h3, _⟩ := ht
    refine ⟨?_, ?_, ?_, ?_⟩
    · simp; omega
    · simp [ih.2.1]
    · simp [ih.2.2.1]
    · rw [List.length_append, nrows_append, ih.2.2.2, h3.len.2]; simp [nrows]
/-- the table at a place. -/
theorem LTabs.at {F : Fx} {l : List Tb} {ts cs rs ls : List Value} (h : LTabs F l ts cs rs ls) : ∀ (pre suf : List Tb) (t : Tb), l = pre ++ t :: suf → ∃ gc gr capr cur ls1 ls2 ls3, LTab F t gc gr capr cur ls2 ∧ ls = ls1 ++ (ls2 ++ ls3) ∧ ls1.length = nrows pre ∧
    ts[pre.length * 3]? = some (.string t.name) ∧ ts[pre.length * 3 + 1]? = some (.slice (some ⟨gc, 0, none⟩) t.cols.length (t.cols.length + 8)) ∧ ts[pre.length * 3 + 2]? = some (.slice (some ⟨gr, 0, none⟩) t.rows.length capr) ∧
    cs[pre.length]? = some (.slice (some ⟨gc, 0, none⟩) (t.cols.length + 8) (t.cols.length + 8)) ∧ rs[pre.length]? = some (.slice (some ⟨gr, 0, none⟩) (t.rows.length + 8) capr) := by
  induction h with
  | nil => intro pre suf t e; simp at e
  | @snoc l ts cs rs ls ls2 u gc gr capr cur hr ht ih =>
    intro pre suf t e
    have hl := hr.len
    rcases List.eq_nil_or_concat suf with rfl | ⟨suf', x, rfl⟩
    · obtain ⟨rfl, e2⟩ := List.append_inj' e rfl
      injection e2 with e2
      subst e2
      refine ⟨gc, gr, capr, cur, ls, ls2, [], ht, by simp, hl.2.2.2, ?_, ?_, ?_, ?_, ?_⟩
      · rw [← hl.1, List.getElem?_append_right (Nat.le_refl _), Nat.sub_self]; rfl
      · rw [← hl.1, List.getElem?_append_right (by omega), Nat.add_sub_cancel_left]; rfl
      · rw [← hl.1, List.getElem?_append_right (by omega), Nat.add_sub_cancel_left]; rfl
      · rw [← hl.2.1, List.getElem?_append_right (Nat.le_refl _), Nat.sub_self]; rfl
      · rw [← hl.2.2.1, List.getElem?_append_right (Nat.le_refl _), Nat.sub_self]; rfl
    · have e' : l ++ [u] = (pre ++ t :: suf') ++ [x] := by rw [e]; simp
      obtain ⟨e1, e2⟩ := List.append_inj' e' rfl
      obtain ⟨gc', gr', capr', cur', l1, l2, l3, k1, k2, k3, k4, k5, k6, k7, k8⟩ := ih pre suf' t e1
      have hlen : pre.length < l.length := by rw [e1]; simp
      refine ⟨gc', gr', capr', cur', l1, l2, l3 ++ ls2, k1, by rw [k2]; simp, k3, ?_, ?_, ?_, ?_, ?_⟩
      · rw [List.getElem?_append_left (by omega)]; exact k4
      · rw [List.getElem?_append_left (by omega)]; exact k5
      · rw [List.getElem?_append_left (by omega)]; exact k6
      · rw [List.getElem?_append_left (by omega)]; exact k7
      · rw [List.getElem?_append_left (by omega)]; exact k8
end Go.Proofs.YtfkeddkfegaeiaaDoor
