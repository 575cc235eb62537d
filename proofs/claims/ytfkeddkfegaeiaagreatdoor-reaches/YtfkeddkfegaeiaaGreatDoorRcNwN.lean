/-
  Part 36.
-/
import Derived.Test.YtfkeddkfegaeiaaGreatDoorRcPlBe
import Derived.Test.YtfkeddkfegaeiaaGreatDoorRcShelf
namespace Go.Proofs.YtfkeddkfegaeiaaGreatDoor
open Go.RowKit
/-- a list that lies for good. -/
def RowF (F : Fx) (T : TypeId) (v : Value) (xs : List Value) : Prop := (v = .slice none 0 0 ∧ xs = []) ∨ ∃ g cap cur, v = .slice (some ⟨g, 0, none⟩) xs.length cap ∧ F g = some (.cells cur T (0, 0)) ∧ cur.toList.take xs.length = xs ∧ xs.length ≤ cap ∧ cap ≤ maxLen
theorem RowF.mono {F F' : Fx} (hF : F.le F') {T : TypeId} {v : Value} {xs : List Value} (h : RowF F T v xs) : RowF F' T v xs := by
  rcases h with h | ⟨g, cap, cur, h1, h2, h3⟩
  · exact .inl h
  · exact .inr ⟨g, cap, cur, h1, hF _ _ h2, h3⟩
theorem RowF.rowAt {F : Fx} {T : TypeId} {v : Value} {xs : List Value} (h : RowF F T v xs) {W : World} (hF : ∀ b o, F b = some o → W.heap[b]? = some o) : RowAt W v xs := by
  rcases h with ⟨h1, h2⟩ | ⟨g, cap, cur, h1, h2, h3, h4, h5⟩
  · subst h1 h2
    exact ⟨none, 0, rfl, by decide, fun hp => absurd hp (by simp)⟩
  · refine ⟨_, cap, h1, Nat.le_trans h4 h5, fun hp => ⟨g, 0, rfl, lt_size (hF _ _ h2), fun j hj => ?_⟩⟩
    have e : (cur.toList.take xs.length)[j]? = xs[j]? := by rw [h3]
    rw [List.getElem?_take, if_pos hj] at e
    rw [Nat.zero_add, (blk (hF _ _ h2)).1, ← e]
    simp
theorem RowF.cap {F : Fx} {T : TypeId} {v : Value} {xs : List Value} (h : RowF F T v xs) : xs.length ≤ scap v := by
  rcases h with ⟨h1, h2⟩ | ⟨g, cap, cur, h1, h2, h3, h4, h5⟩
  · subst h1 h2; exact Nat.zero_le _
  · subst h1; exact h4
/-- a list that grew, laid down. -/
theorem rowF_seal {lo p n : Nat} {F : Fx} {T : TypeId} {v : Value} {vs xs : List Value} {W : World} (h : Grow lo F p (v :: vs) W) (ho : W.ownsRow lo T 1 v n xs) : ∃ F', F.le F' ∧ Grow lo F' p vs W ∧ RowF F' T v xs := by
  obtain ⟨hl, ho⟩ := ho
  rcases ho with ⟨h1, h2⟩ | ⟨g, cap, cur, h1, h2, h3, h4, h5, h6, h7⟩
  · subst h1 h2
    exact ⟨F, Fx.le.refl _, h.drop, .inl ⟨rfl, by simpa using hl⟩⟩
  · subst h1
    rw [Nat.mul_one] at hl h7
    refine ⟨F.set g (.cells cur T (0, 0)), Fx.le_set _ ?_, h.seal rfl h3, .inr ⟨g, cap, cur, by rw [hl], Fx.set_same _ _ _, by rw [hl]; exact h7, by omega, h5⟩⟩
    exact (h.off _ List.mem_cons_self g rfl).1
/-- a table that lies for good: its three cells. -/
structure TabF (F : Fx) (t : Tb) (cv rv : Value) : Prop where
  cols : RowF F 9 cv (textsV t.cols)
  rows : ∃ es, RowF F 32 rv es ∧ es.length = t.rows.length ∧ ∀ (k : Nat) (r : List Int) (u : Value), t.rows[k]? = some r → es[k]? = some u → RowF F 3 u (intsV r)
theorem TabF.mono {F F' : Fx} (hF : F.le F') {t : Tb} {cv rv : Value} (h : TabF F t cv rv) : TabF F' t cv rv := by
  obtain ⟨h1, es, h2, h3, h4⟩ := h
  exact ⟨h1.mono hF, es, h2.mono hF, h3, fun k r u e1 e2 => (h4 k r u e1 e2).mono hF⟩
inductive TabsF (F : Fx) : List Tb → List Value → Prop
  | nil : TabsF F [] []
  | snoc {l : List Tb} {D : List Value} (t : Tb) (cv rv : Value) : TabsF F l D → TabF F t cv rv → TabsF F (l ++ [t]) (D ++ [.string t.name, cv, rv])
theorem TabsF.mono {F F' : Fx} (hF : F.le F') {l : List Tb} {D : List Value} (h : TabsF F l D) : TabsF F' l D := by
  induction h with
  | nil => exact .nil
  | snoc t cv rv _ ht ih => exact .snoc t cv rv ih (ht.mono hF)
theorem TabsF.len {F : Fx} {l : List Tb} {D : List Value} (h : TabsF F l D) : D.length = l.length * 3 := by
  induction h with
  | nil => rfl
  | snoc t cv rv _ ht ih => simp; omega
theorem TabsF.at {F : Fx} {l : List Tb} {D : List Value} (h : TabsF F l D) : ∀ (j : Nat) (t : Tb), l[j]? = some t → ∃ cv rv, TabF F t cv rv ∧ D[j * 3]? = some (.string t.name) ∧ D[j * 3 + 1]? = some cv ∧ D[j * 3 + 2]? = some rv := by
  induction h with
  | nil => intro j t e; simp at e
  | @snoc l D u cv rv hl ht ih =>
    intro j t e
    have hD := hl.len
    rcases Nat.lt_trichotomy j l.length with hj | hj | hj
    · rw [List.getElem?_append_left hj] at e
      obtain ⟨cv', rv', h1, h2, h3, h4⟩ := ih j t e
      exact ⟨cv', rv', h1, by rw [List.getElem?_append_left (by omega)]; exact h2, by rw [List.getElem?_append_left (by omega)]; exact h3, by rw [List.getElem?_append_left (by omega)]; exact h4⟩
    · subst hj
      rw [List.getElem?_append_right (Nat.le_refl _), Nat.sub_self] at e
      simp at e
      subst e
      refine ⟨cv, rv, ht, ?_, ?_, ?_⟩
      · rw [← hD, List.getElem?_append_right (Nat.le_refl _), Nat.sub_self]; rfl
      · rw [← hD, List.getElem?_append_right (by omega), Nat.add_sub_cancel_left]; rfl
      · rw [← hD, List.getElem?_append_right (by omega), Nat.add_sub_cancel_left]; rfl
    · rw [List.getElem?_eq_none (by simp; omega)] at e
      cases e
theorem TabF.tbV {F : Fx} {t : Tb} {cv rv : Value} (h : TabF F t cv rv) {W : World} (hF : ∀ b o, F b = some o → W.heap[b]? = some o) : TbV W [.string t.name, cv, rv] t := by
  obtain ⟨h1, es, h2, h3, h4⟩ := h
  exact ⟨cv, rv, rfl, h1.rowAt hF, by simpa using h1.cap, es, h2.rowAt hF, h3, fun k r u e1 e2 => (h4 k r u e1 e2).rowAt hF⟩
/-- all tables, as they lie for good. -/
structure Tabs (F : Fx) (g : Nat) (l : List Tb) (D : List Value) : Prop where
  all : F g = some (.cells D.toArray 44 (0, 0))
  tabs : TabsF F l D
theorem Tabs.tabsAt {F : Fx} {g : Nat} {l : List Tb} {D : List Value} (h : Tabs F g l D) {W : World} (hF : ∀ b o, F b = some o → W.heap[b]? = some o) (hm : l.length ≤ maxLen) : TabsAt W (.slice (some ⟨g, 0, none⟩) l.length l.length) l := by
  refine ⟨_, _, rfl, hm, Nat.le_refl _, fun hp => ⟨g, 0, rfl, lt_size (hF _ _ h.all), fun j t e => ?_⟩⟩
  obtain ⟨cv, rv, h1, h2, h3, h4⟩ := h.tabs.at j t e
  have hc := (blk (hF _ _ h.all)).1
  refine ⟨cv, rv, h1.tbV hF, ?_, ?_, ?_⟩
  · rw [Nat.zero_add, hc]; simpa using h2
  · rw [Nat.zero_add, hc]; simpa using h3
  · rw [Nat.zero_add, hc]; simpa using h4
theorem nameB_size {s : ByteArray} (h : nameB s.data.toList = true) : s.size ≤ 8 := by
  unfold nameB at h
  simp only [Bool.and_eq_true, decide_eq_true_eq] at h
  have : s.data.toList.length = s.size := by rw [Array.length_toList]; rfl
  omega
structure Small (t : Tb) : Prop where
  name : t.name.size ≤ 8
  cols : ∀ c ∈ t.cols, c.size ≤ 8
  ncols : t.cols.length ≤ 6
  nrows : t.rows.length ≤ 200
  rows : ∀ r ∈ t.rows, r.length = t.cols.length
theorem p6_small {t : Tb} {ahead : List Tb} (h : p6 t ahead = 0) : Small t := by
  unfold p6 at h
  split at h
  · cases h
  rename_i h1
  split at h
  · cases h
  rename_i h2
  split at h
  · cases h
  split at h
  · cases h
  rename_i h4
  simp only [Bool.or_eq_true, Bool.not_eq_true', not_or, Bool.not_eq_false, Bool.not_eq_true] at h1 h2 h4
  simp only [decide_eq_false_iff_not] at h2
  refine ⟨nameB_size h1.1, fun c hc => ?_, by omega, by omega, fun r hr => ?_⟩
  · have := List.any_eq_false.1 h1.2 c hc
    simp only [Bool.not_eq_true', Bool.not_eq_false] at this
    exact nameB_size this
  · have := List.any_eq_false.1 h4 r hr
    simp only [decide_eq_true_eq, Decidable.not_not] at this
    exact this
theorem p6from_small {l pre : List Tb} (h : p6from pre l = 0) : ∀ t ∈ l, Small t := by
  induction l generalizing pre with
  | nil => intro t ht; cases ht
  | cons u r ih =>
    intro t ht
    rw [p6from] at h
    split at h
    · rename_i h0
      rcases List.mem_cons.1 ht with rfl | ht
      · exact p6_small h0
      · exact ih h t ht
    · rename_i h0
      exact absurd h h0
theorem p6all_small {l : List Tb} (h : p6all l = 0) : l.length ≤ 4 ∧ ∀ t ∈ l, Small t := by
  unfold p6all at h
  split at h
  · cases h
  · rename_i h4
    exact ⟨by omega, p6from_small h⟩
end Go.Proofs.YtfkeddkfegaeiaaGreatDoor
