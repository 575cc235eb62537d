/-
  Part 28.
-/
import Derived.Test.YtfkeddkfegaeiaaDoorMNwQ
import Derived.ChangeSlices
import Derived.SliceStrings
import Derived.ChangeArms
import Derived.ChangeOld
import Derived.ChangeAt
import Derived.ChangeMaps5
namespace Go.Proofs.YtfkeddkfegaeiaaDoor
open Go.RowKit Go.ChangeShapes Go.WideShapes Go.ChangeAt Go.ChangeMaps

section
variable {H : Type} {enc : TypeId × Value → H} {W : World} {sp : Nat → Bool} {held : Bool}

theorem bulk_one (d : DataW H) : 1 ≤ Rows.uptoBulk d := by
  cases d with
  | lit l => cases l <;> simp [Rows.uptoBulk]
  | nil => simp [Rows.uptoBulk]
  | ptr d => simp [Rows.uptoBulk]
  | slice elems spare => simp [Rows.uptoBulk]
  | agg parts => simp [Rows.uptoBulk]
  | iface t d => simp [Rows.uptoBulk]
  | map entries => simp [Rows.uptoBulk]
  | held h => simp [Rows.uptoBulk]
theorem bulk_len (l : List (DataW H)) : l.length ≤ Rows.uptoBulkAll l := by
  induction l with
  | nil => simp [Rows.uptoBulkAll]
  | cons x r ih => have := bulk_one x; simp only [Rows.uptoBulkAll, List.length_cons]; omega
theorem bulk_part {d : DataW H} {l : List (DataW H)} (h : d ∈ l) : Rows.uptoBulk d ≤ Rows.uptoBulkAll l := by
  induction l with
  | nil => cases h
  | cons x r ih =>
    simp only [Rows.uptoBulkAll]
    cases List.mem_cons.1 h with
    | inl e => subst e; omega
    | inr e => have := ih e; omega
theorem bulk_slice (elems spare : List (DataW H)) : Rows.uptoBulkAll elems ≤ Rows.uptoBulk (.slice elems spare) := by
  simp only [Rows.uptoBulk]; omega

theorem cellsT : Tryd.prog.cellsOf 9 = 1 := by kernel_rfl
theorem cellsI : Tryd.prog.cellsOf 3 = 1 := by kernel_rfl
theorem cellsR : Tryd.prog.cellsOf 54 = 1 := by kernel_rfl
theorem cellsS : Tryd.prog.cellsOf 50 = 1 := by kernel_rfl
theorem cellsRR : Tryd.prog.cellsOf 42 = 1 := by kernel_rfl
theorem cellsTb : Tryd.prog.cellsOf 53 = 3 := by kernel_rfl

theorem addr_add {b o : Nat} (j : Nat) : (⟨b, o, none⟩ : Addr).add j = ⟨b, o + j, none⟩ := by unfold Addr.add; split <;> simp_all
theorem cell_lt {b o : Nat} {v : Value} (h : W.cell? ⟨b, o, none⟩ = some v) : b < W.heap.size := by
  rcases Nat.lt_or_ge b W.heap.size with h' | h'
  · exact h'
  · simp [World.cell?, Array.getElem?_eq_none h'] at h

/-- a list of texts. -/
theorem read_texts {n : Nat} {cs : List Value} {d : DataW H} {p : List MemPlace} (h : DataW.trod enc Tryd.prog W 0 sp held n 50 cs = some (d, p)) : ∃ (v : Value) (ts : List ByteArray), cs = [v] ∧ RowAt W v (textsV ts) ∧ ts.length ≤ scap v ∧ ts.length ≤ Rows.uptoBulk d := by
  rcases open_strings Tryd.underlying50 Tryd.underlying9 cellsT h with ⟨rfl, hx⟩ | ⟨a, len, cap, ss, rfl, _, hl, hm, hz, hx, hcell, _⟩
  · exact ⟨_, [], rfl, ⟨none, 0, rfl, by unfold maxLen; simp, fun hp => by simp at hp⟩, by simp, by simp⟩
  · have hle : len ≤ ss.length := by rw [hz]; split <;> omega
    have ht : (ss.take len).length = len := by rw [List.length_take]; omega
    injection hx with hd _
    subst hd
    refine ⟨_, ss.take len, rfl, ⟨some a, cap, by rw [List.length_map, ht], by rw [List.length_map, ht]; omega, fun hp => ?_⟩, by rw [ht]; exact hl, ?_⟩
    · rw [List.length_map, ht] at hp
      obtain ⟨b, o, spot⟩ := a
      have hc0 := hcell 0 (by omega)
      have hspot : spot = none := by simpa [Addr.add] using World.cell?_spot hc0
      subst hspot
      rw [addr_add] at hc0
      refine ⟨b, o, rfl, cell_lt hc0, fun j hj => ?_⟩
      rw [List.length_map, ht] at hj
      have := hcell j (by omega)
      rw [addr_add] at this
      rw [this, List.getElem?_map, List.getElem?_take_of_lt hj, List.getElem?_eq_getElem (by omega), List.getD_eq_getElem?_getD, List.getElem?_eq_getElem (by omega)]
      rfl
    · have h1 := bulk_slice (H := H) (strs (ss.take len)) (strs (ss.drop len))
      have h2 := bulk_len (H := H) (strs (ss.take len))
      have h3 : (strs (H := H) (ss.take len)).length = (ss.take len).length := by simp [strs]
      omega
/-- a list of numbers. -/
theorem read_ints {n : Nat} {cs : List Value} {d : DataW H} {p : List MemPlace} (h : DataW.trod enc Tryd.prog W 0 sp held n 54 cs = some (d, p)) : ∃ (v : Value) (zs : List Int), cs = [v] ∧ RowAt W v (intsV zs) ∧ zs.length ≤ Rows.uptoBulk d := by
  rcases open_ints Tryd.underlying54 Tryd.underlying3 cellsI h with ⟨rfl, hx⟩ | ⟨a, len, cap, ss, rfl, _, hl, hm, hz, hx, hcell, _⟩
  · exact ⟨_, [], rfl, ⟨none, 0, rfl, by unfold maxLen; simp, fun hp => by simp at hp⟩, by simp⟩
  · have hle : len ≤ ss.length := by rw [hz]; split <;> omega
    have ht : (ss.take len).length = len := by rw [List.length_take]; omega
    injection hx with hd _
    subst hd
    refine ⟨_, ss.take len, rfl, ⟨some a, cap, by rw [List.length_map, ht], by rw [List.length_map, ht]; omega, fun hp => ?_⟩, ?_⟩
    · rw [List.length_map, ht] at hp
      obtain ⟨b, o, spot⟩ := a
      have hc0 := hcell 0 (by omega)
      have hspot : spot = none := by simpa [Addr.add] using World.cell?_spot hc0
      subst hspot
      rw [addr_add] at hc0
      refine ⟨b, o, rfl, cell_lt hc0, fun j hj => ?_⟩
      rw [List.length_map, ht] at hj
      have := hcell j (by omega)
      rw [addr_add] at this
      rw [this, List.getElem?_map, List.getElem?_take_of_lt hj, List.getElem?_eq_getElem (by omega), List.getD_eq_getElem?_getD, List.getElem?_eq_getElem (by omega)]
      rfl
    · have h1 := bulk_slice (H := H) (lits .i64 (ss.take len)) (lits .i64 (ss.drop len))
      have h2 := bulk_len (H := H) (lits .i64 (ss.take len))
      have h3 : (lits (H := H) .i64 (ss.take len)).length = (ss.take len).length := by simp [lits]
      omega
/-- choosing an element a place. -/
theorem choose_list {α : Type} (n : Nat) (Q : Nat → α → Prop) (h : ∀ i, i < n → ∃ x, Q i x) : ∃ l : List α, l.length = n ∧ ∀ i x, l[i]? = some x → Q i x := by
  induction n with
  | zero => exact ⟨[], rfl, fun i x h => by simp at h⟩
  | succ n ih =>
    obtain ⟨l, hl, hq⟩ := ih (fun i hi => h i (by omega))
    obtain ⟨x, hx⟩ := h n (by omega)
    refine ⟨l ++ [x], by simp [hl], fun i y e => ?_⟩
    rcases Nat.lt_or_ge i n with hi | hi
    · rw [List.getElem?_append_left (by omega)] at e; exact hq i y e
    · have hi2 : i = n := by
        have := (List.getElem?_eq_some_iff.1 e).1
        simp [hl] at this
        omega
      subst hi2
      rw [List.getElem?_append_right (by omega), hl, Nat.sub_self] at e
      simp at e
      subst e
      exact hx
/-- a list of rows of numbers. -/
theorem read_rows {n : Nat} {cs : List Value} {d : DataW H} {p : List MemPlace} (h : DataW.trod enc Tryd.prog W 0 sp held n 42 cs = some (d, p)) : ∃ (v : Value) (rows : List (List Int)), cs = [v] ∧ RowsAt W v rows ∧ rows.length ≤ Rows.uptoBulk d ∧ ∀ r ∈ rows, r.length ≤ Rows.uptoBulk d := by
  rcases DataW.trod_slice Tryd.underlying42 h with ⟨rfl, hx⟩ | ⟨a, len, cap, elems, rest, m, _, rfl, hx, _, hl, hm, hlen, hel, _⟩
  · exact ⟨_, [], rfl, ⟨[], ⟨none, 0, rfl, by unfold maxLen; simp, fun hp => by simp at hp⟩, rfl, fun k r u e => by simp at e⟩, by simp, fun r hr => by cases hr⟩
  · injection hx with hd _
    subst hd
    rw [cellsR] at hel
    have key : ∀ i, i < len → ∃ x : Value × List Int, W.cell? (a.add i) = some x.1 ∧ RowAt W x.1 (intsV x.2) ∧ x.2.length ≤ Rows.uptoBulk (.slice (elems.map (·.1)) (rest.map (·.1))) := by
      intro i hi
      have hE := hel i hi
      rw [Nat.mul_one, List.getElem?_eq_getElem (by omega)] at hE
      obtain ⟨c1, hc1, hy⟩ := Option.bind_eq_some_iff.1 hE
      obtain ⟨v, zs, rfl, hr, hb⟩ := read_ints (d := elems[i].1) (p := elems[i].2) hy
      refine ⟨(v, zs), cell_of_cells?_one hc1, hr, Nat.le_trans hb (Nat.le_trans (bulk_part (l := elems.map (·.1)) ?_) (bulk_slice _ _))⟩
      exact List.mem_map.2 ⟨elems[i], List.getElem_mem _, rfl⟩
    obtain ⟨l, hll, hq⟩ := choose_list len _ key
    refine ⟨_, l.map (·.2), rfl, ⟨l.map (·.1), ⟨some a, cap, by rw [List.length_map, hll], by rw [List.length_map, hll]; omega, fun hp => ?_⟩, by simp, fun k r u e1 e2 => ?_⟩, ?_, ?_⟩
    · rw [List.length_map, hll] at hp
      obtain ⟨x0, hx0⟩ : ∃ x, l[0]? = some x := ⟨l[0]'(by omega), List.getElem?_eq_getElem _⟩
      have hc0 := (hq 0 x0 hx0).1
      obtain ⟨b, o, spot⟩ := a
      have hspot : spot = none := by simpa [Addr.add] using World.cell?_spot hc0
      subst hspot
      rw [addr_add] at hc0
      refine ⟨b, o, rfl, cell_lt hc0, fun j hj => ?_⟩
      rw [List.length_map] at hj
      have := (hq j _ (List.getElem?_eq_getElem hj)).1
      rw [addr_add] at this
      rw [this, List.getElem?_map, List.getElem?_eq_getElem hj]
      rfl
    · rw [List.getElem?_map] at e1 e2
      obtain ⟨x, hx, rfl⟩ := Option.map_eq_some_iff.1 e1
      obtain ⟨y, hy, rfl⟩ := Option.map_eq_some_iff.1 e2
      rw [hx] at hy
      injection hy with hy
      subst hy
      exact (hq k x hx).2.1
    · rw [List.length_map, hll]
      have h1 := bulk_slice (H := H) (elems.map (·.1)) (rest.map (·.1))
      have h2 := bulk_len (H := H) (elems.map (·.1))
      rw [List.length_map] at h2
      omega
    · intro r hr
      obtain ⟨x, hx, rfl⟩ := List.mem_map.1 hr
      obtain ⟨k, hk⟩ := List.getElem?_of_mem hx
      exact (hq k x hk).2.2
end
end Go.Proofs.YtfkeddkfegaeiaaDoor
