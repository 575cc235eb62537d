/-
  Part 31.
-/
import Derived.Test.YtfkeddkfegaeiaaGreatDoorRows
import Derived.Test.YtfkeddkfegaeiaaGreatDoorJ29
import Derived.Test.YtfkeddkfegaeiaaGreatDoorJ30
import Derived.ProofKit
import Derived.LaidMore
import Derived.LaidLaws
import Derived.OpenShut
namespace Go.Proofs.YtfkeddkfegaeiaaGreatDoor
open Go.ChangeShapes Go.WideShapes Go.ChangeAt Go.RowKit

/-- the twelve: name, number, text. -/
def tens : List (String × Nat × List UInt8) := [
  ("quarry/api.ErrLong", 0, [116, 111, 111, 32, 108, 111, 110, 103]),
  ("quarry/api.ErrByte", 1, [110, 111, 32, 115, 117, 99, 104, 32, 98, 121, 116, 101]),
  ("quarry/api.ErrNumber", 2, [116, 111, 111, 32, 103, 114, 101, 97, 116, 32, 97, 32, 110, 117, 109, 98, 101, 114]),
  ("quarry/api.ErrSyntax", 3, [110, 111, 116, 32, 97, 115, 32, 105, 116, 32, 109, 117, 115, 116, 32, 98, 101]),
  ("quarry/api.ErrTable", 5, [110, 111, 32, 115, 117, 99, 104, 32, 116, 97, 98, 108, 101]),
  ("quarry/api.ErrColumn", 6, [110, 111, 32, 115, 117, 99, 104, 32, 99, 111, 108, 117, 109, 110]),
  ("quarry/api.ErrTwice", 7, [116, 104, 101, 114, 101, 32, 116, 119, 105, 99, 101]),
  ("quarry/api.ErrWindow", 8, [97, 32, 119, 105, 110, 100, 111, 119, 32, 119, 104, 101, 114, 101, 32, 110, 111, 110, 101, 32, 109, 97, 121, 32, 98, 101]),
  ("quarry/api.ErrMany", 4, [116, 111, 111, 32, 109, 97, 110, 121]),
  ("quarry/api.ErrShape", 9, [111, 102, 32, 97, 110, 111, 116, 104, 101, 114, 32, 115, 104, 97, 112, 101]),
  ("strconv.ErrRange", 11, [118, 97, 108, 117, 101, 32, 111, 117, 116, 32, 111, 102, 32, 114, 97, 110, 103, 101]),
  ("strconv.ErrSyntax", 12, [105, 110, 118, 97, 108, 105, 100, 32, 115, 121, 110, 116, 97, 120])]
theorem tens_named : ∀ (i : Nat) (x : String × Nat × List UInt8), tens[i]? = some x → Tryz.prog.globalNamed x.1 = some x.2.1 ∧ (Tryz.prog.globals[x.2.1]?).map (·.type) = some 23 := by
  intro i x h
  have hi : i < 12 := by
    rcases Nat.lt_or_ge i 12 with h' | h'
    · exact h'
    · rw [List.getElem?_eq_none (by simpa [tens] using h')] at h; cases h
  match i, hi with
  | 0, _ | 1, _ | 2, _ | 3, _ | 4, _ | 5, _ | 6, _ | 7, _ | 8, _ | 9, _ | 10, _ | 11, _ =>
    simp only [tens, List.getElem?_cons_succ, List.getElem?_cons_zero, Option.some.injEq] at h
    subst h
    exact ⟨by kernel_rfl, by kernel_rfl⟩
theorem tens_index : ∀ (i j : Nat) (x y : String × Nat × List UInt8), tens[i]? = some x → tens[j]? = some y → x.2.2 = y.2.2 → i = j := by
  have h : ∀ i, i < 12 → ∀ j, j < 12 → (tens[i]?).map (·.2.2) = (tens[j]?).map (·.2.2) → i = j := by decide
  intro i j x y hx hy e
  have hb : ∀ {i x}, tens[i]? = some x → i < 12 := fun {i x} h => by
    rcases Nat.lt_or_ge i 12 with h' | h'
    · exact h'
    · rw [List.getElem?_eq_none (by simpa [tens] using h')] at h; cases h
  exact h i (hb hx) j (hb hy) (by rw [hx, hy]; simpa using e)
/-- where a variable stands in the list. -/
def posOf (j : Nat) : Nat := (tens.map (·.2.1)).idxOf j
theorem seven_twB : ∀ j, j < 13 → seven j = true → tw j = true := by decide
theorem seven_tw {j : Nat} (h : seven j = true) : tw j = true := seven_twB j (seven_lt h) h
theorem tens_numberB : ∀ j, j < 13 → tw j = true → (tens[posOf j]?).map (·.2.1) = some j := by decide
theorem pos_ltB : ∀ j, j < 13 → tw j = true → posOf j < 12 := by decide
theorem pos_neB : ∀ i, i < 13 → tw i = true → ∀ j, j < 13 → tw j = true → posOf i = posOf j → i = j := by decide

theorem env_of_sents {W : World} {ps : List MemPlace} (hv : DataW.LaidVars Tryz.prog W (tens.map fun x => (x.1, .iface "*errors.errorString" (.ptr (.agg [.lit (.string x.2.2)])))) ps)
    (hrows : ∀ b off, MemPlace.cell b off ∈ ps → (∃ c t, W.heap[b]? = some (.cells c t (0, 0))) ∧ ∀ u v, W.cell? ⟨b, off, none⟩ = some (.iface u v) → Value.okWide Tryz.prog W .any 0 u v) : ∃ a : Nat → Addr, EnvX a W.heap.size W := by
  obtain ⟨ads, hlen, hall⟩ := laid_many (P := Tryz.prog) (W := W) (nm := "*errors.errorString") Tryz.underlying23 rowEs Tryz.underlying496 Tryz.underlying498 rfl rfl Tryz.underlying9 cellsEs cellsStr tens ps tens_named hv hrows
  have hl : ads.length = 12 := hlen
  have key : ∀ j, tw j = true → ∃ x, tens[posOf j]? = some x ∧ x.2.1 = j ∧ ads[posOf j]? = some (ads.getD (posOf j) default) := fun j hj => by
    obtain ⟨x, hx, hxj⟩ := Option.map_eq_some_iff.1 (tens_numberB j (tw_lt hj) hj)
    exact ⟨x, hx, hxj, by rw [List.getD_eq_getElem?_getD, List.getElem?_eq_getElem (by rw [hl]; exact pos_ltB j (tw_lt hj) hj)]; rfl⟩
  have hcell : ∀ j, tw j = true → W.cell? ⟨j, 0, none⟩ = some (.iface 496 (.pointer (some (ads.getD (posOf j) default)))) := fun j hj => by
    obtain ⟨x, hx, hxj, ha⟩ := key j hj
    have := (hall (posOf j) x _ hx ha).1
    rwa [hxj] at this
  have hrow : ∀ j, tw j = true → ∃ c t, W.heap[(ads.getD (posOf j) default).block]? = some (.cells c t (0, 0)) := fun j hj => by
    obtain ⟨x, hx, hxj, ha⟩ := key j hj
    exact (hall (posOf j) x _ hx ha).2.2
  have hlow : 13 ≤ W.heap.size := by
    have h11 := hcell 12 (by decide)
    rcases Nat.lt_or_ge 12 W.heap.size with h' | h'
    · exact h'
    · simp [World.cell?, Array.getElem?_eq_none h'] at h11
  have hbelow : ∀ j, tw j = true → (ads.getD (posOf j) default).block < W.heap.size := fun j hj => by
    obtain ⟨c, t, h⟩ := hrow j hj
    exact lt_of_heap h
  have hne : ∀ i j, tw i = true → tw j = true → i ≠ j → ads.getD (posOf i) default ≠ ads.getD (posOf j) default := fun i j hi hj hij e' => by
    obtain ⟨x, hx, hxi, ha⟩ := key i hi
    obtain ⟨y, hy, hyj, hb⟩ := key j hj
    obtain ⟨s, hs, hst, _⟩ := (hall (posOf i) x _ hx ha).2.1
    obtain ⟨t, ht, htt, _⟩ := (hall (posOf j) y _ hy hb).2.1
    rw [e', ht] at hs
    have hst' : t = s := by injection hs with hs; injection hs
    subst hst'
    exact hij (pos_neB i (tw_lt hi) hi j (tw_lt hj) hj (tens_index (posOf i) (posOf j) x y hx hy (hst.symm.trans htt)))
  exact ⟨fun j => ads.getD (posOf j) default, ⟨⟨hlow, Nat.le_refl _, fun j hj => hcell j (seven_tw hj), fun j hj => hbelow j (seven_tw hj), fun j hj => hrow j (seven_tw hj), fun i j hi hj => hne i j (seven_tw hi) (seven_tw hj)⟩, hcell, hbelow, hrow, hne⟩⟩

theorem env_of_laid {W : World} (h : laidMet Tryz.prog Rows.namedRow.laid W) : ∃ a : Nat → Addr, EnvX a W.heap.size W := by
  obtain ⟨ps, hv, _, hrows⟩ := h
  obtain ⟨q1, h1, m1⟩ := laid_skip hv
  obtain ⟨q2, h2, m2⟩ := laid_skip h1
  obtain ⟨q3, h3, m3⟩ := laid_skip h2
  exact env_of_sents h3 (fun b off hm => hrows b off (m1 _ (m2 _ (m3 _ hm))))
end Go.Proofs.YtfkeddkfegaeiaaGreatDoor
