/-
  Part 30.
-/
import Derived.Test.YtfkeddkfegaeiaaGreatDoorRows
import Derived.Test.YtfkeddkfegaeiaaGreatDoorJ28
import Derived.ProofKit
import Derived.LaidMore
import Derived.LaidLaws
import Derived.OpenShut
namespace Go.Proofs.YtfkeddkfegaeiaaGreatDoor
open Go.ChangeShapes Go.WideShapes Go.ChangeAt Go.RowKit

/-- A list of sentinels (name, variable's number, text), as the condition lists them: each variable's cell, its pointee's cell and text, and that the pointee lies in a plain row. -/
theorem laid_many {P : Program} {W : World} {nm : String} {ti tp te ts : TypeId} {ms : Array (String × TypeId)} {f : Field}
    (hi : P.underlying ti = some (.interface ms)) (hrow : ∀ u, P.typeName? 3 u = some nm → u = tp)
    (hp : P.underlying tp = some (.pointer te)) (he : P.underlying te = some (.struct #[f])) (hft : f.type = ts) (hfo : f.offset = 0) (hs : P.underlying ts = some .string) (hc : P.cellsOf te = 1) (hcs : P.cellsOf ts = 1) :
    ∀ (l : List (String × Nat × List UInt8)) (ps : List MemPlace),
      (∀ (i : Nat) (x : String × Nat × List UInt8), l[i]? = some x → P.globalNamed x.1 = some x.2.1 ∧ (P.globals[x.2.1]?).map (·.type) = some ti) →
      DataW.LaidVars P W (l.map fun x => (x.1, .iface nm (.ptr (.agg [.lit (.string x.2.2)])))) ps →
      (∀ b off, MemPlace.cell b off ∈ ps → (∃ c t, W.heap[b]? = some (.cells c t (0, 0))) ∧ ∀ u v, W.cell? ⟨b, off, none⟩ = some (.iface u v) → Value.okWide P W .any 0 u v) →
      ∃ ads : List Addr, ads.length = l.length ∧ ∀ (i : Nat) (x : String × Nat × List UInt8) (a : Addr), l[i]? = some x → ads[i]? = some a →
        W.cell? ⟨x.2.1, 0, none⟩ = some (.iface tp (.pointer (some a))) ∧ (∃ s : ByteArray, W.cell? a = some (.string s) ∧ s.data.toList = x.2.2 ∧ s.size ≤ maxLen) ∧ ∃ c t, W.heap[a.block]? = some (.cells c t (0, 0))
  | [], _, _, _, _ => ⟨[], rfl, fun i x a h => by simp at h⟩
  | (n, g, text) :: r, ps, hg, hv, hrows => by
    obtain ⟨g0, t0, cs0, f0, p0, q0, hg0, ht0, hv0, hd0, hq, e0⟩ := hv
    obtain ⟨hgn, hgt⟩ := hg 0 _ rfl
    obtain rfl := Option.some.inj (hgn.symm.trans hg0)
    obtain rfl := Option.some.inj (hgt.symm.trans ht0)
    subst e0
    obtain ⟨l0⟩ := cs0
    have ok0 : ∀ u v, l0 = [.iface u v] → Value.okWide P W .any 0 u v := fun u v e => by
      subst e
      exact (hrows g 0 (by simp [MemPlace.row])).2 u v (by simpa using World.var?_cell hg0 hv0 0)
    obtain ⟨a0, s0, rfl, hc0, hs0, hz0, rfl⟩ := errorString_of_trod hi hrow hp he hft hfo hs hc hcs hd0 ok0
    obtain ⟨ads, hlen, hall⟩ := laid_many hi hrow hp he hft hfo hs hc hcs r q0 (fun i x h => hg (i + 1) x (by simpa using h)) hq (fun b off hm => hrows b off (List.mem_append_right _ hm))
    refine ⟨a0 :: ads, by simp [hlen], fun i x a h1 h2 => ?_⟩
    match i, h1, h2 with
    | 0, h1, h2 =>
      simp only [List.getElem?_cons_zero, Option.some.injEq] at h1 h2
      subst h1; subst h2
      exact ⟨by simpa using World.var?_cell hg0 hv0 0, ⟨s0, hc0, hs0, hz0⟩, (hrows a0.block a0.off (by simp [MemPlace.row])).1⟩
    | i + 1, h1, h2 => exact hall i x a (by simpa using h1) (by simpa using h2)

theorem own : ownKnob Tryz.prog.godebug = none := by kernel_rfl
theorem cellsEs : Tryz.prog.cellsOf 498 = 1 := by kernel_rfl
theorem cellsStr : Tryz.prog.cellsOf 9 = 1 := by kernel_rfl
theorem star : "*" ++ "errors.errorString" = "*errors.errorString" := by decide
theorem rowEs (u : TypeId) (h : Tryz.prog.typeName? 3 u = some "*errors.errorString") : u = 496 :=
  typeName_ptr_named (nm := "errors.errorString") (by rw [star]; kernel_rfl) (by kernel_rfl) (by decide) u (by rw [star]; exact h)

/-- three listed tables ahead of them. -/
theorem laid_skip {P : Program} {W : World} {n : String} {d : DataW Unit} {r : List (String × DataW Unit)} {ps : List MemPlace} (h : DataW.LaidVars P W ((n, d) :: r) ps) : ∃ qs, DataW.LaidVars P W r qs ∧ ∀ m, m ∈ qs → m ∈ ps := by
  obtain ⟨g0, t0, cs0, f0, p0, q0, hg0, ht0, hv0, hd0, hq, e0⟩ := h
  exact ⟨q0, hq, fun m hm => by rw [e0]; simp [hm]⟩

/-- the seven: name, number, text. -/
def sevs : List (String × Nat × List UInt8) := [
  ("quarry/api.ErrLong", 0, [116, 111, 111, 32, 108, 111, 110, 103]),
  ("quarry/api.ErrByte", 1, [110, 111, 32, 115, 117, 99, 104, 32, 98, 121, 116, 101]),
  ("quarry/api.ErrNumber", 2, [116, 111, 111, 32, 103, 114, 101, 97, 116, 32, 97, 32, 110, 117, 109, 98, 101, 114]),
  ("quarry/api.ErrSyntax", 3, [110, 111, 116, 32, 97, 115, 32, 105, 116, 32, 109, 117, 115, 116, 32, 98, 101]),
  ("quarry/api.ErrMany", 4, [116, 111, 111, 32, 109, 97, 110, 121]),
  ("strconv.ErrRange", 11, [118, 97, 108, 117, 101, 32, 111, 117, 116, 32, 111, 102, 32, 114, 97, 110, 103, 101]),
  ("strconv.ErrSyntax", 12, [105, 110, 118, 97, 108, 105, 100, 32, 115, 121, 110, 116, 97, 120])]
theorem sevs_named : ∀ (i : Nat) (x : String × Nat × List UInt8), sevs[i]? = some x → Tryz.prog.globalNamed x.1 = some x.2.1 ∧ (Tryz.prog.globals[x.2.1]?).map (·.type) = some 23 := by
  intro i x h
  have hi : i < 7 := by
    rcases Nat.lt_or_ge i 7 with h' | h'
    · exact h'
    · rw [List.getElem?_eq_none (by simpa [sevs] using h')] at h; cases h
  match i, hi with
  | 0, _ | 1, _ | 2, _ | 3, _ | 4, _ | 5, _ | 6, _ =>
    simp only [sevs, List.getElem?_cons_succ, List.getElem?_cons_zero, Option.some.injEq] at h
    subst h
    exact ⟨by kernel_rfl, by kernel_rfl⟩
theorem sevs_index : ∀ (i j : Nat) (x y : String × Nat × List UInt8), sevs[i]? = some x → sevs[j]? = some y → x.2.2 = y.2.2 → i = j := by
  have h : ∀ i, i < 7 → ∀ j, j < 7 → (sevs[i]?).map (·.2.2) = (sevs[j]?).map (·.2.2) → i = j := by decide
  intro i j x y hx hy e
  have hb : ∀ {i x}, sevs[i]? = some x → i < 7 := fun {i x} h => by
    rcases Nat.lt_or_ge i 7 with h' | h'
    · exact h'
    · rw [List.getElem?_eq_none (by simpa [sevs] using h')] at h; cases h
  exact h i (hb hx) j (hb hy) (by rw [hx, hy]; simpa using e)
def posV (j : Nat) : Nat := (sevs.map (·.2.1)).idxOf j
theorem sevs_numB : ∀ j, j < 13 → seven j = true → (sevs[posV j]?).map (·.2.1) = some j := by decide
theorem posV_ltB : ∀ j, j < 13 → seven j = true → posV j < 7 := by decide
theorem posV_neB : ∀ i, i < 13 → seven i = true → ∀ j, j < 13 → seven j = true → posV i = posV j → i = j := by decide

theorem env7_of_sents {W : World} {ps : List MemPlace} (hv : DataW.LaidVars Tryz.prog W (sevs.map fun x => (x.1, .iface "*errors.errorString" (.ptr (.agg [.lit (.string x.2.2)])))) ps)
    (hrows : ∀ b off, MemPlace.cell b off ∈ ps → (∃ c t, W.heap[b]? = some (.cells c t (0, 0))) ∧ ∀ u v, W.cell? ⟨b, off, none⟩ = some (.iface u v) → Value.okWide Tryz.prog W .any 0 u v) : ∃ a : Nat → Addr, Env a W.heap.size W := by
  obtain ⟨ads, hlen, hall⟩ := laid_many (P := Tryz.prog) (W := W) (nm := "*errors.errorString") Tryz.underlying23 rowEs Tryz.underlying496 Tryz.underlying498 rfl rfl Tryz.underlying9 cellsEs cellsStr sevs ps sevs_named hv hrows
  have hl : ads.length = 7 := hlen
  have key : ∀ j, seven j = true → ∃ x, sevs[posV j]? = some x ∧ x.2.1 = j ∧ ads[posV j]? = some (ads.getD (posV j) default) := fun j hj => by
    obtain ⟨x, hx, hxj⟩ := Option.map_eq_some_iff.1 (sevs_numB j (seven_lt hj) hj)
    exact ⟨x, hx, hxj, by rw [List.getD_eq_getElem?_getD, List.getElem?_eq_getElem (by rw [hl]; exact posV_ltB j (seven_lt hj) hj)]; rfl⟩
  have hcell : ∀ j, seven j = true → W.cell? ⟨j, 0, none⟩ = some (.iface 496 (.pointer (some (ads.getD (posV j) default)))) := fun j hj => by
    obtain ⟨x, hx, hxj, ha⟩ := key j hj
    have := (hall (posV j) x _ hx ha).1
    rwa [hxj] at this
  have hrow : ∀ j, seven j = true → ∃ c t, W.heap[(ads.getD (posV j) default).block]? = some (.cells c t (0, 0)) := fun j hj => by
    obtain ⟨x, hx, hxj, ha⟩ := key j hj
    exact (hall (posV j) x _ hx ha).2.2
  refine ⟨fun j => ads.getD (posV j) default, ⟨?_, Nat.le_refl _, hcell, fun j hj => ?_, hrow, fun i j hi hj hij e => ?_⟩⟩
  · have h11 := hcell 12 (by decide)
    rcases Nat.lt_or_ge 12 W.heap.size with h' | h'
    · exact h'
    · simp [World.cell?, Array.getElem?_eq_none h'] at h11
  · obtain ⟨c, t, h⟩ := hrow j hj
    exact lt_of_heap h
  · obtain ⟨x, hx, hxi, ha⟩ := key i hi
    obtain ⟨y, hy, hyj, hb⟩ := key j hj
    obtain ⟨s, hs, hst, _⟩ := (hall (posV i) x _ hx ha).2.1
    obtain ⟨t, ht, htt, _⟩ := (hall (posV j) y _ hy hb).2.1
    have e' : ads.getD (posV i) default = ads.getD (posV j) default := e
    rw [e', ht] at hs
    have hst' : t = s := by injection hs with hs; injection hs
    subst hst'
    exact hij (posV_neB i (seven_lt hi) hi j (seven_lt hj) hj (sevs_index (posV i) (posV j) x y hx hy (hst.symm.trans htt)))
theorem env7_of_laid {W : World} (h : laidMet Tryz.prog Rows.anewRow.laid W) : ∃ a : Nat → Addr, Env a W.heap.size W := by
  obtain ⟨ps, hv, _, hrows⟩ := h
  obtain ⟨q1, h1, m1⟩ := laid_skip hv
  obtain ⟨q2, h2, m2⟩ := laid_skip h1
  obtain ⟨q3, h3, m3⟩ := laid_skip h2
  exact env7_of_sents h3 (fun b off hm => hrows b off (m1 _ (m2 _ (m3 _ hm))))
end Go.Proofs.YtfkeddkfegaeiaaGreatDoor
