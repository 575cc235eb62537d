/-
  Part 51.
-/
import Derived.Test.YtfkeddkfegaeiaaGreatDoorRows
import Derived.Test.YtfkeddkfegaeiaaGreatDoorMvTli
import Derived.ProofKit
import Derived.LaidMore
import Derived.LaidLaws
import Derived.OpenShut
import Derived.Test.YtfkeddkfegaeiaaGreatDoorMvNwG
import Derived.Test.YtfkeddkfegaeiaaGreatDoorChecked
import Derived.JoinedOf
import Derived.KernelRfl
import Derived.SevenTiedAt
namespace Go.Proofs.YtfkeddkfegaeiaaGreatDoor
open Go.ChangeShapes Go.WideShapes Go.ChangeAt Go.RowKit
/-- A list of sentinels (name, variable's number, text), as the condition lists them: each variable's cell, its pointee's cell and text, and that the pointee lies in a plain row. -/
theorem laid_many {P : Program} {W : World} {nm : String} {ti tp te ts : TypeId} {ms : Array (String × TypeId)} {f : Field}
    (hi : P.underlying ti = some (.interface ms)) (hrow : ∀ u, P.typeName? 3 u = some nm → u = tp)
    (hp : P.underlying tp = some (.pointer te)) (he : P.underlying te = some (.struct #[f])) (hft : f.type = ts) (hfo : f.offset = 0) (hs : P.underlying ts = some .string) (hc : P.cellsOf te = 1) (hcs : P.cellsOf ts = 1) :
    ∀ (l : List (String × Nat × List UInt8)) (ps : List MemPlace),
      (∀ (i : Nat) (x : String × Nat × List UInt8), l[i]? = some x → P.globalNamed x.1 = some x.2.1 ∧ (P.globals[x.2.1]?).map (·.type) = some ti) →
      DataW.LaidVars P W (l.map fun x => (x.1, .iface nm (.ptr (.agg [.lit (.string x.2.2)])))) ps →
      (∀ b off, MemPlace.cell b off ∈ ps → (∃ c t, W.heap[b]? = some (.cells c t (0, 0))) ∧ ∀ u v, W.cell? ⟨b, off, none⟩ = some (.iface u v) → Value.okWide P W .any 0 u v) →
      ∃ ads : List Addr, ads.length = l.length ∧ ∀ (i : Nat) (x : String × Nat × List UInt8) (a : Addr), l[i]? = some x → ads[i]? = some a →
        W.cell? ⟨x.2.1, 0, none⟩ = some (.iface tp (.pointer (some a))) ∧ (∃ s : ByteArray, W.cell? a = some (.string s) ∧ s.data.toList = x.2.2 ∧ s.size ≤ maxLen) ∧ ∃ c t, W.heap[a.block]? = some (.cells c t (0, 0))
  | [], _, _, _, _ => ⟨[], rfl, fun i x a h => by simp at h⟩
  | (n, g, text) :: r, ps, hg, hv, hrows => by
    obtain ⟨g0, t0, cs0, f0, p0, q0, hg0, ht0, hv0, hd0, hq, e0⟩ := hv
    obtain ⟨hgn, hgt⟩ := hg 0 _ rfl
    obtain rfl := Option.some.inj (hgn.symm.trans hg0)
    obtain rfl := Option.some.inj (hgt.symm.trans ht0)
    subst e0
    obtain ⟨l0⟩ := cs0
    have ok0 : ∀ u v, l0 = [.iface u v] → Value.okWide P W .any 0 u v := fun u v e => by
      subst e
      exact (hrows g 0 (by simp [MemPlace.row])).2 u v (by simpa using World.var?_cell hg0 hv0 0)
    obtain ⟨a0, s0, rfl, hc0, hs0, hz0, rfl⟩ := errorString_of_trod hi hrow hp he hft hfo hs hc hcs hd0 ok0
    obtain ⟨ads, hlen, hall⟩ := laid_many hi hrow hp he hft hfo hs hc hcs r q0 (fun i x h => hg (i + 1) x (by simpa using h)) hq (fun b off hm => hrows b off (List.mem_append_right _ hm))
    refine ⟨a0 :: ads, by simp [hlen], fun i x a h1 h2 => ?_⟩
    match i, h1, h2 with
    | 0, h1, h2 =>
      simp only [List.getElem?_cons_zero, Option.some.injEq] at h1 h2
      subst h1; subst h2
      exact ⟨by simpa using World.var?_cell hg0 hv0 0, ⟨s0, hc0, hs0, hz0⟩, (hrows a0.block a0.off (by simp [MemPlace.row])).1⟩
    | i + 1, h1, h2 => exact hall i x a (by simpa using h1) (by simpa using h2)
theorem own : ownKnob Tryz.prog.godebug = none := by kernel_rfl
theorem cellsEs : Tryz.prog.cellsOf 498 = 1 := by kernel_rfl
theorem cellsStr : Tryz.prog.cellsOf 9 = 1 := by kernel_rfl
theorem star : "*" ++ "errors.errorString" = "*errors.errorString" := by decide
theorem rowEs (u : TypeId) (h : Tryz.prog.typeName? 3 u = some "*errors.errorString") : u = 496 :=
  typeName_ptr_named (nm := "errors.errorString") (by rw [star]; kernel_rfl) (by kernel_rfl) (by decide) u (by rw [star]; exact h)
/-- three listed tables ahead of them. -/
theorem laid_skip {P : Program} {W : World} {n : String} {d : DataW Unit} {r : List (String × DataW Unit)} {ps : List MemPlace} (h : DataW.LaidVars P W ((n, d) :: r) ps) : ∃ qs, DataW.LaidVars P W r qs ∧ ∀ m, m ∈ qs → m ∈ ps := by
  obtain ⟨g0, t0, cs0, f0, p0, q0, hg0, ht0, hv0, hd0, hq, e0⟩ := h
  exact ⟨q0, hq, fun m hm => by rw [e0]; simp [hm]⟩
end Go.Proofs.YtfkeddkfegaeiaaGreatDoor
namespace Go.Proofs.YtfkeddkfegaeiaaGreatDoor
open Go.ChangeShapes Go.WideShapes Go.ChangeAt Go.RowKit
/-- the twelve: name, number, text. -/
def tens : List (String × Nat × List UInt8) := [
  ("quarry/api.ErrLong", 0, [116, 111, 111, 32, 108, 111, 110, 103]),
  ("quarry/api.ErrByte", 1, [110, 111, 32, 115, 117, 99, 104, 32, 98, 121, 116, 101]),
  ("quarry/api.ErrNumber", 2, [116, 111, 111, 32, 103, 114, 101, 97, 116, 32, 97, 32, 110, 117, 109, 98, 101, 114]),
  ("quarry/api.ErrSyntax", 3, [110, 111, 116, 32, 97, 115, 32, 105, 116, 32, 109, 117, 115, 116, 32, 98, 101]),
  ("quarry/api.ErrTable", 5, [110, 111, 32, 115, 117, 99, 104, 32, 116, 97, 98, 108, 101]),
  ("quarry/api.ErrColumn", 6, [110, 111, 32, 115, 117, 99, 104, 32, 99, 111, 108, 117, 109, 110]),
  ("quarry/api.ErrTwice", 7, [116, 104, 101, 114, 101, 32, 116, 119, 105, 99, 101]),
  ("quarry/api.ErrWindow", 8, [97, 32, 119, 105, 110, 100, 111, 119, 32, 119, 104, 101, 114, 101, 32, 110, 111, 110, 101, 32, 109, 97, 121, 32, 98, 101]),
  ("quarry/api.ErrMany", 4, [116, 111, 111, 32, 109, 97, 110, 121]),
  ("quarry/api.ErrShape", 9, [111, 102, 32, 97, 110, 111, 116, 104, 101, 114, 32, 115, 104, 97, 112, 101]),
  ("strconv.ErrRange", 11, [118, 97, 108, 117, 101, 32, 111, 117, 116, 32, 111, 102, 32, 114, 97, 110, 103, 101]),
  ("strconv.ErrSyntax", 12, [105, 110, 118, 97, 108, 105, 100, 32, 115, 121, 110, 116, 97, 120])]
theorem tens_named : ∀ (i : Nat) (x : String × Nat × List UInt8), tens[i]? = some x → Tryz.prog.globalNamed x.1 = some x.2.1 ∧ (Tryz.prog.globals[x.2.1]?).map (·.type) = some 23 := by
  intro i x h
  have hi : i < 12 := by
    rcases Nat.lt_or_ge i 12 with h' | h'
    · exact h'
    · rw [List.getElem?_eq_none (by simpa [tens] using h')] at h; cases h
  match i, hi with
  | 0, _ | 1, _ | 2, _ | 3, _ | 4, _ | 5, _ | 6, _ | 7, _ | 8, _ | 9, _ | 10, _ | 11, _ =>
    simp only [tens, List.getElem?_cons_succ, List.getElem?_cons_zero, Option.some.injEq] at h
    subst h
    exact ⟨by kernel_rfl, by kernel_rfl⟩
theorem tens_index : ∀ (i j : Nat) (x y : String × Nat × List UInt8), tens[i]? = some x → tens[j]? = some y → x.2.2 = y.2.2 → i = j := by
  have h : ∀ i, i < 12 → ∀ j, j < 12 → (tens[i]?).map (·.2.2) = (tens[j]?).map (·.2.2) → i = j := by decide
  intro i j x y hx hy e
  have hb : ∀ {i x}, tens[i]? = some x → i < 12 := fun {i x} h => by
    rcases Nat.lt_or_ge i 12 with h' | h'
    · exact h'
    · rw [List.getElem?_eq_none (by simpa [tens] using h')] at h; cases h
  exact h i (hb hx) j (hb hy) (by rw [hx, hy]; simpa using e)
/-- where a variable stands in the list. -/
def posOf (j : Nat) : Nat := (tens.map (·.2.1)).idxOf j
theorem seven_twB : ∀ j, j < 13 → seven j = true → tw j = true := by decide
theorem seven_tw {j : Nat} (h : seven j = true) : tw j = true := seven_twB j (seven_lt h) h
theorem tens_numberB : ∀ j, j < 13 → tw j = true → (tens[posOf j]?).map (·.2.1) = some j := by decide
theorem pos_ltB : ∀ j, j < 13 → tw j = true → posOf j < 12 := by decide
theorem pos_neB : ∀ i, i < 13 → tw i = true → ∀ j, j < 13 → tw j = true → posOf i = posOf j → i = j := by decide
theorem env_of_sents {W : World} {ps : List MemPlace} (hv : DataW.LaidVars Tryz.prog W (tens.map fun x => (x.1, .iface "*errors.errorString" (.ptr (.agg [.lit (.string x.2.2)])))) ps)
    (hrows : ∀ b off, MemPlace.cell b off ∈ ps → (∃ c t, W.heap[b]? = some (.cells c t (0, 0))) ∧ ∀ u v, W.cell? ⟨b, off, none⟩ = some (.iface u v) → Value.okWide Tryz.prog W .any 0 u v) : ∃ a : Nat → Addr, EnvX a W.heap.size W := by
  obtain ⟨ads, hlen, hall⟩ := laid_many (P := Tryz.prog) (W := W) (nm := "*errors.errorString") Tryz.underlying23 rowEs Tryz.underlying496 Tryz.underlying498 rfl rfl Tryz.underlying9 cellsEs cellsStr tens ps tens_named hv hrows
  have hl : ads.length = 12 := hlen
  have key : ∀ j, tw j = true → ∃ x, tens[posOf j]? = some x ∧ x.2.1 = j ∧ ads[posOf j]? = some (ads.getD (posOf j) default) := fun j hj => by
    obtain ⟨x, hx, hxj⟩ := Option.map_eq_some_iff.1 (tens_numberB j (tw_lt hj) hj)
    exact ⟨x, hx, hxj, by rw [List.getD_eq_getElem?_getD, List.getElem?_eq_getElem (by rw [hl]; exact pos_ltB j (tw_lt hj) hj)]; rfl⟩
  have hcell : ∀ j, tw j = true → W.cell? ⟨j, 0, none⟩ = some (.iface 496 (.pointer (some (ads.getD (posOf j) default)))) := fun j hj => by
    obtain ⟨x, hx, hxj, ha⟩ := key j hj
    have := (hall (posOf j) x _ hx ha).1
    rwa [hxj] at this
  have hrow : ∀ j, tw j = true → ∃ c t, W.heap[(ads.getD (posOf j) default).block]? = some (.cells c t (0, 0)) := fun j hj => by
    obtain ⟨x, hx, hxj, ha⟩ := key j hj
    exact (hall (posOf j) x _ hx ha).2.2
  have hlow : 13 ≤ W.heap.size := by
    have h11 := hcell 12 (by decide)
    rcases Nat.lt_or_ge 12 W.heap.size with h' | h'
    · exact h'
    · simp [World.cell?, Array.getElem?_eq_none h'] at h11
  have hbelow : ∀ j, tw j = true → (ads.getD (posOf j) default).block < W.heap.size := fun j hj => by
    obtain ⟨c, t, h⟩ := hrow j hj
    exact lt_of_heap h
  have hne : ∀ i j, tw i = true → tw j = true → i ≠ j → ads.getD (posOf i) default ≠ ads.getD (posOf j) default := fun i j hi hj hij e' => by
    obtain ⟨x, hx, hxi, ha⟩ := key i hi
    obtain ⟨y, hy, hyj, hb⟩ := key j hj
    obtain ⟨s, hs, hst, _⟩ := (hall (posOf i) x _ hx ha).2.1
    obtain ⟨t, ht, htt, _⟩ := (hall (posOf j) y _ hy hb).2.1
    rw [e', ht] at hs
    have hst' : t = s := by injection hs with hs; injection hs
    subst hst'
    exact hij (pos_neB i (tw_lt hi) hi j (tw_lt hj) hj (tens_index (posOf i) (posOf j) x y hx hy (hst.symm.trans htt)))
  exact ⟨fun j => ads.getD (posOf j) default, ⟨⟨hlow, Nat.le_refl _, fun j hj => hcell j (seven_tw hj), fun j hj => hbelow j (seven_tw hj), fun j hj => hrow j (seven_tw hj), fun i j hi hj => hne i j (seven_tw hi) (seven_tw hj)⟩, hcell, hbelow, hrow, hne⟩⟩
theorem env_of_laid {W : World} (h : laidMet Tryz.prog Rows.namedRow.laid W) : ∃ a : Nat → Addr, EnvX a W.heap.size W := by
  obtain ⟨ps, hv, _, hrows⟩ := h
  obtain ⟨q1, h1, m1⟩ := laid_skip hv
  obtain ⟨q2, h2, m2⟩ := laid_skip h1
  obtain ⟨q3, h3, m3⟩ := laid_skip h2
  exact env_of_sents h3 (fun b off hm => hrows b off (m1 _ (m2 _ (m3 _ hm))))
end Go.Proofs.YtfkeddkfegaeiaaGreatDoor
namespace Go.Proofs.YtfkeddkfegaeiaaGreatDoor
theorem moves_f1 : laidOutB Tryz.prog = true := by kernel_rfl
theorem moves_f2 : (Rows.movesRow.inPlace == Tryz.prog.inPlace 10) = true := by kernel_rfl
theorem moves_f3 : (Rows.movesRow.unfollowed == Tryz.prog.unfollowed 10) = true := by kernel_rfl
theorem moves_f4 : (Rows.movesRow.recurses == Tryz.prog.recurses 10) = true := by kernel_rfl
theorem moves_f5 : (Rows.movesRow.named == Tryz.prog.varsNamed 10) = true := by kernel_rfl
theorem moves_closed : joinedFacts Tryz.prog 10 Tryz.f10 Rows.movesSpec Rows.movesRow = true := by
  unfold joinedFacts
  rw [moves_f1, moves_f2, moves_f3, moves_f4, moves_f5]
  kernel_rfl
end Go.Proofs.YtfkeddkfegaeiaaGreatDoor
namespace Go.Proofs.YtfkeddkfegaeiaaGreatDoor
open Go
theorem card_goes {s : OpenSpec} {c : OpenClaim} (kinds : List LaidKind) (har : Bool × String) (g : Bool)
    (hc : c.holds Tryz.pinned s) (hw : c.wfByText s = true) (htie : c.laidByTextAt .later Tryz.pinned kinds true) (hst : c.start = .entering) (hnb : c.noBlocks = false ∧ c.again = false)
    (hm : Tryz.pinned.checked.prog.mainIs = some (har.1, har.2.toList))
    (hl : ∀ f fn, Tryz.pinned.checked.prog.funcNamed c.func = some f → Tryz.pinned.checked.prog.funcs[f]? = some fn → true = Tryz.pinned.checked.prog.looks [] ∧ ∀ (j : Nat) t, fn.params[j]? = some t → Tryz.pinned.checked.prog.wantsStandIn t = false)
    (hg : g = c.goesBy Tryz.pinned.checked.prog) :
    Claim7.holds Tryz.pinned (.plain s) { stood := { row := c, standIns := [], harness := har, looks := true }, kinds := [], alts := [], goes := g, laidByText := true, laidKinds := kinds, laidTests := true, laidLooks := .later } := by
  have h6 : Claim7.isSixth { stood := { row := c, standIns := [], harness := har, looks := true }, kinds := [] } = false := by simp [Claim7.isSixth]
  exact ⟨Claim7.tied_new_at .later kinds true (Claim7.new_of_sixth hc har true hst hnb hm h6 hl) hw, (fun D hD => by cases hD), htie, (fun h => by cases h), hg⟩
end Go.Proofs.YtfkeddkfegaeiaaGreatDoor
