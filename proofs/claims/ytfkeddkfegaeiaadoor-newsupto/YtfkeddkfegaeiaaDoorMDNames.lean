/-
  Part 4.
-/
import Derived.Test.YtfkeddkfegaeiaaDoorRows
import Derived.Test.YtfkeddkfegaeiaaDoorMDWalks
import Derived.Test.YtfkeddkfegaeiaaDoorTie
import Derived.Test.YtfkeddkfegaeiaaDoorCards
import Derived.ProofKit
import Derived.LaidMore
import Derived.LaidLaws
import Derived.OpenShut
import Derived.SevenTiedAt
namespace Go.Proofs.YtfkeddkfegaeiaaDoor
open Go.ChangeShapes Go.WideShapes Go.ChangeAt Go.RowKit

/-- A list of sentinels (name, variable's number, text), as the condition lists them: each variable's cell, its pointee's cell and text, and that the pointee lies in a plain row. -/
theorem laid_many {P : Program} {W : World} {nm : String} {ti tp te ts : TypeId} {ms : Array (String × TypeId)} {f : Field}
    (hi : P.underlying ti = some (.interface ms)) (hrow : ∀ u, P.typeName? 3 u = some nm → u = tp)
    (hp : P.underlying tp = some (.pointer te)) (he : P.underlying te = some (.struct #[f])) (hft : f.type = ts) (hfo : f.offset = 0) (hs : P.underlying ts = some .string) (hc : P.cellsOf te = 1) (hcs : P.cellsOf ts = 1) :
    ∀ (l : List (String × Nat × List UInt8)) (ps : List MemPlace),
      (∀ (i : Nat) (x : String × Nat × List UInt8), l[i]? = some x → P.globalNamed x.1 = some x.2.1 ∧ (P.globals[x.2.1]?).map (·.type) = some ti) →
      DataW.LaidVars P W (l.map fun x => (x.1, .iface nm (.ptr (.agg [.lit (.string x.2.2)])))) ps →
      (∀ b off, MemPlace.cell b off ∈ ps → (∃ c t, W.heap[b]? = some (.cells c t (0, 0))) ∧ ∀ u v, W.cell? ⟨b, off, none⟩ = some (.iface u v) → Value.okWide P W .any 0 u v) →
      ∃ ads : List Addr, ads.length = l.length ∧ ∀ (i : Nat) (x : String × Nat × List UInt8) (a : Addr), l[i]? = some x → ads[i]? = some a →
        W.cell? ⟨x.2.1, 0, none⟩ = some (.iface tp (.pointer (some a))) ∧ (∃ s : ByteArray, W.cell? a = some (.string s) ∧ s.data.toList = x.2.2 ∧ s.size ≤ maxLen) ∧ ∃ c t, W.heap[a.block]? = some (.cells c t (0, 0))
  | [], _, _, _, _ => ⟨[], rfl, fun i x a h => by simp at h⟩
  | (n, g, text) :: r, ps, hg, hv, hrows => by
    obtain ⟨g0, t0, cs0, f0, p0, q0, hg0, ht0, hv0, hd0, hq, e0⟩ := hv
    obtain ⟨hgn, hgt⟩ := hg 0 _ rfl
    obtain rfl := Option.some.inj (hgn.symm.trans hg0)
    obtain rfl := Option.some.inj (hgt.symm.trans ht0)
    subst e0
    obtain ⟨l0⟩ := cs0
    have ok0 : ∀ u v, l0 = [.iface u v] → Value.okWide P W .any 0 u v := fun u v e => by
      subst e
      exact (hrows g 0 (by simp [MemPlace.row])).2 u v (by simpa using World.var?_cell hg0 hv0 0)
    obtain ⟨a0, s0, rfl, hc0, hs0, hz0, rfl⟩ := errorString_of_trod hi hrow hp he hft hfo hs hc hcs hd0 ok0
    obtain ⟨ads, hlen, hall⟩ := laid_many hi hrow hp he hft hfo hs hc hcs r q0 (fun i x h => hg (i + 1) x (by simpa using h)) hq (fun b off hm => hrows b off (List.mem_append_right _ hm))
    refine ⟨a0 :: ads, by simp [hlen], fun i x a h1 h2 => ?_⟩
    match i, h1, h2 with
    | 0, h1, h2 =>
      simp only [List.getElem?_cons_zero, Option.some.injEq] at h1 h2
      subst h1; subst h2
      exact ⟨by simpa using World.var?_cell hg0 hv0 0, ⟨s0, hc0, hs0, hz0⟩, (hrows a0.block a0.off (by simp [MemPlace.row])).1⟩
    | i + 1, h1, h2 => exact hall i x a (by simpa using h1) (by simpa using h2)

theorem own : ownKnob Tryd.prog.godebug = none := by kernel_rfl
theorem cells45 : Tryd.prog.cellsOf 120 = 1 := by kernel_rfl
theorem cells9 : Tryd.prog.cellsOf 9 = 1 := by kernel_rfl
theorem star : "*" ++ "errors.errorString" = "*errors.errorString" := by decide
theorem row27 (u : TypeId) (h : Tryd.prog.typeName? 3 u = some "*errors.errorString") : u = 100 :=
  typeName_ptr_named (nm := "errors.errorString") (by rw [star]; kernel_rfl) (by kernel_rfl) (by decide) u (by rw [star]; exact h)

/-- the ten: name, number, text. -/
def tens : List (String × Nat × List UInt8) := [
  ("quarry/api.ErrLong", 0, [116, 111, 111, 32, 108, 111, 110, 103]),
  ("quarry/api.ErrByte", 1, [110, 111, 32, 115, 117, 99, 104, 32, 98, 121, 116, 101]),
  ("quarry/api.ErrNumber", 2, [116, 111, 111, 32, 103, 114, 101, 97, 116, 32, 97, 32, 110, 117, 109, 98, 101, 114]),
  ("quarry/api.ErrSyntax", 3, [110, 111, 116, 32, 97, 115, 32, 105, 116, 32, 109, 117, 115, 116, 32, 98, 101]),
  ("quarry/api.ErrTable", 4, [110, 111, 32, 115, 117, 99, 104, 32, 116, 97, 98, 108, 101]),
  ("quarry/api.ErrColumn", 5, [110, 111, 32, 115, 117, 99, 104, 32, 99, 111, 108, 117, 109, 110]),
  ("quarry/api.ErrTwice", 6, [116, 104, 101, 114, 101, 32, 116, 119, 105, 99, 101]),
  ("quarry/api.ErrWindow", 7, [97, 32, 119, 105, 110, 100, 111, 119, 32, 119, 104, 101, 114, 101, 32, 110, 111, 110, 101, 32, 109, 97, 121, 32, 98, 101]),
  ("quarry/api.ErrMany", 8, [116, 111, 111, 32, 109, 97, 110, 121]),
  ("quarry/api.ErrShape", 9, [111, 102, 32, 97, 110, 111, 116, 104, 101, 114, 32, 115, 104, 97, 112, 101])]

theorem tens_named : ∀ (i : Nat) (x : String × Nat × List UInt8), tens[i]? = some x → Tryd.prog.globalNamed x.1 = some x.2.1 ∧ (Tryd.prog.globals[x.2.1]?).map (·.type) = some 23 := by
  intro i x h
  have hi : i < 10 := by
    rcases Nat.lt_or_ge i 10 with h' | h'
    · exact h'
    · rw [List.getElem?_eq_none (by simpa [tens] using h')] at h; cases h
  match i, hi with
  | 0, _ | 1, _ | 2, _ | 3, _ | 4, _ | 5, _ | 6, _ | 7, _ | 8, _ | 9, _ =>
    simp only [tens, List.getElem?_cons_succ, List.getElem?_cons_zero, Option.some.injEq] at h
    subst h
    exact ⟨by kernel_rfl, by kernel_rfl⟩

theorem tens_index : ∀ (i j : Nat) (x y : String × Nat × List UInt8), tens[i]? = some x → tens[j]? = some y → x.2.2 = y.2.2 → i = j := by
  have h : ∀ i, i < 10 → ∀ j, j < 10 → (tens[i]?).map (·.2.2) = (tens[j]?).map (·.2.2) → i = j := by decide
  intro i j x y hx hy e
  have hb : ∀ {i x}, tens[i]? = some x → i < 10 := fun {i x} h => by
    rcases Nat.lt_or_ge i 10 with h' | h'
    · exact h'
    · rw [List.getElem?_eq_none (by simpa [tens] using h')] at h; cases h
  exact h i (hb hx) j (hb hy) (by rw [hx, hy]; simpa using e)

theorem tens_number : ∀ j, j < 10 → (tens[j]?).map (·.2.1) = some j := by decide

theorem sents_of_laid {W : World} (h : laidMet Tryd.prog Rows.namesRow.laid W) : ∃ a : Nat → Addr, Sents a W := by
  obtain ⟨ps, hv, _, hrows⟩ := h
  obtain ⟨ads, hlen, hall⟩ := laid_many (P := Tryd.prog) (W := W) (nm := "*errors.errorString") Tryd.underlying23 row27 Tryd.underlying100 Tryd.underlying120 rfl rfl Tryd.underlying9 cells45 cells9 tens ps tens_named hv hrows
  have hl : ads.length = 10 := hlen
  have key : ∀ j, j < 10 → ∃ x, tens[j]? = some x ∧ x.2.1 = j ∧ ads[j]? = some (ads.getD j default) := fun j hj => by
    obtain ⟨x, hx, hxj⟩ := Option.map_eq_some_iff.1 (tens_number j hj)
    exact ⟨x, hx, hxj, by rw [List.getD_eq_getElem?_getD, List.getElem?_eq_getElem (by omega)]; rfl⟩
  refine ⟨fun j => ads.getD j default, ⟨fun j hj => ?_, fun j hj => ?_, fun i j hi hj hij e => ?_⟩⟩
  · obtain ⟨x, hx, hxj, ha⟩ := key j hj
    have := (hall j x _ hx ha).1
    rwa [hxj] at this
  · obtain ⟨x, hx, hxj, ha⟩ := key j hj
    exact (hall j x _ hx ha).2.2
  · obtain ⟨x, hx, hxi, ha⟩ := key i hi
    obtain ⟨y, hy, hyj, hb⟩ := key j hj
    obtain ⟨s, hs, hst, _⟩ := (hall i x _ hx ha).2.1
    obtain ⟨t, ht, htt, _⟩ := (hall j y _ hy hb).2.1
    have e' : ads.getD i default = ads.getD j default := e
    rw [e', ht] at hs
    have hst' : t = s := by injection hs with hs; injection hs
    subst hst'
    exact hij (tens_index i j x y hx hy (hst.symm.trans htt))

/-- The door's own heap meets the condition. -/
theorem door_met (os : Os) (args : Array Value) : laidMetH Tryd.prog Rows.namesRow.laid ((World.doorLaid Tryd.prog 199 os).forCall (fun _ _ => 0) ⟨#[], args, []⟩).memory :=
  laidMetH_of_parts3 (fuel := 8) (laidMet_of_run' 8 (by kernel_rfl) (by kernel_rfl)) (by kernel_rfl) (by kernel_rfl)

set_option maxRecDepth 100000 in
theorem lifted (os : Os) (started : os.Started) (H : Type) (enc : TypeId × Value → H) :
    ReturnsInHanded {} Tryd.checked os 3 .any (fun w args => (Rows.namesSpec.pre enc Tryd.prog Tryd.f3 [] false w args ∧ laidMetH Tryd.prog Rows.namesRow.laid w) ∧ sizedMet enc Tryd.prog Tryd.f3 (OpenSpec.ofChange Rows.namesSpec) false w args)
      (Rows.namesSpec.post enc Tryd.prog Tryd.f3 false true false false) := by
  refine returnsInHanded_of_change_and (C := Tryd.checked) (X := fun w _ => laidMetH Tryd.prog Rows.namesRow.laid w) (fun _ _ _ hh h => h.of_heap hh) own started (by kernel_rfl) Tryd.func3
    (ChangeSpec.witness_shaped (enc := enc) (C := Tryd.checked) (os := os) (X := fun w _ => laidMetH Tryd.prog Rows.namesRow.laid w) false (World.doorLaid Tryd.prog 199 os) #[] 8 rfl (World.shaped_of_RefB (by kernel_rfl) (by kernel_rfl)) (by kernel_rfl) (by kernel_rfl) (by kernel_rfl) (door_met os _)) ?_
  intro W base args ds gs before hval0 hW _ _ hL _
  have hW' := hW
  obtain ⟨p, q, hA0, hV, rfl, hfz, hnd⟩ := hW
  have hA : DataW.TrodAll enc Tryd.prog W 0 (fun _ => true) true Tryd.f3.params.toList args.toList ds p := hA0
  rw [Tryd.params3] at hA
  obtain ⟨hargs, rfl, rfl⟩ := trodAll_none hA
  obtain rfl : args = #[] := by simpa using hargs
  obtain ⟨rfl, rfl⟩ := trodVars_none hV
  rw [MakeChecks.laidMetH_plain _ _ _ (by kernel_rfl)] at hL
  obtain ⟨a, hS⟩ := sents_of_laid hL
  clear hA0 hval0 hL
  simp only [List.append_nil] at hW'
  refine (names_any a W hS).mono fun e W' ⟨he, hw⟩ => ?_
  subst he; subst hw
  have e1 : Rows.namesSpec.fn H ([] ++ []) = { results := [.lit (.bool true)], args := [] } := rfl
  refine ⟨_, rfl, _, _, _, [], [], [], hW', ?_, ?_, ?_, World.keptBut_alloc _ _ _, fun h => by cases h⟩
  · rw [e1]; exact trodAll_mk1 (shut_bool Tryd.underlying4 true)
  · rw [e1]; exact hA
  · rw [e1]; rfl

theorem names_holds : Rows.NamesSaid :=
  OpenClaim.holds_of_wide 3 Tryd.f3 rfl rfl rfl rfl rfl rfl rfl ⟨rfl, rfl, rfl, rfl, rfl⟩ rfl rfl rfl rfl rfl (by kernel_rfl) Tryd.func3 (by kernel_rfl)
    (of_decide_eq_true (by kernel_rfl)) (by unfold Func.isWrapper; rw [if_neg (of_decide_eq_false (by kernel_rfl))]; exact ⟨rfl, rfl⟩)
    (fun os started H enc _ => lifted os started H enc)

theorem names_card : Rows.NamesCardSaid :=
  Claim7.holds_tied_plain_at .later [] _ _ _ _
    names_holds (fun _ h => by cases h) (by kernel_rfl) (fun _ h => by cases h) names_row_tie rfl ⟨rfl, rfl⟩ (by kernel_rfl) rfl
    (fun f fn hf hfn => by
      obtain rfl : f = 3 := Option.some.inj ((show Tryd.prog.funcNamed "quarry/quarrylaw.Names" = some 3 by kernel_rfl).symm.trans hf) |>.symm
      obtain rfl : fn = Tryd.f3 := (Option.some.inj (Tryd.func3.symm.trans hfn)).symm
      exact ⟨by kernel_rfl, fun j t ht => by
        rw [Tryd.params3] at ht
        simp at ht⟩)
    (by kernel_rfl)
#print axioms names_card
end Go.Proofs.YtfkeddkfegaeiaaDoor
