/-
  Part 36.
-/
import Derived.Test.YtfkeddkfegaeiaaGreatDoorMGap
import Derived.Test.YtfkeddkfegaeiaaGreatDoorJ30
import Derived.Test.YtfkeddkfegaeiaaGreatDoorMAnf
import Derived.Test.YtfkeddkfegaeiaaGreatDoorTie
import Derived.Test.YtfkeddkfegaeiaaGreatDoorCards
import Derived.SevenTiedAt
import Derived.Test.YtfkeddkfegaeiaaGreatDoorJ32
import Derived.ChangeMaps5
import Derived.ChangeSlices
namespace Go.Proofs.YtfkeddkfegaeiaaGreatDoor
open Go.ChangeShapes Go.WideShapes Go.ChangeAt Go.RowKit Go.ChangeMaps

theorem laidOut : laidOutB Tryz.prog = true := by kernel_rfl
theorem cellsInt : Tryz.prog.cellsOf 3 = 1 := by kernel_rfl
/-- The door's own heap meets the condition. -/
theorem anew_door (os : Os) (args : Array Value) : laidMetH Tryz.prog Rows.anewRow.laid ((World.doorLaid Tryz.prog 252 os).forCall (fun _ _ => 0) ⟨#[], args, []⟩).memory :=
  laidMetH_of_parts3 (fuel := 8) (laidMet_of_run' 8 (by kernel_rfl) (by kernel_rfl)) (by kernel_rfl) (by kernel_rfl)

set_option maxRecDepth 100000 in
theorem anew_lifted (os : Os) (started : os.Started) (H : Type) (enc : TypeId × Value → H) :
    ReturnsInHanded {} Tryz.checked os 4 .any (fun w args => (Rows.anewSpec.pre enc Tryz.prog Tryz.f4 [] false w args ∧ laidMetH Tryz.prog Rows.anewRow.laid w) ∧ sizedMet enc Tryz.prog Tryz.f4 (OpenSpec.ofChange Rows.anewSpec) false w args)
      (Rows.anewSpec.post enc Tryz.prog Tryz.f4 false true false false) := by
  refine returnsInHanded_of_change_and (C := Tryz.checked) (X := fun w _ => laidMetH Tryz.prog Rows.anewRow.laid w) (fun _ _ _ hh h => h.of_heap hh) own started (by kernel_rfl) Tryz.func4
    (ChangeSpec.witness_shaped (enc := enc) (C := Tryz.checked) (os := os) (X := fun w _ => laidMetH Tryz.prog Rows.anewRow.laid w) false (World.doorLaid Tryz.prog 252 os) #[.string ⟨#[]⟩, .slice none 0 0] 8 rfl (World.shaped_of_RefB (by kernel_rfl) (by kernel_rfl)) (by kernel_rfl) (by kernel_rfl) (by kernel_rfl) (anew_door os _)) ?_
  intro W base args ds gs before hval hW _ _ hL _
  have hW' := hW
  obtain ⟨p, q, hA0, hV, rfl, hfz, hnd⟩ := hW
  have hA : DataW.TrodAll enc Tryz.prog W 0 (fun _ => true) true Tryz.f4.params.toList args.toList ds p := hA0
  rw [Tryz.params4] at hA hval
  obtain ⟨v0, v1, d0, d1, p0, p1, rfl, rfl, rfl, h0, h1⟩ := trodAll_two hA
  obtain ⟨rfl, rfl⟩ := trodVars_none hV
  obtain ⟨s, rfl, rfl, rfl, hs⟩ := open_string Tryz.underlying9 (hval 0 9 v0 rfl rfl) h0
  rw [MakeChecks.laidMetH_plain _ _ _ (by kernel_rfl)] at hL
  obtain ⟨a, hS⟩ := env7_of_laid hL
  simp only [List.append_nil, List.nil_append] at hW'
  have hlt : ∀ x ∈ p1, x.block < W.heap.size := fun x hx => by simpa using hW'.lt x hx
  have close : ∀ W', Below W.heap.size W W' → Rows.anewSpec.post enc Tryz.prog Tryz.f4 false true false false W #[.string s, v1] (.bool true) W' := fun W' hb => by
    have hargs : DataW.Trod enc Tryz.prog W' 0 (fun b => decide (b < W.heap.size)) true 32 v1 d1 p1 :=
      Below.trod laidOut (by kernel_rfl) (of_decide_eq_true (by kernel_rfl)) h1 hb hlt
    exact ⟨_, _, _, [], _, [], hW', trodAll_mk1 (shut_bool Tryz.underlying4 true), trodAll_mk2 (shut_string Tryz.underlying9 hs) hargs, rfl, hb.frame _, fun h => by cases h⟩
  obtain ⟨ad, len, cap, rfl⟩ := okWide_slice Tryz.underlying32 (hval 1 32 v1 rfl rfl)
  obtain ⟨zs, hz1, hz2⟩ : ∃ zs : List Int, zs.length = len ∧ IntsAt W ad zs := by
    obtain ⟨fuel, hf⟩ := h1
    rcases open_ints Tryz.underlying32 Tryz.underlying3 cellsInt hf with ⟨hcs, _⟩ | ⟨a', len', cap', zs, hcs, _, hl, hm, hz, _, hcell, hwz⟩
    · simp [Value.cells] at hcs
      obtain ⟨rfl, rfl, rfl⟩ := hcs
      exact ⟨[], rfl, by decide, fun x hx => (by cases hx), fun hp => (by cases hp)⟩
    · simp [Value.cells] at hcs
      obtain ⟨rfl, rfl, rfl⟩ := hcs
      have hzl : zs.length = cap := by simpa using hz
      refine ⟨zs.take len, by rw [List.length_take]; omega, by rw [List.length_take]; omega, fun x hx => ?_, fun hp => ?_⟩
      · have := hwz x (List.mem_of_mem_take hx)
        have e1 : IntKind.i64.min = -9223372036854775808 := rfl
        have e2 : IntKind.i64.max = 9223372036854775807 := rfl
        simp only [Lit.wf, e1, e2, Bool.and_eq_true, decide_eq_true_eq] at this
        omega
      · rw [List.length_take] at hp
        obtain ⟨b, o, spot⟩ := a'
        have hc0 := hcell 0 (by omega)
        have hspot : spot = none := by simpa [Addr.add] using World.cell?_spot hc0
        subst hspot
        have hb : b < W.heap.size := by
          rcases Nat.lt_or_ge b W.heap.size with h' | h'
          · exact h'
          · simp [World.cell?, Addr.add, Array.getElem?_eq_none h'] at hc0
        refine ⟨b, o, rfl, hb, fun j hj => ?_⟩
        rw [List.length_take] at hj
        have := hcell j (by omega)
        rw [show (Addr.add ⟨b, o, none⟩ j) = ⟨b, o + j, none⟩ from by unfold Addr.add; split <;> simp_all] at this
        rw [this]
        congr 2
        rw [List.getD_eq_getElem?_getD, List.getD_eq_getElem?_getD, List.getElem?_take_of_lt (by omega)]
  subst hz1
  refine (anew_any s zs a W.heap.size W hS ad cap hz2).mono fun e W' ⟨he, hw⟩ => ?_
  subst he
  exact ⟨_, rfl, close W' hw⟩

theorem anew_holds : Rows.AnewSaid :=
  OpenClaim.holds_of_wide 4 Tryz.f4 rfl rfl rfl rfl rfl rfl rfl ⟨rfl, rfl, rfl, rfl, rfl⟩ rfl rfl rfl rfl rfl (by kernel_rfl) Tryz.func4 anew_closed
    (of_decide_eq_true (by kernel_rfl)) (by unfold Func.isWrapper; rw [if_neg (of_decide_eq_false (by kernel_rfl))]; exact ⟨rfl, rfl⟩)
    (fun os started H enc _ => anew_lifted os started H enc)

theorem anew_card : Rows.AnewCardSaid :=
  card_goes _ _ _
    anew_holds (by kernel_rfl) anew_row_tie rfl ⟨rfl, rfl⟩ (by kernel_rfl)
    (fun f fn hf hfn => by
      obtain rfl : f = 4 := Option.some.inj ((show Tryz.prog.funcNamed "quarry/quarrylaw.Anew" = some 4 by kernel_rfl).symm.trans hf) |>.symm
      obtain rfl : fn = Tryz.f4 := (Option.some.inj (Tryz.func4.symm.trans hfn)).symm
      exact ⟨by kernel_rfl, fun j t ht => by
        rw [Tryz.params4] at ht
        have hm : t = 9 ∨ t = 32 := by simpa using Array.mem_of_getElem? ht
        rcases hm with rfl | rfl
        · exact (show Tryz.prog.wantsStandIn 9 = false by kernel_rfl)
        · exact (show Tryz.prog.wantsStandIn 32 = false by kernel_rfl)⟩)
    (by kernel_rfl)
#print axioms anew_card
end Go.Proofs.YtfkeddkfegaeiaaGreatDoor
