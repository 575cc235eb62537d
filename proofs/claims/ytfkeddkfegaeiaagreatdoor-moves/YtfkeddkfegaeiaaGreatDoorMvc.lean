/-
  Part 52.
-/
import Derived.Test.YtfkeddkfegaeiaaGreatDoorMvStY
import Derived.Test.YtfkeddkfegaeiaaGreatDoorMvSev
import Derived.Test.YtfkeddkfegaeiaaGreatDoorTie
import Derived.Test.YtfkeddkfegaeiaaGreatDoorCards
import Derived.SevenTiedAt
import Derived.ChangeMaps5
import Derived.ChangeSlices
namespace Go.Proofs.YtfkeddkfegaeiaaGreatDoor
open Go.ChangeShapes Go.WideShapes Go.ChangeAt Go.RowKit Go.ChangeMaps
theorem moves_env {W : World} (h : laidMetH Tryz.prog Rows.movesRow.laid W) : ∃ a : Nat → Addr, EnvX a W.heap.size W := by
  have h1 := h.filter (fun x => x.1 != "errors.errorType")
  rw [show Rows.movesRow.laid.filter (fun x => x.1 != "errors.errorType") = Rows.namedRow.laid from rfl, MakeChecks.laidMetH_plain _ _ _ (by kernel_rfl)] at h1
  exact env_of_laid h1
theorem laidOut : laidOutB Tryz.prog = true := by kernel_rfl
theorem cellsInt : Tryz.prog.cellsOf 3 = 1 := by kernel_rfl
/-- The door's own heap meets the condition. -/
theorem moves_door (os : Os) (args : Array Value) : laidMetH Tryz.prog Rows.movesRow.laid ((World.doorLaid Tryz.prog 252 os).forCall (fun _ _ => 0) ⟨#[], args, []⟩).memory :=
  laidMetH_of_parts3 (fuel := 8) (laidMet_of_run' 8 (by kernel_rfl) (by kernel_rfl)) (by kernel_rfl) (by kernel_rfl)
set_option maxRecDepth 100000 in
theorem moves_lifted (os : Os) (started : os.Started) (H : Type) (enc : TypeId × Value → H) :
    ReturnsInHanded {} Tryz.checked os 10 .any (fun w args => (Rows.movesSpec.pre enc Tryz.prog Tryz.f10 [] false w args ∧ laidMetH Tryz.prog Rows.movesRow.laid w) ∧ sizedMet enc Tryz.prog Tryz.f10 (OpenSpec.ofChange Rows.movesSpec) false w args)
      (Rows.movesSpec.post enc Tryz.prog Tryz.f10 false true false false) := by
  refine returnsInHanded_of_change_and (C := Tryz.checked) (X := fun w _ => laidMetH Tryz.prog Rows.movesRow.laid w) (fun _ _ _ hh h => h.of_heap hh) own started (by kernel_rfl) Tryz.func10
    (ChangeSpec.witness_shaped (enc := enc) (C := Tryz.checked) (os := os) (X := fun w _ => laidMetH Tryz.prog Rows.movesRow.laid w) false (World.doorLaid Tryz.prog 252 os) #[.slice none 0 0, .int .i64 0] 8 rfl (World.shaped_of_RefB (by kernel_rfl) (by kernel_rfl)) (by kernel_rfl) (by kernel_rfl) (by kernel_rfl) (moves_door os _)) ?_
  intro W base args ds gs before hval hW _ _ hL _
  have hW' := hW
  obtain ⟨p, q, hA0, hV, rfl, hfz, hnd⟩ := hW
  have hA : DataW.TrodAll enc Tryz.prog W 0 (fun _ => true) true Tryz.f10.params.toList args.toList ds p := hA0
  rw [Tryz.params10] at hA hval
  obtain ⟨v0, v1, d0, d1, p0, p1, rfl, rfl, rfl, h0, h1⟩ := trodAll_two hA
  obtain ⟨rfl, rfl⟩ := trodVars_none hV
  obtain ⟨A, rfl, rfl, rfl, hwA⟩ := open_int Tryz.underlying3 (hval 1 3 v1 rfl rfl) h1
  obtain ⟨a, hS⟩ := moves_env hL
  have inr : ∀ n : Int, (Lit.int .i64 n).wf = true → InR n := fun n h => by
    have e1 : IntKind.i64.min = -9223372036854775808 := rfl
    have e2 : IntKind.i64.max = 9223372036854775807 := rfl
    simp only [Lit.wf, e1, e2, Bool.and_eq_true, decide_eq_true_eq] at h
    unfold InR
    omega
  simp only [List.append_nil] at hW'
  have hlt : ∀ x ∈ p0, x.block < W.heap.size := fun x hx => by simpa using hW'.lt x hx
  have close : ∀ W', Below W.heap.size W W' → Rows.movesSpec.post enc Tryz.prog Tryz.f10 false true false false W #[v0, .int .i64 A] (.bool true) W' := fun W' hb => by
    have hargs : DataW.Trod enc Tryz.prog W' 0 (fun b => decide (b < W.heap.size)) true 32 v0 d0 p0 :=
      Below.trod laidOut (by kernel_rfl) (of_decide_eq_true (by kernel_rfl)) h0 hb hlt
    exact ⟨_, _, _, [], _, [], hW', trodAll_mk1 (shut_bool Tryz.underlying4 true), trodAll_mk2 hargs (shut_int Tryz.underlying3 hwA), rfl, hb.frame _, fun h => by cases h⟩
  obtain ⟨ad, len, cap, rfl⟩ := okWide_slice Tryz.underlying32 (hval 0 32 v0 rfl rfl)
  obtain ⟨zs, hz1, hz2, hz3⟩ : ∃ zs : List Int, zs.length = len ∧ (∀ z ∈ zs, InR z) ∧ RowAt W (.slice ad len cap) (intsV zs) := by
    obtain ⟨fuel, hf⟩ := h0
    rcases open_ints Tryz.underlying32 Tryz.underlying3 cellsInt hf with ⟨hcs, _⟩ | ⟨a', len', cap', zs, hcs, _, hl, hm, hz, _, hcell, hwz⟩
    · simp [Value.cells] at hcs
      obtain ⟨rfl, rfl, rfl⟩ := hcs
      exact ⟨[], rfl, fun x hx => (by cases hx), none, 0, rfl, by simp [maxLen], fun hp => by simp at hp⟩
    · simp [Value.cells] at hcs
      obtain ⟨rfl, rfl, rfl⟩ := hcs
      have hzl : zs.length = cap := by simpa using hz
      have htl : (zs.take len).length = len := by rw [List.length_take]; omega
      refine ⟨zs.take len, htl, fun x hx => inr x (hwz x (List.mem_of_mem_take hx)), some a', cap, by rw [List.length_map, htl], by rw [List.length_map, htl]; omega, fun hp => ?_⟩
      rw [List.length_map, htl] at hp
      obtain ⟨b, o, spot⟩ := a'
      have hc0 := hcell 0 (by omega)
      have hspot : spot = none := by simpa [Addr.add] using World.cell?_spot hc0
      subst hspot
      have hb : b < W.heap.size := by
        rcases Nat.lt_or_ge b W.heap.size with h' | h'
        · exact h'
        · simp [World.cell?, Addr.add, Array.getElem?_eq_none h'] at hc0
      refine ⟨b, o, rfl, hb, fun j hj => ?_⟩
      rw [List.length_map, htl] at hj
      have := hcell j (by omega)
      rw [show (Addr.add ⟨b, o, none⟩ j) = ⟨b, o + j, none⟩ from by unfold Addr.add; split <;> simp_all] at this
      rw [this, List.getElem?_map, List.getElem?_take_of_lt hj, List.getD_eq_getElem?_getD, List.getElem?_eq_getElem (by omega)]
      rfl
  subst hz1
  refine (moves_any a W.heap.size W hS zs hz2 ad cap hz3 A (inr A hwA)).mono fun e W' ⟨he, hw⟩ => ?_
  subst he
  exact ⟨_, rfl, close W' hw⟩
theorem moves_holds : Rows.MovesSaid :=
  OpenClaim.holds_of_wide 10 Tryz.f10 rfl rfl rfl rfl rfl rfl rfl ⟨rfl, rfl, rfl, rfl, rfl⟩ rfl rfl rfl rfl rfl (by kernel_rfl) Tryz.func10 moves_closed
    (of_decide_eq_true (by kernel_rfl)) (by unfold Func.isWrapper; rw [if_neg (of_decide_eq_false (by kernel_rfl))]; exact ⟨rfl, rfl⟩)
    (fun os started H enc _ => moves_lifted os started H enc)
theorem moves_card : Rows.MovesCardSaid :=
  card_goes _ _ _
    moves_holds (by kernel_rfl) moves_row_tie rfl ⟨rfl, rfl⟩ (by kernel_rfl)
    (fun f fn hf hfn => by
      obtain rfl : f = 10 := Option.some.inj ((show Tryz.prog.funcNamed "quarry/quarrylaw.Moves" = some 10 by kernel_rfl).symm.trans hf) |>.symm
      obtain rfl : fn = Tryz.f10 := (Option.some.inj (Tryz.func10.symm.trans hfn)).symm
      exact ⟨by kernel_rfl, fun j t ht => by
        rw [Tryz.params10] at ht
        have hm : t = 32 ∨ t = 3 := by simpa using Array.mem_of_getElem? ht
        rcases hm with rfl | rfl
        · exact (show Tryz.prog.wantsStandIn 32 = false by kernel_rfl)
        · exact (show Tryz.prog.wantsStandIn 3 = false by kernel_rfl)⟩)
    (by kernel_rfl)
#print axioms moves_card
end Go.Proofs.YtfkeddkfegaeiaaGreatDoor
