/-
  The walks of deeper and chain, at what they are called with.
-/
import Derived.Test.YtjnmkmcopfkdfaaGreatDoorEx
namespace Go.Proofs.YtjnmkmcopfkdfaaGreatDoor
open Go.RowKit

def ExPost (c : Cx) (w : World) (r : Rx) (e : Ending) (w' : World) : Prop := ∃ v, e = .returned v ∧ IsI v ∧ Aft c w r.2 w' ∧ (r.2.er = none → ExOk w' w.heap.size v r.1)
/-- function number K reads by fn, at depth d. -/
def Spec (c : Cx) (K d : Nat) (fn : St → Rx) : Prop := ∀ (w : World) (st : St) (ev : Value), RS c w st ev → st.dp = d → Calls Tryz.prog K #[.pointer (some ⟨c.rb, 0, none⟩)] w fun e w' => ExPost c w (fn st) e w'

theorem ExPost.of {c : Cx} {w0 w w' : World} {r : Rx} {e : Ending} (h : ExPost c w r e w') (hk : Kp c.rb w0 w) : ExPost c w0 r e w' := let ⟨v, h1, h2, h3, h4⟩ := h; ⟨v, h1, h2, Aft.trans hk h3, fun he => (h4 he).keep hk.size (NodeKeep.ofBelow (Below.refl _ _))⟩

set_option maxRecDepth 100000 in
set_option maxHeartbeats 400000 in
theorem deeper_factor (c : Cx) (w : World) (st : St) (ev : Value) (fn : St → Rx) (h : RS c w st ev) (hd : st.dp ≤ 16) (ho : OnwF c.ts fn) (hf : Spec c 111 (st.dp + 1) fn) :
    Calls Tryz.prog 116 #[.pointer (some ⟨c.rb, 0, none⟩), .func (.func 111) #[.pointer (some ⟨c.rb, 0, none⟩)] #[]] w fun e w' => ExPost c w (deepP fn st) e w' := by
  obtain ⟨r0, r1, r2, r3, hfr, hrb⟩ := h.facts
  have HH := hide h
  have HF := hide hf
  have HO := hide ho
  clear h hf ho
  unfold deepP
  go_enter Tryz.func116, Tryz.ntmps116
  go_wp2_with fail
  have hs1 := (unhide HH).setDp (st.dp + 1) (by omega)
  rw [show (((st.dp + 1 : Nat) : Int)) = ((st.dp : Int) + 1) from by omega] at hs1
  refine (unhide HF _ _ ev hs1 rfl).mono ?_
  rintro e w1 ⟨v, rfl, hv, ⟨⟨ev1, hs2⟩, hk⟩, hex⟩
  have hon := unhide HO { st with dp := st.dp + 1 } (unhide HH).nx
  generalize hr : fn { st with dp := st.dp + 1 } = r at *
  have HR := hide hr
  have hdp : r.2.dp = st.dp + 1 := hon.dp
  have HDP := hide hdp
  clear r0 r1 r2 r3 hfr hr hon hdp
  obtain ⟨r0, r1, r2, r3, hfr, hrb2⟩ := hs2.facts
  rw [unhide HDP] at r2
  have HS2 := hide hs2
  have HK := hide (((Kp.refl c.rb w).setCell 2 (.int .i64 ((st.dp : Int) + 1))).trans hk)
  have HEX := hide hex
  have HV := hide hv
  clear hs1 hs2 hk hex hv
  go_wp2
  go_ret
  rw [unhide HR]
  have hs3 := (unhide HS2).setDp (r.2.dp - 1) (by rw [unhide HDP]; omega)
  rw [show (((r.2.dp - 1 : Nat) : Int)) = (st.dp : Int) from by rw [unhide HDP]; omega] at hs3
  refine ⟨v, rfl, unhide HV, ⟨⟨ev1, hs3⟩, (unhide HK).setCell _ _⟩, fun he => (unhide HEX he).keep (by simp [World.setCell]) ((unhide HS2).nodes ((Kp.refl _ _).setCell _ _))⟩

set_option maxRecDepth 100000 in
set_option maxHeartbeats 400000 in
theorem deeper_expr (c : Cx) (w : World) (st : St) (ev : Value) (fn : St → Rx) (h : RS c w st ev) (hd : st.dp ≤ 16) (ho : OnwF c.ts fn) (hf : Spec c 87 (st.dp + 1) fn) :
    Calls Tryz.prog 116 #[.pointer (some ⟨c.rb, 0, none⟩), .func (.func 87) #[.pointer (some ⟨c.rb, 0, none⟩)] #[]] w fun e w' => ExPost c w (deepP fn st) e w' := by
  obtain ⟨r0, r1, r2, r3, hfr, hrb⟩ := h.facts
  have HH := hide h
  have HF := hide hf
  have HO := hide ho
  clear h hf ho
  unfold deepP
  go_enter Tryz.func116, Tryz.ntmps116
  go_wp2_with fail
  have hs1 := (unhide HH).setDp (st.dp + 1) (by omega)
  rw [show (((st.dp + 1 : Nat) : Int)) = ((st.dp : Int) + 1) from by omega] at hs1
  refine (unhide HF _ _ ev hs1 rfl).mono ?_
  rintro e w1 ⟨v, rfl, hv, ⟨⟨ev1, hs2⟩, hk⟩, hex⟩
  have hon := unhide HO { st with dp := st.dp + 1 } (unhide HH).nx
  generalize hr : fn { st with dp := st.dp + 1 } = r at *
  have HR := hide hr
  have hdp : r.2.dp = st.dp + 1 := hon.dp
  have HDP := hide hdp
  clear r0 r1 r2 r3 hfr hr hon hdp
  obtain ⟨r0, r1, r2, r3, hfr, hrb2⟩ := hs2.facts
  rw [unhide HDP] at r2
  have HS2 := hide hs2
  have HK := hide (((Kp.refl c.rb w).setCell 2 (.int .i64 ((st.dp : Int) + 1))).trans hk)
  have HEX := hide hex
  have HV := hide hv
  clear hs1 hs2 hk hex hv
  go_wp2
  go_ret
  rw [unhide HR]
  have hs3 := (unhide HS2).setDp (r.2.dp - 1) (by rw [unhide HDP]; omega)
  rw [show (((r.2.dp - 1 : Nat) : Int)) = (st.dp : Int) from by rw [unhide HDP]; omega] at hs3
  refine ⟨v, rfl, unhide HV, ⟨⟨ev1, hs3⟩, (unhide HK).setCell _ _⟩, fun he => (unhide HEX he).keep (by simp [World.setCell]) ((unhide HS2).nodes ((Kp.refl _ _).setCell _ _))⟩

end Go.Proofs.YtjnmkmcopfkdfaaGreatDoor
