/-
  Part 9.
-/
import Derived.Test.YtfkeddkfegaeiaaGreatDoorJ08
namespace Go.Proofs.YtfkeddkfegaeiaaGreatDoor
open Go.RowKit

set_option maxRecDepth 100000 in
set_option maxHeartbeats 400000 in
theorem term_spec (c : Cx) (d : Nat) (fac : St → Rx) (ho : OnwF c.ts fac) (hf : Spec c 310 d fac) : Spec c 275 d (termOf c.ts fac) := by
  intro w st ev h hd
  subst hd
  have HH := hide h
  have HF := hide hf
  have HO := hide ho
  clear h hf ho
  have hne : w.heap.size ≠ c.rb := by have := lt_of_heap (unhide HH).reader; omega
  obtain ⟨R, HR⟩ : ∃ R, Hid (R = termOf c.ts fac st) := ⟨_, rfl⟩
  rw [← unhide HR]
  go_enter Tryz.func275, Tryz.ntmps275
  go_wp2_with fail
  refine (chain_factor c _ st ev fac w.heap.size [⟨#[42]⟩] R (by exact (unhide HH).alloc _) (by exact texts_new rfl (fun j hj => by match j, hj with | 0, _ => rfl)) hne (by simp) (hide (by decide)) HO HF HR).mono ?_
  intro e w1 hp
  obtain ⟨v, rfl, hv, ha, hex⟩ := hp
  have HP := hide (And.intro hv (And.intro ha hex))
  clear hv ha hex
  go_wp2
  go_ret
  exact ⟨v, rfl, (unhide HP).1, Aft.trans ((Kp.refl _ _).alloc _) (unhide HP).2.1, fun he => ((unhide HP).2.2 he).keep (by simp) (NodeKeep.ofBelow (Below.refl _ _))⟩

set_option maxRecDepth 100000 in
set_option maxHeartbeats 400000 in
theorem expr_spec (c : Cx) (d : Nat) (fac : St → Rx) (ho : OnwF c.ts (termOf c.ts fac)) (hf : Spec c 275 d (termOf c.ts fac)) : Spec c 218 d (exprOf c.ts fac) := by
  intro w st ev h hd
  subst hd
  have HH := hide h
  have HF := hide hf
  have HO := hide ho
  clear h hf ho
  have hne : w.heap.size ≠ c.rb := by have := lt_of_heap (unhide HH).reader; omega
  obtain ⟨R, HR⟩ : ∃ R, Hid (R = exprOf c.ts fac st) := ⟨_, rfl⟩
  rw [← unhide HR]
  go_enter Tryz.func218, Tryz.ntmps218
  go_wp2_with fail
  refine (chain_term c _ st ev (termOf c.ts fac) w.heap.size [⟨#[43]⟩, ⟨#[45]⟩] R (by exact (unhide HH).alloc _) (by exact texts_new rfl (fun j hj => by match j, hj with | 0, _ => rfl | 1, _ => rfl)) hne (by simp) (hide (by decide)) HO HF HR).mono ?_
  intro e w1 hp
  obtain ⟨v, rfl, hv, ha, hex⟩ := hp
  have HP := hide (And.intro hv (And.intro ha hex))
  clear hv ha hex
  go_wp2
  go_ret
  exact ⟨v, rfl, (unhide HP).1, Aft.trans ((Kp.refl _ _).alloc _) (unhide HP).2.1, fun he => ((unhide HP).2.2 he).keep (by simp) (NodeKeep.ofBelow (Below.refl _ _))⟩

theorem fail_er (ts : List Tk) (st : St) (k : Nat) : (failP ts st k).er ≠ none := by
  unfold failP
  cases st.er with
  | none => simp
  | some x => simp

set_option maxRecDepth 100000 in
set_option maxHeartbeats 400000 in
theorem factor_deep (c : Cx) (w : World) (st : St) (ev : Value) (h : RS c w st ev) (hd : st.dp = 17) :
    Calls Tryz.prog 310 #[.pointer (some ⟨c.rb, 0, none⟩)] w fun e w' => ExPost c w ([], failP c.ts st eMany) e w' := by
  obtain ⟨r0, r1, r2, r3, hf, hrb⟩ := h.facts
  rw [hd] at r2
  have hg := h.env.cell 4 (by decide)
  have HH := hide h
  clear h hd
  go_enter Tryz.func310, Tryz.ntmps310
  go_wp2_with fail
  refine (fail_any c _ st ev eMany (by exact unhide HH)).mono ?_
  rintro e w1 ⟨rfl, ha⟩
  have HA := hide ha
  clear ha
  go_wp2
  go_ret
  exact ⟨.nilIface, rfl, Or.inl rfl, unhide HA, fun he => absurd he (fail_er _ _ _)⟩

set_option maxRecDepth 100000 in
set_option maxHeartbeats 400000 in
theorem factor_minus (c : Cx) (w : World) (st : St) (ev : Value) (n : Nat) (R : Rx) (h : RS c w st ev) (hd : st.dp ≤ 16) (HF : Hid (Spec c 310 (st.dp + 1) (factorP c.ts n))) (HM : Hid (hitP c.ts st xMin = true)) (HR : Hid (R = deepP (factorP c.ts n) (adv st))) :
    Calls Tryz.prog 310 #[.pointer (some ⟨c.rb, 0, none⟩)] w fun e w' => ExPost c w (ndMinus (tkAt c.ts st.nx).place :: R.1, R.2) e w' := by
  obtain ⟨r0, r1, r2, r3, hf, hrb⟩ := h.facts
  have hdb : decide (16 < (st.dp : Int)) = false := by simp; omega
  have hfp := field_part
  have HH := hide h
  clear h
  go_enter Tryz.func310, Tryz.ntmps310
  go_wp2_with fail
  refine (peek_any c _ st ev (by exact unhide HH)).mono ?_
  rintro e w1 ⟨rfl, hb1⟩
  have HB1 := hide hb1
  have HH1 := hide ((unhide HH).keep hb1)
  clear hb1 r0 r1 r2 r3 hf
  generalize hpl : (tkAt c.ts st.nx).place = pl at *
  have HPL := hide hpl
  clear hpl
  have hne1 : w1.heap.size ≠ c.rb := by have := lt_of_heap (unhide HH1).reader; omega
  go_wp2_with fail
  refine (take_yes c _ st ev ⟨#[45]⟩ (by exact (unhide HH1).alloc _) (by rw [ByteArray.toList_eq]; rfl) (by exact unhide HM)).mono ?_
  rintro e w2 ⟨rfl, ⟨ev2, hs2⟩, hk2⟩
  have K2 := hide ((hk2.block w1.heap.size (by simp) hne1).trans (heap_last rfl))
  obtain ⟨k2, f2⟩ := blk (unhide K2)
  have hz2 := lt_of_heap (unhide K2)
  have HS2 := hide hs2
  have HK2 := hide (((Kp.ofBelow (r := c.rb) (unhide HB1)).alloc _).trans hk2)
  clear hs2 hk2
  go_wp2_with fail
  go_region_with (go_at_call 328; refine (deeper_factor c _ (adv st) ev2 (factorP c.ts n) (by exact (unhide HS2).drew) hd (onw_factor (unhide HH).last n) (unhide HF)).mono ?_; rintro e w4 ⟨v4, rfl, hv4, ⟨⟨ev4, hs4⟩, hk4⟩, hex4⟩; obtain ⟨k4, f4⟩ := blk ((hk4.block w1.heap.size (by simp; omega) hne1).trans (by exact unhide K2)); have hcv := hv4.cells; unfold Value.cells at hcv; have HS4 := hide hs4; have HK4 := hide hk4; have HEX4 := hide hex4; clear hv4 hs4 hk4 hex4)
  all_goals
    go_wp2
    go_ret
    rw [unhide HR]
    refine ⟨.iface 392 (.pointer (some ⟨w4.heap.size, 0, none⟩)), rfl, Or.inr ⟨_, _, rfl⟩, ⟨⟨ev4, (unhide HS4).alloc _⟩, ((unhide HK2).drew.trans (unhide HK4)).alloc _⟩, fun he => ?_⟩
    obtain ⟨m, hm⟩ := (unhide HEX4) he
    rw [unhide HPL]
    exact ⟨m + 1, Or.inr (Or.inl ⟨w4.heap.size, pl, v4, _, rfl, Nat.le_trans (unhide HK2).size (unhide HK4).size, heap_last rfl, ExAt.keep (unhide HK2).size (NodeKeep.ofBelow ((Below.refl _ _).alloc (Nat.le_refl _) _)) m _ _ hm, rfl⟩)⟩
set_option maxRecDepth 100000 in
set_option maxHeartbeats 400000 in
theorem factor_open (c : Cx) (w : World) (st : St) (ev : Value) (n : Nat) (R : Rx) (h : RS c w st ev) (hd : st.dp ≤ 16) (HF : Hid (Spec c 218 (st.dp + 1) (exprOf c.ts (factorP c.ts n)))) (HM0 : Hid (hitP c.ts st xMin = false)) (HM : Hid (hitP c.ts st xOpen = true)) (HR : Hid (R = deepP (exprOf c.ts (factorP c.ts n)) (adv st))) :
    Calls Tryz.prog 310 #[.pointer (some ⟨c.rb, 0, none⟩)] w fun e w' => ExPost c w (ndBr (tkAt c.ts st.nx).place :: R.1, wantP c.ts R.2 xClose) e w' := by
  obtain ⟨r0, r1, r2, r3, hf, hrb⟩ := h.facts
  have hdb : decide (16 < (st.dp : Int)) = false := by simp; omega
  have hfp := field_part
  have HH := hide h
  clear h
  go_enter Tryz.func310, Tryz.ntmps310
  go_wp2_with fail
  refine (peek_any c _ st ev (by exact unhide HH)).mono ?_
  rintro e w1 ⟨rfl, hb1⟩
  have HB1 := hide hb1
  have HH1 := hide ((unhide HH).keep hb1)
  clear hb1 r0 r1 r2 r3 hf
  generalize hpl : (tkAt c.ts st.nx).place = pl at *
  have HPL := hide hpl
  clear hpl
  have hne1 : w1.heap.size ≠ c.rb := by have := lt_of_heap (unhide HH1).reader; omega
  go_wp2_with fail
  refine (take_no c _ st ev ⟨#[45]⟩ (by exact (unhide HH1).alloc _) (by exact unhide HM0)).mono ?_
  rintro e wa ⟨rfl, hba⟩
  have KA := hide ((hba.block w1.heap.size (by simp)).trans (heap_last rfl))
  have HA := hide (((unhide HH1).alloc _).keep hba)
  have HBA := hide hba
  clear hba
  go_wp2_with fail
  refine (take_yes c _ st ev ⟨#[40]⟩ (by exact unhide HA) (by rw [ByteArray.toList_eq]; rfl) (by exact unhide HM)).mono ?_
  rintro e w2 ⟨rfl, ⟨ev2, hs2⟩, hk2⟩
  have K2 := hide ((hk2.block w1.heap.size (lt_of_heap (unhide KA)) hne1).trans (unhide KA))
  obtain ⟨k2, f2⟩ := blk (unhide K2)
  have hz2 := lt_of_heap (unhide K2)
  have HS2 := hide hs2
  have HK2 := hide ((((Kp.ofBelow (r := c.rb) (unhide HB1)).alloc _).trans (Kp.ofBelow (unhide HBA))).trans hk2)
  clear hs2 hk2
  go_wp2_with fail
  go_region_with (go_at_call 328; refine (deeper_expr c _ (adv st) ev2 (exprOf c.ts (factorP c.ts n)) (by exact (unhide HS2).drew) hd (onw_expr (unhide HH).last (onw_factor (unhide HH).last n)) (unhide HF)).mono ?_; rintro e w4 ⟨v4, rfl, hv4, ⟨⟨ev4, hs4⟩, hk4⟩, hex4⟩; obtain ⟨k4, f4⟩ := blk ((hk4.block w1.heap.size (by simp; omega) hne1).trans (by exact unhide K2)); have hcv := hv4.cells; unfold Value.cells at hcv; have HS4 := hide hs4; have HK4 := hide hk4; have HEX4 := hide hex4; clear hv4 hs4 hk4 hex4)
  all_goals
    have hne4 : w4.heap.size ≠ c.rb := by have := lt_of_heap (unhide HS4).reader; omega
    have HR' : Hid (R = deepP (exprOf c.ts (factorP c.ts n)) (adv st)) := HR
    rw [← unhide HR'] at HS4 HEX4
    go_wp2_with fail
    refine (want_any c _ R.2 ev4 (w4.heap.size + 1) [⟨#[41]⟩] (by exact ((unhide HS4).alloc _).alloc _) (by exact texts_new (by simp) (fun j hj => by match j, hj with | 0, _ => rfl)) (by simp) (nonE_ok (by decide))).mono ?_
    rintro e w5 ⟨rfl, ⟨ev5, hs5⟩, hk5⟩
    have K5 := hide ((hk5.block w4.heap.size (by simp; omega) hne4).trans (heap_prev (heap_last rfl)))
    have HS5 := hide hs5
    have HK5 := hide hk5
    clear hs5 hk5
    go_wp2
    go_ret
    refine ⟨.iface 398 (.pointer (some ⟨w4.heap.size, 0, none⟩)), rfl, Or.inr ⟨_, _, rfl⟩, ⟨⟨ev5, unhide HS5⟩, ((((unhide HK2).drew.trans (unhide HK4)).alloc _).alloc _).trans (unhide HK5)⟩, fun he => ?_⟩
    obtain ⟨m, hm⟩ := (unhide HEX4) ((onw_want (unhide HH).last (unhide HS4).nx xClose).er he)
    rw [unhide HPL]
    have hnk : NodeKeep w2.drew.heap.size w4 w5 := (NodeKeep.ofBelow (((Below.refl _ _).alloc (Nat.le_refl _) _).alloc (by simp) _)).trans ((((unhide HS4).alloc _).alloc _).nodes (unhide HK5))
    exact ⟨m + 1, Or.inr (Or.inr (Or.inr (Or.inl ⟨w4.heap.size, pl, v4, _, rfl, Nat.le_trans (unhide HK2).size (unhide HK4).size, unhide K5, ExAt.keep (unhide HK2).size hnk m _ _ hm, rfl⟩)))⟩

end Go.Proofs.YtfkeddkfegaeiaaGreatDoor
namespace Go.Proofs.YtfkeddkfegaeiaaGreatDoor
open Go.RowKit

set_option maxRecDepth 100000 in
set_option maxHeartbeats 400000 in
theorem factor_num (c : Cx) (w : World) (st : St) (ev : Value) (h : RS c w st ev) (hd : st.dp ≤ 16) (HM0 : Hid (hitP c.ts st xMin = false)) (HM : Hid (hitP c.ts st xOpen = false)) (hk : (((tkAt c.ts st.nx).kind : Int) == 3) = true) :
    Calls Tryz.prog 310 #[.pointer (some ⟨c.rb, 0, none⟩)] w fun e w' => ExPost c w ([ndNum (wkT c.ts st 3)], wkP c.ts st 3) e w' := by
  obtain ⟨r0, r1, r2, r3, hf, hrb⟩ := h.facts
  have hdb : decide (16 < (st.dp : Int)) = false := by simp; omega
  have hfp := field_part
  have hfk := field_kind
  have HH := hide h
  clear h
  go_enter Tryz.func310, Tryz.ntmps310
  go_wp2_with fail
  refine (peek_any c _ st ev (by exact unhide HH)).mono ?_
  rintro e w1 ⟨rfl, hb1⟩
  have HB1 := hide hb1
  have HH1 := hide ((unhide HH).keep hb1)
  clear hb1 r0 r1 r2 r3 hf
  go_wp2_with fail
  refine (take_no c _ st ev ⟨#[45]⟩ (by exact (unhide HH1).alloc _) (by exact unhide HM0)).mono ?_
  rintro e wa ⟨rfl, hba⟩
  have HA := hide (((unhide HH1).alloc _).keep hba)
  have HKA := hide (((Kp.ofBelow (r := c.rb) (unhide HB1)).alloc _).trans (Kp.ofBelow hba))
  clear hba
  go_wp2_with fail
  refine (take_no c _ st ev ⟨#[40]⟩ (by exact unhide HA) (by exact unhide HM)).mono ?_
  rintro e wb ⟨rfl, hbb⟩
  have HB := hide ((unhide HA).keep hbb)
  have HKB := hide ((unhide HKA).trans (Kp.ofBelow hbb))
  clear hbb
  go_wp2_with fail
  refine (peek_any c _ st ev (by exact unhide HB)).mono ?_
  rintro e wd ⟨rfl, hbd⟩
  have HD := hide ((unhide HB).keep hbd)
  have HKD := hide ((unhide HKB).trans (Kp.ofBelow hbd))
  clear hbd
  go_wp2_with fail
  refine (number_any c _ st ev (by exact unhide HD)).mono ?_
  rintro e w2 ⟨b, rfl, hb, hblk, hs2, hk2⟩
  have K2 := hide hblk
  have HS2 := hide hs2
  have HK2 := hide ((unhide HKD).trans hk2)
  clear hblk hs2 hk2
  go_wp2
  go_ret
  exact ⟨_, rfl, Or.inr ⟨_, _, rfl⟩, ⟨unhide HS2, unhide HK2⟩, fun _ => ⟨1, Or.inl ⟨b, _, rfl, Nat.le_trans (unhide HKD).size hb, unhide K2, rfl⟩⟩⟩

set_option maxRecDepth 100000 in
set_option maxHeartbeats 400000 in
theorem factor_col (c : Cx) (w : World) (st : St) (ev : Value) (h : RS c w st ev) (hd : st.dp ≤ 16) (HM0 : Hid (hitP c.ts st xMin = false)) (HM : Hid (hitP c.ts st xOpen = false)) (hk : (((tkAt c.ts st.nx).kind : Int) == 3) = false) :
    Calls Tryz.prog 310 #[.pointer (some ⟨c.rb, 0, none⟩)] w fun e w' => ExPost c w ([ndCol (wkT c.ts st 2) (wkT c.ts (wantP c.ts (wkP c.ts st 2) [⟨#[46]⟩]) 2)], colP c.ts st) e w' := by
  obtain ⟨r0, r1, r2, r3, hf, hrb⟩ := h.facts
  have hdb : decide (16 < (st.dp : Int)) = false := by simp; omega
  have hfp := field_part
  have hfk := field_kind
  have HH := hide h
  clear h
  go_enter Tryz.func310, Tryz.ntmps310
  go_wp2_with fail
  refine (peek_any c _ st ev (by exact unhide HH)).mono ?_
  rintro e w1 ⟨rfl, hb1⟩
  have HB1 := hide hb1
  have HH1 := hide ((unhide HH).keep hb1)
  clear hb1 r0 r1 r2 r3 hf
  go_wp2_with fail
  refine (take_no c _ st ev ⟨#[45]⟩ (by exact (unhide HH1).alloc _) (by exact unhide HM0)).mono ?_
  rintro e wa ⟨rfl, hba⟩
  have HA := hide (((unhide HH1).alloc _).keep hba)
  have HKA := hide (((Kp.ofBelow (r := c.rb) (unhide HB1)).alloc _).trans (Kp.ofBelow hba))
  clear hba
  go_wp2_with fail
  refine (take_no c _ st ev ⟨#[40]⟩ (by exact unhide HA) (by exact unhide HM)).mono ?_
  rintro e wb ⟨rfl, hbb⟩
  have HB := hide ((unhide HA).keep hbb)
  have HKB := hide ((unhide HKA).trans (Kp.ofBelow hbb))
  clear hbb
  go_wp2_with fail
  refine (peek_any c _ st ev (by exact unhide HB)).mono ?_
  rintro e wd ⟨rfl, hbd⟩
  have HD := hide ((unhide HB).keep hbd)
  have HKD := hide ((unhide HKB).trans (Kp.ofBelow hbd))
  clear hbd
  go_wp2_with fail
  refine (column_any c _ st ev (by exact unhide HD)).mono ?_
  rintro e w2 ⟨b, rfl, hb, hblk, hs2, hk2⟩
  have K2 := hide hblk
  have HS2 := hide hs2
  have HK2 := hide ((unhide HKD).trans hk2)
  clear hblk hs2 hk2
  go_wp2
  go_ret
  exact ⟨_, rfl, Or.inr ⟨_, _, rfl⟩, ⟨unhide HS2, unhide HK2⟩, fun _ => ⟨1, Or.inr (Or.inr (Or.inl ⟨b, _, _, rfl, Nat.le_trans (unhide HKD).size hb, unhide K2, rfl⟩))⟩⟩

theorem factor_spec (c : Cx) (hl : Lst c.ts) : ∀ (n d : Nat), d + n = 17 → Spec c 310 d (factorP c.ts n)
  | 0, d, hd => fun w st ev h he => factor_deep c w st ev h (by omega)
  | n + 1, d, hd => fun w st ev h he => by
    have ih := factor_spec c hl n (d + 1) (by omega)
    have hd16 : st.dp ≤ 16 := by omega
    subst he
    unfold factorP
    by_cases h1 : hitP c.ts st xMin = true
    · rw [if_pos h1]
      exact factor_minus c w st ev n _ h hd16 ih h1 rfl
    · rw [if_neg h1]
      by_cases h2 : hitP c.ts st xOpen = true
      · rw [if_pos h2]
        exact factor_open c w st ev n _ h hd16 (expr_spec c _ _ (onw_chain hl (onw_factor hl n) _) (term_spec c _ _ (onw_factor hl n) ih)) (hide (by simpa using h1)) h2 rfl
      · rw [if_neg h2]
        by_cases h3 : (tkAt c.ts st.nx).kind = 3
        · rw [if_pos h3]
          exact factor_num c w st ev h hd16 (hide (by simpa using h1)) (hide (by simpa using h2)) (by rw [h3]; rfl)
        · rw [if_neg h3]
          exact factor_col c w st ev h hd16 (hide (by simpa using h1)) (hide (by simpa using h2)) (by simp; omega)

/-- an expr that stands in no other. -/
def exprP (ts : List Tk) : St → Rx := exprOf ts (factorP ts 17)
theorem onw_exprP {ts : List Tk} (hl : Lst ts) : OnwF ts (exprP ts) := onw_expr hl (onw_factor hl 17)
theorem exprP_spec (c : Cx) (hl : Lst c.ts) : Spec c 218 0 (exprP c.ts) :=
  expr_spec c 0 _ (onw_chain hl (onw_factor hl 17) _) (term_spec c 0 _ (onw_factor hl 17) (factor_spec c hl 17 0 rfl))
end Go.Proofs.YtfkeddkfegaeiaaGreatDoor
