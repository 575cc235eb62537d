/-
  Part 8.
-/
import Derived.Test.YtfkeddkfegaeiaaGreatDoorMvEx
namespace Go.Proofs.YtfkeddkfegaeiaaGreatDoor
open Go.RowKit
set_option maxRecDepth 100000 in
set_option maxHeartbeats 400000 in
theorem term_spec (c : Cx) (d : Nat) (fac : St → Rx) (ho : OnwF c.ts fac) (hf : Spec c 310 d fac) : Spec c 275 d (termOf c.ts fac) := by
  intro w st ev h hd
  subst hd
  have HH := hide h
  have HF := hide hf
  have HO := hide ho
  clear h hf ho
  have hne : w.heap.size ≠ c.rb := by have := lt_of_heap (unhide HH).reader; omega
  obtain ⟨R, HR⟩ : ∃ R, Hid (R = termOf c.ts fac st) := ⟨_, rfl⟩
  rw [← unhide HR]
  go_enter Tryz.func275, Tryz.ntmps275
  go_wp2_with fail
  refine (chain_factor c _ st ev fac w.heap.size [⟨#[42]⟩] R (by exact (unhide HH).alloc _) (by exact texts_new rfl (fun j hj => by match j, hj with | 0, _ => rfl)) hne (by simp) (hide (by decide)) HO HF HR).mono ?_
  intro e w1 hp
  obtain ⟨v, rfl, hv, ha, hex⟩ := hp
  have HP := hide (And.intro hv (And.intro ha hex))
  clear hv ha hex
  go_wp2
  go_ret
  exact ⟨v, rfl, (unhide HP).1, Aft.trans ((Kp.refl _ _).alloc _) (unhide HP).2.1, fun he => ((unhide HP).2.2 he).keep (by simp) (NodeKeep.ofBelow (Below.refl _ _))⟩
set_option maxRecDepth 100000 in
set_option maxHeartbeats 400000 in
theorem expr_spec (c : Cx) (d : Nat) (fac : St → Rx) (ho : OnwF c.ts (termOf c.ts fac)) (hf : Spec c 275 d (termOf c.ts fac)) : Spec c 218 d (exprOf c.ts fac) := by
  intro w st ev h hd
  subst hd
  have HH := hide h
  have HF := hide hf
  have HO := hide ho
  clear h hf ho
  have hne : w.heap.size ≠ c.rb := by have := lt_of_heap (unhide HH).reader; omega
  obtain ⟨R, HR⟩ : ∃ R, Hid (R = exprOf c.ts fac st) := ⟨_, rfl⟩
  rw [← unhide HR]
  go_enter Tryz.func218, Tryz.ntmps218
  go_wp2_with fail
  refine (chain_term c _ st ev (termOf c.ts fac) w.heap.size [⟨#[43]⟩, ⟨#[45]⟩] R (by exact (unhide HH).alloc _) (by exact texts_new rfl (fun j hj => by match j, hj with | 0, _ => rfl | 1, _ => rfl)) hne (by simp) (hide (by decide)) HO HF HR).mono ?_
  intro e w1 hp
  obtain ⟨v, rfl, hv, ha, hex⟩ := hp
  have HP := hide (And.intro hv (And.intro ha hex))
  clear hv ha hex
  go_wp2
  go_ret
  exact ⟨v, rfl, (unhide HP).1, Aft.trans ((Kp.refl _ _).alloc _) (unhide HP).2.1, fun he => ((unhide HP).2.2 he).keep (by simp) (NodeKeep.ofBelow (Below.refl _ _))⟩
theorem fail_er (ts : List Tk) (st : St) (k : Nat) : (failP ts st k).er ≠ none := by
  unfold failP
  cases st.er with
  | none => simp
  | some x => simp
set_option maxRecDepth 100000 in
set_option maxHeartbeats 400000 in
theorem factor_deep (c : Cx) (w : World) (st : St) (ev : Value) (h : RS c w st ev) (hd : st.dp = 17) :
    Calls Tryz.prog 310 #[.pointer (some ⟨c.rb, 0, none⟩)] w fun e w' => ExPost c w ([], failP c.ts st eMany) e w' := by
  obtain ⟨r0, r1, r2, r3, hf, hrb⟩ := h.facts
  rw [hd] at r2
  have hg := h.env.cell 4 (by decide)
  have HH := hide h
  clear h hd
  go_enter Tryz.func310, Tryz.ntmps310
  go_wp2_with fail
  refine (fail_any c _ st ev eMany (by exact unhide HH)).mono ?_
  rintro e w1 ⟨rfl, ha⟩
  have HA := hide ha
  clear ha
  go_wp2
  go_ret
  exact ⟨.nilIface, rfl, Or.inl rfl, unhide HA, fun he => absurd he (fail_er _ _ _)⟩
set_option maxRecDepth 100000 in
set_option maxHeartbeats 400000 in
theorem factor_minus (c : Cx) (w : World) (st : St) (ev : Value) (n : Nat) (R : Rx) (h : RS c w st ev) (hd : st.dp ≤ 16) (HF : Hid (Spec c 310 (st.dp + 1) (factorP c.ts n))) (HM : Hid (hitP c.ts st xMin = true)) (HR : Hid (R = deepP (factorP c.ts n) (adv st))) :
    Calls Tryz.prog 310 #[.pointer (some ⟨c.rb, 0, none⟩)] w fun e w' => ExPost c w (ndMinus (tkAt c.ts st.nx).place :: R.1, R.2) e w' := by
  obtain ⟨r0, r1, r2, r3, hf, hrb⟩ := h.facts
  have hdb : decide (16 < (st.dp : Int)) = false := by simp; omega
  have hfp := field_part
  have HH := hide h
  clear h
  go_enter Tryz.func310, Tryz.ntmps310
  go_wp2_with fail
  refine (peek_any c _ st ev (by exact unhide HH)).mono ?_
  rintro e w1 ⟨rfl, hb1⟩
  have HB1 := hide hb1
  have HH1 := hide ((unhide HH).keep hb1)
  clear hb1 r0 r1 r2 r3 hf
  generalize hpl : (tkAt c.ts st.nx).place = pl at *
  have HPL := hide hpl
  clear hpl
  have hne1 : w1.heap.size ≠ c.rb := by have := lt_of_heap (unhide HH1).reader; omega
  go_wp2_with fail
  refine (take_yes c _ st ev ⟨#[45]⟩ (by exact (unhide HH1).alloc _) (by rw [ByteArray.toList_eq]; rfl) (by exact unhide HM)).mono ?_
  rintro e w2 ⟨rfl, ⟨ev2, hs2⟩, hk2⟩
  have K2 := hide ((hk2.block w1.heap.size (by simp) hne1).trans (heap_last rfl))
  obtain ⟨k2, f2⟩ := blk (unhide K2)
  have hz2 := lt_of_heap (unhide K2)
  have HS2 := hide hs2
  have HK2 := hide (((Kp.ofBelow (r := c.rb) (unhide HB1)).alloc _).trans hk2)
  clear hs2 hk2
  go_wp2_with fail
  go_region_with (go_at_call 328; refine (deeper_factor c _ (adv st) ev2 (factorP c.ts n) (by exact (unhide HS2).drew) hd (onw_factor (unhide HH).last n) (unhide HF)).mono ?_; rintro e w4 ⟨v4, rfl, hv4, ⟨⟨ev4, hs4⟩, hk4⟩, hex4⟩; obtain ⟨k4, f4⟩ := blk ((hk4.block w1.heap.size (by simp; omega) hne1).trans (by exact unhide K2)); have hcv := hv4.cells; unfold Value.cells at hcv; have HS4 := hide hs4; have HK4 := hide hk4; have HEX4 := hide hex4; clear hv4 hs4 hk4 hex4)
  all_goals
    go_wp2
    go_ret
    rw [unhide HR]
    refine ⟨.iface 392 (.pointer (some ⟨w4.heap.size, 0, none⟩)), rfl, Or.inr ⟨_, _, rfl⟩, ⟨⟨ev4, (unhide HS4).alloc _⟩, ((unhide HK2).drew.trans (unhide HK4)).alloc _⟩, fun he => ?_⟩
    obtain ⟨m, hm⟩ := (unhide HEX4) he
    rw [unhide HPL]
    exact ⟨m + 1, Or.inr (Or.inl ⟨w4.heap.size, pl, v4, _, rfl, Nat.le_trans (unhide HK2).size (unhide HK4).size, heap_last rfl, ExAt.keep (unhide HK2).size (NodeKeep.ofBelow ((Below.refl _ _).alloc (Nat.le_refl _) _)) m _ _ hm, rfl⟩)⟩
set_option maxRecDepth 100000 in
set_option maxHeartbeats 400000 in
theorem factor_open (c : Cx) (w : World) (st : St) (ev : Value) (n : Nat) (R : Rx) (h : RS c w st ev) (hd : st.dp ≤ 16) (HF : Hid (Spec c 218 (st.dp + 1) (exprOf c.ts (factorP c.ts n)))) (HM0 : Hid (hitP c.ts st xMin = false)) (HM : Hid (hitP c.ts st xOpen = true)) (HR : Hid (R = deepP (exprOf c.ts (factorP c.ts n)) (adv st))) :
    Calls Tryz.prog 310 #[.pointer (some ⟨c.rb, 0, none⟩)] w fun e w' => ExPost c w (ndBr (tkAt c.ts st.nx).place :: R.1, wantP c.ts R.2 xClose) e w' := by
  obtain ⟨r0, r1, r2, r3, hf, hrb⟩ := h.facts
  have hdb : decide (16 < (st.dp : Int)) = false := by simp; omega
  have hfp := field_part
  have HH := hide h
  clear h
  go_enter Tryz.func310, Tryz.ntmps310
  go_wp2_with fail
  refine (peek_any c _ st ev (by exact unhide HH)).mono ?_
  rintro e w1 ⟨rfl, hb1⟩
  have HB1 := hide hb1
  have HH1 := hide ((unhide HH).keep hb1)
  clear hb1 r0 r1 r2 r3 hf
  generalize hpl : (tkAt c.ts st.nx).place = pl at *
  have HPL := hide hpl
  clear hpl
  have hne1 : w1.heap.size ≠ c.rb := by have := lt_of_heap (unhide HH1).reader; omega
  go_wp2_with fail
  refine (take_no c _ st ev ⟨#[45]⟩ (by exact (unhide HH1).alloc _) (by exact unhide HM0)).mono ?_
  rintro e wa ⟨rfl, hba⟩
  have KA := hide ((hba.block w1.heap.size (by simp)).trans (heap_last rfl))
  have HA := hide (((unhide HH1).alloc _).keep hba)
  have HBA := hide hba
  clear hba
  go_wp2_with fail
  refine (take_yes c _ st ev ⟨#[40]⟩ (by exact unhide HA) (by rw [ByteArray.toList_eq]; rfl) (by exact unhide HM)).mono ?_
  rintro e w2 ⟨rfl, ⟨ev2, hs2⟩, hk2⟩
  have K2 := hide ((hk2.block w1.heap.size (lt_of_heap (unhide KA)) hne1).trans (unhide KA))
  obtain ⟨k2, f2⟩ := blk (unhide K2)
  have hz2 := lt_of_heap (unhide K2)
  have HS2 := hide hs2
  have HK2 := hide ((((Kp.ofBelow (r := c.rb) (unhide HB1)).alloc _).trans (Kp.ofBelow (unhide HBA))).trans hk2)
  clear hs2 hk2
  go_wp2_with fail
  go_region_with (go_at_call 328; refine (deeper_expr c _ (adv st) ev2 (exprOf c.ts (factorP c.ts n)) (by exact (unhide HS2).drew) hd (onw_expr (unhide HH).last (onw_factor (unhide HH).last n)) (unhide HF)).mono ?_; rintro e w4 ⟨v4, rfl, hv4, ⟨⟨ev4, hs4⟩, hk4⟩, hex4⟩; obtain ⟨k4, f4⟩ := blk ((hk4.block w1.heap.size (by simp; omega) hne1).trans (by exact unhide K2)); have hcv := hv4.cells; unfold Value.cells at hcv; have HS4 := hide hs4; have HK4 := hide hk4; have HEX4 := hide hex4; clear hv4 hs4 hk4 hex4)
  all_goals
    have hne4 : w4.heap.size ≠ c.rb := by have := lt_of_heap (unhide HS4).reader; omega
    have HR' : Hid (R = deepP (exprOf c.ts (factorP c.ts n)) (adv st)) := HR
    rw [← unhide HR'] at HS4 HEX4
    go_wp2_with fail
    refine (want_any c _ R.2 ev4 (w4.heap.size + 1) [⟨#[41]⟩] (by exact ((unhide HS4).alloc _).alloc _) (by exact texts_new (by simp) (fun j hj => by match j, hj with | 0, _ => rfl)) (by simp) (nonE_ok (by decide))).mono ?_
    rintro e w5 ⟨rfl, ⟨ev5, hs5⟩, hk5⟩
    have K5 := hide ((hk5.block w4.heap.size (by simp; omega) hne4).trans (heap_prev (heap_last rfl)))
    have HS5 := hide hs5
    have HK5 := hide hk5
    clear hs5 hk5
    go_wp2
    go_ret
    refine ⟨.iface 398 (.pointer (some ⟨w4.heap.size, 0, none⟩)), rfl, Or.inr ⟨_, _, rfl⟩, ⟨⟨ev5, unhide HS5⟩, ((((unhide HK2).drew.trans (unhide HK4)).alloc _).alloc _).trans (unhide HK5)⟩, fun he => ?_⟩
    obtain ⟨m, hm⟩ := (unhide HEX4) ((onw_want (unhide HH).last (unhide HS4).nx xClose).er he)
    rw [unhide HPL]
    have hnk : NodeKeep w2.drew.heap.size w4 w5 := (NodeKeep.ofBelow (((Below.refl _ _).alloc (Nat.le_refl _) _).alloc (by simp) _)).trans ((((unhide HS4).alloc _).alloc _).nodes (unhide HK5))
    exact ⟨m + 1, Or.inr (Or.inr (Or.inr (Or.inl ⟨w4.heap.size, pl, v4, _, rfl, Nat.le_trans (unhide HK2).size (unhide HK4).size, unhide K5, ExAt.keep (unhide HK2).size hnk m _ _ hm, rfl⟩)))⟩
end Go.Proofs.YtfkeddkfegaeiaaGreatDoor
namespace Go.Proofs.YtfkeddkfegaeiaaGreatDoor
open Go.RowKit
set_option maxRecDepth 100000 in
set_option maxHeartbeats 400000 in
theorem factor_num (c : Cx) (w : World) (st : St) (ev : Value) (h : RS c w st ev) (hd : st.dp ≤ 16) (HM0 : Hid (hitP c.ts st xMin = false)) (HM : Hid (hitP c.ts st xOpen = false)) (hk : (((tkAt c.ts st.nx).kind : Int) == 3) = true) :
    Calls Tryz.prog 310 #[.pointer (some ⟨c.rb, 0, none⟩)] w fun e w' => ExPost c w ([ndNum (wkT c.ts st 3)], wkP c.ts st 3) e w' := by
  obtain ⟨r0, r1, r2, r3, hf, hrb⟩ := h.facts
  have hdb : decide (16 < (st.dp : Int)) = false := by simp; omega
  have hfp := field_part
  have hfk := field_kind
  have HH := hide h
  clear h
  go_enter Tryz.func310, Tryz.ntmps310
  go_wp2_with fail
  refine (peek_any c _ st ev (by exact unhide HH)).mono ?_
  rintro e w1 ⟨rfl, hb1⟩
  have HB1 := hide hb1
  have HH1 := hide ((unhide HH).keep hb1)
  clear hb1 r0 r1 r2 r3 hf
  go_wp2_with fail
  refine (take_no c _ st ev ⟨#[45]⟩ (by exact (unhide HH1).alloc _) (by exact unhide HM0)).mono ?_
  rintro e wa ⟨rfl, hba⟩
  have HA := hide (((unhide HH1).alloc _).keep hba)
  have HKA := hide (((Kp.ofBelow (r := c.rb) (unhide HB1)).alloc _).trans (Kp.ofBelow hba))
  clear hba
  go_wp2_with fail
  refine (take_no c _ st ev ⟨#[40]⟩ (by exact unhide HA) (by exact unhide HM)).mono ?_
  rintro e wb ⟨rfl, hbb⟩
  have HB := hide ((unhide HA).keep hbb)
  have HKB := hide ((unhide HKA).trans (Kp.ofBelow hbb))
  clear hbb
  go_wp2_with fail
  refine (peek_any c _ st ev (by exact unhide HB)).mono ?_
  rintro e wd ⟨rfl, hbd⟩
  have HD := hide ((unhide HB).keep hbd)
  have HKD := hide ((unhide HKB).trans (Kp.ofBelow hbd))
  clear hbd
  go_wp2_with fail
  refine (number_any c _ st ev (by exact unhide HD)).mono ?_
  rintro e w2 ⟨b, rfl, hb, hblk, hs2, hk2⟩
  have K2 := hide hblk
  have HS2 := hide hs2
  have HK2 := hide ((unhide HKD).trans hk2)
  clear hblk hs2 hk2
  go_wp2
  go_ret
  exact ⟨_, rfl, Or.inr ⟨_, _, rfl⟩, ⟨unhide HS2, unhide HK2⟩, fun _ => ⟨1, Or.inl ⟨b, _, rfl, Nat.le_trans (unhide HKD).size hb, unhide K2, rfl⟩⟩⟩
set_option maxRecDepth 100000 in
set_option maxHeartbeats 400000 in
theorem factor_col (c : Cx) (w : World) (st : St) (ev : Value) (h : RS c w st ev) (hd : st.dp ≤ 16) (HM0 : Hid (hitP c.ts st xMin = false)) (HM : Hid (hitP c.ts st xOpen = false)) (hk : (((tkAt c.ts st.nx).kind : Int) == 3) = false) :
    Calls Tryz.prog 310 #[.pointer (some ⟨c.rb, 0, none⟩)] w fun e w' => ExPost c w ([ndCol (wkT c.ts st 2) (wkT c.ts (wantP c.ts (wkP c.ts st 2) [⟨#[46]⟩]) 2)], colP c.ts st) e w' := by
  obtain ⟨r0, r1, r2, r3, hf, hrb⟩ := h.facts
  have hdb : decide (16 < (st.dp : Int)) = false := by simp; omega
  have hfp := field_part
  have hfk := field_kind
  have HH := hide h
  clear h
  go_enter Tryz.func310, Tryz.ntmps310
  go_wp2_with fail
  refine (peek_any c _ st ev (by exact unhide HH)).mono ?_
  rintro e w1 ⟨rfl, hb1⟩
  have HB1 := hide hb1
  have HH1 := hide ((unhide HH).keep hb1)
  clear hb1 r0 r1 r2 r3 hf
  go_wp2_with fail
  refine (take_no c _ st ev ⟨#[45]⟩ (by exact (unhide HH1).alloc _) (by exact unhide HM0)).mono ?_
  rintro e wa ⟨rfl, hba⟩
  have HA := hide (((unhide HH1).alloc _).keep hba)
  have HKA := hide (((Kp.ofBelow (r := c.rb) (unhide HB1)).alloc _).trans (Kp.ofBelow hba))
  clear hba
  go_wp2_with fail
  refine (take_no c _ st ev ⟨#[40]⟩ (by exact unhide HA) (by exact unhide HM)).mono ?_
  rintro e wb ⟨rfl, hbb⟩
  have HB := hide ((unhide HA).keep hbb)
  have HKB := hide ((unhide HKA).trans (Kp.ofBelow hbb))
  clear hbb
  go_wp2_with fail
  refine (peek_any c _ st ev (by exact unhide HB)).mono ?_
  rintro e wd ⟨rfl, hbd⟩
  have HD := hide ((unhide HB).keep hbd)
  have HKD := hide ((unhide HKB).trans (Kp.ofBelow hbd))
  clear hbd
  go_wp2_with fail
  refine (column_any c _ st ev (by exact unhide HD)).mono ?_
  rintro e w2 ⟨b, rfl, hb, hblk, hs2, hk2⟩
  have K2 := hide hblk
  have HS2 := hide hs2
  have HK2 := hide ((unhide HKD).trans hk2)
  clear hblk hs2 hk2
  go_wp2
  go_ret
  exact ⟨_, rfl, Or.inr ⟨_, _, rfl⟩, ⟨unhide HS2, unhide HK2⟩, fun _ => ⟨1, Or.inr (Or.inr (Or.inl ⟨b, _, _, rfl, Nat.le_trans (unhide HKD).size hb, unhide K2, rfl⟩))⟩⟩
theorem factor_spec (c : Cx) (hl : Lst c.ts) : ∀ (n d : Nat), d + n = 17 → Spec c 310 d (factorP c.ts n)
  | 0, d, hd => fun w st ev h he => factor_deep c w st ev h (by omega)
  | n + 1, d, hd => fun w st ev h he => by
    have ih := factor_spec c hl n (d + 1) (by omega)
    have hd16 : st.dp ≤ 16 := by omega
    subst he
    unfold factorP
    by_cases h1 : hitP c.ts st xMin = true
    · rw [if_pos h1]
      exact factor_minus c w st ev n _ h hd16 ih h1 rfl
    · rw [if_neg h1]
      by_cases h2 : hitP c.ts st xOpen = true
      · rw [if_pos h2]
        exact factor_open c w st ev n _ h hd16 (expr_spec c _ _ (onw_chain hl (onw_factor hl n) _) (term_spec c _ _ (onw_factor hl n) ih)) (hide (by simpa using h1)) h2 rfl
      · rw [if_neg h2]
        by_cases h3 : (tkAt c.ts st.nx).kind = 3
        · rw [if_pos h3]
          exact factor_num c w st ev h hd16 (hide (by simpa using h1)) (hide (by simpa using h2)) (by rw [h3]; rfl)
        · rw [if_neg h3]
          exact factor_col c w st ev h hd16 (hide (by simpa using h1)) (hide (by simpa using h2)) (by simp; omega)
/-- an expr that stands in no other. -/
def exprP (ts : List Tk) : St → Rx := exprOf ts (factorP ts 17)
theorem onw_exprP {ts : List Tk} (hl : Lst ts) : OnwF ts (exprP ts) := onw_expr hl (onw_factor hl 17)
theorem exprP_spec (c : Cx) (hl : Lst c.ts) : Spec c 218 0 (exprP c.ts) :=
  expr_spec c 0 _ (onw_chain hl (onw_factor hl 17) _) (term_spec c 0 _ (onw_factor hl 17) (factor_spec c hl 17 0 rfl))
end Go.Proofs.YtfkeddkfegaeiaaGreatDoor
namespace Go.Proofs.YtfkeddkfegaeiaaGreatDoor
open Go.RowKit
theorem ownsRow_kp {w w' : World} {r base : Nat} {e : TypeId} {size : Nat} {v : Value} {n : Nat} {xs : List Value} (h : w.ownsRow base e size v n xs) (hk : Kp r w w') (hr : r < base) : w'.ownsRow base e size v n xs := by
  obtain ⟨h1, h2⟩ := h
  refine ⟨h1, ?_⟩
  rcases h2 with h2 | ⟨g, cap, cur, hv, hg, hh, q⟩
  · exact Or.inl h2
  · exact Or.inr ⟨g, cap, cur, hv, hg, by rw [hk.block g (lt_of_heap hh) (by omega)]; exact hh, q⟩
/-- the length of a slice that owns its cells. -/
theorem ownsRow_slice {w : World} {base : Nat} {e : TypeId} {size : Nat} {v : Value} {n : Nat} {xs : List Value} (h : w.ownsRow base e size v n xs) (hn : 0 < n) : ∃ g cap, v = .slice (some ⟨g, 0, none⟩) n cap := by
  rcases h.2 with ⟨_, h2⟩ | ⟨g, cap, cur, hv, _⟩
  · omega
  · exact ⟨g, cap, hv⟩
/-- behind an append to a row of the call's own. -/
theorem RS.grown {c : Cx} {w w' : World} {st : St} {ev : Value} {base : Nat} {e : TypeId} {size : Nat} {v : Value} {n : Nat} {xs : List Value} (h : RS c w st ev) (hrow : w.ownsRow base e size v n xs) (hg : w.grownBy w' v.ownBlock) (he : e ≠ 113) (h1 : c.rb < base) (h2 : c.tb < base) (h3 : c.B ≤ base) : RS c w' st ev := by
  rcases hrow.2 with ⟨rfl, _⟩ | ⟨g, cap, cur, rfl, hgb, hh, _⟩
  · exact h.keep ⟨hg.os, hg.tape, hg.output, hg.size, fun k hk => hg.block k hk (by simp [Value.ownBlock])⟩
  · refine h.kpb (b := g) ⟨hg.os, hg.tape, hg.output, hg.size, fun k hk hne => hg.block k hk (by simp [Value.ownBlock]; omega)⟩ (by omega) (by omega) (by omega) (fun p x => ?_)
    rw [hh]
    intro e1
    cases e1
    exact he rfl
theorem Kp.grown {r base : Nat} {w0 w w' : World} {e : TypeId} {size : Nat} {v : Value} {n : Nat} {xs : List Value} (h : Kp r w0 w) (hrow : w.ownsRow base e size v n xs) (hg : w.grownBy w' v.ownBlock) (hb : w0.heap.size ≤ base) : Kp r w0 w' := by
  refine ⟨hg.os.trans h.os, hg.tape.trans h.tape, hg.output.trans h.output, Nat.le_trans h.size hg.size, fun k hk hne => ?_⟩
  have hk' : k < w.heap.size := Nat.lt_of_lt_of_le hk h.size
  refine (hg.block k hk' (fun e1 => ?_)).trans (h.block k hk hne)
  have := (hrow.lt k e1.symm).1
  omega
def xComma : List ByteArray := [⟨#[44]⟩]
def many (ts : List Tk) (most len : Nat) (st : St) : St := if len = most then failP ts st eMany else st
def listLoop {α : Type} (ts : List Tk) (one : St → α × St) (most : Nat) : Nat → List α → St → List α × St
  | 0, l, st => (l, st)
  | f + 1, l, st => if hitP ts st xComma then listLoop ts one most f (l ++ [(one (many ts most l.length (adv st))).1]) (one (many ts most l.length (adv st))).2 else (l, st)
def listP {α : Type} (ts : List Tk) (one : St → α × St) (most : Nat) (st : St) : List α × St := listLoop ts one most ts.length [(one st).1] (one st).2
def OnwG {α : Type} (ts : List Tk) (f : St → α × St) : Prop := ∀ st, st.nx < ts.length → Onw ts st (f st).2
theorem onw_many {ts : List Tk} {st : St} (h : st.nx < ts.length) (most len : Nat) : Onw ts st (many ts most len st) := by
  unfold many
  split
  · exact onw_fail h _
  · exact Onw.refl h
theorem onw_listLoop {α : Type} {ts : List Tk} (hl : Lst ts) {one : St → α × St} (ho : OnwG ts one) (most : Nat) : ∀ (f : Nat) (l : List α) (st : St), st.nx < ts.length → Onw ts st (listLoop ts one most f l st).2
  | 0, _, st, h => Onw.refl h
  | f + 1, l, st, h => by
    unfold listLoop
    split
    · rename_i hh
      have h1 := onw_adv hl h (hit_kind hh)
      have h2 := onw_many h1.lt most l.length
      have h3 := ho _ h2.lt
      exact h1.trans (h2.trans (h3.trans (onw_listLoop hl ho most f _ _ h3.lt)))
    · exact Onw.refl h
theorem onw_list {α : Type} {ts : List Tk} (hl : Lst ts) {one : St → α × St} (ho : OnwG ts one) (most : Nat) : OnwG ts (listP ts one most) := fun st h => (ho st h).trans (onw_listLoop hl ho most _ _ _ (ho st h).lt)
def nameP (ts : List Tk) (st : St) : Tk × St := (wkT ts st 2, wkP ts st 2)
theorem onw_name {ts : List Tk} (hl : Lst ts) : OnwG ts (nameP ts) := fun _ h => onw_wk hl h (by decide)
def nmCells (l : List Tk) : List Value := l.flatMap fun t => [.int .i64 t.place, .string t.text]
theorem nmCells_snoc (l : List Tk) (t : Tk) : nmCells l ++ [.int .i64 t.place, .string t.text] = nmCells (l ++ [t]) := by simp [nmCells]
/-- the loop of list at names. -/
structure NmRel (c : Cx) (w : World) (most : Nat) (d : Nat) (R : List Tk × St) (f : Nat) (v : Value) (wr : World) (l : List Tk) (st' : St) (ev' : Value) : Prop where
  rs : RS c wr st' ev'
  kp : Kp c.rb w wr
  row : wr.ownsRow w.heap.size 240 2 v l.length (nmCells l)
  pos : 0 < l.length
  few : l.length ≤ st'.nx + 1
  eq : R = listLoop c.ts (nameP c.ts) most f l st'
  fuel : c.ts.length ≤ f + st'.nx
  dp : st'.dp = d
theorem nm_next {c : Cx} {w wr w3 w4 w5 w6 : World} {most d gk : Nat} {R : List Tk × St} {v v' : Value} {l : List Tk} {st0 st' : St} {ev0 ev' ev5 : Value} {t5 : Tk} (hr : NmRel c w most d R (gk + 1) v wr l st' ev') (hh : hitP c.ts st' xComma = true) (hl : Lst c.ts) (hrb : c.rb < w.heap.size) (h0 : RS c w st0 ev0)
    (hk3 : Kp c.rb wr w3) (hk4 : Kp c.rb w3 w4) (h5 : RS c w5 (wkP c.ts (many c.ts most l.length (adv st')) 2) ev5) (hk5 : Kp c.rb w4 w5) (ht : wkT c.ts (many c.ts most l.length (adv st')) 2 = t5)
    (hrow : w5.ownsRow w.heap.size 240 2 v l.length (nmCells l)) (ho : w6.ownsRow w.heap.size 240 2 v' (l.length + 1) (nmCells l ++ [.int .i64 t5.place, .string t5.text]))
    (hg : (w5.alloc (.cells #[.int .i64 t5.place, .string t5.text] 240)).grownBy w6 v.ownBlock) :
    NmRel c w most d R gk v' w6 (l ++ [t5]) (wkP c.ts (many c.ts most l.length (adv st')) 2) ev5 := by
  have hadv := onw_adv hl hr.rs.nx (hit_kind hh)
  have hmany := onw_many hadv.lt most l.length
  have hnm := onw_wk hl hmany.lt (k := 2) (by decide)
  have htb : c.tb < w.heap.size := by obtain ⟨cur, e1, _⟩ := h0.tokens; exact lt_of_heap e1
  have hnx : st'.nx + 1 ≤ (wkP c.ts (many c.ts most l.length (adv st')) 2).nx := Nat.le_trans hmany.nx hnm.nx
  refine ⟨(h5.alloc _).grown (hrow.alloc _) hg (by decide) hrb htb h0.env.size, ?_, ?_, by simp, ?_, ?_, ?_, ?_⟩
  · exact Kp.grown ((((hr.kp.trans hk3).trans hk4).trans hk5).alloc _) (hrow.alloc _) hg (Nat.le_refl _)
  · rw [← nmCells_snoc, List.length_append]; exact ho
  · have := hr.few; rw [List.length_append]; simp; omega
  · have e := hr.eq
    unfold listLoop at e
    rw [if_pos hh] at e
    rw [e, ← ht]; rfl
  · have := hr.fuel; omega
  · exact (hnm.dp.trans (hmany.dp.trans hadv.dp)).trans hr.dp
theorem infoNm : (Tryz.prog.info? 240).map (fun i => (i.zero, i.size, i.bytes)) = some (some (.agg #[.int .i64 0, .string ⟨#[]⟩]), 2, 24) := by kernel_rfl
set_option maxRecDepth 100000 in
set_option maxHeartbeats 1000000 in
theorem list_name (c : Cx) (w : World) (st : St) (ev : Value) (most : Nat) (R : List Tk × St) (h : RS c w st ev) (_hm : most ≤ 1001) (HR : Hid (R = listP c.ts (nameP c.ts) most st)) :
    Calls Tryz.prog 150 #[.pointer (some ⟨c.rb, 0, none⟩), .int .i64 most, .func (.func 148) #[.pointer (some ⟨c.rb, 0, none⟩)] #[]] w fun e w' => ∃ v, e = .returned v ∧ w'.ownsRow w.heap.size 240 2 v R.1.length (nmCells R.1) ∧ 0 < R.1.length ∧ Aft c w R.2 w' := by
  obtain ⟨i0, hi, hinf⟩ := Option.map_eq_some_iff.1 infoNm
  simp only [Prod.mk.injEq] at hinf
  obtain ⟨hz0, hz1, hz2⟩ := hinf
  have HI := hide hi
  have HZ0 := hide hz0
  have HZ1 := hide hz1
  have HZ2 := hide hz2
  have HL := hide h.last
  have hlen := h.len
  have hrbw := lt_of_heap h.reader
  have HH := hide h
  clear hi hz0 hz1 hz2 h
  go_enter Tryz.func150, Tryz.ntmps150
  go_wp2_with fail
  refine (name_any c _ st ev (by exact unhide HH)).mono ?_
  rintro e w1 ⟨rfl, ⟨ev1, hs1⟩, hk1⟩
  have REL : Hid (NmRel c w most st.dp R c.ts.length (.slice (some ⟨w1.heap.size, 0, none⟩) 1 1) (w1.alloc (.cells #[.int .i64 (wkT c.ts st 2).place, .string (wkT c.ts st 2).text] 240)) [wkT c.ts st 2] (wkP c.ts st 2) ev1) :=
    ⟨hs1.alloc _, hk1.alloc _, World.ownsRow_lit w1 #[.int .i64 (wkT c.ts st 2).place, .string (wkT c.ts st 2).text] 1 hk1.size (by unfold maxLen; omega) rfl, by simp, by simp, by rw [unhide HR]; rfl, by omega, (onw_name (unhide HL) st (unhide HH).nx).dp⟩
  clear hs1 hk1
  generalize wkT c.ts st 2 = t at *
  go_wp2_with fail
  go_loopg [7] c.ts.length (fun f s7 wr => ∃ l st' ev', NmRel c w most st.dp R f s7 wr l st' ev')
  case atStart => exact ⟨_, _, _, unhide REL⟩
  case round =>
    obtain ⟨l, st', ev', hrel⟩ := hrel
    have HREL := hide hrel
    clear hrel REL
    match gk, HREL with
    | 0, HREL => exact absurd (unhide HREL).fuel (by have := (unhide HREL).rs.nx; omega)
    | gk + 1, HREL =>
    cases hh : hitP c.ts st' xComma with
    | false =>
      have HHIT := hide hh
      clear hh
      go_wp2_with fail
      refine (take_no c _ st' ev' ⟨#[44]⟩ (by exact (unhide HREL).rs) (by exact unhide HHIT)).mono ?_
      rintro e w3 ⟨rfl, hb3⟩
      have HB3 := hide hb3
      clear hb3
      go_wp2
      go_ret
      have hr := (unhide HREL).eq
      unfold listLoop at hr
      rw [if_neg (by rw [unhide HHIT]; decide)] at hr
      subst hr
      exact ⟨_, rfl, ownsRow_keep (unhide HREL).row (unhide HB3), (unhide HREL).pos, ⟨ev', (unhide HREL).rs.keep (unhide HB3)⟩, (unhide HREL).kp.trans (Kp.ofBelow (unhide HB3))⟩
    | true =>
      have HHIT := hide hh
      clear hh
      obtain ⟨g, cap, hv⟩ := ownsRow_slice (unhide HREL).row (unhide HREL).pos
      subst hv
      have hfew := (unhide HREL).few
      have hnx := (unhide HREL).rs.nx
      go_wp2_with fail
      refine (take_yes c _ st' ev' ⟨#[44]⟩ (by exact (unhide HREL).rs) (by rw [ByteArray.toList_eq]; rfl) (by exact unhide HHIT)).mono ?_
      rintro e w3 ⟨rfl, ⟨ev3, hs3⟩, hk3⟩
      have HS3 := hide hs3
      have HK3 := hide hk3
      clear hs3 hk3
      have hg3 := (unhide HS3).env.cell 4 (by decide)
      have ROW3 := hide (ownsRow_kp (unhide HREL).row (unhide HK3) hrbw)
      by_cases hmx : l.length = most
      · have hb : (((l.length : Nat) : Int) == (most : Int)) = true := by simp; omega
        have HMX := hide hmx
        clear hmx
        go_wp2_with fail
        refine (fail_any c _ (adv st') ev3 eMany (by exact unhide HS3)).mono ?_
        rintro e w4 ⟨rfl, ⟨ev4, hs4⟩, hk4⟩
        have HS4 : Hid (RS c w4 (many c.ts most l.length (adv st')) ev4) := by unfold many; rw [if_pos (unhide HMX)]; exact hs4
        have HK4 := hide hk4
        have ROW4 := hide (ownsRow_kp (unhide ROW3) hk4 hrbw)
        clear hs4 hk4
        go_wp2_with fail
        refine (name_any c _ _ ev4 (by exact unhide HS4)).mono ?_
        rintro e w5 ⟨rfl, ⟨ev5, hs5⟩, hk5⟩
        have HS5 := hide hs5
        have HK5 := hide hk5
        have ROW5 := hide (ownsRow_kp (ownsRow_kp (unhide ROW4) hk5 hrbw) (Kp.refl c.rb w5) hrbw)
        clear hs5 hk5
        generalize ht5 : wkT c.ts (many c.ts most l.length (adv st')) 2 = t5 at *
        have HT5 := hide ht5
        clear ht5
        go_wp2_with (at_builtin; refine wpList_append_own _ rfl _ _ 241 rfl w.heap.size 240 i0 (.agg #[.int .i64 0, .string ⟨#[]⟩]) 2 24 Tryz.underlying241 (unhide HI) (unhide HZ0) (unhide HZ1) (unhide HZ2) rfl (by decide) _ _ _ rfl ((unhide ROW5).alloc _) ⟨w5.heap.size, 0, none⟩ 1 1 [.int .i64 t5.place, .string t5.text] rfl rfl ?c1 ?c2 ?c3 ?c4 ?c5 ?_)
        case c1 => exact cell_new rfl
        case c2 => intro u hu; simp only [List.mem_cons, List.mem_nil_iff, or_false] at hu; rcases hu with rfl | rfl <;> rfl
        case c3 => unfold maxLen; omega
        case c4 => omega
        case c5 => have := (unhide HREL).kp.size; have := (unhide HK3).size; have := (unhide HK4).size; have := (unhide HK5).size; simp; omega
        intro v' w6 ho hg _
        have HO6 := hide ho
        have HG6 := hide hg
        clear ho hg
        go_wp2
        go_roundg gk
        case measure => omega
        case rel =>
          exact ⟨_, _, ev5, nm_next (unhide HREL) (unhide HHIT) (unhide HL) hrbw (unhide HH) (unhide HK3) (unhide HK4) (unhide HS5) (unhide HK5) (unhide HT5) (unhide ROW5) (unhide HO6) (unhide HG6)⟩
      · have hb : (((l.length : Nat) : Int) == (most : Int)) = false := by simp; omega
        have HMX := hide hmx
        clear hmx
        obtain ⟨w4, hw4⟩ : ∃ w4, w4 = w3 := ⟨_, rfl⟩
        obtain ⟨ev4, hev4⟩ : ∃ q, q = ev3 := ⟨_, rfl⟩
        have HS4 : Hid (RS c w3 (many c.ts most l.length (adv st')) ev4) := by unfold many; rw [if_neg (unhide HMX), hev4]; exact unhide HS3
        have HK4 : Hid (Kp c.rb w3 w3) := Kp.refl _ _
        have ROW4 := ROW3
        clear hw4 hev4
        go_wp2_with fail
        refine (name_any c _ _ ev4 (by exact unhide HS4)).mono ?_
        rintro e w5 ⟨rfl, ⟨ev5, hs5⟩, hk5⟩
        have HS5 := hide hs5
        have HK5 := hide hk5
        have ROW5 := hide (ownsRow_kp (ownsRow_kp (unhide ROW4) hk5 hrbw) (Kp.refl c.rb w5) hrbw)
        clear hs5 hk5
        generalize ht5 : wkT c.ts (many c.ts most l.length (adv st')) 2 = t5 at *
        have HT5 := hide ht5
        clear ht5
        go_wp2_with (at_builtin; refine wpList_append_own _ rfl _ _ 241 rfl w.heap.size 240 i0 (.agg #[.int .i64 0, .string ⟨#[]⟩]) 2 24 Tryz.underlying241 (unhide HI) (unhide HZ0) (unhide HZ1) (unhide HZ2) rfl (by decide) _ _ _ rfl ((unhide ROW5).alloc _) ⟨w5.heap.size, 0, none⟩ 1 1 [.int .i64 t5.place, .string t5.text] rfl rfl ?c1 ?c2 ?c3 ?c4 ?c5 ?_)
        case c1 => exact cell_new rfl
        case c2 => intro u hu; simp only [List.mem_cons, List.mem_nil_iff, or_false] at hu; rcases hu with rfl | rfl <;> rfl
        case c3 => unfold maxLen; omega
        case c4 => omega
        case c5 => have := (unhide HREL).kp.size; have := (unhide HK3).size; have := (unhide HK4).size; have := (unhide HK5).size; simp; omega
        intro v' w6 ho hg _
        have HO6 := hide ho
        have HG6 := hide hg
        clear ho hg
        go_wp2
        go_roundg gk
        case measure => omega
        case rel =>
          exact ⟨_, _, ev5, nm_next (unhide HREL) (unhide HHIT) (unhide HL) hrbw (unhide HH) (unhide HK3) (unhide HK4) (unhide HS5) (unhide HK5) (unhide HT5) (unhide ROW5) (unhide HO6) (unhide HG6)⟩
end Go.Proofs.YtfkeddkfegaeiaaGreatDoor
