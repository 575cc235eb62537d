/-
  factor at a number and at a column; factor, term and expr at every depth.
-/
import Derived.Test.YtjnmkmcopfkdfaaGreatDoorExF
namespace Go.Proofs.YtjnmkmcopfkdfaaGreatDoor
open Go.RowKit

set_option maxRecDepth 100000 in
set_option maxHeartbeats 400000 in
theorem factor_num (c : Cx) (w : World) (st : St) (ev : Value) (h : RS c w st ev) (hd : st.dp ≤ 16) (HM0 : Hid (hitP c.ts st xMin = false)) (HM : Hid (hitP c.ts st xOpen = false)) (hk : (((tkAt c.ts st.nx).kind : Int) == 3) = true) :
    Calls Tryz.prog 111 #[.pointer (some ⟨c.rb, 0, none⟩)] w fun e w' => ExPost c w ([ndNum (wkT c.ts st 3)], wkP c.ts st 3) e w' := by
  obtain ⟨r0, r1, r2, r3, hf, hrb⟩ := h.facts
  have hdb : decide (16 < (st.dp : Int)) = false := by simp; omega
  have hfp := field_part
  have hfk := field_kind
  have HH := hide h
  clear h
  go_enter Tryz.func111, Tryz.ntmps111
  go_wp2_with fail
  refine (peek_any c _ st ev (by exact unhide HH)).mono ?_
  rintro e w1 ⟨rfl, hb1⟩
  have HB1 := hide hb1
  have HH1 := hide ((unhide HH).keep hb1)
  clear hb1 r0 r1 r2 r3 hf
  go_wp2_with fail
  refine (take_no c _ st ev ⟨#[45]⟩ (by exact (unhide HH1).alloc _) (by exact unhide HM0)).mono ?_
  rintro e wa ⟨rfl, hba⟩
  have HA := hide (((unhide HH1).alloc _).keep hba)
  have HKA := hide (((Kp.ofBelow (r := c.rb) (unhide HB1)).alloc _).trans (Kp.ofBelow hba))
  clear hba
  go_wp2_with fail
  refine (take_no c _ st ev ⟨#[40]⟩ (by exact unhide HA) (by exact unhide HM)).mono ?_
  rintro e wb ⟨rfl, hbb⟩
  have HB := hide ((unhide HA).keep hbb)
  have HKB := hide ((unhide HKA).trans (Kp.ofBelow hbb))
  clear hbb
  go_wp2_with fail
  refine (peek_any c _ st ev (by exact unhide HB)).mono ?_
  rintro e wd ⟨rfl, hbd⟩
  have HD := hide ((unhide HB).keep hbd)
  have HKD := hide ((unhide HKB).trans (Kp.ofBelow hbd))
  clear hbd
  go_wp2_with fail
  refine (number_any c _ st ev (by exact unhide HD)).mono ?_
  rintro e w2 ⟨b, rfl, hb, hblk, hs2, hk2⟩
  have K2 := hide hblk
  have HS2 := hide hs2
  have HK2 := hide ((unhide HKD).trans hk2)
  clear hblk hs2 hk2
  go_wp2
  go_ret
  exact ⟨_, rfl, Or.inr ⟨_, _, rfl⟩, ⟨unhide HS2, unhide HK2⟩, fun _ => ⟨1, Or.inl ⟨b, _, rfl, Nat.le_trans (unhide HKD).size hb, unhide K2, rfl⟩⟩⟩

set_option maxRecDepth 100000 in
set_option maxHeartbeats 400000 in
theorem factor_col (c : Cx) (w : World) (st : St) (ev : Value) (h : RS c w st ev) (hd : st.dp ≤ 16) (HM0 : Hid (hitP c.ts st xMin = false)) (HM : Hid (hitP c.ts st xOpen = false)) (hk : (((tkAt c.ts st.nx).kind : Int) == 3) = false) :
    Calls Tryz.prog 111 #[.pointer (some ⟨c.rb, 0, none⟩)] w fun e w' => ExPost c w ([ndCol (wkT c.ts st 2) (wkT c.ts (wantP c.ts (wkP c.ts st 2) [⟨#[46]⟩]) 2)], colP c.ts st) e w' := by
  obtain ⟨r0, r1, r2, r3, hf, hrb⟩ := h.facts
  have hdb : decide (16 < (st.dp : Int)) = false := by simp; omega
  have hfp := field_part
  have hfk := field_kind
  have HH := hide h
  clear h
  go_enter Tryz.func111, Tryz.ntmps111
  go_wp2_with fail
  refine (peek_any c _ st ev (by exact unhide HH)).mono ?_
  rintro e w1 ⟨rfl, hb1⟩
  have HB1 := hide hb1
  have HH1 := hide ((unhide HH).keep hb1)
  clear hb1 r0 r1 r2 r3 hf
  go_wp2_with fail
  refine (take_no c _ st ev ⟨#[45]⟩ (by exact (unhide HH1).alloc _) (by exact unhide HM0)).mono ?_
  rintro e wa ⟨rfl, hba⟩
  have HA := hide (((unhide HH1).alloc _).keep hba)
  have HKA := hide (((Kp.ofBelow (r := c.rb) (unhide HB1)).alloc _).trans (Kp.ofBelow hba))
  clear hba
  go_wp2_with fail
  refine (take_no c _ st ev ⟨#[40]⟩ (by exact unhide HA) (by exact unhide HM)).mono ?_
  rintro e wb ⟨rfl, hbb⟩
  have HB := hide ((unhide HA).keep hbb)
  have HKB := hide ((unhide HKA).trans (Kp.ofBelow hbb))
  clear hbb
  go_wp2_with fail
  refine (peek_any c _ st ev (by exact unhide HB)).mono ?_
  rintro e wd ⟨rfl, hbd⟩
  have HD := hide ((unhide HB).keep hbd)
  have HKD := hide ((unhide HKB).trans (Kp.ofBelow hbd))
  clear hbd
  go_wp2_with fail
  refine (column_any c _ st ev (by exact unhide HD)).mono ?_
  rintro e w2 ⟨b, rfl, hb, hblk, hs2, hk2⟩
  have K2 := hide hblk
  have HS2 := hide hs2
  have HK2 := hide ((unhide HKD).trans hk2)
  clear hblk hs2 hk2
  go_wp2
  go_ret
  exact ⟨_, rfl, Or.inr ⟨_, _, rfl⟩, ⟨unhide HS2, unhide HK2⟩, fun _ => ⟨1, Or.inr (Or.inr (Or.inl ⟨b, _, _, rfl, Nat.le_trans (unhide HKD).size hb, unhide K2, rfl⟩))⟩⟩

theorem factor_spec (c : Cx) (hl : Lst c.ts) : ∀ (n d : Nat), d + n = 17 → Spec c 111 d (factorP c.ts n)
  | 0, d, hd => fun w st ev h he => factor_deep c w st ev h (by omega)
  | n + 1, d, hd => fun w st ev h he => by
    have ih := factor_spec c hl n (d + 1) (by omega)
    have hd16 : st.dp ≤ 16 := by omega
    subst he
    unfold factorP
    by_cases h1 : hitP c.ts st xMin = true
    · rw [if_pos h1]
      exact factor_minus c w st ev n _ h hd16 ih h1 rfl
    · rw [if_neg h1]
      by_cases h2 : hitP c.ts st xOpen = true
      · rw [if_pos h2]
        exact factor_open c w st ev n _ h hd16 (expr_spec c _ _ (onw_chain hl (onw_factor hl n) _) (term_spec c _ _ (onw_factor hl n) ih)) (hide (by simpa using h1)) h2 rfl
      · rw [if_neg h2]
        by_cases h3 : (tkAt c.ts st.nx).kind = 3
        · rw [if_pos h3]
          exact factor_num c w st ev h hd16 (hide (by simpa using h1)) (hide (by simpa using h2)) (by rw [h3]; rfl)
        · rw [if_neg h3]
          exact factor_col c w st ev h hd16 (hide (by simpa using h1)) (hide (by simpa using h2)) (by simp; omega)

/-- an expr that stands in no other. -/
def exprP (ts : List Tk) : St → Rx := exprOf ts (factorP ts 17)
theorem onw_exprP {ts : List Tk} (hl : Lst ts) : OnwF ts (exprP ts) := onw_expr hl (onw_factor hl 17)
theorem exprP_spec (c : Cx) (hl : Lst c.ts) : Spec c 87 0 (exprP c.ts) :=
  expr_spec c 0 _ (onw_chain hl (onw_factor hl 17) _) (term_spec c 0 _ (onw_factor hl 17) (factor_spec c hl 17 0 rfl))
end Go.Proofs.YtjnmkmcopfkdfaaGreatDoor
