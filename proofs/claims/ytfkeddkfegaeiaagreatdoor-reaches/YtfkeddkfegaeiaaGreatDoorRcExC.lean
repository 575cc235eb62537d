/-
  Part 8.
-/
import Derived.Test.YtfkeddkfegaeiaaGreatDoorRcEx
import Derived.Deep.LoopGhost
namespace Go.Proofs.YtfkeddkfegaeiaaGreatDoor
open Go.RowKit
theorem Texts.kp {w w' : World} {r b : Nat} {xs : List ByteArray} (h : Texts w b xs) (hk : Kp r w w') (hb : b ≠ r) : Texts w' b xs :=
  ⟨Nat.lt_of_lt_of_le h.1 hk.size, fun j hj => (hk.cell (p := ⟨b, 0 + j, none⟩) h.1 hb).trans (h.2 j hj)⟩
theorem IsI.cells {v : Value} (h : IsI v) : v.cells = #[v] := by rcases h with rfl | ⟨u, x, rfl⟩ <;> rfl
/-- chain's loop: so far the nodes l (value v), at state st'; f rounds at most; sb: the block of the place where it began. -/
structure ChRel (c : Cx) (w : World) (fn : St → Rx) (xs : List ByteArray) (d sb pl : Nat) (R : Rx) (f : Nat) (v : Value) (wr : World) (l : List Nd) (st' : St) (ev' : Value) : Prop where
  isI : IsI v
  rs : RS c wr st' ev'
  kp : Kp c.rb w wr
  ex : st'.er = none → ExOk wr w.heap.size v l
  eq : R = chainLoop c.ts fn xs pl f l st'
  fuel : c.ts.length ≤ f + st'.nx
  dp : st'.dp = d
  start : wr.heap[sb]? = some (.cells #[.int .i64 pl] 170 (0, 0))
theorem chain_next {c : Cx} {w wr w3 w4 : World} {fn : St → Rx} {xs : List ByteArray} {d sb pl gk : Nat} {R : Rx} {v v4 : Value} {l : List Nd} {st' : St} {ev' ev3 ev4 : Value} (hr : ChRel c w fn xs d sb pl R (gk + 1) v wr l st' ev') (hh : hitP c.ts st' xs = true)
    (h3 : RS c w3 (adv st') ev3) (hk3 : Kp c.rb wr w3) (ho : OnwF c.ts fn) (h4 : RS c w4 (fn (adv st')).2 ev4) (hk4 : Kp c.rb w3.drew w4) (_hv4 : IsI v4) (hex : (fn (adv st')).2.er = none → ExOk w4 w3.drew.heap.size v4 (fn (adv st')).1) (hsb : sb ≠ c.rb) :
    ChRel c w fn xs d sb pl R gk (.iface 265 (.pointer (some ⟨w4.heap.size, 0, none⟩))) (w4.alloc (.cells #[.int .i64 pl, v, .string (tkAt c.ts st'.nx).text, v4] 263)) (ndPair pl (tkAt c.ts st'.nx).text :: (l ++ (fn (adv st')).1)) (fn (adv st')).2 ev4 := by
  have hon := ho (adv st') h3.nx
  have hk34 : Kp c.rb wr w4 := hk3.drew.trans hk4
  refine ⟨Or.inr ⟨_, _, rfl⟩, h4.alloc _, (hr.kp.trans hk34).alloc _, fun he => ?_, ?_, ?_, hon.dp.trans hr.dp, heap_prev ((hk34.block _ (lt_of_heap hr.start) hsb).trans hr.start)⟩
  · refine ExOk.pair (Nat.le_trans hr.kp.size hk34.size) (heap_last rfl) ((hr.ex (hon.er he)).keep (Nat.le_refl _) ?_) ((hex he).keep (Nat.le_trans hr.kp.size hk3.size) (NodeKeep.ofBelow ((Below.refl _ _).alloc (Nat.le_refl _) _)))
    exact (hr.rs.nodes hk34).trans (NodeKeep.ofBelow ((Below.refl _ _).alloc (Nat.le_refl _) _))
  · have e := hr.eq
    unfold chainLoop at e
    rw [if_pos hh] at e
    exact e
  · have h1 := hr.fuel
    have h2 : st'.nx + 1 ≤ (fn (adv st')).2.nx := hon.nx
    omega
set_option maxRecDepth 100000 in
set_option maxHeartbeats 1000000 in
theorem chain_term (c : Cx) (w : World) (st : St) (ev : Value) (fn : St → Rx) (b : Nat) (xs : List ByteArray) (R : Rx) (h : RS c w st ev) (HX : Hid (Texts w b xs)) (hbr : b ≠ c.rb) (hl : xs.length ≤ 100) (HN : Hid (nonE xs = true)) (HO : Hid (OnwF c.ts fn)) (HF : Hid (Spec c 275 st.dp fn)) (HR : Hid (R = chainP c.ts fn xs st)) :
    Calls Tryz.prog 274 #[.pointer (some ⟨c.rb, 0, none⟩), .func (.func 275) #[.pointer (some ⟨c.rb, 0, none⟩)] #[], .slice (some ⟨b, 0, none⟩) xs.length xs.length] w fun e w' => ExPost c w R e w' := by
  have HH := hide h
  clear h
  have hfp := field_part
  go_enter Tryz.func274, Tryz.ntmps274
  go_wp2_with fail
  refine (peek_any c _ st ev (by exact unhide HH)).mono ?_
  rintro e w1 ⟨rfl, hb1⟩
  have HB1 := hide hb1
  have HH1 := hide ((unhide HH).keep hb1)
  clear hb1
  generalize hpl : (tkAt c.ts st.nx).place = pl at *
  have HPL := hide hpl
  clear hpl
  go_wp2_with fail
  refine (unhide HF _ st ev (by exact (unhide HH1).alloc _) rfl).mono ?_
  rintro e w2 ⟨v, rfl, hv, ⟨⟨ev2, hs2⟩, hk2⟩, hex2⟩
  have hne1 : w1.heap.size ≠ c.rb := by have := lt_of_heap (unhide HH1).reader; omega
  have REL : Hid (ChRel c w fn xs st.dp w1.heap.size pl R c.ts.length v w2 (fn st).1 (fn st).2 ev2) := by
    refine ⟨hv, hs2, ((Kp.ofBelow (unhide HB1)).alloc _).trans hk2, fun he => (hex2 he).keep (Nat.le_trans (unhide HB1).size (by simp)) (NodeKeep.ofBelow (Below.refl _ _)), ?_, by omega, (unhide HO st (unhide HH).nx).dp, (hk2.block w1.heap.size (by simp) hne1).trans (heap_last rfl)⟩
    rw [unhide HR, ← unhide HPL]; rfl
  clear hv hs2 hk2 hex2
  go_wp2_with fail
  go_loopg [8] c.ts.length (fun f s8 wr => ∃ l st' ev', ChRel c w fn xs st.dp w1.heap.size pl R f s8 wr l st' ev')
  case atStart => exact ⟨_, _, _, unhide REL⟩
  case round =>
    obtain ⟨l, st', ev', hrel⟩ := hrel
    have HREL := hide hrel
    have hsz := hrel.kp.size
    obtain ⟨k0, f0⟩ := blk hrel.start
    clear hrel REL
    match gk, HREL with
    | 0, HREL => exact absurd (unhide HREL).fuel (by have := (unhide HREL).rs.nx; omega)
    | gk + 1, HREL =>
    cases hh : hitP c.ts st' xs with
    | false =>
      have HHIT := hide hh
      clear hh
      go_wp2_with fail
      refine (takeOne_no c _ st' ev' b xs (by exact (unhide HREL).rs) ((unhide HX).kp (unhide HREL).kp hbr) hl (unhide HHIT)).mono ?_
      rintro e w3 ⟨rfl, hb3⟩
      have HB3 := hide hb3
      clear hb3
      go_wp2
      go_ret
      have hr := (unhide HREL).eq
      unfold chainLoop at hr
      rw [if_neg (by rw [unhide HHIT]; decide)] at hr
      subst hr
      exact ⟨_, rfl, (unhide HREL).isI, ⟨⟨ev', (unhide HREL).rs.keep (unhide HB3)⟩, (unhide HREL).kp.trans (Kp.ofBelow (unhide HB3))⟩, fun he => ((unhide HREL).ex he).keep (Nat.le_refl _) (NodeKeep.ofBelow (unhide HB3))⟩
    | true =>
      have htx := hit_text hh (nonE_ok (unhide HN))
      have HHIT := hide hh
      clear hh
      go_wp2_with fail
      refine (takeOne_yes c _ st' ev' b xs (by exact (unhide HREL).rs) ((unhide HX).kp (unhide HREL).kp hbr) hl (unhide HHIT)).mono ?_
      rintro e w3 ⟨rfl, ⟨ev3, hs3⟩, hk3⟩
      have HS3 := hide hs3
      have HK3 := hide hk3
      have K3 := hide ((hk3.block w1.heap.size (lt_of_heap (unhide HREL).start) hne1).trans (unhide HREL).start)
      obtain ⟨k3, f3⟩ := blk (unhide K3)
      have hz3 := lt_of_heap (unhide K3)
      clear hs3 hk3 k0 f0
      go_wp2_with fail
      go_region_with (go_at_call 275; refine (unhide HF _ (adv st') ev3 (by exact (unhide HS3).drew) (by exact (unhide HREL).dp)).mono ?_; rintro e w4 ⟨v4, rfl, hv4, ⟨⟨ev4, hs4⟩, hk4⟩, hex4⟩; obtain ⟨k4, f4⟩ := blk ((hk4.block w1.heap.size (by simp; omega) hne1).trans (by exact unhide K3)); have hcv := hv4.cells; have hcu := (unhide HREL).isI.cells; unfold Value.cells at hcv hcu; have HV4 := hide hv4; have HS4 := hide hs4; have HK4 := hide hk4; have HEX4 := hide hex4; clear hv4 hs4 hk4 hex4)
      all_goals
        go_wp2
        go_roundg gk
        case measure => omega
        case rel =>
          refine ⟨_, _, ev4, chain_next (unhide HREL) (unhide HHIT) (unhide HS3) (unhide HK3) (unhide HO) (unhide HS4) (unhide HK4) (unhide HV4) (unhide HEX4) hne1⟩
set_option maxRecDepth 100000 in
set_option maxHeartbeats 1000000 in
theorem chain_factor (c : Cx) (w : World) (st : St) (ev : Value) (fn : St → Rx) (b : Nat) (xs : List ByteArray) (R : Rx) (h : RS c w st ev) (HX : Hid (Texts w b xs)) (hbr : b ≠ c.rb) (hl : xs.length ≤ 100) (HN : Hid (nonE xs = true)) (HO : Hid (OnwF c.ts fn)) (HF : Hid (Spec c 310 st.dp fn)) (HR : Hid (R = chainP c.ts fn xs st)) :
    Calls Tryz.prog 274 #[.pointer (some ⟨c.rb, 0, none⟩), .func (.func 310) #[.pointer (some ⟨c.rb, 0, none⟩)] #[], .slice (some ⟨b, 0, none⟩) xs.length xs.length] w fun e w' => ExPost c w R e w' := by
  have HH := hide h
  clear h
  have hfp := field_part
  go_enter Tryz.func274, Tryz.ntmps274
  go_wp2_with fail
  refine (peek_any c _ st ev (by exact unhide HH)).mono ?_
  rintro e w1 ⟨rfl, hb1⟩
  have HB1 := hide hb1
  have HH1 := hide ((unhide HH).keep hb1)
  clear hb1
  generalize hpl : (tkAt c.ts st.nx).place = pl at *
  have HPL := hide hpl
  clear hpl
  go_wp2_with fail
  refine (unhide HF _ st ev (by exact (unhide HH1).alloc _) rfl).mono ?_
  rintro e w2 ⟨v, rfl, hv, ⟨⟨ev2, hs2⟩, hk2⟩, hex2⟩
  have hne1 : w1.heap.size ≠ c.rb := by have := lt_of_heap (unhide HH1).reader; omega
  have REL : Hid (ChRel c w fn xs st.dp w1.heap.size pl R c.ts.length v w2 (fn st).1 (fn st).2 ev2) := by
    refine ⟨hv, hs2, ((Kp.ofBelow (unhide HB1)).alloc _).trans hk2, fun he => (hex2 he).keep (Nat.le_trans (unhide HB1).size (by simp)) (NodeKeep.ofBelow (Below.refl _ _)), ?_, by omega, (unhide HO st (unhide HH).nx).dp, (hk2.block w1.heap.size (by simp) hne1).trans (heap_last rfl)⟩
    rw [unhide HR, ← unhide HPL]; rfl
  clear hv hs2 hk2 hex2
  go_wp2_with fail
  go_loopg [8] c.ts.length (fun f s8 wr => ∃ l st' ev', ChRel c w fn xs st.dp w1.heap.size pl R f s8 wr l st' ev')
  case atStart => exact ⟨_, _, _, unhide REL⟩
  case round =>
    obtain ⟨l, st', ev', hrel⟩ := hrel
    have HREL := hide hrel
    have hsz := hrel.kp.size
    obtain ⟨k0, f0⟩ := blk hrel.start
    clear hrel REL
    match gk, HREL with
    | 0, HREL => exact absurd (unhide HREL).fuel (by have := (unhide HREL).rs.nx; omega)
    | gk + 1, HREL =>
    cases hh : hitP c.ts st' xs with
    | false =>
      have HHIT := hide hh
      clear hh
      go_wp2_with fail
      refine (takeOne_no c _ st' ev' b xs (by exact (unhide HREL).rs) ((unhide HX).kp (unhide HREL).kp hbr) hl (unhide HHIT)).mono ?_
      rintro e w3 ⟨rfl, hb3⟩
      have HB3 := hide hb3
      clear hb3
      go_wp2
      go_ret
      have hr := (unhide HREL).eq
      unfold chainLoop at hr
      rw [if_neg (by rw [unhide HHIT]; decide)] at hr
      subst hr
      exact ⟨_, rfl, (unhide HREL).isI, ⟨⟨ev', (unhide HREL).rs.keep (unhide HB3)⟩, (unhide HREL).kp.trans (Kp.ofBelow (unhide HB3))⟩, fun he => ((unhide HREL).ex he).keep (Nat.le_refl _) (NodeKeep.ofBelow (unhide HB3))⟩
    | true =>
      have htx := hit_text hh (nonE_ok (unhide HN))
      have HHIT := hide hh
      clear hh
      go_wp2_with fail
      refine (takeOne_yes c _ st' ev' b xs (by exact (unhide HREL).rs) ((unhide HX).kp (unhide HREL).kp hbr) hl (unhide HHIT)).mono ?_
      rintro e w3 ⟨rfl, ⟨ev3, hs3⟩, hk3⟩
      have HS3 := hide hs3
      have HK3 := hide hk3
      have K3 := hide ((hk3.block w1.heap.size (lt_of_heap (unhide HREL).start) hne1).trans (unhide HREL).start)
      obtain ⟨k3, f3⟩ := blk (unhide K3)
      have hz3 := lt_of_heap (unhide K3)
      clear hs3 hk3 k0 f0
      go_wp2_with fail
      go_region_with (go_at_call 310; refine (unhide HF _ (adv st') ev3 (by exact (unhide HS3).drew) (by exact (unhide HREL).dp)).mono ?_; rintro e w4 ⟨v4, rfl, hv4, ⟨⟨ev4, hs4⟩, hk4⟩, hex4⟩; obtain ⟨k4, f4⟩ := blk ((hk4.block w1.heap.size (by simp; omega) hne1).trans (by exact unhide K3)); have hcv := hv4.cells; have hcu := (unhide HREL).isI.cells; unfold Value.cells at hcv hcu; have HV4 := hide hv4; have HS4 := hide hs4; have HK4 := hide hk4; have HEX4 := hide hex4; clear hv4 hs4 hk4 hex4)
      all_goals
        go_wp2
        go_roundg gk
        case measure => omega
        case rel =>
          refine ⟨_, _, ev4, chain_next (unhide HREL) (unhide HHIT) (unhide HS3) (unhide HK3) (unhide HO) (unhide HS4) (unhide HK4) (unhide HV4) (unhide HEX4) hne1⟩
end Go.Proofs.YtfkeddkfegaeiaaGreatDoor
namespace Go.Proofs.YtfkeddkfegaeiaaGreatDoor
open Go.RowKit
set_option maxRecDepth 100000 in
set_option maxHeartbeats 400000 in
theorem term_spec (c : Cx) (d : Nat) (fac : St → Rx) (ho : OnwF c.ts fac) (hf : Spec c 310 d fac) : Spec c 275 d (termOf c.ts fac) := by
  intro w st ev h hd
  subst hd
  have HH := hide h
  have HF := hide hf
  have HO := hide ho
  clear h hf ho
  have hne : w.heap.size ≠ c.rb := by have := lt_of_heap (unhide HH).reader; omega
  obtain ⟨R, HR⟩ : ∃ R, Hid (R = termOf c.ts fac st) := ⟨_, rfl⟩
  rw [← unhide HR]
  go_enter Tryz.func275, Tryz.ntmps275
  go_wp2_with fail
  refine (chain_factor c _ st ev fac w.heap.size [⟨#[42]⟩] R (by exact (unhide HH).alloc _) (by exact texts_new rfl (fun j hj => by match j, hj with | 0, _ => rfl)) hne (by simp) (hide (by decide)) HO HF HR).mono ?_
  intro e w1 hp
  obtain ⟨v, rfl, hv, ha, hex⟩ := hp
  have HP := hide (And.intro hv (And.intro ha hex))
  clear hv ha hex
  go_wp2
  go_ret
  exact ⟨v, rfl, (unhide HP).1, Aft.trans ((Kp.refl _ _).alloc _) (unhide HP).2.1, fun he => ((unhide HP).2.2 he).keep (by simp) (NodeKeep.ofBelow (Below.refl _ _))⟩
set_option maxRecDepth 100000 in
set_option maxHeartbeats 400000 in
theorem expr_spec (c : Cx) (d : Nat) (fac : St → Rx) (ho : OnwF c.ts (termOf c.ts fac)) (hf : Spec c 275 d (termOf c.ts fac)) : Spec c 218 d (exprOf c.ts fac) := by
  intro w st ev h hd
  subst hd
  have HH := hide h
  have HF := hide hf
  have HO := hide ho
  clear h hf ho
  have hne : w.heap.size ≠ c.rb := by have := lt_of_heap (unhide HH).reader; omega
  obtain ⟨R, HR⟩ : ∃ R, Hid (R = exprOf c.ts fac st) := ⟨_, rfl⟩
  rw [← unhide HR]
  go_enter Tryz.func218, Tryz.ntmps218
  go_wp2_with fail
  refine (chain_term c _ st ev (termOf c.ts fac) w.heap.size [⟨#[43]⟩, ⟨#[45]⟩] R (by exact (unhide HH).alloc _) (by exact texts_new rfl (fun j hj => by match j, hj with | 0, _ => rfl | 1, _ => rfl)) hne (by simp) (hide (by decide)) HO HF HR).mono ?_
  intro e w1 hp
  obtain ⟨v, rfl, hv, ha, hex⟩ := hp
  have HP := hide (And.intro hv (And.intro ha hex))
  clear hv ha hex
  go_wp2
  go_ret
  exact ⟨v, rfl, (unhide HP).1, Aft.trans ((Kp.refl _ _).alloc _) (unhide HP).2.1, fun he => ((unhide HP).2.2 he).keep (by simp) (NodeKeep.ofBelow (Below.refl _ _))⟩
theorem fail_er (ts : List Tk) (st : St) (k : Nat) : (failP ts st k).er ≠ none := by
  unfold failP
  cases st.er with
  | none => simp
  | some x => simp
set_option maxRecDepth 100000 in
set_option maxHeartbeats 400000 in
theorem factor_deep (c : Cx) (w : World) (st : St) (ev : Value) (h : RS c w st ev) (hd : st.dp = 17) :
    Calls Tryz.prog 310 #[.pointer (some ⟨c.rb, 0, none⟩)] w fun e w' => ExPost c w ([], failP c.ts st eMany) e w' := by
  obtain ⟨r0, r1, r2, r3, hf, hrb⟩ := h.facts
  rw [hd] at r2
  have hg := h.env.cell 4 (by decide)
  have HH := hide h
  clear h hd
  go_enter Tryz.func310, Tryz.ntmps310
  go_wp2_with fail
  refine (fail_any c _ st ev eMany (by exact unhide HH)).mono ?_
  rintro e w1 ⟨rfl, ha⟩
  have HA := hide ha
  clear ha
  go_wp2
  go_ret
  exact ⟨.nilIface, rfl, Or.inl rfl, unhide HA, fun he => absurd he (fail_er _ _ _)⟩
set_option maxRecDepth 100000 in
set_option maxHeartbeats 400000 in
theorem factor_minus (c : Cx) (w : World) (st : St) (ev : Value) (n : Nat) (R : Rx) (h : RS c w st ev) (hd : st.dp ≤ 16) (HF : Hid (Spec c 310 (st.dp + 1) (factorP c.ts n))) (HM : Hid (hitP c.ts st xMin = true)) (HR : Hid (R = deepP (factorP c.ts n) (adv st))) :
    Calls Tryz.prog 310 #[.pointer (some ⟨c.rb, 0, none⟩)] w fun e w' => ExPost c w (ndMinus (tkAt c.ts st.nx).place :: R.1, R.2) e w' := by
  obtain ⟨r0, r1, r2, r3, hf, hrb⟩ := h.facts
  have hdb : decide (16 < (st.dp : Int)) = false := by simp; omega
  have hfp := field_part
  have HH := hide h
  clear h
  go_enter Tryz.func310, Tryz.ntmps310
  go_wp2_with fail
  refine (peek_any c _ st ev (by exact unhide HH)).mono ?_
  rintro e w1 ⟨rfl, hb1⟩
  have HB1 := hide hb1
  have HH1 := hide ((unhide HH).keep hb1)
  clear hb1 r0 r1 r2 r3 hf
  generalize hpl : (tkAt c.ts st.nx).place = pl at *
  have HPL := hide hpl
  clear hpl
  have hne1 : w1.heap.size ≠ c.rb := by have := lt_of_heap (unhide HH1).reader; omega
  go_wp2_with fail
  refine (take_yes c _ st ev ⟨#[45]⟩ (by exact (unhide HH1).alloc _) (by rw [ByteArray.toList_eq]; rfl) (by exact unhide HM)).mono ?_
  rintro e w2 ⟨rfl, ⟨ev2, hs2⟩, hk2⟩
  have K2 := hide ((hk2.block w1.heap.size (by simp) hne1).trans (heap_last rfl))
  obtain ⟨k2, f2⟩ := blk (unhide K2)
  have hz2 := lt_of_heap (unhide K2)
  have HS2 := hide hs2
  have HK2 := hide (((Kp.ofBelow (r := c.rb) (unhide HB1)).alloc _).trans hk2)
  clear hs2 hk2
  go_wp2_with fail
  go_region_with (go_at_call 328; refine (deeper_factor c _ (adv st) ev2 (factorP c.ts n) (by exact (unhide HS2).drew) hd (onw_factor (unhide HH).last n) (unhide HF)).mono ?_; rintro e w4 ⟨v4, rfl, hv4, ⟨⟨ev4, hs4⟩, hk4⟩, hex4⟩; obtain ⟨k4, f4⟩ := blk ((hk4.block w1.heap.size (by simp; omega) hne1).trans (by exact unhide K2)); have hcv := hv4.cells; unfold Value.cells at hcv; have HS4 := hide hs4; have HK4 := hide hk4; have HEX4 := hide hex4; clear hv4 hs4 hk4 hex4)
  all_goals
    go_wp2
    go_ret
    rw [unhide HR]
    refine ⟨.iface 392 (.pointer (some ⟨w4.heap.size, 0, none⟩)), rfl, Or.inr ⟨_, _, rfl⟩, ⟨⟨ev4, (unhide HS4).alloc _⟩, ((unhide HK2).drew.trans (unhide HK4)).alloc _⟩, fun he => ?_⟩
    obtain ⟨m, hm⟩ := (unhide HEX4) he
    rw [unhide HPL]
    exact ⟨m + 1, Or.inr (Or.inl ⟨w4.heap.size, pl, v4, _, rfl, Nat.le_trans (unhide HK2).size (unhide HK4).size, heap_last rfl, ExAt.keep (unhide HK2).size (NodeKeep.ofBelow ((Below.refl _ _).alloc (Nat.le_refl _) _)) m _ _ hm, rfl⟩)⟩
set_option maxRecDepth 100000 in
set_option maxHeartbeats 400000 in
theorem factor_open (c : Cx) (w : World) (st : St) (ev : Value) (n : Nat) (R : Rx) (h : RS c w st ev) (hd : st.dp ≤ 16) (HF : Hid (Spec c 218 (st.dp + 1) (exprOf c.ts (factorP c.ts n)))) (HM0 : Hid (hitP c.ts st xMin = false)) (HM : Hid (hitP c.ts st xOpen = true)) (HR : Hid (R = deepP (exprOf c.ts (factorP c.ts n)) (adv st))) :
    Calls Tryz.prog 310 #[.pointer (some ⟨c.rb, 0, none⟩)] w fun e w' => ExPost c w (ndBr (tkAt c.ts st.nx).place :: R.1, wantP c.ts R.2 xClose) e w' := by
  obtain ⟨r0, r1, r2, r3, hf, hrb⟩ := h.facts
  have hdb : decide (16 < (st.dp : Int)) = false := by simp; omega
  have hfp := field_part
  have HH := hide h
  clear h
  go_enter Tryz.func310, Tryz.ntmps310
  go_wp2_with fail
  refine (peek_any c _ st ev (by exact unhide HH)).mono ?_
  rintro e w1 ⟨rfl, hb1⟩
  have HB1 := hide hb1
  have HH1 := hide ((unhide HH).keep hb1)
  clear hb1 r0 r1 r2 r3 hf
  generalize hpl : (tkAt c.ts st.nx).place = pl at *
  have HPL := hide hpl
  clear hpl
  have hne1 : w1.heap.size ≠ c.rb := by have := lt_of_heap (unhide HH1).reader; omega
  go_wp2_with fail
  refine (take_no c _ st ev ⟨#[45]⟩ (by exact (unhide HH1).alloc _) (by exact unhide HM0)).mono ?_
  rintro e wa ⟨rfl, hba⟩
  have KA := hide ((hba.block w1.heap.size (by simp)).trans (heap_last rfl))
  have HA := hide (((unhide HH1).alloc _).keep hba)
  have HBA := hide hba
  clear hba
  go_wp2_with fail
  refine (take_yes c _ st ev ⟨#[40]⟩ (by exact unhide HA) (by rw [ByteArray.toList_eq]; rfl) (by exact unhide HM)).mono ?_
  rintro e w2 ⟨rfl, ⟨ev2, hs2⟩, hk2⟩
  have K2 := hide ((hk2.block w1.heap.size (lt_of_heap (unhide KA)) hne1).trans (unhide KA))
  obtain ⟨k2, f2⟩ := blk (unhide K2)
  have hz2 := lt_of_heap (unhide K2)
  have HS2 := hide hs2
  have HK2 := hide ((((Kp.ofBelow (r := c.rb) (unhide HB1)).alloc _).trans (Kp.ofBelow (unhide HBA))).trans hk2)
  clear hs2 hk2
  go_wp2_with fail
  go_region_with (go_at_call 328; refine (deeper_expr c _ (adv st) ev2 (exprOf c.ts (factorP c.ts n)) (by exact (unhide HS2).drew) hd (onw_expr (unhide HH).last (onw_factor (unhide HH).last n)) (unhide HF)).mono ?_; rintro e w4 ⟨v4, rfl, hv4, ⟨⟨ev4, hs4⟩, hk4⟩, hex4⟩; obtain ⟨k4, f4⟩ := blk ((hk4.block w1.heap.size (by simp; omega) hne1).trans (by exact unhide K2)); have hcv := hv4.cells; unfold Value.cells at hcv; have HS4 := hide hs4; have HK4 := hide hk4; have HEX4 := hide hex4; clear hv4 hs4 hk4 hex4)
  all_goals
    have hne4 : w4.heap.size ≠ c.rb := by have := lt_of_heap (unhide HS4).reader; omega
    have HR' : Hid (R = deepP (exprOf c.ts (factorP c.ts n)) (adv st)) := HR
    rw [← unhide HR'] at HS4 HEX4
    go_wp2_with fail
    refine (want_any c _ R.2 ev4 (w4.heap.size + 1) [⟨#[41]⟩] (by exact ((unhide HS4).alloc _).alloc _) (by exact texts_new (by simp) (fun j hj => by match j, hj with | 0, _ => rfl)) (by simp) (nonE_ok (by decide))).mono ?_
    rintro e w5 ⟨rfl, ⟨ev5, hs5⟩, hk5⟩
    have K5 := hide ((hk5.block w4.heap.size (by simp; omega) hne4).trans (heap_prev (heap_last rfl)))
    have HS5 := hide hs5
    have HK5 := hide hk5
    clear hs5 hk5
    go_wp2
    go_ret
    refine ⟨.iface 398 (.pointer (some ⟨w4.heap.size, 0, none⟩)), rfl, Or.inr ⟨_, _, rfl⟩, ⟨⟨ev5, unhide HS5⟩, ((((unhide HK2).drew.trans (unhide HK4)).alloc _).alloc _).trans (unhide HK5)⟩, fun he => ?_⟩
    obtain ⟨m, hm⟩ := (unhide HEX4) ((onw_want (unhide HH).last (unhide HS4).nx xClose).er he)
    rw [unhide HPL]
    have hnk : NodeKeep w2.drew.heap.size w4 w5 := (NodeKeep.ofBelow (((Below.refl _ _).alloc (Nat.le_refl _) _).alloc (by simp) _)).trans ((((unhide HS4).alloc _).alloc _).nodes (unhide HK5))
    exact ⟨m + 1, Or.inr (Or.inr (Or.inr (Or.inl ⟨w4.heap.size, pl, v4, _, rfl, Nat.le_trans (unhide HK2).size (unhide HK4).size, unhide K5, ExAt.keep (unhide HK2).size hnk m _ _ hm, rfl⟩)))⟩
end Go.Proofs.YtfkeddkfegaeiaaGreatDoor
namespace Go.Proofs.YtfkeddkfegaeiaaGreatDoor
open Go.RowKit
set_option maxRecDepth 100000 in
set_option maxHeartbeats 400000 in
theorem factor_num (c : Cx) (w : World) (st : St) (ev : Value) (h : RS c w st ev) (hd : st.dp ≤ 16) (HM0 : Hid (hitP c.ts st xMin = false)) (HM : Hid (hitP c.ts st xOpen = false)) (hk : (((tkAt c.ts st.nx).kind : Int) == 3) = true) :
    Calls Tryz.prog 310 #[.pointer (some ⟨c.rb, 0, none⟩)] w fun e w' => ExPost c w ([ndNum (wkT c.ts st 3)], wkP c.ts st 3) e w' := by
  obtain ⟨r0, r1, r2, r3, hf, hrb⟩ := h.facts
  have hdb : decide (16 < (st.dp : Int)) = false := by simp; omega
  have hfp := field_part
  have hfk := field_kind
  have HH := hide h
  clear h
  go_enter Tryz.func310, Tryz.ntmps310
  go_wp2_with fail
  refine (peek_any c _ st ev (by exact unhide HH)).mono ?_
  rintro e w1 ⟨rfl, hb1⟩
  have HB1 := hide hb1
  have HH1 := hide ((unhide HH).keep hb1)
  clear hb1 r0 r1 r2 r3 hf
  go_wp2_with fail
  refine (take_no c _ st ev ⟨#[45]⟩ (by exact (unhide HH1).alloc _) (by exact unhide HM0)).mono ?_
  rintro e wa ⟨rfl, hba⟩
  have HA := hide (((unhide HH1).alloc _).keep hba)
  have HKA := hide (((Kp.ofBelow (r := c.rb) (unhide HB1)).alloc _).trans (Kp.ofBelow hba))
  clear hba
  go_wp2_with fail
  refine (take_no c _ st ev ⟨#[40]⟩ (by exact unhide HA) (by exact unhide HM)).mono ?_
  rintro e wb ⟨rfl, hbb⟩
  have HB := hide ((unhide HA).keep hbb)
  have HKB := hide ((unhide HKA).trans (Kp.ofBelow hbb))
  clear hbb
  go_wp2_with fail
  refine (peek_any c _ st ev (by exact unhide HB)).mono ?_
  rintro e wd ⟨rfl, hbd⟩
  have HD := hide ((unhide HB).keep hbd)
  have HKD := hide ((unhide HKB).trans (Kp.ofBelow hbd))
  clear hbd
  go_wp2_with fail
  refine (number_any c _ st ev (by exact unhide HD)).mono ?_
  rintro e w2 ⟨b, rfl, hb, hblk, hs2, hk2⟩
  have K2 := hide hblk
  have HS2 := hide hs2
  have HK2 := hide ((unhide HKD).trans hk2)
  clear hblk hs2 hk2
  go_wp2
  go_ret
  exact ⟨_, rfl, Or.inr ⟨_, _, rfl⟩, ⟨unhide HS2, unhide HK2⟩, fun _ => ⟨1, Or.inl ⟨b, _, rfl, Nat.le_trans (unhide HKD).size hb, unhide K2, rfl⟩⟩⟩
set_option maxRecDepth 100000 in
set_option maxHeartbeats 400000 in
theorem factor_col (c : Cx) (w : World) (st : St) (ev : Value) (h : RS c w st ev) (hd : st.dp ≤ 16) (HM0 : Hid (hitP c.ts st xMin = false)) (HM : Hid (hitP c.ts st xOpen = false)) (hk : (((tkAt c.ts st.nx).kind : Int) == 3) = false) :
    Calls Tryz.prog 310 #[.pointer (some ⟨c.rb, 0, none⟩)] w fun e w' => ExPost c w ([ndCol (wkT c.ts st 2) (wkT c.ts (wantP c.ts (wkP c.ts st 2) [⟨#[46]⟩]) 2)], colP c.ts st) e w' := by
  obtain ⟨r0, r1, r2, r3, hf, hrb⟩ := h.facts
  have hdb : decide (16 < (st.dp : Int)) = false := by simp; omega
  have hfp := field_part
  have hfk := field_kind
  have HH := hide h
  clear h
  go_enter Tryz.func310, Tryz.ntmps310
  go_wp2_with fail
  refine (peek_any c _ st ev (by exact unhide HH)).mono ?_
  rintro e w1 ⟨rfl, hb1⟩
  have HB1 := hide hb1
  have HH1 := hide ((unhide HH).keep hb1)
  clear hb1 r0 r1 r2 r3 hf
  go_wp2_with fail
  refine (take_no c _ st ev ⟨#[45]⟩ (by exact (unhide HH1).alloc _) (by exact unhide HM0)).mono ?_
  rintro e wa ⟨rfl, hba⟩
  have HA := hide (((unhide HH1).alloc _).keep hba)
  have HKA := hide (((Kp.ofBelow (r := c.rb) (unhide HB1)).alloc _).trans (Kp.ofBelow hba))
  clear hba
  go_wp2_with fail
  refine (take_no c _ st ev ⟨#[40]⟩ (by exact unhide HA) (by exact unhide HM)).mono ?_
  rintro e wb ⟨rfl, hbb⟩
  have HB := hide ((unhide HA).keep hbb)
  have HKB := hide ((unhide HKA).trans (Kp.ofBelow hbb))
  clear hbb
  go_wp2_with fail
  refine (peek_any c _ st ev (by exact unhide HB)).mono ?_
  rintro e wd ⟨rfl, hbd⟩
  have HD := hide ((unhide HB).keep hbd)
  have HKD := hide ((unhide HKB).trans (Kp.ofBelow hbd))
  clear hbd
  go_wp2_with fail
  refine (column_any c _ st ev (by exact unhide HD)).mono ?_
  rintro e w2 ⟨b, rfl, hb, hblk, hs2, hk2⟩
  have K2 := hide hblk
  have HS2 := hide hs2
  have HK2 := hide ((unhide HKD).trans hk2)
  clear hblk hs2 hk2
  go_wp2
  go_ret
  exact ⟨_, rfl, Or.inr ⟨_, _, rfl⟩, ⟨unhide HS2, unhide HK2⟩, fun _ => ⟨1, Or.inr (Or.inr (Or.inl ⟨b, _, _, rfl, Nat.le_trans (unhide HKD).size hb, unhide K2, rfl⟩))⟩⟩
theorem factor_spec (c : Cx) (hl : Lst c.ts) : ∀ (n d : Nat), d + n = 17 → Spec c 310 d (factorP c.ts n)
  | 0, d, hd => fun w st ev h he => factor_deep c w st ev h (by omega)
  | n + 1, d, hd => fun w st ev h he => by
    have ih := factor_spec c hl n (d + 1) (by omega)
    have hd16 : st.dp ≤ 16 := by omega
    subst he
    unfold factorP
    by_cases h1 : hitP c.ts st xMin = true
    · rw [if_pos h1]
      exact factor_minus c w st ev n _ h hd16 ih h1 rfl
    · rw [if_neg h1]
      by_cases h2 : hitP c.ts st xOpen = true
      · rw [if_pos h2]
        exact factor_open c w st ev n _ h hd16 (expr_spec c _ _ (onw_chain hl (onw_factor hl n) _) (term_spec c _ _ (onw_factor hl n) ih)) (hide (by simpa using h1)) h2 rfl
      · rw [if_neg h2]
        by_cases h3 : (tkAt c.ts st.nx).kind = 3
        · rw [if_pos h3]
          exact factor_num c w st ev h hd16 (hide (by simpa using h1)) (hide (by simpa using h2)) (by rw [h3]; rfl)
        · rw [if_neg h3]
          exact factor_col c w st ev h hd16 (hide (by simpa using h1)) (hide (by simpa using h2)) (by simp; omega)
/-- an expr that stands in no other. -/
def exprP (ts : List Tk) : St → Rx := exprOf ts (factorP ts 17)
theorem onw_exprP {ts : List Tk} (hl : Lst ts) : OnwF ts (exprP ts) := onw_expr hl (onw_factor hl 17)
theorem exprP_spec (c : Cx) (hl : Lst c.ts) : Spec c 218 0 (exprP c.ts) :=
  expr_spec c 0 _ (onw_chain hl (onw_factor hl 17) _) (term_spec c 0 _ (onw_factor hl 17) (factor_spec c hl 17 0 rfl))
end Go.Proofs.YtfkeddkfegaeiaaGreatDoor
