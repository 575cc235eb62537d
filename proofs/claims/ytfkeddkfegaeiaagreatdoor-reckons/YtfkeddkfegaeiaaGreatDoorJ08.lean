/-
  Part 8.
-/
import Derived.Test.YtfkeddkfegaeiaaGreatDoorJ07
import Derived.Deep.LoopGhost
namespace Go.Proofs.YtfkeddkfegaeiaaGreatDoor
open Go.RowKit

theorem Texts.kp {w w' : World} {r b : Nat} {xs : List ByteArray} (h : Texts w b xs) (hk : Kp r w w') (hb : b ≠ r) : Texts w' b xs :=
  ⟨Nat.lt_of_lt_of_le h.1 hk.size, fun j hj => (hk.cell (p := ⟨b, 0 + j, none⟩) h.1 hb).trans (h.2 j hj)⟩

theorem IsI.cells {v : Value} (h : IsI v) : v.cells = #[v] := by rcases h with rfl | ⟨u, x, rfl⟩ <;> rfl

/-- chain's loop: so far the nodes l (value v), at state st'; f rounds at most; sb: the block of the place where it began. -/
structure ChRel (c : Cx) (w : World) (fn : St → Rx) (xs : List ByteArray) (d sb pl : Nat) (R : Rx) (f : Nat) (v : Value) (wr : World) (l : List Nd) (st' : St) (ev' : Value) : Prop where
  isI : IsI v
  rs : RS c wr st' ev'
  kp : Kp c.rb w wr
  ex : st'.er = none → ExOk wr w.heap.size v l
  eq : R = chainLoop c.ts fn xs pl f l st'
  fuel : c.ts.length ≤ f + st'.nx
  dp : st'.dp = d
  start : wr.heap[sb]? = some (.cells #[.int .i64 pl] 170 (0, 0))

theorem chain_next {c : Cx} {w wr w3 w4 : World} {fn : St → Rx} {xs : List ByteArray} {d sb pl gk : Nat} {R : Rx} {v v4 : Value} {l : List Nd} {st' : St} {ev' ev3 ev4 : Value} (hr : ChRel c w fn xs d sb pl R (gk + 1) v wr l st' ev') (hh : hitP c.ts st' xs = true)
    (h3 : RS c w3 (adv st') ev3) (hk3 : Kp c.rb wr w3) (ho : OnwF c.ts fn) (h4 : RS c w4 (fn (adv st')).2 ev4) (hk4 : Kp c.rb w3.drew w4) (_hv4 : IsI v4) (hex : (fn (adv st')).2.er = none → ExOk w4 w3.drew.heap.size v4 (fn (adv st')).1) (hsb : sb ≠ c.rb) :
    ChRel c w fn xs d sb pl R gk (.iface 265 (.pointer (some ⟨w4.heap.size, 0, none⟩))) (w4.alloc (.cells #[.int .i64 pl, v, .string (tkAt c.ts st'.nx).text, v4] 263)) (ndPair pl (tkAt c.ts st'.nx).text :: (l ++ (fn (adv st')).1)) (fn (adv st')).2 ev4 := by
  have hon := ho (adv st') h3.nx
  have hk34 : Kp c.rb wr w4 := hk3.drew.trans hk4
  refine ⟨Or.inr ⟨_, _, rfl⟩, h4.alloc _, (hr.kp.trans hk34).alloc _, fun he => ?_, ?_, ?_, hon.dp.trans hr.dp, heap_prev ((hk34.block _ (lt_of_heap hr.start) hsb).trans hr.start)⟩
  · refine ExOk.pair (Nat.le_trans hr.kp.size hk34.size) (heap_last rfl) ((hr.ex (hon.er he)).keep (Nat.le_refl _) ?_) ((hex he).keep (Nat.le_trans hr.kp.size hk3.size) (NodeKeep.ofBelow ((Below.refl _ _).alloc (Nat.le_refl _) _)))
    exact (hr.rs.nodes hk34).trans (NodeKeep.ofBelow ((Below.refl _ _).alloc (Nat.le_refl _) _))
  · have e := hr.eq
    unfold chainLoop at e
    rw [if_pos hh] at e
    exact e
  · have h1 := hr.fuel
    have h2 : st'.nx + 1 ≤ (fn (adv st')).2.nx := hon.nx
    omega

set_option maxRecDepth 100000 in
set_option maxHeartbeats 1000000 in
theorem chain_term (c : Cx) (w : World) (st : St) (ev : Value) (fn : St → Rx) (b : Nat) (xs : List ByteArray) (R : Rx) (h : RS c w st ev) (HX : Hid (Texts w b xs)) (hbr : b ≠ c.rb) (hl : xs.length ≤ 100) (HN : Hid (nonE xs = true)) (HO : Hid (OnwF c.ts fn)) (HF : Hid (Spec c 275 st.dp fn)) (HR : Hid (R = chainP c.ts fn xs st)) :
    Calls Tryz.prog 274 #[.pointer (some ⟨c.rb, 0, none⟩), .func (.func 275) #[.pointer (some ⟨c.rb, 0, none⟩)] #[], .slice (some ⟨b, 0, none⟩) xs.length xs.length] w fun e w' => ExPost c w R e w' := by
  have HH := hide h
  clear h
  have hfp := field_part
  go_enter Tryz.func274, Tryz.ntmps274
  go_wp2_with fail
  refine (peek_any c _ st ev (by exact unhide HH)).mono ?_
  rintro e w1 ⟨rfl, hb1⟩
  have HB1 := hide hb1
  have HH1 := hide ((unhide HH).keep hb1)
  clear hb1
  generalize hpl : (tkAt c.ts st.nx).place = pl at *
  have HPL := hide hpl
  clear hpl
  go_wp2_with fail
  refine (unhide HF _ st ev (by exact (unhide HH1).alloc _) rfl).mono ?_
  rintro e w2 ⟨v, rfl, hv, ⟨⟨ev2, hs2⟩, hk2⟩, hex2⟩
  have hne1 : w1.heap.size ≠ c.rb := by have := lt_of_heap (unhide HH1).reader; omega
  have REL : Hid (ChRel c w fn xs st.dp w1.heap.size pl R c.ts.length v w2 (fn st).1 (fn st).2 ev2) := by
    refine ⟨hv, hs2, ((Kp.ofBelow (unhide HB1)).alloc _).trans hk2, fun he => (hex2 he).keep (Nat.le_trans (unhide HB1).size (by simp)) (NodeKeep.ofBelow (Below.refl _ _)), ?_, by omega, (unhide HO st (unhide HH).nx).dp, (hk2.block w1.heap.size (by simp) hne1).trans (heap_last rfl)⟩
    rw [unhide HR, ← unhide HPL]; rfl
  clear hv hs2 hk2 hex2
  go_wp2_with fail
  go_loopg [8] c.ts.length (fun f s8 wr => ∃ l st' ev', ChRel c w fn xs st.dp w1.heap.size pl R f s8 wr l st' ev')
  case atStart => exact ⟨_, _, _, unhide REL⟩
  case round =>
    obtain ⟨l, st', ev', hrel⟩ := hrel
    have HREL := hide hrel
    have hsz := hrel.kp.size
    obtain ⟨k0, f0⟩ := blk hrel.start
    clear hrel REL
    match gk, HREL with
    | 0, HREL => exact absurd (unhide HREL).fuel (by have := (unhide HREL).rs.nx; omega)
    | gk + 1, HREL =>
    cases hh : hitP c.ts st' xs with
    | false =>
      have HHIT := hide hh
      clear hh
      go_wp2_with fail
      refine (takeOne_no c _ st' ev' b xs (by exact (unhide HREL).rs) ((unhide HX).kp (unhide HREL).kp hbr) hl (unhide HHIT)).mono ?_
      rintro e w3 ⟨rfl, hb3⟩
      have HB3 := hide hb3
      clear hb3
      go_wp2
      go_ret
      have hr := (unhide HREL).eq
      unfold chainLoop at hr
      rw [if_neg (by rw [unhide HHIT]; decide)] at hr
      subst hr
      exact ⟨_, rfl, (unhide HREL).isI, ⟨⟨ev', (unhide HREL).rs.keep (unhide HB3)⟩, (unhide HREL).kp.trans (Kp.ofBelow (unhide HB3))⟩, fun he => ((unhide HREL).ex he).keep (Nat.le_refl _) (NodeKeep.ofBelow (unhide HB3))⟩
    | true =>
      have htx := hit_text hh (nonE_ok (unhide HN))
      have HHIT := hide hh
      clear hh
      go_wp2_with fail
      refine (takeOne_yes c _ st' ev' b xs (by exact (unhide HREL).rs) ((unhide HX).kp (unhide HREL).kp hbr) hl (unhide HHIT)).mono ?_
      rintro e w3 ⟨rfl, ⟨ev3, hs3⟩, hk3⟩
      have HS3 := hide hs3
      have HK3 := hide hk3
      have K3 := hide ((hk3.block w1.heap.size (lt_of_heap (unhide HREL).start) hne1).trans (unhide HREL).start)
      obtain ⟨k3, f3⟩ := blk (unhide K3)
      have hz3 := lt_of_heap (unhide K3)
      clear hs3 hk3 k0 f0
      go_wp2_with fail
      go_region_with (go_at_call 275; refine (unhide HF _ (adv st') ev3 (by exact (unhide HS3).drew) (by exact (unhide HREL).dp)).mono ?_; rintro e w4 ⟨v4, rfl, hv4, ⟨⟨ev4, hs4⟩, hk4⟩, hex4⟩; obtain ⟨k4, f4⟩ := blk ((hk4.block w1.heap.size (by simp; omega) hne1).trans (by exact unhide K3)); have hcv := hv4.cells; have hcu := (unhide HREL).isI.cells; unfold Value.cells at hcv hcu; have HV4 := hide hv4; have HS4 := hide hs4; have HK4 := hide hk4; have HEX4 := hide hex4; clear hv4 hs4 hk4 hex4)
      all_goals
        go_wp2
        go_roundg gk
        case measure => omega
        case rel =>
          refine ⟨_, _, ev4, chain_next (unhide HREL) (unhide HHIT) (unhide HS3) (unhide HK3) (unhide HO) (unhide HS4) (unhide HK4) (unhide HV4) (unhide HEX4) hne1⟩

set_option maxRecDepth 100000 in
set_option maxHeartbeats 1000000 in
theorem chain_factor (c : Cx) (w : World) (st : St) (ev : Value) (fn : St → Rx) (b : Nat) (xs : List ByteArray) (R : Rx) (h : RS c w st ev) (HX : Hid (Texts w b xs)) (hbr : b ≠ c.rb) (hl : xs.length ≤ 100) (HN : Hid (nonE xs = true)) (HO : Hid (OnwF c.ts fn)) (HF : Hid (Spec c 310 st.dp fn)) (HR : Hid (R = chainP c.ts fn xs st)) :
    Calls Tryz.prog 274 #[.pointer (some ⟨c.rb, 0, none⟩), .func (.func 310) #[.pointer (some ⟨c.rb, 0, none⟩)] #[], .slice (some ⟨b, 0, none⟩) xs.length xs.length] w fun e w' => ExPost c w R e w' := by
  have HH := hide h
  clear h
  have hfp := field_part
  go_enter Tryz.func274, Tryz.ntmps274
  go_wp2_with fail
  refine (peek_any c _ st ev (by exact unhide HH)).mono ?_
  rintro e w1 ⟨rfl, hb1⟩
  have HB1 := hide hb1
  have HH1 := hide ((unhide HH).keep hb1)
  clear hb1
  generalize hpl : (tkAt c.ts st.nx).place = pl at *
  have HPL := hide hpl
  clear hpl
  go_wp2_with fail
  refine (unhide HF _ st ev (by exact (unhide HH1).alloc _) rfl).mono ?_
  rintro e w2 ⟨v, rfl, hv, ⟨⟨ev2, hs2⟩, hk2⟩, hex2⟩
  have hne1 : w1.heap.size ≠ c.rb := by have := lt_of_heap (unhide HH1).reader; omega
  have REL : Hid (ChRel c w fn xs st.dp w1.heap.size pl R c.ts.length v w2 (fn st).1 (fn st).2 ev2) := by
    refine ⟨hv, hs2, ((Kp.ofBelow (unhide HB1)).alloc _).trans hk2, fun he => (hex2 he).keep (Nat.le_trans (unhide HB1).size (by simp)) (NodeKeep.ofBelow (Below.refl _ _)), ?_, by omega, (unhide HO st (unhide HH).nx).dp, (hk2.block w1.heap.size (by simp) hne1).trans (heap_last rfl)⟩
    rw [unhide HR, ← unhide HPL]; rfl
  clear hv hs2 hk2 hex2
  go_wp2_with fail
  go_loopg [8] c.ts.length (fun f s8 wr => ∃ l st' ev', ChRel c w fn xs st.dp w1.heap.size pl R f s8 wr l st' ev')
  case atStart => exact ⟨_, _, _, unhide REL⟩
  case round =>
    obtain ⟨l, st', ev', hrel⟩ := hrel
    have HREL := hide hrel
    have hsz := hrel.kp.size
    obtain ⟨k0, f0⟩ := blk hrel.start
    clear hrel REL
    match gk, HREL with
    | 0, HREL => exact absurd (unhide HREL).fuel (by have := (unhide HREL).rs.nx; omega)
    | gk + 1, HREL =>
    cases hh : hitP c.ts st' xs with
    | false =>
      have HHIT := hide hh
      clear hh
      go_wp2_with fail
      refine (takeOne_no c _ st' ev' b xs (by exact (unhide HREL).rs) ((unhide HX).kp (unhide HREL).kp hbr) hl (unhide HHIT)).mono ?_
      rintro e w3 ⟨rfl, hb3⟩
      have HB3 := hide hb3
      clear hb3
      go_wp2
      go_ret
      have hr := (unhide HREL).eq
      unfold chainLoop at hr
      rw [if_neg (by rw [unhide HHIT]; decide)] at hr
      subst hr
      exact ⟨_, rfl, (unhide HREL).isI, ⟨⟨ev', (unhide HREL).rs.keep (unhide HB3)⟩, (unhide HREL).kp.trans (Kp.ofBelow (unhide HB3))⟩, fun he => ((unhide HREL).ex he).keep (Nat.le_refl _) (NodeKeep.ofBelow (unhide HB3))⟩
    | true =>
      have htx := hit_text hh (nonE_ok (unhide HN))
      have HHIT := hide hh
      clear hh
      go_wp2_with fail
      refine (takeOne_yes c _ st' ev' b xs (by exact (unhide HREL).rs) ((unhide HX).kp (unhide HREL).kp hbr) hl (unhide HHIT)).mono ?_
      rintro e w3 ⟨rfl, ⟨ev3, hs3⟩, hk3⟩
      have HS3 := hide hs3
      have HK3 := hide hk3
      have K3 := hide ((hk3.block w1.heap.size (lt_of_heap (unhide HREL).start) hne1).trans (unhide HREL).start)
      obtain ⟨k3, f3⟩ := blk (unhide K3)
      have hz3 := lt_of_heap (unhide K3)
      clear hs3 hk3 k0 f0
      go_wp2_with fail
      go_region_with (go_at_call 310; refine (unhide HF _ (adv st') ev3 (by exact (unhide HS3).drew) (by exact (unhide HREL).dp)).mono ?_; rintro e w4 ⟨v4, rfl, hv4, ⟨⟨ev4, hs4⟩, hk4⟩, hex4⟩; obtain ⟨k4, f4⟩ := blk ((hk4.block w1.heap.size (by simp; omega) hne1).trans (by exact unhide K3)); have hcv := hv4.cells; have hcu := (unhide HREL).isI.cells; unfold Value.cells at hcv hcu; have HV4 := hide hv4; have HS4 := hide hs4; have HK4 := hide hk4; have HEX4 := hide hex4; clear hv4 hs4 hk4 hex4)
      all_goals
        go_wp2
        go_roundg gk
        case measure => omega
        case rel =>
          refine ⟨_, _, ev4, chain_next (unhide HREL) (unhide HHIT) (unhide HS3) (unhide HK3) (unhide HO) (unhide HS4) (unhide HK4) (unhide HV4) (unhide HEX4) hne1⟩

end Go.Proofs.YtfkeddkfegaeiaaGreatDoor
