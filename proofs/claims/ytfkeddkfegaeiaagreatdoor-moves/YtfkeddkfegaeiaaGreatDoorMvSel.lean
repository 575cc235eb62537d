/-
  Part 14.
-/
import Derived.Test.YtfkeddkfegaeiaaGreatDoorMvLsS
import Derived.Deep.CutRange
namespace Go.Proofs.YtfkeddkfegaeiaaGreatDoor
open Go.RowKit
/-- selection's own box, in the making. -/
structure SS (c : Cx) (w : World) (bs : Nat) (W : World) (st : St) (ev : Value) (p : Nat) (vi vs vt : Value) : Prop where
  rs : RS c W st ev
  kp : Kp c.rb w W
  box : W.heap[bs]? = some (.cells #[.int .i64 p, vi, vs, vt] 256 (0, 0))
  old : c.rb < w.heap.size ∧ c.tb < w.heap.size ∧ c.B ≤ w.heap.size ∧ w.heap.size ≤ bs
theorem SS.step {c : Cx} {w : World} {bs : Nat} {W W' : World} {st st' : St} {ev ev' : Value} {p : Nat} {vi vs vt : Value} (h : SS c w bs W st ev p vi vs vt) (hs : RS c W' st' ev') (hk : Kp c.rb W W') : SS c w bs W' st' ev' p vi vs vt :=
  ⟨hs, h.kp.trans hk, (hk.block _ (lt_of_heap h.box) (by have := h.old; omega)).trans h.box, h.old⟩
theorem SS.set {c : Cx} {w : World} {bs : Nat} {W : World} {st : St} {ev : Value} {p i : Nat} {vi vs vt vi' vs' vt' u : Value} (h : SS c w bs W st ev p vi vs vt)
    (he : #[.int .i64 p, vi, vs, vt].setIfInBounds i u = #[.int .i64 p, vi', vs', vt']) : SS c w bs (W.setCell ⟨bs, i, none⟩ u) st ev p vi' vs' vt' := by
  have h1 := h.old
  refine ⟨h.rs.kpb ((Kp.refl _ _).setCell _ _) (by omega) (by omega) (by omega) (fun p e => by rw [h.box]; simp), h.kp.setNew (by show w.heap.size ≤ bs; omega) _, ?_, h.old⟩
  rw [heap_set h.box, he]
theorem SS.setKeeps {c : Cx} {w : World} {bs lo : Nat} {W : World} {st : St} {ev : Value} {p i : Nat} {vi vs vt u : Value} (h : SS c w bs W st ev p vi vs vt) : Keeps lstT lo W (W.setCell ⟨bs, i, none⟩ u) :=
  Keeps.ofKp ((Kp.refl bs W).setCell i u) (Or.inr fun cs t e => by rw [h.box] at e; cases e; rfl)
theorem SS.keeps {c : Cx} {w : World} {bs lo : Nat} {W W' : World} {st : St} {ev : Value} {p : Nat} {vi vs vt : Value} (h : SS c w bs W st ev p vi vs vt) (hk : Kp c.rb W W') : Keeps lstT lo W W' := h.rs.keeps hk rfl
theorem SS.lo {c : Cx} {w : World} {bs : Nat} {W : World} {st : St} {ev : Value} {p : Nat} {vi vs vt : Value} (h : SS c w bs W st ev p vi vs vt) : w.heap.size ≤ W.heap.size := h.kp.size
theorem SS.drew {c : Cx} {w : World} {bs : Nat} {W : World} {st : St} {ev : Value} {p : Nat} {vi vs vt : Value} (h : SS c w bs W st ev p vi vs vt) : SS c w bs W.drew st ev p vi vs vt := ⟨h.rs.drew, h.kp.drew, h.box, h.old⟩
/-- a select whose tests are being read. -/
structure SR (c : Cx) (w w8 : World) (bs : Nat) (W : World) (st : St) (ev : Value) (p : Nat) (vi vs vt : Value) (us : List (TestA × Value × Value)) (f : Nat) (R : List TestA × St) : Prop where
  ss : SS c w bs W st ev p vi vs vt
  old : Old2 c bs w8.heap.size w8 W
  size : w8.heap.size ≤ W.heap.size
  row : W.ownsRow w8.heap.size 263 4 vt us.length (tsCells us)
  ok : st.er = none → TsOk W w.heap.size vt us
  pos : 0 < us.length
  few : us.length ≤ st.nx + 1
  eq : R = andLoop c.ts f (us.map (·.1)) st
  fuel : c.ts.length ≤ f + st.nx
  dp : st.dp = 0
/-- one test more. -/
theorem sr_more {c : Cx} {w w8 W W5 W6 : World} {bs : Nat} {vi vs vt v' x y : Value} {us : List (TestA × Value × Value)} {X : TestA × St} {stA : St} {evA ev5 : Value} {p f : Nat} {R : List TestA × St} (hl : Lst c.ts)
    (hss : SS c w bs W stA evA p vi vs vt) (h8 : w.heap.size ≤ w8.heap.size) (hold : Old2 c bs w8.heap.size w8 W) (h8W : w8.heap.size ≤ W.heap.size)
    (hrow : W.ownsRow w8.heap.size 263 4 vt us.length (tsCells us)) (hok : stA.er = none → TsOk W w.heap.size vt us)
    (hX : X = testP c.ts stA) (h5 : RS c W5 X.2 ev5) (hk5 : Kp c.rb W W5) (hex : X.2.er = none → ExOk W5 W.heap.size x X.1.l ∧ ExOk W5 W.heap.size y X.1.r)
    (ho : W6.ownsRow w8.heap.size 263 4 v' (us.length + 1) (tsCells us ++ [.int .i64 X.1.place, x, .string X.1.sg, y]))
    (hg : (W5.alloc (.cells #[.int .i64 X.1.place, x, .string X.1.sg, y] 263)).grownBy W6 vt.ownBlock)
    (hfresh : us = [] → ∀ g, v'.ownBlock = some g → W5.heap.size ≤ g)
    (hfew : us.length ≤ stA.nx) (hR : R = andLoop c.ts f (us.map (·.1) ++ [X.1]) X.2) (hfuel : c.ts.length ≤ f + stA.nx) (hdp : stA.dp = 0) (hbw : bs < w8.heap.size) :
    SR c w w8 bs (W6.setCell ⟨bs, 3, none⟩ v') X.2 ev5 p vi vs v' (us ++ [(X.1, x, y)]) f R := by
  have hon := onw_test hl stA hss.rs.nx
  rw [← hX] at hon
  have h1 := hss.old
  have hs5 := hss.step h5 hk5
  have hrow5 : W5.ownsRow w8.heap.size 263 4 vt us.length (tsCells us) := ownsRow_kp hrow hk5 (by omega)
  have hrowA := hrow5.alloc (.cells #[.int .i64 X.1.place, x, .string X.1.sg, y] 263)
  have hz5 := hk5.size
  have hrs6 : RS c W6 X.2 ev5 := (h5.alloc _).grown hrowA hg (by decide) (by omega) (by omega) (by omega)
  have hkp6 : Kp c.rb w W6 := Kp.grown (hs5.kp.alloc _) hrowA hg h8
  have hz6 := hg.size
  have hbox6 : W6.heap[bs]? = some (.cells #[.int .i64 p, vi, vs, vt] 256 (0, 0)) := by
    rw [hg.block bs (by simp; omega) (fun e => by have := (hrowA.lt bs e.symm).1; omega)]
    exact heap_prev hs5.box
  have hss6 : SS c w bs W6 X.2 ev5 p vi vs vt := ⟨hrs6, hkp6, hbox6, h1⟩
  have hsz6 : W.heap.size ≤ W6.heap.size := by simp at hz6; omega
  refine ⟨hss6.set rfl, ?_, by simp [World.setCell]; omega, ?_, fun he => ?_, by simp, ?_, ?_, ?_, hon.dp.trans hdp⟩
  · exact ((((hold.kp hk5 h8W).kp (W' := W5.alloc (.cells #[.int .i64 X.1.place, x, .string X.1.sg, y] 263)) ((Kp.refl c.rb W5).alloc _) (by omega)).grown hrowA hg (by simp; omega))).set
  · rw [← tsCells_snoc, List.length_append]
    exact ownsRow_keeps (S := fun t => t == 263) ho (Keeps.ofKp ((Kp.refl bs W6).setCell 3 v') (Or.inl hbw)) rfl
  · exact tests_more hss.rs ⟨_, hss.box⟩ h8 h8W hrow (hok (hon.er he)) hk5 (hex he).1 (hex he).2 ho hg hfresh
  · have := hon.nx; rw [List.length_append]; simp; omega
  · rw [hR, List.map_append]; rfl
  · have := hon.nx; omega
/-- items and sources, as they lie. -/
def ItsOk (w : World) (lo : Nat) (v : Value) (l : List ItemA) : Prop := ∃ es, w.ownsRow lo 251 5 v es.length (itCells es) ∧ es.map (·.1) = l ∧ ∀ e ∈ es, ItV w lo e.2.1 (.pointer e.2.2) e.1.win e.1.val
theorem ItsOk.keep {w w' : World} {lo lo' : Nat} {v : Value} {l : List ItemA} (h : ItsOk w lo v l) (hlo : lo' ≤ lo) (hk : Keeps lstT lo w w') : ItsOk w' lo' v l := by
  obtain ⟨es, h1, h2, h3⟩ := h
  exact ⟨es, ownsRow_low (ownsRow_keeps h1 hk rfl) hlo, h2, fun e he => (h3 e he).keep hlo hk.win⟩
set_option maxRecDepth 100000 in
set_option maxHeartbeats 2000000 in
theorem selection_any (c : Cx) (w : World) (st : St) (ev : Value) (X : SelX × St) (h : RS c w st ev) (hd0 : st.dp = 0) (HX : Hid (X = selP c.ts st)) :
    Calls Tryz.prog 98 #[.pointer (some ⟨c.rb, 0, none⟩)] w fun e w' => ∃ b, e = .returned (.pointer (some ⟨b, 0, none⟩)) ∧ w.heap.size ≤ b ∧ Aft c w X.2 w' ∧ (X.2.er = none → SelOk w' w.heap.size (.pointer (some ⟨b, 0, none⟩)) X.1) := by
  have HL := hide h.last
  have hold : c.rb < w.heap.size ∧ c.tb < w.heap.size ∧ c.B ≤ w.heap.size := ⟨lt_of_heap h.reader, by obtain ⟨cur, e1, _⟩ := h.tokens; exact lt_of_heap e1, h.env.size⟩
  have HOLD := hide hold
  have HH := hide h
  clear h hold
  have hfp := field_part
  go_enter Tryz.func98, Tryz.ntmps98
  go_wp2_with fail
  refine (peek_any c _ st ev (by exact unhide HH)).mono ?_
  rintro e w1 ⟨rfl, hb⟩
  have HB1 := hide hb
  clear hb
  generalize hpl : (tkAt c.ts st.nx).place = pl at *
  have HPL := hide hpl
  clear hpl
  go_upto_region 2 with (fail)
  have hss : SS c w w1.heap.size (w1.alloc (.cells #[.int .i64 pl, .slice none 0 0, .slice none 0 0, .slice none 0 0] 256)) st ev pl (.slice none 0 0) (.slice none 0 0) (.slice none 0 0) :=
    ⟨((unhide HH).keep (unhide HB1)).alloc _, (Kp.ofBelow (unhide HB1)).alloc _, heap_last rfl, (unhide HOLD).1, (unhide HOLD).2.1, (unhide HOLD).2.2, (unhide HB1).size⟩
  have HS0 := hide hss
  clear hss
  generalize w1.alloc (.cells #[.int .i64 pl, .slice none 0 0, .slice none 0 0, .slice none 0 0] 256) = w2 at *
  generalize w1.heap.size = bs at *
  go_wp2_with fail
  refine (want_any c _ st ev w2.heap.size [⟨#[115, 101, 108, 101, 99, 116]⟩] (by exact (unhide HS0).rs.alloc _) (by exact texts_new rfl (fun j hj => by match j, hj with | 0, _ => rfl)) (by simp) (nonE_ok (by decide))).mono ?_
  rintro e w3 ⟨rfl, ⟨ev3, hs⟩, hk⟩
  have HS3 := hide ((unhide HS0).step hs (((Kp.refl c.rb w2).alloc _).trans hk))
  have HON3 := hide (onw_want (unhide HL) (unhide HH).nx [⟨#[115, 101, 108, 101, 99, 116]⟩])
  clear hs hk HS0
  have hd3 : (wantP c.ts st [⟨#[115, 101, 108, 101, 99, 116]⟩]).dp = 0 := (unhide HON3).dp.trans hd0
  go_wp2_with fail
  refine (list_item c _ _ ev3 6 _ (by exact (unhide HS3).rs) hd3 (by decide) rfl).mono ?_
  rintro e w4 ⟨vi, es, rfl, hrow, hmap, hpos, ⟨⟨ev4, hs⟩, hk⟩, hok⟩
  obtain ⟨gi, ci, hvi⟩ := ownsRow_slice hrow hpos
  subst hvi
  have HS4 := hide ((unhide HS3).step hs hk)
  have HITS : Hid ((selI c.ts st).2.er = none → ItsOk w4 w.heap.size (.slice (some ⟨gi, 0, none⟩) es.length ci) (selI c.ts st).1) := fun he => ItsOk.keep (lo := w3.heap.size) ⟨es, hrow, hmap, hok he⟩ (unhide HS3).lo (Keeps.ofBelow (Below.refl _ _))
  have HON4 := hide (onw_selI (unhide HL) (unhide HH).nx)
  clear hs hk hrow hmap hok hd3
  generalize hri : selI c.ts st = ri at *
  have HS4' : Hid (SS c w bs w4 ri.2 ev4 pl (.slice none 0 0) (.slice none 0 0) (.slice none 0 0)) := by rw [← hri]; exact unhide HS4
  have HRI := hide hri
  clear hri HS4 HS3
  obtain ⟨k4, f4⟩ := blk (unhide HS4').box
  have z4 := lt_of_heap (unhide HS4').box
  go_upto_region 4 with (fail)
  have HS5 := hide ((unhide HS4').set (i := 1) (u := .slice (some ⟨gi, 0, none⟩) es.length ci) (vi' := .slice (some ⟨gi, 0, none⟩) es.length ci) rfl)
  have HITS5 := hide (fun he => ((unhide HITS) he).keep (Nat.le_refl _) ((unhide HS4').setKeeps (i := 1) (u := .slice (some ⟨gi, 0, none⟩) es.length ci)))
  clear k4 f4 z4 HITS HS4'
  generalize w4.setCell ⟨bs, 1, none⟩ (.slice (some ⟨gi, 0, none⟩) es.length ci) = w5 at *
  go_wp2_with fail
  refine (want_any c _ ri.2 ev4 w5.heap.size [⟨#[102, 114, 111, 109]⟩] (by exact (unhide HS5).rs.alloc _) (by exact texts_new rfl (fun j hj => by match j, hj with | 0, _ => rfl)) (by simp) (nonE_ok (by decide))).mono ?_
  rintro e w6 ⟨rfl, ⟨ev6, hs⟩, hk⟩
  have HS6 := hide ((unhide HS5).step hs (((Kp.refl c.rb w5).alloc _).trans hk))
  have HON6 := hide (onw_want (unhide HL) (unhide HS5).rs.nx [⟨#[102, 114, 111, 109]⟩])
  have HITS6 := hide (fun he => ((unhide HITS5) he).keep (Nat.le_refl _) ((unhide HS5).keeps (((Kp.refl c.rb w5).alloc _).trans hk)))
  clear hs hk
  go_wp2_with fail
  refine (list_source c _ _ ev6 3 _ (by exact (unhide HS6).rs) (by decide) rfl).mono ?_
  rintro e w7 ⟨vs, rfl, hrow, hpos, ⟨ev7, hs⟩, hk⟩
  obtain ⟨gs, cs, hvs⟩ := ownsRow_slice hrow hpos
  subst hvs
  have HS7 : Hid (SS c w bs w7 (selS c.ts ri.2).2 ev7 pl (.slice (some ⟨gi, 0, none⟩) es.length ci) (.slice none 0 0) (.slice none 0 0)) := (unhide HS6).step hs hk
  have HSR7 : Hid (w7.ownsRow w.heap.size 260 5 (.slice (some ⟨gs, 0, none⟩) (selS c.ts ri.2).1.length cs) (selS c.ts ri.2).1.length (srCells (selS c.ts ri.2).1)) := ownsRow_low hrow (unhide HS6).lo
  have HITS7 := hide (fun he => ((unhide HITS6) he).keep (Nat.le_refl _) ((unhide HS6).keeps hk))
  have HON7 := hide (onw_selS (unhide HL) (unhide HS5).rs.nx)
  rw [show (listP c.ts (srcP c.ts) 3 (wantP c.ts ri.2 [⟨#[102, 114, 111, 109]⟩])) = selS c.ts ri.2 from rfl]
  clear hs hk hrow hpos
  generalize hrs : selS c.ts ri.2 = rs at *
  have HRS := hide hrs
  clear hrs HS6 HS5
  obtain ⟨k7, f7⟩ := blk (unhide HS7).box
  have z7 := lt_of_heap (unhide HS7).box
  go_upto_region 6 with (fail)
  have HS8 := hide ((unhide HS7).set (i := 2) (u := .slice (some ⟨gs, 0, none⟩) rs.1.length cs) (vs' := .slice (some ⟨gs, 0, none⟩) rs.1.length cs) rfl)
  have KE8 : Hid (Keeps lstT w.heap.size w7 (w7.setCell ⟨bs, 2, none⟩ (.slice (some ⟨gs, 0, none⟩) rs.1.length cs))) := (unhide HS7).setKeeps
  have HITS8 := hide (fun he => ((unhide HITS7) he).keep (Nat.le_refl _) (unhide KE8))
  have HSR8 := hide (ownsRow_keeps (unhide HSR7) (unhide KE8) rfl)
  clear k7 f7 z7
  generalize w7.setCell ⟨bs, 2, none⟩ (.slice (some ⟨gs, 0, none⟩) rs.1.length cs) = w8 at *
  have HXE : Hid (X = (⟨pl, ri.1, rs.1, (whereP c.ts rs.2).1⟩, (whereP c.ts rs.2).2)) := by rw [unhide HX]; unfold Hid selP; rw [unhide HPL, unhide HRI, unhide HRS]
  cases hh : hitP c.ts rs.2 [⟨#[119, 104, 101, 114, 101]⟩] with
  | false =>
    have HR : Hid (whereP c.ts rs.2 = ([], rs.2)) := by unfold Hid whereP; rw [hh]; rfl
    have HHIT := hide hh
    clear hh
    go_wp2_with fail
    refine (take_no c _ rs.2 ev7 ⟨#[119, 104, 101, 114, 101]⟩ (by exact (unhide HS8).rs) (by exact unhide HHIT)).mono ?_
    rintro e w9 ⟨rfl, hb⟩
    have HS9 := hide ((unhide HS8).step ((unhide HS8).rs.keep hb) (Kp.ofBelow hb))
    have KE9 : Hid (Keeps lstT w.heap.size w8 w9) := Keeps.ofBelow hb
    clear hb
    go_wp2
    go_ret
    rw [unhide HXE, unhide HR]
    refine ⟨bs, rfl, (unhide HS9).old.2.2.2, ⟨⟨ev7, (unhide HS9).rs⟩, (unhide HS9).kp⟩, fun he => ?_⟩
    obtain ⟨es', i1, i2, i3⟩ := ((unhide HITS8) ((unhide HON7).er he)).keep (Nat.le_refl _) (unhide KE9)
    exact ⟨bs, _, _, _, es', [], rfl, (unhide HS9).old.2.2.2, (unhide HS9).box, ⟨i1, i2, i3⟩, ownsRow_keeps (unhide HSR8) (unhide KE9) rfl, World.ownsRow_nil _ _ _ _, rfl, fun u hu => by cases hu⟩
  | true =>
    have HHIT := hide hh
    clear hh
    go_wp2_with fail
    refine (take_yes c _ rs.2 ev7 ⟨#[119, 104, 101, 114, 101]⟩ (by exact (unhide HS8).rs) (by rw [ByteArray.toList_eq]; rfl) (by exact unhide HHIT)).mono ?_
    rintro e w9 ⟨rfl, ⟨ev9, hs⟩, hk⟩
    have HS9 := hide ((unhide HS8).step hs hk)
    have HK9 := hide hk
    have HON9 := hide (onw_adv (unhide HL) (unhide HS8).rs.nx (hit_kind (unhide HHIT)))
    clear hs hk
    obtain ⟨i0, hi, hinf⟩ := Option.map_eq_some_iff.1 infoPr
    simp only [Prod.mk.injEq] at hinf
    obtain ⟨hz0, hz1, hz2⟩ := hinf
    have HI := hide hi
    have HZ0 := hide hz0
    have HZ1 := hide hz1
    have HZ2 := hide hz2
    clear hi hz0 hz1 hz2
    have hd9 : (adv rs.2).dp = 0 := (unhide HON9).dp.trans ((unhide HON7).dp.trans ((unhide HON4).dp.trans hd0))
    have hbw : bs < w8.heap.size := lt_of_heap (unhide HS8).box
    have hneb : bs ≠ c.rb := by have := (unhide HS8).old; omega
    obtain ⟨R, HR⟩ : ∃ R, Hid (R = whereP c.ts rs.2) := ⟨_, rfl⟩
    go_upto_region 7 with (fail)
    go_cut [] from 31 to 41 (fun W => ∃ ev10 vt us st10, SR c w w8 bs W st10 ev10 pl (.slice (some ⟨gi, 0, none⟩) es.length ci) (.slice (some ⟨gs, 0, none⟩) rs.1.length cs) vt us c.ts.length R)
    case first =>
      obtain ⟨k9, f9⟩ := blk (unhide HS9).box
      have z9 := lt_of_heap (unhide HS9).box
      obtain ⟨Y, HY⟩ : ∃ Y, Hid (Y = testP c.ts (adv rs.2)) := ⟨_, rfl⟩
      go_region_law (first
        | (refine step_append_own rfl (.tmp 35) (.tmp 38) 254 rfl (w10.heap.size + 1) 263 i0 (.agg #[.int .i64 0, .nilIface, .string ⟨#[]⟩, .nilIface]) 4 56 Tryz.underlying254 (unhide HI) (unhide HZ0) (unhide HZ1) (unhide HZ2) rfl (by decide) (.slice none 0 0) 0 [] (by simp [Act.eval]) (World.ownsRow_nil _ _ _ _) ⟨w10.heap.size, 0, none⟩ 1 1 [.int .i64 Y.1.place, x10, .string Y.1.sg, y10] (by simp [Act.eval]) rfl (cell_new rfl) (one4v (unhide HX10) (unhide HY10)) (by unfold maxLen; omega) (by omega) (by simp) ?_; intro v' w11 ho hg; obtain ⟨gt, ct, hvt⟩ := ownsRow_slice ho (by omega); subst hvt; have K11 := hide ((hg.block bs (by simp; omega) (by simp [Value.ownBlock])).trans (heap_prev (unhide K10))); obtain ⟨k11, f11⟩ := blk (unhide K11); have HO11 := hide ho; have HG11 := hide hg; clear ho hg)
        | (go_simp; go_at_call 155; refine (test_any c _ (adv rs.2) ev9 Y (by exact (unhide HS9).rs.drew) hd9 HY).mono ?_; rintro e w10 ⟨x10, y10, rfl, hx, hy, ⟨⟨ev10, hs⟩, hk⟩, hex⟩; have K10 := hide ((hk.block bs (by simp; omega) hneb).trans (by exact (unhide HS9).box)); obtain ⟨k10, f10⟩ := blk (unhide K10); have z10 := lt_of_heap (unhide K10); have HX10 := hide hx; have HY10 := hide hy; have HS10 := hide hs; have HK10 := hide hk; have HEX10 := hide hex; clear hs hk hex hx hy))
      all_goals
        go_wp2_with fail
        go_meet
        case rel =>
          refine ⟨ev10, .slice (some ⟨gt, 0, none⟩) 1 ct, [(Y.1, x10, y10)], Y.2, ?_⟩
          refine sr_more (us := []) (unhide HL) (unhide HS9).drew (unhide HS8).kp.size ((show Old2 c bs w8.heap.size w8 w8 from fun _ _ _ _ => rfl).kp (unhide HK9).drew (Nat.le_refl _)) (unhide HK9).size (World.ownsRow_nil _ _ _ _) (fun _ u hu => by cases hu) (unhide HY) (unhide HS10) (unhide HK10) (unhide HEX10) (ownsRow_low (unhide HO11) (Nat.le_trans (unhide HK9).size (Nat.le_trans (unhide HK10).size (Nat.le_succ _)))) (unhide HG11) (fun _ g hg => ?_) (Nat.zero_le _) ?_ (by omega) hd9 hbw
          · have := ((unhide HO11).lt g hg).1; omega
          · rw [unhide HR]; unfold whereP; rw [unhide HHIT, ← unhide HY]; rfl
    case rest =>
      obtain ⟨ev10, vt0, us0, st10, hsr⟩ := hcut
      have HSR := hide hsr
      clear hsr
      go_wp2_with fail
      go_loopg [] c.ts.length (fun f wr => ∃ ev' vt us st', SR c w w8 bs wr st' ev' pl (.slice (some ⟨gi, 0, none⟩) es.length ci) (.slice (some ⟨gs, 0, none⟩) rs.1.length cs) vt us f R)
      case atStart => exact ⟨_, _, _, _, unhide HSR⟩
      case round =>
        obtain ⟨ev', vt, us, st', hrel⟩ := hrel
        have HREL := hide hrel
        clear hrel HSR
        match gk, HREL with
        | 0, HREL => exact absurd (unhide HREL).fuel (by have := (unhide HREL).ss.rs.nx; omega)
        | gk + 1, HREL =>
        cases hh : hitP c.ts st' [⟨#[97, 110, 100]⟩] with
        | false =>
          have HAND := hide hh
          clear hh
          go_wp2_with fail
          refine (take_no c _ st' ev' ⟨#[97, 110, 100]⟩ (by exact (unhide HREL).ss.rs) (by exact unhide HAND)).mono ?_
          rintro e w12 ⟨rfl, hb⟩
          have HB12 := hide hb
          clear hb
          go_wp2
          go_ret
          have hr := (unhide HREL).eq
          unfold andLoop at hr
          rw [if_neg (by rw [unhide HAND]; decide)] at hr
          rw [unhide HXE, ← unhide HR, hr]
          have hold := (unhide HREL).ss.old
          refine ⟨bs, rfl, hold.2.2.2, ⟨⟨ev', (unhide HREL).ss.rs.keep (unhide HB12)⟩, (unhide HREL).ss.kp.trans (Kp.ofBelow (unhide HB12))⟩, fun he => ?_⟩
          have honw : (whereP c.ts rs.2).2.er = none → rs.2.er = none := (onw_where (unhide HL) (unhide HS8).rs.nx).er
          have e7 : rs.2.er = none := honw (by rw [← unhide HR, hr]; exact he)
          have ke : Keeps lstT w.heap.size w8 w12 := fun k cq tq _ hk ht => by
            have hk8 := lt_of_heap hk
            rw [(unhide HB12).block k (Nat.lt_of_lt_of_le hk8 (unhide HREL).size)]
            refine (unhide HREL).old k hk8 (fun e => ?_) (fun e => ?_)
            · subst e; rw [(unhide HS8).rs.reader] at hk; cases hk; cases ht
            · subst e; rw [(unhide HS8).box] at hk; cases hk; cases ht
          obtain ⟨es', i1, i2, i3⟩ := ((unhide HITS8) ((unhide HON7).er e7)).keep (Nat.le_refl _) ke
          refine ⟨bs, _, _, vt, es', us, rfl, hold.2.2.2, ((unhide HB12).block bs (lt_of_heap (unhide HREL).ss.box)).trans (unhide HREL).ss.box, ⟨i1, i2, i3⟩, ownsRow_keeps (unhide HSR8) ke rfl, ?_, rfl, ?_⟩
          · exact ownsRow_low (ownsRow_keep (unhide HREL).row (unhide HB12)) (unhide HS8).kp.size
          · exact ((unhide HREL).ok he).keep (fun k _ _ _ hk _ => (unhide HB12).block k (lt_of_heap hk))
        | true =>
          have HAND := hide hh
          clear hh
          obtain ⟨gt, ct, hvt⟩ := ownsRow_slice (unhide HREL).row (unhide HREL).pos
          subst hvt
          have hlen := (unhide HREL).ss.rs.len
          have hnx := (unhide HREL).ss.rs.nx
          have hfew := (unhide HREL).few
          go_wp2_with fail
          refine (take_yes c _ st' ev' ⟨#[97, 110, 100]⟩ (by exact (unhide HREL).ss.rs) (by rw [ByteArray.toList_eq]; rfl) (by exact unhide HAND)).mono ?_
          rintro e w12 ⟨rfl, ⟨ev12, hs⟩, hk⟩
          have HS12 := hide ((unhide HREL).ss.step hs hk)
          have HK12 := hide hk
          clear hs hk
          have hd12 : (adv st').dp = 0 := (unhide HREL).dp
          have hlow : c.rb < w8.heap.size := by have := (unhide HS8).old; have := (unhide HS8).kp.size; omega
          have ROW12 := hide (ownsRow_kp (unhide HREL).row (unhide HK12) hlow)
          obtain ⟨k9, f9⟩ := blk (unhide HS12).box
          have z9 := lt_of_heap (unhide HS12).box
          have h812 : w8.heap.size ≤ w12.heap.size := Nat.le_trans (unhide HREL).size (unhide HK12).size
          obtain ⟨Y, HY⟩ : ∃ Y, Hid (Y = testP c.ts (adv st')) := ⟨_, rfl⟩
          go_upto_region 9 with (fail)
          go_region_law (first
            | (refine step_append_own rfl (.tmp 48) (.tmp 51) 254 rfl w8.heap.size 263 i0 (.agg #[.int .i64 0, .nilIface, .string ⟨#[]⟩, .nilIface]) 4 56 Tryz.underlying254 (unhide HI) (unhide HZ0) (unhide HZ1) (unhide HZ2) rfl (by decide) (.slice (some ⟨gt, 0, none⟩) us.length ct) us.length (tsCells us) (by simp [Act.eval]) ((unhide ROW10).alloc _) ⟨w10.heap.size, 0, none⟩ 1 1 [.int .i64 Y.1.place, x10, .string Y.1.sg, y10] (by simp [Act.eval]) rfl (cell_new rfl) (one4v (unhide HX10) (unhide HY10)) (by unfold maxLen; omega) (by omega) (by simp; omega) ?_; intro v' w11 ho hg; obtain ⟨gt', ct', hvt⟩ := ownsRow_slice ho (by omega); subst hvt; have K11 := hide ((hg.block bs (by simp; omega) (fun e1 => by have := ((unhide ROW10).lt bs e1.symm).1; omega)).trans (heap_prev (unhide K10))); obtain ⟨k11, f11⟩ := blk (unhide K11); have HO11 := hide ho; have HG11 := hide hg; clear ho hg)
            | (go_simp; go_at_call 155; refine (test_any c _ (adv st') ev12 Y (by exact (unhide HS12).rs.drew) hd12 HY).mono ?_; rintro e w10 ⟨x10, y10, rfl, hx, hy, ⟨⟨ev10, hs⟩, hk⟩, hex⟩; have K10 := hide ((hk.block bs (by simp; omega) hneb).trans (by exact (unhide HS12).box)); obtain ⟨k10, f10⟩ := blk (unhide K10); have z10 := lt_of_heap (unhide K10); have h810 : w8.heap.size ≤ w10.heap.size := (by have := hk.size; simp at this; omega); have ROW10 : Hid (w10.ownsRow w8.heap.size 263 4 (.slice (some ⟨gt, 0, none⟩) us.length ct) us.length (tsCells us)) := ownsRow_kp (w := w12.drew) (unhide ROW12) hk hlow; have HX10 := hide hx; have HY10 := hide hy; have HS10 := hide hs; have HK10 := hide hk; have HEX10 := hide hex; clear hs hk hex hx hy))
          all_goals
            go_wp2
            go_roundg gk
            case measure => omega
            case rel =>
              refine ⟨ev10, .slice (some ⟨gt', 0, none⟩) (us.length + 1) ct', us ++ [(Y.1, x10, y10)], Y.2, ?_⟩
              have hadv := onw_adv (unhide HL) (unhide HREL).ss.rs.nx (hit_kind (unhide HAND))
              refine sr_more (us := us) (unhide HL) (unhide HS12).drew (unhide HS8).kp.size ((unhide HREL).old.kp (unhide HK12).drew (unhide HREL).size) h812 (unhide ROW12) (fun he => ?_) (unhide HY) (unhide HS10) (unhide HK10) (unhide HEX10) (unhide HO11) (unhide HG11) (fun e => ?_) ?_ ?_ ?_ hd12 hbw
              · exact ((unhide HREL).ok (hadv.er he)).keep (fun k cq tq _ hk ht => ((unhide HREL).ss.rs.nodes (lo := 0) (unhide HK12)) k cq tq (Nat.zero_le _) hk ht)
              · have := (unhide HREL).pos; rw [e] at this; cases this
              · show us.length ≤ st'.nx + 1; exact hfew
              · have hr := (unhide HREL).eq
                unfold andLoop at hr
                rw [if_pos (unhide HAND)] at hr
                rw [hr, ← unhide HY]
              · have := (unhide HREL).fuel; show c.ts.length ≤ gk + (st'.nx + 1); omega
end Go.Proofs.YtfkeddkfegaeiaaGreatDoor
