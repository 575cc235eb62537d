/-
  The walk of test.
-/
import Derived.Test.YtjnmkmcopfkdfaaGreatDoorLsI
namespace Go.Proofs.YtjnmkmcopfkdfaaGreatDoor
open Go.RowKit

/-- a test: its place, two exprs, the sign between them. -/
structure TestA where
  place : Nat
  l : List Nd
  sg : ByteArray
  r : List Nd
def xCmp : List ByteArray := [⟨#[61]⟩, ⟨#[60, 62]⟩, ⟨#[60]⟩, ⟨#[60, 61]⟩, ⟨#[62]⟩, ⟨#[62, 61]⟩]
def testP (ts : List Tk) (st : St) : TestA × St :=
  (⟨(tkAt ts st.nx).place, (exprP ts st).1, wantT ts (exprP ts st).2 xCmp, (exprP ts (wantP ts (exprP ts st).2 xCmp)).1⟩, (exprP ts (wantP ts (exprP ts st).2 xCmp)).2)
theorem onw_test {ts : List Tk} (hl : Lst ts) : OnwG ts (testP ts) := fun _ h => by
  have h1 := onw_exprP hl _ h
  have h2 := onw_want hl h1.lt xCmp
  exact h1.trans (h2.trans (onw_exprP hl _ h2.lt))

/-- test's two boxes, in the making. -/
structure TS (c : Cx) (w : World) (b1 : Nat) (W : World) (st : St) (ev : Value) (p : Nat) (x : Value) (sg : ByteArray) (y : Value) : Prop where
  rs : RS c W st ev
  kp : Kp c.rb w W
  res : W.heap[w.heap.size]? = some (.cells #[.int .i64 0, .nilIface, .string ⟨#[]⟩, .nilIface] 143 (0, 0))
  box : W.heap[b1]? = some (.cells #[.int .i64 p, x, .string sg, y] 143 (0, 0))
  old : c.rb < w.heap.size ∧ c.tb < w.heap.size ∧ c.B ≤ w.heap.size ∧ w.heap.size < b1
theorem TS.step {c : Cx} {w : World} {b1 : Nat} {W W' : World} {st st' : St} {ev ev' : Value} {p : Nat} {x y : Value} {sg : ByteArray} (h : TS c w b1 W st ev p x sg y) (hs : RS c W' st' ev') (hk : Kp c.rb W W') : TS c w b1 W' st' ev' p x sg y :=
  ⟨hs, h.kp.trans hk, (hk.block _ (lt_of_heap h.res) (by have := h.old.1; omega)).trans h.res, (hk.block _ (lt_of_heap h.box) (by have := h.old; omega)).trans h.box, h.old⟩
theorem TS.set {c : Cx} {w : World} {b1 : Nat} {W : World} {st : St} {ev : Value} {p i : Nat} {x y x' y' u : Value} {sg sg' : ByteArray} (h : TS c w b1 W st ev p x sg y)
    (he : #[.int .i64 p, x, .string sg, y].setIfInBounds i u = #[.int .i64 p, x', .string sg', y']) : TS c w b1 (W.setCell ⟨b1, i, none⟩ u) st ev p x' sg' y' := by
  have h1 := h.old
  refine ⟨h.rs.kpb ((Kp.refl _ _).setCell _ _) (by omega) (by omega) (by omega) (fun p e => by rw [h.box]; simp), h.kp.setNew (by show w.heap.size ≤ b1; omega) _, ?_, ?_, h.old⟩
  · rw [Below.heap_setCell _ _ _ _ (by show w.heap.size ≠ b1; omega)]; exact h.res
  · rw [heap_set h.box, he]
theorem TS.setKeeps {W : World} {b1 i : Nat} {u : Value} : NodeKeep (b1 + 1) W (W.setCell ⟨b1, i, none⟩ u) := NodeKeep.ofKp ((Kp.refl b1 W).setCell i u) (Or.inl (by omega))
theorem TS.fin {c : Cx} {w : World} {b1 : Nat} {W W' : World} {st : St} {ev : Value} {p : Nat} {x y : Value} {sg : ByteArray} (h : TS c w b1 W st ev p x sg y) (hk : Kp w.heap.size W W') : RS c W' st ev ∧ Kp c.rb w W' ∧ NodeKeep (b1 + 1) W W' := by
  have h1 := h.old
  exact ⟨h.rs.kpb hk (by omega) (by omega) (by omega) (fun p e => by rw [h.res]; simp), h.kp.own hk (Nat.le_refl _), NodeKeep.ofKp hk (Or.inl (by omega))⟩
theorem TS.lo {c : Cx} {w : World} {b1 : Nat} {W : World} {st : St} {ev : Value} {p : Nat} {x y : Value} {sg : ByteArray} (h : TS c w b1 W st ev p x sg y) : b1 + 1 ≤ W.heap.size := by have := lt_of_heap h.box; omega

theorem store_ok {P : Program} {w : World} {a : Addr} {v u : Value} {m : Mode} (hv : v.oneCell' = true) (hc : w.cell? a = some u) (hf : w.frozen? a = false) : (store a v m).run P w = .ok () (w.setCell a v) := by
  rw [run_store P w a v m hv, hc]
  simp [hf]

set_option maxRecDepth 100000 in
set_option maxHeartbeats 2000000 in
theorem test_any (c : Cx) (w : World) (st : St) (ev : Value) (X : TestA × St) (h : RS c w st ev) (hd0 : st.dp = 0) (HX : Hid (X = testP c.ts st)) :
    Calls Tryz.prog 66 #[.pointer (some ⟨c.rb, 0, none⟩)] w fun e w' => ∃ x y, e = .returned (.agg #[.int .i64 X.1.place, x, .string X.1.sg, y]) ∧ IsI x ∧ IsI y ∧ Aft c w X.2 w' ∧ (X.2.er = none → ExOk w' w.heap.size x X.1.l ∧ ExOk w' w.heap.size y X.1.r) := by
  have HL := hide h.last
  have hold : c.rb < w.heap.size ∧ c.tb < w.heap.size ∧ c.B ≤ w.heap.size := ⟨lt_of_heap h.reader, by obtain ⟨cur, e1, _⟩ := h.tokens; exact lt_of_heap e1, h.env.size⟩
  have HOLD := hide hold
  have HH := hide h
  clear h hold
  have hfp := field_part
  go_enter Tryz.func66, Tryz.ntmps66
  go_wp2_with fail
  refine (peek_any c _ st ev (by exact (unhide HH).alloc _)).mono ?_
  rintro e w1 ⟨rfl, hb⟩
  have HB1 := hide hb
  clear hb
  generalize hpl : (tkAt c.ts st.nx).place = pl at *
  have HPL := hide hpl
  clear hpl
  go_wp2_with fail
  have his : TS c w w1.heap.size (w1.alloc (.cells #[.int .i64 pl, .nilIface, .string ⟨#[]⟩, .nilIface] 143)) st ev pl .nilIface ⟨#[]⟩ .nilIface := by
    have hz : w.heap.size < w1.heap.size := by have := (unhide HB1).size; simp at this; omega
    refine ⟨((((unhide HH).alloc _).keep (unhide HB1)).alloc _), (((Kp.refl c.rb w).alloc _).trans (Kp.ofBelow (unhide HB1))).alloc _, heap_prev (((unhide HB1).block w.heap.size (by simp)).trans (heap_last rfl)), heap_last rfl, (unhide HOLD).1, (unhide HOLD).2.1, (unhide HOLD).2.2, hz⟩
  have HI0 := hide his
  clear his
  refine (exprP_spec c (unhide HL) _ st ev (by exact (unhide HI0).rs) hd0).mono ?_
  rintro e w2 ⟨x, rfl, hx, ⟨⟨ev2, hs⟩, hk⟩, hex⟩
  have HI2 := hide ((unhide HI0).step hs hk)
  have HON2 := hide (onw_exprP (unhide HL) st (unhide HH).nx)
  have HEX := hide hex
  have hlox : w1.heap.size + 1 ≤ (w1.alloc (.cells #[.int .i64 pl, .nilIface, .string ⟨#[]⟩, .nilIface] 143)).heap.size := (unhide HI0).lo
  have HLOX := hide hlox
  have hone := hx.one
  have hcv := hx.cells
  unfold Value.cells at hcv
  have HXI := hide hx
  clear hs hk hex hlox hx HI0
  generalize hr1 : exprP c.ts st = r1 at *
  have HR1 := hide hr1
  clear hr1
  generalize hbb : w1.heap.size = b1 at *
  obtain ⟨k2, f2⟩ := blk (unhide HI2).box
  have z2 := lt_of_heap (unhide HI2).box
  go_wp2_with fail
  rw [store_ok (u := .nilIface) hone (by rw [k2]; rfl) (f2 _)]
  go_upto_region 3 with (fail)
  have HI3 := hide ((unhide HI2).set (i := 1) (u := x) (x' := x) rfl)
  have KE3 : Hid (NodeKeep (b1 + 1) w2 (w2.setCell ⟨b1, 1, none⟩ x)) := TS.setKeeps
  clear k2 f2 z2
  generalize w2.setCell ⟨b1, 1, none⟩ x = w3 at *
  go_wp2_with fail
  refine (want_any c _ r1.2 ev2 w3.heap.size [⟨#[61]⟩, ⟨#[60, 62]⟩, ⟨#[60]⟩, ⟨#[60, 61]⟩, ⟨#[62]⟩, ⟨#[62, 61]⟩] (by exact (unhide HI3).rs.alloc _) (by exact texts_new rfl (fun j hj => by match j, hj with | 0, _ => rfl | 1, _ => rfl | 2, _ => rfl | 3, _ => rfl | 4, _ => rfl | 5, _ => rfl)) (by simp) (nonE_ok (by decide))).mono ?_
  rintro e w4 ⟨rfl, ⟨ev4, hs⟩, hk⟩
  have HI4 := hide ((unhide HI3).step hs (((Kp.refl c.rb w3).alloc _).trans hk))
  have HON4 := hide (onw_want (unhide HL) (unhide HI3).rs.nx [⟨#[61]⟩, ⟨#[60, 62]⟩, ⟨#[60]⟩, ⟨#[60, 61]⟩, ⟨#[62]⟩, ⟨#[62, 61]⟩])
  have KE4 : Hid (NodeKeep (b1 + 1) w3 w4) := (unhide HI3).rs.nodes (((Kp.refl c.rb w3).alloc _).trans hk)
  clear hs hk
  generalize hsg : wantT c.ts r1.2 [⟨#[61]⟩, ⟨#[60, 62]⟩, ⟨#[60]⟩, ⟨#[60, 61]⟩, ⟨#[62]⟩, ⟨#[62, 61]⟩] = sg at *
  generalize hst4 : wantP c.ts r1.2 [⟨#[61]⟩, ⟨#[60, 62]⟩, ⟨#[60]⟩, ⟨#[60, 61]⟩, ⟨#[62]⟩, ⟨#[62, 61]⟩] = st4 at *
  have HSG := hide hsg
  have HST4 := hide hst4
  clear hsg hst4
  have hd4 : st4.dp = 0 := (unhide HON4).dp.trans ((unhide HON2).dp.trans hd0)
  obtain ⟨k4, f4⟩ := blk (unhide HI4).box
  have z4 := lt_of_heap (unhide HI4).box
  go_upto_region 4 with (fail)
  have HI5 := hide ((unhide HI4).set (i := 2) (u := .string sg) (sg' := sg) rfl)
  have KE5 : Hid (NodeKeep (b1 + 1) w4 (w4.setCell ⟨b1, 2, none⟩ (.string sg))) := TS.setKeeps
  clear k4 f4 z4
  generalize w4.setCell ⟨b1, 2, none⟩ (.string sg) = w5 at *
  go_wp2_with fail
  refine (exprP_spec c (unhide HL) _ st4 ev4 (by exact (unhide HI5).rs) hd4).mono ?_
  rintro e w6 ⟨y, rfl, hy, ⟨⟨ev6, hs⟩, hk⟩, hey⟩
  have HI6 := hide ((unhide HI5).step hs hk)
  have HON6 := hide (onw_exprP (unhide HL) st4 (unhide HI5).rs.nx)
  have KE6 : Hid (NodeKeep (b1 + 1) w5 w6) := (unhide HI5).rs.nodes hk
  have HEY := hide hey
  have HLOY := hide (unhide HI5).lo
  have honey := hy.one
  have hcvy := hy.cells
  unfold Value.cells at hcvy
  have HYI := hide hy
  clear hs hk hey hy
  generalize hr2 : exprP c.ts st4 = r2 at *
  have HR2 := hide hr2
  clear hr2
  obtain ⟨k6, f6⟩ := blk (unhide HI6).box
  have z6 := lt_of_heap (unhide HI6).box
  go_wp2_with fail
  rw [store_ok (u := .nilIface) honey (by rw [k6]; rfl) (f6 _)]
  go_upto_region 5 with (fail)
  have HI7 := hide ((unhide HI6).set (i := 3) (u := y) (y' := y) rfl)
  have KE7 : Hid (NodeKeep (b1 + 1) w6 (w6.setCell ⟨b1, 3, none⟩ y)) := TS.setKeeps
  clear k6 f6 z6
  generalize w6.setCell ⟨b1, 3, none⟩ y = w7 at *
  obtain ⟨k7, f7⟩ := blk (unhide HI7).box
  obtain ⟨j7, g7⟩ := blk (unhide HI7).res
  have z7 := lt_of_heap (unhide HI7).box
  have y7 := lt_of_heap (unhide HI7).res
  have hne7 : w.heap.size ≠ b1 := by have := (unhide HI7).old; omega
  have HXE : Hid (X = (⟨pl, r1.1, sg, r2.1⟩, r2.2)) := by
    rw [unhide HX]
    unfold Hid testP
    rw [unhide HPL, unhide HR1]
    show ((⟨pl, r1.1, wantT c.ts r1.2 [⟨#[61]⟩, ⟨#[60, 62]⟩, ⟨#[60]⟩, ⟨#[60, 61]⟩, ⟨#[62]⟩, ⟨#[62, 61]⟩], (exprP c.ts (wantP c.ts r1.2 [⟨#[61]⟩, ⟨#[60, 62]⟩, ⟨#[60]⟩, ⟨#[60, 61]⟩, ⟨#[62]⟩, ⟨#[62, 61]⟩])).1⟩ : TestA), (exprP c.ts (wantP c.ts r1.2 [⟨#[61]⟩, ⟨#[60, 62]⟩, ⟨#[60]⟩, ⟨#[60, 61]⟩, ⟨#[62]⟩, ⟨#[62, 61]⟩])).2) = _
    rw [unhide HSG, unhide HST4, unhide HR2]
  clear hone honey hcv hcvy
  rcases unhide HXI with hxx | ⟨u1, q1, hxx⟩ <;> rcases unhide HYI with hyy | ⟨u2, q2, hyy⟩
  all_goals
    go_wp2
    refine bodyPost_ret (v := .agg #[.int .i64 pl, x, .string sg, y]) (by simp [results, Tryz.results66, go_sem, j7, hxx, hyy]) rfl ⟨x, y, ?_, unhide HXI, unhide HYI, ⟨⟨ev6, ?_⟩, ?_⟩, fun he => ?_⟩
    · rw [unhide HXE]
    · rw [unhide HXE]
      refine ((unhide HI7).fin ?_).1
      exact ((((Kp.refl _ _).setCell _ _).setCell _ _).setCell _ _).setCell _ _
    · refine ((unhide HI7).fin ?_).2.1
      exact ((((Kp.refl _ _).setCell _ _).setCell _ _).setCell _ _).setCell _ _
    · rw [unhide HXE] at he ⊢
      have hl7 := (unhide HI7).old
      have e4 := (unhide HON6).er he
      have e2 := (unhide HON4).er e4
      have kx := (unhide KE3).trans ((unhide KE4).trans ((unhide KE5).trans ((unhide KE6).trans (unhide KE7))))
      refine ⟨(((unhide HEX) e2).keep (unhide HLOX) (fun k cs t h0 => kx k cs t (Nat.le_trans (unhide HLOX) h0))).keep (by omega) (((unhide HI7).fin ?_).2.2), (((unhide HEY) he).keep (unhide HLOY) (fun k cs t h0 => unhide KE7 k cs t (Nat.le_trans (unhide HLOY) h0))).keep (by omega) (((unhide HI7).fin ?_).2.2)⟩
      · exact ((((Kp.refl _ _).setCell _ _).setCell _ _).setCell _ _).setCell _ _
      · exact ((((Kp.refl _ _).setCell _ _).setCell _ _).setCell _ _).setCell _ _
end Go.Proofs.YtjnmkmcopfkdfaaGreatDoor
