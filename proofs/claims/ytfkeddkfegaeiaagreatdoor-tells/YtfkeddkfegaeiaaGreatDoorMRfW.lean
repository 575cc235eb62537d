/-
  Part 44.
-/
import Derived.Test.YtfkeddkfegaeiaaGreatDoorMRfV
namespace Go.Proofs.YtfkeddkfegaeiaaGreatDoor
open Go.RowKit

theorem infoRi : (Tryz.prog.info? 228).map (fun i => (i.zero, i.size, i.bytes)) = some (some (.agg #[.int .i64 0, .string ⟨#[]⟩, .int .i64 0, .slice none 0 0, .slice none 0 0, .int .i64 0, .string ⟨#[]⟩]), 7, 104) := by kernel_rfl
theorem infoRs : (Tryz.prog.info? 273).map (fun i => (i.zero, i.size, i.bytes)) = some (some (.agg #[.string ⟨#[]⟩, .int .i64 0, .int .i64 0]), 3, 32) := by kernel_rfl
theorem one7 (a b d : Int) (s t : ByteArray) (p q : Option Addr) (l1 c1 l2 c2 : Nat) : ∀ u ∈ ([.int .i64 a, .string s, .int .i64 b, .slice p l1 c1, .slice q l2 c2, .int .i64 d, .string t] : List Value), u.oneCell' = true := by
  intro u hu
  simp only [List.mem_cons, List.mem_nil_iff, or_false] at hu
  rcases hu with rfl | rfl | rfl | rfl | rfl | rfl | rfl <;> rfl
theorem one3t (s : ByteArray) (a b : Int) : ∀ u ∈ ([.string s, .int .i64 a, .int .i64 b] : List Value), u.oneCell' = true := by
  intro u hu
  simp only [List.mem_cons, List.mem_nil_iff, or_false] at hu
  rcases hu with rfl | rfl | rfl <;> rfl

/-- selects' two boxes: the result's, the select's. -/
structure SB (c : Cf) (w : World) (x0 : Xs) (W : World) (st : St) (x : Xs) (vi vt vn vs : Value) : Prop where
  rx : RX c W st x
  gx : GX c w x0 W x
  res : W.heap[w.heap.size]? = some (.cells #[.slice none 0 0, .slice none 0 0, .slice none 0 0, .slice none 0 0, .bool false] 105 (0, 0))
  box : W.heap[w.heap.size + 1]? = some (.cells #[vi, vt, vn, vs, .bool true] 105 (0, 0))
  off : ∀ k, w.heap.size ≤ k → k ≤ w.heap.size + 1 → Off c x k
theorem SB.step {c : Cf} {w : World} {x0 : Xs} {W W' : World} {st st' : St} {x x' : Xs} {vi vt vn vs : Value} (h : SB c w x0 W st x vi vt vn vs) (hr : RX c W' st' x') (hg : GX c W x W' x') : SB c w x0 W' st' x' vi vt vn vs :=
  ⟨hr, h.gx.trans hg, (hg.block (lt_of_heap h.res) (h.off _ (by omega) (by omega))).trans h.res, (hg.block (lt_of_heap h.box) (h.off _ (by omega) (by omega))).trans h.box, fun k h1 h2 => hg.off (by have := lt_of_heap h.box; omega) (h.off k h1 h2)⟩
theorem SB.keep {c : Cf} {w : World} {x0 : Xs} {W W' : World} {st : St} {x : Xs} {vi vt vn vs : Value} (h : SB c w x0 W st x vi vt vn vs) (hb : Below W.heap.size W W') : SB c w x0 W' st x vi vt vn vs :=
  h.step (h.rx.keep hb) (GX.below (GX.refl _ _ _) hb)
theorem SB.set {c : Cf} {w : World} {x0 : Xs} {W : World} {st : St} {x : Xs} {vi vt vn vs vi' vt' vn' vs' : Value} {i : Nat} {u : Value} (h : SB c w x0 W st x vi vt vn vs)
    (he : #[vi, vt, vn, vs, .bool true].setIfInBounds i u = #[vi', vt', vn', vs', .bool true]) : SB c w x0 (W.setCell ⟨w.heap.size + 1, i, none⟩ u) st x vi' vt' vn' vs' := by
  have hk : Kp (w.heap.size + 1) W (W.setCell ⟨w.heap.size + 1, i, none⟩ u) := (Kp.refl _ _).setCell _ _
  refine ⟨h.rx.kpb hk (h.off _ (by omega) (by omega)), h.gx.kpNew hk (by omega), (hk.block _ (lt_of_heap h.res) (by omega)).trans h.res, ?_, h.off⟩
  rw [heap_set h.box, he]
theorem SB.facts {c : Cf} {w : World} {x0 : Xs} {W : World} {st : St} {x : Xs} {vi vt vn vs : Value} (h : SB c w x0 W st x vi vt vn vs) :
    ((∀ o, W.cell? ⟨w.heap.size, o, none⟩ = (#[.slice none 0 0, .slice none 0 0, .slice none 0 0, .slice none 0 0, .bool false] : Array Value)[o]?) ∧ ∀ o, W.frozen? ⟨w.heap.size, o, none⟩ = false) ∧
    ((∀ o, W.cell? ⟨w.heap.size + 1, o, none⟩ = (#[vi, vt, vn, vs, .bool true] : Array Value)[o]?) ∧ ∀ o, W.frozen? ⟨w.heap.size + 1, o, none⟩ = false) ∧
    w.heap.size + 1 < W.heap.size :=
  ⟨blk h.res, blk h.box, lt_of_heap h.box⟩
/-- a row of the call's own. -/
structure Own (c : Cf) (w : World) (T : TypeId) (sz : Nat) (W : World) (x : Xs) (v : Value) (n : Nat) : Prop where
  row : ∃ ys, W.ownsRow (w.heap.size + 2) T sz v n ys
  off : ∀ b, v.ownBlock = some b → Off c x b
theorem Own.step {c : Cf} {w : World} {T : TypeId} {sz : Nat} {W W' : World} {x x' : Xs} {v : Value} {n : Nat} (h : Own c w T sz W x v n) (hg : GX c W x W' x') : Own c w T sz W' x' v n := by
  obtain ⟨ys, hr⟩ := h.row
  exact ⟨⟨ys, row_gx hr hg h.off⟩, fun b e => hg.off (hr.lt b e).2 (h.off b e)⟩
theorem Own.keep {c : Cf} {w : World} {T : TypeId} {sz : Nat} {W W' : World} {x : Xs} {v : Value} {n : Nat} (h : Own c w T sz W x v n) (hb : Below W.heap.size W W') : Own c w T sz W' x v n := h.step (GX.below (GX.refl _ _ _) hb)
theorem Own.set {c : Cf} {w : World} {T : TypeId} {sz : Nat} {W : World} {x : Xs} {v : Value} {n i : Nat} {u : Value} (h : Own c w T sz W x v n) : Own c w T sz (W.setCell ⟨w.heap.size + 1, i, none⟩ u) x v n := by
  obtain ⟨ys, hr⟩ := h.row
  exact ⟨⟨ys, row_off hr (by show w.heap.size + 1 < w.heap.size + 2; omega)⟩, h.off⟩
/-- behind an append to it. -/
theorem Own.grown {c : Cf} {w : World} {T : TypeId} {sz : Nat} {W W' : World} {st : St} {x : Xs} {v : Value} {n g cap m : Nat} {ys : List Value} (h : Own c w T sz W x v n) (hr : RX c W st x) (ho : W'.ownsRow (w.heap.size + 2) T sz (.slice (some ⟨g, 0, none⟩) m cap) m ys) (hat : v.ownBlock = some g ∨ W.heap.size ≤ g) : Own c w T sz W' x (.slice (some ⟨g, 0, none⟩) m cap) m :=
  ⟨⟨ys, ho⟩, fun b e => by
    have e2 : g = b := by simpa [Value.ownBlock] using e
    subst e2
    exact hat.elim (fun q => h.off g q) (fun q => hr.off q)⟩
theorem SB.grown {c : Cf} {w : World} {x0 : Xs} {T : TypeId} {sz : Nat} {W W' : World} {st : St} {x : Xs} {v vi vt vn vs : Value} {n : Nat} (h : SB c w x0 W st x vi vt vn vs) (ho : Own c w T sz W x v n) (hg : W.grownBy W' v.ownBlock) : SB c w x0 W' st x vi vt vn vs := by
  obtain ⟨ys, hr⟩ := ho.row
  have hlo : ∀ b, v.ownBlock = some b → w.heap.size + 2 ≤ b := fun b e => (hr.lt b e).1
  refine ⟨h.rx.grown hg ho.off, h.gx.grown hg (fun b e => by have := hlo b e; omega), (hg.block _ (lt_of_heap h.res) (fun e => ?_)).trans h.res, (hg.block _ (lt_of_heap h.box) (fun e => ?_)).trans h.box, h.off⟩
  · have := hlo _ e.symm; omega
  · have := hlo _ e.symm; omega
/-- another row stays as it is. -/
theorem Own.other {c : Cf} {w : World} {T : TypeId} {sz : Nat} {W W' : World} {x : Xs} {v v2 : Value} {n : Nat} (h : Own c w T sz W x v2 n) (hg : W.grownBy W' v.ownBlock) (hd : ∀ b, v.ownBlock = some b → v2.ownBlock ≠ some b) : Own c w T sz W' x v2 n := by
  obtain ⟨ys, hr⟩ := h.row
  refine ⟨⟨ys, hr.1, hr.2.imp id ?_⟩, h.off⟩
  rintro ⟨g, cap, cu, hv', hg', hh, r⟩
  refine ⟨g, cap, cu, hv', hg', (hg.block g (lt_of_heap hh) (fun e => ?_)).trans hh, r⟩
  exact hd g e.symm (by rw [hv']; rfl)
theorem Own.nil (c : Cf) (w : World) (T : TypeId) (sz : Nat) (W : World) (x : Xs) : Own c w T sz W x (.slice none 0 0) 0 := ⟨⟨[], World.ownsRow_nil _ _ _ _⟩, fun b e => by cases e⟩
end Go.Proofs.YtfkeddkfegaeiaaGreatDoor
namespace Go.Proofs.YtfkeddkfegaeiaaGreatDoor
open Go.RowKit

structure L1 (c : Cf) (w : World) (x0 : Xs) (st0 : St) (s0 : List Nat) (X : List ItemA × St) (f : Nat) (W : World) (vi : Value) (l : List ItemA) (st : St) (x : Xs) (more : Bool) : Prop where
  ls : LsR c w x0 st0 s0 (itemP c.ts) (many c.ts 6) ⟨#[44]⟩ tkItem X f W l st x more
  sb : SB c w x0 W st x vi (.slice none 0 0) (.slice none 0 0) (.slice none 0 0)
  own : Own c w 228 7 W x vi l.length
  cnt : l.length + f = c.ts.length
structure L2 (c : Cf) (w : World) (x0 : Xs) (st0 : St) (s0 : List Nat) (X : List (Tk × Tk) × St) (f : Nat) (W : World) (vi vt vn : Value) (l : List (Tk × Tk)) (st : St) (x : Xs) (more : Bool) : Prop where
  ls : LsR c w x0 st0 s0 (srcP c.ts) (many c.ts 3) ⟨#[44]⟩ tkSrc X f W l st x more
  sb : SB c w x0 W st x vi vt vn (.slice none 0 0)
  ot : Own c w 100 3 W x vt l.length
  on : Own c w 100 3 W x vn l.length
  ap : ∀ b, vt.ownBlock = some b → vn.ownBlock ≠ some b
  cnt : l.length + f = c.ts.length
structure L3 (c : Cf) (w : World) (x0 : Xs) (st0 : St) (s0 : List Nat) (X : List TestA × St) (f : Nat) (W : World) (vi vt vn vs : Value) (l : List TestA) (st : St) (x : Xs) (more : Bool) : Prop where
  ls : LsR c w x0 st0 s0 (testP c.ts) (fun _ s => s) ⟨#[97, 110, 100]⟩ tkTest X f W l st x more
  sb : SB c w x0 W st x vi vt vn vs
  own : Own c w 273 3 W x vs l.length
  cnt : l.length + f = c.ts.length
def CmpOk (ts : List Tk) : Prop := ∀ i, Lib.containsS xCmp (tkAt ts i).text = true → (tkAt ts i).kind = 1
theorem src_ml {ts : List Tk} (hl : Lst ts) {st : St} {s : List Nat} (h : st.nx < ts.length) (he : (srcP ts st).2.er = none) : Ml st (srcP ts st).2 (tkSrc (srcP ts st).1) s s := by
  have h1 := onw_wk hl h (k := 2) (by decide)
  have h2 := onw_wk hl h1.lt (k := 2) (by decide)
  exact (ml_wk (h2.er he)).trans (ml_wk he)
theorem gLoop_ne {α : Type} (ts : List Tk) (one : St → α × St) (mny : Nat → St → St) (sep : ByteArray) : ∀ (f : Nat) (l : List α) (st : St), l ≠ [] → (gLoop ts one mny sep f l st).1 ≠ []
  | 0, _, _, h => h
  | f + 1, l, st, h => by
    unfold gLoop
    split
    · exact gLoop_ne ts one mny sep f _ _ (by simp)
    · exact h
theorem where_ml {ts : List Tk} {st : St} {s s' : List Nat} (M : (whereP ts st).2.er = none → Ml (takeS ts st [⟨#[119, 104, 101, 114, 101]⟩]) (whereP ts st).2 (joinT (tx ⟨#[97, 110, 100]⟩) ((whereP ts st).1.map tkTest)) s s') : (whereP ts st).2.er = none → Ml st (whereP ts st).2 (tkTests (whereP ts st).1) s s' := by
  intro he
  have hM := M he
  cases hh : hitP ts st [⟨#[119, 104, 101, 114, 101]⟩] with
  | true =>
    have e1 : takeS ts st [⟨#[119, 104, 101, 114, 101]⟩] = adv st := by unfold takeS; rw [hh]; rfl
    rw [e1] at hM
    have hne : (whereP ts st).1 ≠ [] := by
      unfold whereP
      rw [if_pos hh, gLoop_and]
      exact gLoop_ne _ _ _ _ _ _ _ (by simp)
    cases hq : (whereP ts st).1 with
    | nil => exact (hne hq).elim
    | cons a r =>
      rw [joinT_tests, ← hq]
      exact (ml_adv ⟨#[119, 104, 101, 114, 101]⟩).trans hM
  | false =>
    have e1 : takeS ts st [⟨#[119, 104, 101, 114, 101]⟩] = st := by unfold takeS; rw [hh]; rfl
    rw [e1] at hM
    have e2 : whereP ts st = ([], st) := by unfold whereP; rw [hh]; rfl
    rw [e2] at hM ⊢
    exact hM
theorem sel_ml {ts : List Tk} (hw : Lw ts) {st : St} (h : st.nx < ts.length) {s s1 s2 s3 : List Nat}
    (M1 : (selI ts st).2.er = none → Ml (wantP ts st [⟨#[115, 101, 108, 101, 99, 116]⟩]) (selI ts st).2 (joinT (tx ⟨#[44]⟩) ((selI ts st).1.map tkItem)) s s1)
    (M2 : (selS ts (selI ts st).2).2.er = none → Ml (wantP ts (selI ts st).2 [⟨#[102, 114, 111, 109]⟩]) (selS ts (selI ts st).2).2 (joinT (tx ⟨#[44]⟩) ((selS ts (selI ts st).2).1.map tkSrc)) s1 s2)
    (M3 : (whereP ts (selS ts (selI ts st).2).2).2.er = none → Ml (takeS ts (selS ts (selI ts st).2).2 [⟨#[119, 104, 101, 114, 101]⟩]) (whereP ts (selS ts (selI ts st).2).2).2 (joinT (tx ⟨#[97, 110, 100]⟩) ((whereP ts (selS ts (selI ts st).2).2).1.map tkTest)) s2 s3) :
    (selP ts st).2.er = none → Ml st (selP ts st).2 (tkSel (selP ts st).1) s s3 := by
  intro he
  have h1 := onw_want hw.last h [⟨#[115, 101, 108, 101, 99, 116]⟩]
  have h2 : Onw ts _ (selI ts st).2 := onw_list hw.last (onw_item hw.last) 6 _ h1.lt
  have h3 := onw_want hw.last h2.lt [⟨#[102, 114, 111, 109]⟩]
  have h4 : Onw ts _ (selS ts (selI ts st).2).2 := onw_list hw.last (onw_src hw.last) 3 _ h3.lt
  have h5 := onw_where hw.last h4.lt
  have e5 : (whereP ts (selS ts (selI ts st).2).2).2.er = none := he
  have e4 := h5.er e5
  have e3 := h4.er e4
  have e2 := h3.er e3
  have e1 := h2.er e2
  have k1 := M1 e2
  have k2 := M2 e4
  rw [joinT_commas] at k1 k2
  exact ((((ml_want e1).trans k1).trans (ml_want e3)).trans k2).trans (where_ml M3 e5)
theorem texts_cmp {w : World} {b : Nat} (hb : b = w.heap.size) : Texts (w.alloc (.cells #[.string ⟨#[61]⟩, .string ⟨#[60, 62]⟩, .string ⟨#[60]⟩, .string ⟨#[60, 61]⟩, .string ⟨#[62]⟩, .string ⟨#[62, 61]⟩] 9)) b xCmp :=
  texts_new hb (fun j hj => by match j, hj with | 0, _ | 1, _ | 2, _ | 3, _ | 4, _ | 5, _ => rfl)
theorem cmp_not {c : Cf} {w : World} {st : St} {x : Xs} (h : RX c w st x) (hh : Lib.containsS xCmp (tkAt c.ts x.I).text = false ∨ (erN st.er == 0) = false) : hitP c.ts st xCmp = false := by
  by_cases he : st.er = none
  · rcases hh with q | q
    · rw [RF.cor h he] at q
      unfold hitP
      rw [q, Bool.and_false]
    · rw [he] at q; cases q
  · exact hit_stopped (RF.last h) (RF.stopped h he) _
theorem cmp_hit {c : Cf} {w : World} {st : St} {x : Xs} (h : RX c w st x) (hC : CmpOk c.ts) (hh : Lib.containsS xCmp (tkAt c.ts x.I).text = true) (he : (erN st.er == 0) = true) : hitP c.ts st xCmp = true := by
  have he' : st.er = none := by
    cases hq : st.er with
    | none => rfl
    | some y =>
      have h1 := erN_ne (er := st.er) (by rw [hq]; simp)
      simp only [beq_iff_eq] at he
      exact (h1 he).elim
  rw [RF.cor h he'] at hh
  unfold hitP
  rw [hC _ hh, hh]
  rfl
theorem test_ml {ts : List Tk} (hw : Lw ts) {st : St} {s s1 s2 : List Nat} (h : st.nx < ts.length) (M1 : (exprP ts st).2.er = none → s1 = s ++ idx st.nx (tkE (exprP ts st).1)) (M2 : (exprP ts (wantP ts (exprP ts st).2 xCmp)).2.er = none → s2 = s1 ++ idx (wantP ts (exprP ts st).2 xCmp).nx (tkE (exprP ts (wantP ts (exprP ts st).2 xCmp)).1)) (he : (testP ts st).2.er = none) : Ml st (testP ts st).2 (tkTest (testP ts st).1) s s2 := by
  have h1 := onw_exprP hw.last st h
  have h2 := onw_want hw.last h1.lt xCmp
  have h3 := onw_exprP hw.last _ h2.lt
  have e3 : (exprP ts (wantP ts (exprP ts st).2 xCmp)).2.er = none := he
  have e2 := h3.er e3
  have e1 := h2.er e2
  have hg : (wantP ts (exprP ts st).2 xCmp).nx = (exprP ts st).2.nx + 1 := grow_want e2
  exact ((ml_expr hw h e1 (M1 e1)).trans ((Ml.one (wantT ts (exprP ts st).2 xCmp) hg).trans (ml_expr hw h2.lt e3 (M2 e3)))).cast rfl
theorem gk_le {α : Type} {l : List α} {g n : Nat} (h : l.length + (g + 1) = n) (hn : n ≤ 1001) : l.length ≤ 1000 := by omega

set_option maxRecDepth 100000 in
set_option maxHeartbeats 8000000 in
theorem rselects_x (c : Cf) (hw : Lw c.ts) (hN : NumOk c.ts) (hC : CmpOk c.ts) (w : World) (st : St) (x : Xs) (h : RX c w st x) (hd : st.dp = 0) :
    Calls Tryz.prog 69 #[.pointer (some ⟨c.rb, 0, none⟩)] w fun e w' => ∃ (a1 a2 a3 a4 : Option Addr) (l1 c1 l2 c2 l3 c3 l4 c4 : Nat) (x' : Xs), e = .returned (.agg #[.slice a1 l1 c1, .slice a2 l2 c2, .slice a3 l3 c3, .slice a4 l4 c4, .bool true]) ∧ RX c w' (selP c.ts st).2 x' ∧ GX c w x w' x' ∧ ((selP c.ts st).2.er = none → Ml st (selP c.ts st).2 (tkSel (selP c.ts st).1) x.ms x'.ms) := by
  obtain ⟨i1, hi, hinf⟩ := Option.map_eq_some_iff.1 infoRi
  simp only [Prod.mk.injEq] at hinf
  obtain ⟨hz0, hz1, hz2⟩ := hinf
  have HI1 := hide hi
  have HZ01 := hide hz0
  have HZ11 := hide hz1
  have HZ21 := hide hz2
  clear hi hz0 hz1 hz2
  obtain ⟨i2, hi, hinf⟩ := Option.map_eq_some_iff.1 infoRt
  simp only [Prod.mk.injEq] at hinf
  obtain ⟨hz0, hz1, hz2⟩ := hinf
  have HI2 := hide hi
  have HZ02 := hide hz0
  have HZ12 := hide hz1
  have HZ22 := hide hz2
  clear hi hz0 hz1 hz2
  obtain ⟨i3, hi, hinf⟩ := Option.map_eq_some_iff.1 infoRs
  simp only [Prod.mk.injEq] at hinf
  obtain ⟨hz0, hz1, hz2⟩ := hinf
  have HI3 := hide hi
  have HZ03 := hide hz0
  have HZ13 := hide hz1
  have HZ23 := hide hz2
  clear hi hz0 hz1 hz2
  have hlen := RF.len h
  have HH := hide h
  have HL := hide hw.last
  have HW := hide hw
  have HN := hide hN
  have HC := hide hC
  have hnx := RF.nx h
  have HSEL := hide (onw_want hw.last hnx [⟨#[115, 101, 108, 101, 99, 116]⟩])
  clear h hw hN hC
  go_enter Tryz.func69, Tryz.ntmps69
  go_wp2_with fail
  have HB0 : Hid (SB c w x ((w.alloc (.cells #[.slice none 0 0, .slice none 0 0, .slice none 0 0, .slice none 0 0, .bool false] 105)).alloc (.cells #[.slice none 0 0, .slice none 0 0, .slice none 0 0, .slice none 0 0, .bool true] 105)) st x (.slice none 0 0) (.slice none 0 0) (.slice none 0 0) (.slice none 0 0)) :=
    have hb : Below w.heap.size w _ := ((Below.refl _ _).alloc (Nat.le_refl _) (.cells #[.slice none 0 0, .slice none 0 0, .slice none 0 0, .slice none 0 0, .bool false] 105)).alloc (by simp) (.cells #[.slice none 0 0, .slice none 0 0, .slice none 0 0, .slice none 0 0, .bool true] 105)
    ⟨(unhide HH).keep hb, GX.below (GX.refl _ _ _) hb, heap_prev (heap_last rfl), heap_last (by simp), fun k h1 _ => (unhide HH).off h1⟩
  refine (rmust_x c _ st x ⟨#[115, 101, 108, 101, 99, 116]⟩ (by exact (unhide HB0).rx)).mono ?_
  rintro e w1 ⟨x1, rfl, hr, hg, hm1⟩
  have HB1 := hide ((unhide HB0).step hr hg)
  have hd1 : (wantP c.ts st [⟨#[115, 101, 108, 101, 99, 116]⟩]).dp = 0 := (unhide HSEL).dp.trans hd
  have HM1 := hide hm1
  clear hr hg HB0 hm1
  generalize hS1 : wantP c.ts st [⟨#[115, 101, 108, 101, 99, 116]⟩] = S1 at *
  have HS1 := hide hS1
  clear hS1
  obtain ⟨X1, HX1⟩ : ∃ X, Hid (X = listP c.ts (itemP c.ts) 6 S1) := ⟨_, rfl⟩
  have HF1 := hide (LsR.first (itemP c.ts) (many c.ts 6) ⟨#[44]⟩ tkItem (unhide HB1).rx (unhide HB1).gx hd1 (many_ne (by decide)))
  rw [show gLoop c.ts (itemP c.ts) (many c.ts 6) ⟨#[44]⟩ c.ts.length [(itemP c.ts S1).1] (itemP c.ts S1).2 = X1 by rw [unhide HX1]; unfold listP; rw [gLoop_list]] at HF1
  have HR1 : Hid (L1 c w x S1 x1.ms X1 c.ts.length w1 (.slice none 0 0) [] S1 x1 true) := ⟨unhide HF1, unhide HB1, Own.nil _ _ _ _ _ _, by simp⟩
  clear HF1 HB1
  go_wp2_with fail
  go_loopg [4] c.ts.length (fun f m wr => ∃ vi l st' x' more, m = .bool more ∧ L1 c w x S1 x1.ms X1 f wr vi l st' x' more)
  case atStart => exact ⟨_, _, _, _, _, rfl, unhide HR1⟩
  case round =>
    obtain ⟨vi, l, st', x', more, rfl, hrel⟩ := hrel
    have HRL := hide hrel
    clear HR1
    cases more with
    | true =>
      obtain ⟨gk, rfl⟩ := hrel.ls.pos
      have hcn : l.length ≤ 1000 := gk_le hrel.cnt hlen
      obtain ⟨ys, hrow⟩ := hrel.own.row
      obtain ⟨ad, cp, hv⟩ := row_slice hrow
      subst hv
      obtain ⟨⟨kr, fr⟩, ⟨kb, fb⟩, zz⟩ := hrel.sb.facts
      have hnx' := RF.nx hrel.ls.rx
      have hdp' := hrel.ls.dp
      clear hrel hrow ys
      obtain ⟨S, HS⟩ : ∃ S, Hid (S = many c.ts 6 l.length st') := ⟨_, rfl⟩
      have hSd : S.dp = 0 := by rw [unhide HS, many_dp]; exact hdp'
      have hSn : S.nx < c.ts.length := by rw [unhide HS]; exact (onw_many hnx' 6 l.length).lt
      go_upto_if 19 with (fail)
      go_cut [] (fun W => ∃ x2, SB c w x W S x2 (.slice ad l.length cp) (.slice none 0 0) (.slice none 0 0) (.slice none 0 0) ∧ Own c w 228 7 W x2 (.slice ad l.length cp) l.length ∧ x2.ms = x'.ms)
      case first =>
        by_cases h6 : l.length = 6
        · have hb6 : ((l.length : Int) == 6) = true := by rw [h6]; rfl
          have HS' : Hid (S = failP c.ts st' eMany) := by unfold Hid; rw [unhide HS]; unfold many; rw [if_pos h6]
          go_wp2_with fail
          refine (rfailm_x c _ st' x' (by exact (unhide HRL).sb.rx)).mono ?_
          rintro e w2 ⟨x2, rfl, hr, hg, hm⟩
          have HB2 := hide ((unhide HRL).sb.step hr hg)
          have HO2 := hide ((unhide HRL).own.step hg)
          clear hr hg
          go_wp2_with fail
          go_meet
          case rel =>
            rw [unhide HS']
            exact ⟨x2, unhide HB2, unhide HO2, hm⟩
        · have hb6 : ((l.length : Int) == 6) = false := by simp only [beq_eq_false_iff_ne, ne_eq]; omega
          have HS' : Hid (S = st') := by unfold Hid; rw [unhide HS]; exact many_ne h6
          go_wp2_with fail
          go_meet
          case rel =>
            rw [unhide HS']
            exact ⟨x', (unhide HRL).sb, (unhide HRL).own, rfl⟩
      case rest =>
        obtain ⟨x2, hsb, hown, hm2⟩ := hcut
        have HB2 := hide hsb
        have HO2 := hide hown
        have HM2 := hide hm2
        clear hsb hown hm2 kr fr kb fb zz
        go_wp2_with fail
        refine (ritem_x c (unhide HW) (unhide HN) _ S x2 (by exact (unhide HB2).rx) hSd).mono ?_
        rintro e w3 ⟨pl, call, n3, a1, a2, l1, c1, l2, c2, rw1, asx, x3, rfl, hr, hg, hm3⟩
        have HB3 := hide ((unhide HB2).step hr hg)
        have HO3 := hide ((unhide HO2).step hg)
        have HM3 := hide hm3
        clear hr hg hm3 HB2 HO2
        obtain ⟨ys, hrow⟩ := (unhide HO3).row
        have HROW := hide hrow
        clear hrow
        obtain ⟨⟨kr, fr⟩, ⟨kb, fb⟩, zz⟩ := (unhide HB3).facts
        have zz1 : w.heap.size + 2 ≤ w3.heap.size := by omega
        have HBE : Hid (Below w3.heap.size w3 ((w3.alloc (.cells #[.int .i64 pl, .string call, .int .i64 n3, .slice a1 l1 c1, .slice a2 l2 c2, .int .i64 rw1, .string asx] 228)).alloc (.cells #[.int .i64 pl, .string call, .int .i64 n3, .slice a1 l1 c1, .slice a2 l2 c2, .int .i64 rw1, .string asx] 228))) := ((Below.refl _ _).alloc (Nat.le_refl _) _).alloc (by simp) _
        go_wp2_with (at_builtin; refine wpList_append_lies _ rfl _ _ 102 rfl (w.heap.size + 2) 228 i1 (.agg #[.int .i64 0, .string ⟨#[]⟩, .int .i64 0, .slice none 0 0, .slice none 0 0, .int .i64 0, .string ⟨#[]⟩]) 7 104 Tryz.underlying102 (unhide HI1) (unhide HZ01) (unhide HZ11) (unhide HZ21) rfl (by decide) _ _ _ rfl (((unhide HROW).alloc _).alloc _) ⟨w3.heap.size + 1, 0, none⟩ 1 1 [.int .i64 pl, .string call, .int .i64 n3, .slice a1 l1 c1, .slice a2 l2 c2, .int .i64 rw1, .string asx] rfl rfl ?c1 ?c2 (by decide) ?c3 ?c4 ?c5 _ rfl ?_)
        case c1 => exact cell_new (by first | rfl | simp)
        case c2 => exact one7 _ _ _ _ _ _ _ _ _ _ _
        case c3 => unfold maxLen; omega
        case c4 => omega
        case c5 => simp; omega
        intro g cap w5 ho hg hat _
        have HB5 := hide (((unhide HB3).keep (unhide HBE)).grown ((unhide HO3).keep (unhide HBE)) hg)
        have HO5 := hide (((unhide HO3).keep (unhide HBE)).grown ((unhide HB3).keep (unhide HBE)).rx ho (hat.imp id (fun e => by rw [e]; first | exact Nat.le_refl _ | (simp; done))))
        clear ho hg hat kr fr kb fb zz zz1 HB3 HO3 HROW HBE
        obtain ⟨⟨kr, fr⟩, ⟨kb, fb⟩, zz⟩ := (unhide HB5).facts
        have HB6 := hide ((unhide HB5).set (i := 0) (u := .slice (some ⟨g, 0, none⟩) (l.length + 1) cap) rfl)
        have HO6 := hide ((unhide HO5).set (i := 0) (u := .slice (some ⟨g, 0, none⟩) (l.length + 1) cap))
        go_wp2_with fail
        refine (rmay_x c _ (itemP c.ts S).2 x3 ⟨#[44]⟩ (by exact (unhide HB6).rx)).mono ?_
        rintro e w7 ⟨x7, rfl, hr7, hg7, hm7⟩
        have HB7 := hide ((unhide HB6).step hr7 hg7)
        have HO7 := hide ((unhide HO6).step hg7)
        have HR7 := hide hr7
        have HM7 := hide hm7
        clear hr7 hg7 hm7 kr fr kb fb zz HB5 HO5 HB6 HO6
        go_wp2
        go_roundg gk
        case measure => simp
        case rel =>
          refine ⟨_, l ++ [(itemP c.ts S).1], takeS c.ts (itemP c.ts S).2 [⟨#[44]⟩], x7, hitP c.ts (itemP c.ts S).2 [⟨#[44]⟩], rfl, ⟨?_, unhide HB7, by rw [List.length_append]; exact unhide HO7, by rw [List.length_append]; have := (unhide HRL).cnt; simp; omega⟩⟩
          refine (unhide HRL).ls.round (unhide HS) ?_ ?_ ?_ (onw_item (unhide HL) S hSn) (unhide HB7).gx (unhide HR7) (fun e => ?_)
          · rw [unhide HS]; exact many_or
          · rw [unhide HS]; exact many_dp
          · rw [unhide HS]; exact many_nx hnx'
          · rw [unhide HM7, ← unhide HM2]
            exact (unhide HM3) e
    | false =>
      obtain ⟨ys, hrow⟩ := hrel.own.row
      obtain ⟨ad, cp, hv⟩ := row_slice hrow
      subst hv
      have hdn := hrel.ls.done
      have HML1 := hide hdn.2
      have HB8 : Hid (SB c w x wr X1.2 x' (.slice ad l.length cp) (.slice none 0 0) (.slice none 0 0) (.slice none 0 0)) := by unfold Hid; rw [hdn.1]; exact hrel.sb
      have hdX : X1.2.dp = 0 := by rw [hdn.1]; exact hrel.ls.dp
      clear hrow hdn hrel HRL ys
      generalize l.length = li at *
      have hnX := RF.nx (unhide HB8).rx
      have HFROM := hide (onw_want (unhide HL) hnX [⟨#[102, 114, 111, 109]⟩])
      go_wp2_with fail
      refine (rmust_x c _ X1.2 x' ⟨#[102, 114, 111, 109]⟩ (by exact (unhide HB8).rx)).mono ?_
      rintro e w9 ⟨x9, rfl, hr, hg, hm9⟩
      have HB9 := hide ((unhide HB8).step hr hg)
      have HM9 := hide hm9
      have hd9 : (wantP c.ts X1.2 [⟨#[102, 114, 111, 109]⟩]).dp = 0 := (unhide HFROM).dp.trans hdX
      clear hr hg hm9 HB8
      generalize hS2 : wantP c.ts X1.2 [⟨#[102, 114, 111, 109]⟩] = S2 at *
      have HS2 := hide hS2
      clear hS2
      obtain ⟨X2, HX2⟩ : ∃ X, Hid (X = listP c.ts (srcP c.ts) 3 S2) := ⟨_, rfl⟩
      have HF2 := hide (LsR.first (srcP c.ts) (many c.ts 3) ⟨#[44]⟩ tkSrc (unhide HB9).rx (unhide HB9).gx hd9 (many_ne (by decide)))
      rw [show gLoop c.ts (srcP c.ts) (many c.ts 3) ⟨#[44]⟩ c.ts.length [(srcP c.ts S2).1] (srcP c.ts S2).2 = X2 by rw [unhide HX2]; unfold listP; rw [gLoop_list]] at HF2
      have HR2 : Hid (L2 c w x S2 x9.ms X2 c.ts.length w9 (.slice ad li cp) (.slice none 0 0) (.slice none 0 0) [] S2 x9 true) := ⟨unhide HF2, unhide HB9, Own.nil _ _ _ _ _ _, Own.nil _ _ _ _ _ _, (fun b e => by cases e), by simp⟩
      clear HF2 HB9
      go_wp2_with fail
      go_loopg [4] c.ts.length (fun f m wr => ∃ vt vn l st' x' more, m = .bool more ∧ L2 c w x S2 x9.ms X2 f wr (.slice ad li cp) vt vn l st' x' more)
      case atStart => exact ⟨_, _, _, _, _, _, rfl, unhide HR2⟩
      case round =>
        obtain ⟨vt, vn, l, st', xp, more, rfl, hrel⟩ := hrel
        have HRL := hide hrel
        clear HR2
        cases more with
        | true =>
          obtain ⟨gk, rfl⟩ := hrel.ls.pos
          have hcn : l.length ≤ 1000 := gk_le hrel.cnt hlen
          obtain ⟨ys, hrow⟩ := hrel.ot.row
          obtain ⟨at1, ct1, hv⟩ := row_slice hrow
          subst hv
          obtain ⟨ys2, hrow2⟩ := hrel.on.row
          obtain ⟨an1, cn1, hv⟩ := row_slice hrow2
          subst hv
          obtain ⟨⟨kr, fr⟩, ⟨kb, fb⟩, zz⟩ := hrel.sb.facts
          have hnx' := RF.nx hrel.ls.rx
          have hdp' := hrel.ls.dp
          have HAP := hide hrel.ap
          clear hrel hrow ys hrow2 ys2
          obtain ⟨S, HS⟩ : ∃ S, Hid (S = many c.ts 3 l.length st') := ⟨_, rfl⟩
          have hSd : S.dp = 0 := by rw [unhide HS, many_dp]; exact hdp'
          have hSn : S.nx < c.ts.length := by rw [unhide HS]; exact (onw_many hnx' 3 l.length).lt
          have HWK := hide (onw_wk (unhide HL) hSn (k := 2) (by decide))
          go_upto_if 38 with (fail)
          go_cut [] (fun W => ∃ x2, SB c w x W S x2 (.slice ad li cp) (.slice at1 l.length ct1) (.slice an1 l.length cn1) (.slice none 0 0) ∧ Own c w 100 3 W x2 (.slice at1 l.length ct1) l.length ∧ Own c w 100 3 W x2 (.slice an1 l.length cn1) l.length ∧ x2.ms = xp.ms)
          case first =>
            by_cases h6 : l.length = 3
            · have hb6 : ((l.length : Int) == 3) = true := by rw [h6]; rfl
              have HS' : Hid (S = failP c.ts st' eMany) := by unfold Hid; rw [unhide HS]; unfold many; rw [if_pos h6]
              go_wp2_with fail
              refine (rfailm_x c _ st' xp (by exact (unhide HRL).sb.rx)).mono ?_
              rintro e w2 ⟨x2, rfl, hr, hg, hm⟩
              have HB2 := hide ((unhide HRL).sb.step hr hg)
              have HO2 := hide ((unhide HRL).ot.step hg)
              have HP2 := hide ((unhide HRL).on.step hg)
              clear hr hg
              go_wp2_with fail
              go_meet
              case rel =>
                rw [unhide HS']
                exact ⟨x2, unhide HB2, unhide HO2, unhide HP2, hm⟩
            · have hb6 : ((l.length : Int) == 3) = false := by simp only [beq_eq_false_iff_ne, ne_eq]; omega
              have HS' : Hid (S = st') := by unfold Hid; rw [unhide HS]; exact many_ne h6
              go_wp2_with fail
              go_meet
              case rel =>
                rw [unhide HS']
                exact ⟨xp, (unhide HRL).sb, (unhide HRL).ot, (unhide HRL).on, rfl⟩
          case rest =>
            obtain ⟨x2, hsb, hot, hon, hm2⟩ := hcut
            have HB2 := hide hsb
            have HO2 := hide hot
            have HP2 := hide hon
            have HM2 := hide hm2
            clear hsb hot hon hm2 kr fr kb fb zz
            go_wp2_with fail
            refine (rkind_x c _ S x2 2 (by exact (unhide HB2).rx) (Or.inl rfl)).mono ?_
            rintro e w3 ⟨ka, kbb, x3, rfl, hr, hg, hm3⟩
            have HB3 := hide (((unhide HB2).step hr hg).keep ((Below.refl _ _).alloc (Nat.le_refl _) (.cells #[.int .i64 ka, .int .i64 kbb, .string (wkT c.ts S 2).text] 100)))
            have HO3 := hide (((unhide HO2).step hg).keep ((Below.refl _ _).alloc (Nat.le_refl _) (.cells #[.int .i64 ka, .int .i64 kbb, .string (wkT c.ts S 2).text] 100)))
            have HP3 := hide (((unhide HP2).step hg).keep ((Below.refl _ _).alloc (Nat.le_refl _) (.cells #[.int .i64 ka, .int .i64 kbb, .string (wkT c.ts S 2).text] 100)))
            have HM3 := hide hm3
            have HOFF3 := hide (hr.off (Nat.le_refl w3.heap.size))
            have zz3 := ((unhide HB2).step hr hg).facts.2.2
            clear hr hg hm3 HB2 HO2 HP2
            generalize hTX : (wkT c.ts S 2).text = TX at *
            have HTX := hide hTX
            clear hTX
            go_wp2_with fail
            refine (rkind_x c _ (wkP c.ts S 2) x3 2 (by exact (unhide HB3).rx) (Or.inl rfl)).mono ?_
            rintro e w4 ⟨ka2, kbb2, x4, rfl, hr, hg, hm4⟩
            have HB4 := hide ((unhide HB3).step hr hg)
            have HO4 := hide ((unhide HO3).step hg)
            have HP4 := hide ((unhide HP3).step hg)
            have HM4 := hide hm4
            have K6 := hide ((hg.block (k := w3.heap.size) (by simp) (unhide HOFF3)).trans (heap_last rfl))
            clear hr hg hm4 HB3 HO3 HP3
            obtain ⟨k6, f6⟩ := blk (unhide K6)
            have z6 := lt_of_heap (unhide K6)
            generalize hTX2 : (wkT c.ts (wkP c.ts S 2) 2).text = TX2 at *
            have HTX2 := hide hTX2
            clear hTX2
            obtain ⟨ys, hrow⟩ := (unhide HO4).row
            have HROW := hide hrow
            clear hrow
            obtain ⟨⟨kr, fr⟩, ⟨kb, fb⟩, zz⟩ := (unhide HB4).facts
            have HBE : Hid (Below w4.heap.size w4 ((w4.alloc (.cells #[.int .i64 ka2, .int .i64 kbb2, .string TX2] 100)).alloc (.cells #[.int .i64 ka, .int .i64 kbb, .string TX] 100))) := ((Below.refl _ _).alloc (Nat.le_refl _) _).alloc (by simp) _
            go_wp2_with (at_builtin; refine wpList_append_lies _ rfl _ _ 101 rfl (w.heap.size + 2) 100 i2 (.agg #[.int .i64 0, .int .i64 0, .string ⟨#[]⟩]) 3 32 Tryz.underlying101 (unhide HI2) (unhide HZ02) (unhide HZ12) (unhide HZ22) rfl (by decide) _ _ _ rfl (((unhide HROW).alloc _).alloc _) ⟨w4.heap.size + 1, 0, none⟩ 1 1 [.int .i64 ka, .int .i64 kbb, .string TX] rfl rfl ?c1 ?c2 (by decide) ?c3 ?c4 ?c5 _ rfl ?_)
            case c1 => exact cell_new (by first | rfl | simp)
            case c2 => exact one3 _ _ _
            case c3 => unfold maxLen; omega
            case c4 => omega
            case c5 => simp; omega
            intro g cap w5 ho hg hat _
            have HB5 := hide (((unhide HB4).keep (unhide HBE)).grown ((unhide HO4).keep (unhide HBE)) hg)
            have HO5 := hide (((unhide HO4).keep (unhide HBE)).grown ((unhide HB4).keep (unhide HBE)).rx ho (hat.imp id (fun e => by rw [e]; first | exact Nat.le_refl _ | (simp; done))))
            have HP5 := hide (((unhide HP4).keep (unhide HBE)).other hg (unhide HAP))
            have K7 := hide ((hg.block w4.heap.size (by simp; omega) (fun e' => by have := ((unhide HROW).lt _ e'.symm).2; omega)).trans (heap_prev (heap_last rfl)))
            have HAP5 : Hid (∀ b, (Value.slice (some ⟨g, 0, none⟩) (l.length + 1) cap).ownBlock = some b → (Value.slice an1 l.length cn1).ownBlock ≠ some b) := fun b e e' => by
              have e2 : g = b := by simpa [Value.ownBlock] using e
              subst e2
              rcases hat with q | q
              · exact (unhide HAP) g q e'
              · obtain ⟨zs, hz⟩ := (unhide HP4).row
                have h1 := (hz.lt g e').2
                have h2 := (unhide HBE).size
                omega
            clear ho hg hat kr fr kb fb zz HB4 HO4 HP4 HROW HBE
            obtain ⟨⟨kr, fr⟩, ⟨kb, fb⟩, zz⟩ := (unhide HB5).facts
            obtain ⟨k7, f7⟩ := blk (unhide K7)
            have z7 := lt_of_heap (unhide K7)
            have HB6 := hide ((unhide HB5).set (i := 1) (u := .slice (some ⟨g, 0, none⟩) (l.length + 1) cap) rfl)
            have HO6 := hide ((unhide HO5).set (i := 1) (u := .slice (some ⟨g, 0, none⟩) (l.length + 1) cap))
            have HP6 := hide ((unhide HP5).set (i := 1) (u := .slice (some ⟨g, 0, none⟩) (l.length + 1) cap))
            obtain ⟨ys, hrow⟩ := (unhide HP6).row
            have HROW := hide hrow
            clear hrow
            have hne7 : w4.heap.size ≠ w.heap.size + 1 := by omega
            have HBE : Hid (Below (w5.setCell ⟨w.heap.size + 1, 1, none⟩ (.slice (some ⟨g, 0, none⟩) (l.length + 1) cap)).heap.size (w5.setCell ⟨w.heap.size + 1, 1, none⟩ (.slice (some ⟨g, 0, none⟩) (l.length + 1) cap)) ((w5.setCell ⟨w.heap.size + 1, 1, none⟩ (.slice (some ⟨g, 0, none⟩) (l.length + 1) cap)).alloc (.cells #[.int .i64 ka2, .int .i64 kbb2, .string TX2] 100))) := (Below.refl _ _).alloc (Nat.le_refl _) _
            go_wp2_with (at_builtin; refine wpList_append_lies _ rfl _ _ 101 rfl (w.heap.size + 2) 100 i2 (.agg #[.int .i64 0, .int .i64 0, .string ⟨#[]⟩]) 3 32 Tryz.underlying101 (unhide HI2) (unhide HZ02) (unhide HZ12) (unhide HZ22) rfl (by decide) _ _ _ rfl ((unhide HROW).alloc _) ⟨w5.heap.size, 0, none⟩ 1 1 [.int .i64 ka2, .int .i64 kbb2, .string TX2] rfl rfl ?c1 ?c2 (by decide) ?c3 ?c4 ?c5 _ rfl ?_)
            case c1 => exact cell_new (by first | rfl | simp)
            case c2 => exact one3 _ _ _
            case c3 => unfold maxLen; omega
            case c4 => omega
            case c5 => simp; omega
            intro g2 cap2 w8 ho hg hat _
            have HB8 := hide (((unhide HB6).keep (unhide HBE)).grown ((unhide HP6).keep (unhide HBE)) hg)
            have HP8 := hide (((unhide HP6).keep (unhide HBE)).grown ((unhide HB6).keep (unhide HBE)).rx ho (hat.imp id (fun e => by rw [e]; first | exact Nat.le_refl _ | (simp; done))))
            have HO8 := hide (((unhide HO6).keep (unhide HBE)).other hg (fun b e e' => (unhide HAP5) b e' e))
            have HAP8 : Hid (∀ b, (Value.slice (some ⟨g, 0, none⟩) (l.length + 1) cap).ownBlock = some b → (Value.slice (some ⟨g2, 0, none⟩) (l.length + 1) cap2).ownBlock ≠ some b) := fun b e e' => by
              have e2 : g2 = b := by simpa [Value.ownBlock] using e'
              subst e2
              rcases hat with q | q
              · exact (unhide HAP5) g2 e q
              · obtain ⟨zs, hz⟩ := (unhide HO6).row
                have h1 : g2 < w5.heap.size := by simpa using (hz.lt g2 e).2
                have h2 : w5.heap.size ≤ w5.heap.size + 1 := Nat.le_succ _
                omega
            clear ho hg hat kr fr kb fb zz HB5 HO5 HP5 HB6 HO6 HP6 HROW HBE
            obtain ⟨⟨kr, fr⟩, ⟨kb, fb⟩, zz⟩ := (unhide HB8).facts
            have HB9 := hide ((unhide HB8).set (i := 2) (u := .slice (some ⟨g2, 0, none⟩) (l.length + 1) cap2) rfl)
            have HO9 := hide ((unhide HO8).set (i := 2) (u := .slice (some ⟨g2, 0, none⟩) (l.length + 1) cap2))
            have HP9 := hide ((unhide HP8).set (i := 2) (u := .slice (some ⟨g2, 0, none⟩) (l.length + 1) cap2))
            go_wp2_with fail
            refine (rmay_x c _ (wkP c.ts (wkP c.ts S 2) 2) x4 ⟨#[44]⟩ (by exact (unhide HB9).rx)).mono ?_
            rintro e w10 ⟨x10, rfl, hr7, hg7, hm7⟩
            have HB10 := hide ((unhide HB9).step hr7 hg7)
            have HO10 := hide ((unhide HO9).step hg7)
            have HP10 := hide ((unhide HP9).step hg7)
            have HR10 := hide hr7
            have HM10 := hide hm7
            clear hr7 hg7 hm7 kr fr kb fb zz HB8 HO8 HP8 HB9 HO9 HP9
            go_wp2
            go_roundg gk
            case measure => simp
            case rel =>
              refine ⟨_, _, l ++ [(srcP c.ts S).1], takeS c.ts (srcP c.ts S).2 [⟨#[44]⟩], x10, hitP c.ts (srcP c.ts S).2 [⟨#[44]⟩], rfl, ⟨?_, unhide HB10, by rw [List.length_append]; exact unhide HO10, by rw [List.length_append]; exact unhide HP10, unhide HAP8, by rw [List.length_append]; have := (unhide HRL).cnt; simp; omega⟩⟩
              refine (unhide HRL).ls.round (unhide HS) ?_ ?_ ?_ (onw_src (unhide HL) S hSn) (unhide HB10).gx (unhide HR10) (fun e => ?_)
              · rw [unhide HS]; exact many_or
              · rw [unhide HS]; exact many_dp
              · rw [unhide HS]; exact many_nx hnx'
              · rw [unhide HM10, unhide HM4, unhide HM3, unhide HM2]
                exact src_ml (unhide HL) hSn e
        | false =>
          obtain ⟨ys, hrow⟩ := hrel.ot.row
          obtain ⟨at1, ct1, hv⟩ := row_slice hrow
          subst hv
          obtain ⟨ys2, hrow2⟩ := hrel.on.row
          obtain ⟨an1, cn1, hv⟩ := row_slice hrow2
          subst hv
          have hdn := hrel.ls.done
          have HML2 := hide hdn.2
          have HB11 : Hid (SB c w x wr X2.2 xp (.slice ad li cp) (.slice at1 l.length ct1) (.slice an1 l.length cn1) (.slice none 0 0)) := by unfold Hid; rw [hdn.1]; exact hrel.sb
          have hdX2 : X2.2.dp = 0 := by rw [hdn.1]; exact hrel.ls.dp
          clear hrow hrow2 hdn hrel HRL ys ys2
          generalize l.length = lt at *
          have hnX2 := RF.nx (unhide HB11).rx
          go_wp2_with fail
          refine (rmay_x c _ X2.2 xp ⟨#[119, 104, 101, 114, 101]⟩ (by exact (unhide HB11).rx)).mono ?_
          rintro e w12 ⟨x12, rfl, hr, hg, hm12⟩
          have HB12 := hide ((unhide HB11).step hr hg)
          have HM12 := hide hm12
          clear hr hg hm12 HB11
          obtain ⟨X3, HX3⟩ : ∃ X, Hid (X = whereP c.ts X2.2) := ⟨_, rfl⟩
          have HR3 : Hid (L3 c w x (takeS c.ts X2.2 [⟨#[119, 104, 101, 114, 101]⟩]) x12.ms X3 c.ts.length w12 (.slice ad li cp) (.slice at1 lt ct1) (.slice an1 lt cn1) (.slice none 0 0) [] (takeS c.ts X2.2 [⟨#[119, 104, 101, 114, 101]⟩]) x12 (hitP c.ts X2.2 [⟨#[119, 104, 101, 114, 101]⟩])) := by
            refine ⟨?_, unhide HB12, Own.nil _ _ _ _ _ _, by simp⟩
            have hX3 := unhide HX3
            unfold whereP at hX3
            cases hh : hitP c.ts X2.2 [⟨#[119, 104, 101, 114, 101]⟩] with
            | true =>
              have e1 : takeS c.ts X2.2 [⟨#[119, 104, 101, 114, 101]⟩] = adv X2.2 := by unfold takeS; rw [hh]; rfl
              rw [hh, if_pos rfl, gLoop_and] at hX3
              have hb := unhide HB12
              rw [e1] at hb ⊢
              rw [hX3]
              exact LsR.first (testP c.ts) (fun _ s => s) ⟨#[97, 110, 100]⟩ tkTest hb.rx hb.gx hdX2 rfl
            | false =>
              have e1 : takeS c.ts X2.2 [⟨#[119, 104, 101, 114, 101]⟩] = X2.2 := by unfold takeS; rw [hh]; rfl
              rw [hh] at hX3
              have hb := unhide HB12
              rw [e1] at hb ⊢
              exact ⟨hb.rx, hb.gx, by rw [hX3]; rfl, (fun e => by cases e), hdX2, fun _ => by unfold tkk; simp only [List.map_nil, joinT, Bool.false_eq_true, if_false, List.append_nil]; exact Ml.refl _ _⟩
          clear HB12
          generalize hS3 : takeS c.ts X2.2 [⟨#[119, 104, 101, 114, 101]⟩] = S3 at *
          have HS3 := hide hS3
          clear hS3
          generalize hmr : hitP c.ts X2.2 [⟨#[119, 104, 101, 114, 101]⟩] = mr at *
          have HMR := hide hmr
          clear hmr
          go_wp2_with fail
          go_loopg [4] c.ts.length (fun f m wr => ∃ vs l st' x' more, m = .bool more ∧ L3 c w x S3 x12.ms X3 f wr (.slice ad li cp) (.slice at1 lt ct1) (.slice an1 lt cn1) vs l st' x' more)
          case atStart => exact ⟨_, _, _, _, _, rfl, unhide HR3⟩
          case round =>
            obtain ⟨vs, l, st', xq, more, rfl, hrel⟩ := hrel
            have HRL := hide hrel
            clear HR3
            obtain ⟨ys, hrow⟩ := hrel.own.row
            obtain ⟨as1, cs1, hv⟩ := row_slice hrow
            subst hv
            clear hrow ys
            cases more with
            | false =>
              have hdn := hrel.ls.done
              have HML3 := hide hdn.2
              have HB20 : Hid (SB c w x wr X3.2 xq (.slice ad li cp) (.slice at1 lt ct1) (.slice an1 lt cn1) (.slice as1 l.length cs1)) := by unfold Hid; rw [hdn.1]; exact hrel.sb
              clear hdn hrel HRL
              generalize l.length = ls at *
              obtain ⟨⟨kr, fr⟩, ⟨kb, fb⟩, zz⟩ := (unhide HB20).facts
              have e1 : X1 = selI c.ts st := by rw [unhide HX1, ← unhide HS1]; rfl
              have e2 : X2 = selS c.ts (selI c.ts st).2 := by rw [unhide HX2, ← unhide HS2, e1]; rfl
              have e3 : X3 = whereP c.ts (selS c.ts (selI c.ts st).2).2 := by rw [unhide HX3, e2]
              have HFIN : Hid ((selP c.ts st).2.er = none → Ml st (selP c.ts st).2 (tkSel (selP c.ts st).1) x.ms xq.ms) := by
                refine sel_ml (unhide HW) hnx (s1 := x'.ms) (s2 := xp.ms) ?_ ?_ ?_
                · rw [← e1, unhide HS1, ← unhide HM1]; exact unhide HML1
                · rw [← e2, ← e1, unhide HS2, ← unhide HM9]; exact unhide HML2
                · rw [← e3, ← e2, unhide HS3, ← unhide HM12]; exact unhide HML3
              have HE3 := hide e3
              clear e1 e2 e3
              go_wp2
              have e3 := unhide HE3
              refine bodyPost_ret (v := .agg #[.slice ad li cp, .slice at1 lt ct1, .slice an1 lt cn1, .slice as1 ls cs1, .bool true]) (by simp [results, Tryz.results69, go_sem, kr]) rfl ⟨_, _, _, _, _, _, _, _, _, _, _, _, xq, rfl, ?_, ?_, ?_⟩
              · show RX c _ (whereP c.ts (selS c.ts (selI c.ts st).2).2).2 xq
                rw [← e3]
                exact (unhide HB20).rx.kpb (((((Kp.refl w.heap.size _).setCell _ _).setCell _ _).setCell _ _).setCell _ _ |>.setCell _ _) ((unhide HB20).off _ (Nat.le_refl _) (by omega))
              · exact (unhide HB20).gx.kpNew (((((Kp.refl w.heap.size _).setCell _ _).setCell _ _).setCell _ _).setCell _ _ |>.setCell _ _) (Nat.le_refl _)
              · exact unhide HFIN
            | true =>
              obtain ⟨gk, rfl⟩ := hrel.ls.pos
              have hcn : l.length ≤ 1000 := gk_le hrel.cnt hlen
              have hnx' := RF.nx hrel.ls.rx
              have hdp' := hrel.ls.dp
              clear hrel
              have HY0 := hide (onw_exprP (unhide HL) st' hnx')
              obtain ⟨Y, HY⟩ : ∃ Y, Hid (Y = exprP c.ts st') := ⟨_, rfl⟩
              rw [← unhide HY] at HY0
              have HE1 := hide (rexpr_x c (unhide HW) (unhide HN) wr st' xq (unhide HRL).ls.rx hdp')
              rw [← unhide HY] at HE1
              go_wp2_with fail
              refine (unhide HE1).mono ?_
              rintro e w2 ⟨n2, x2, rfl, hr, hg, hm2⟩
              have HB2 := hide ((unhide HRL).sb.step hr hg)
              have HO2 := hide ((unhide HRL).own.step hg)
              have HM2 := hide hm2
              obtain ⟨⟨r0, r1, r2, r3, r4⟩, hfr, q23, ⟨t0, t1, t2⟩, zr, zq, zt⟩ := RF.facts hr
              have hinx := RF.inx hr
              have HRX2 := hide hr
              clear hr hg hm2 HE1
              generalize hTK : tkAt c.ts x2.I = tk at *
              have HTK := hide hTK
              clear hTK
              generalize hRK : ((rkT tk : Nat) : Int) = rk at *
              clear hRK
              generalize hEN : erN Y.2.er = en at *
              have HEN := hide hEN
              clear hEN
              go_upto_region 23 with (fail)
              go_cut [9] (fun s9 W => s9 = .pointer (some ⟨w2.heap.size, 0, none⟩) ∧ W = ((w2.alloc (.cells #[.int .i64 rk, .int .i64 tk.place, .string tk.text] 100)).drew))
              case first =>
                go_region
                all_goals
                  go_wp2_with fail
                  go_meet
                  case rel => exact ⟨rfl, rfl⟩
              case rest =>
                obtain ⟨rfl, rfl⟩ := hcut
                have HB3 := hide ((unhide HB2).keep (show Below w2.heap.size w2 ((w2.alloc (.cells #[.int .i64 rk, .int .i64 tk.place, .string tk.text] 100)).drew) from ((Below.refl _ _).alloc (Nat.le_refl _) _).drew))
                have HO3 := hide ((unhide HO2).keep (show Below w2.heap.size w2 ((w2.alloc (.cells #[.int .i64 rk, .int .i64 tk.place, .string tk.text] 100)).drew) from ((Below.refl _ _).alloc (Nat.le_refl _) _).drew))
                have K9 : Hid (((w2.alloc (.cells #[.int .i64 rk, .int .i64 tk.place, .string tk.text] 100)).drew).heap[w2.heap.size]? = some (.cells #[.int .i64 rk, .int .i64 tk.place, .string tk.text] 100 (0, 0))) := heap_last rfl
                have HOF9 : Hid (Off c x2 w2.heap.size) := (unhide HRX2).off (Nat.le_refl _)
                have z9 : w2.heap.size < ((w2.alloc (.cells #[.int .i64 rk, .int .i64 tk.place, .string tk.text] 100)).drew).heap.size := lt_of_heap (unhide K9)
                have hrx3 := (unhide HB3).rx
                clear r0 r1 r2 r3 r4 hfr q23 t0 t1 t2 zr zq zt HB2 HO2
                generalize ((w2.alloc (.cells #[.int .i64 rk, .int .i64 tk.place, .string tk.text] 100)).drew) = w3 at *
                obtain ⟨k9, f9⟩ := blk (unhide K9)
                obtain ⟨⟨r0, r1, r2, r3, r4⟩, hfr, q23, ⟨t0, t1, t2⟩, zr, zq, zt⟩ := RF.facts hrx3
                rw [unhide HEN] at r3
                clear hrx3 r0 r1 r2 r4 hfr q23 t0 t1 t2 zq zt
                go_wp2_with fail
                refine (in_any _ _ _ xCmp (by exact texts_cmp (by first | rfl | simp)) (by decide)).mono ?_
                rintro e w4 ⟨rfl, rfl⟩
                have HB4 := hide ((unhide HB3).keep ((Below.refl _ _).alloc (Nat.le_refl _) (.cells #[.string ⟨#[61]⟩, .string ⟨#[60, 62]⟩, .string ⟨#[60]⟩, .string ⟨#[60, 61]⟩, .string ⟨#[62]⟩, .string ⟨#[62, 61]⟩] 9)))
                have HO4 := hide ((unhide HO3).keep ((Below.refl _ _).alloc (Nat.le_refl _) (.cells #[.string ⟨#[61]⟩, .string ⟨#[60, 62]⟩, .string ⟨#[60]⟩, .string ⟨#[60, 61]⟩, .string ⟨#[62]⟩, .string ⟨#[62, 61]⟩] 9)))
                have K94 : Hid ((w3.alloc (.cells #[.string ⟨#[61]⟩, .string ⟨#[60, 62]⟩, .string ⟨#[60]⟩, .string ⟨#[60, 61]⟩, .string ⟨#[62]⟩, .string ⟨#[62, 61]⟩] 9)).heap[w2.heap.size]? = some (.cells #[.int .i64 rk, .int .i64 tk.place, .string tk.text] 100 (0, 0))) := heap_prev (unhide K9)
                have r34 : (w3.alloc (.cells #[.string ⟨#[61]⟩, .string ⟨#[60, 62]⟩, .string ⟨#[60]⟩, .string ⟨#[60, 61]⟩, .string ⟨#[62]⟩, .string ⟨#[62, 61]⟩] 9)).cell? ⟨c.rb, 3, none⟩ = some (.int .i64 en) := by rw [World.cell?_alloc_lt _ _ ⟨c.rb, 3, none⟩ zr]; exact r3
                have zr4 : c.rb < (w3.alloc (.cells #[.string ⟨#[61]⟩, .string ⟨#[60, 62]⟩, .string ⟨#[60]⟩, .string ⟨#[60, 61]⟩, .string ⟨#[62]⟩, .string ⟨#[62, 61]⟩] 9)).heap.size := by simp; omega
                generalize hcsb : Lib.containsS xCmp tk.text = csb at *
                have HCSB := hide hcsb
                clear hcsb k9 f9 r3 HB3 HO3 K9
                generalize w3.alloc (.cells #[.string ⟨#[61]⟩, .string ⟨#[60, 62]⟩, .string ⟨#[60]⟩, .string ⟨#[60, 61]⟩, .string ⟨#[62]⟩, .string ⟨#[62, 61]⟩] 9) = w4 at *
                go_upto_region 25 with (fail)
                go_cut [89] (fun s89 W => W = w4 ∧ s89 = .bool (hitP c.ts Y.2 xCmp))
                case first =>
                  cases csb with
                  | false =>
                    have HHT : Hid (hitP c.ts Y.2 xCmp = false) := cmp_not (unhide HRX2) (by rw [unhide HTK]; exact Or.inl (unhide HCSB))
                    go_wp2_with fail
                    go_meet
                    case rel => exact ⟨rfl, by rw [unhide HHT]⟩
                  | true =>
                    cases hen : (en == 0) with
                    | false =>
                      have HHT : Hid (hitP c.ts Y.2 xCmp = false) := cmp_not (unhide HRX2) (Or.inr (by rw [unhide HEN]; exact hen))
                      go_wp2_with fail
                      go_meet
                      case rel => exact ⟨rfl, by rw [unhide HHT]⟩
                    | true =>
                      have HHT : Hid (hitP c.ts Y.2 xCmp = true) := cmp_hit (unhide HRX2) (unhide HC) (by rw [unhide HTK]; exact unhide HCSB) (by rw [unhide HEN]; exact hen)
                      go_wp2_with fail
                      go_meet
                      case rel => exact ⟨rfl, by rw [unhide HHT]⟩
                case rest =>
                  obtain ⟨rfl, rfl⟩ := hcut
                  go_upto_if 89 with (fail)
                  go_cut [10] (fun _ W => ∃ x5, SB c w x W (wantP c.ts Y.2 xCmp) x5 (.slice ad li cp) (.slice at1 lt ct1) (.slice an1 lt cn1) (.slice as1 l.length cs1) ∧ Own c w 273 3 W x5 (.slice as1 l.length cs1) l.length ∧ x5.ms = x2.ms ∧ W.heap[w2.heap.size]? = some (.cells #[.int .i64 rk, .int .i64 tk.place, .string tk.text] 100 (0, 0)) ∧ Off c x5 w2.heap.size)
                  case first =>
                    cases hh : hitP c.ts Y.2 xCmp with
                    | true =>
                      have HWT : Hid (wantP c.ts Y.2 xCmp = adv Y.2) := by unfold Hid wantP; rw [hh]; rfl
                      have he : Y.2.er = none := RF.okHit (unhide HB4).rx hh
                      have HK0 := hide (hit_kind hh)
                      clear hh
                      go_wp2_with fail
                      refine (rstep_x c _ Y.2 x2 (by exact (unhide HB4).rx) he (unhide HK0)).mono ?_
                      rintro e w5 ⟨x5, rfl, hr, hg, hm⟩
                      have HB5 := hide ((unhide HB4).step hr hg)
                      have HO5 := hide ((unhide HO4).step hg)
                      have K95 := hide ((hg.block (lt_of_heap (unhide K94)) (unhide HOF9)).trans (unhide K94))
                      have HOF5 := hide (hg.off (lt_of_heap (unhide K94)) (unhide HOF9))
                      clear hr hg
                      go_wp2_with fail
                      go_meet
                      case rel =>
                        rw [unhide HWT]
                        exact ⟨x5, unhide HB5, unhide HO5, hm, unhide K95, unhide HOF5⟩
                    | false =>
                      have HWT : Hid (wantP c.ts Y.2 xCmp = failP c.ts Y.2 eSyntax) := by unfold Hid wantP; rw [hh]; rfl
                      clear hh
                      go_wp2_with fail
                      refine (rfail_x c _ Y.2 x2 (by exact (unhide HB4).rx)).mono ?_
                      rintro e w5 ⟨x5, rfl, hr, hg, hm⟩
                      have HB5 := hide ((unhide HB4).step hr hg)
                      have HO5 := hide ((unhide HO4).step hg)
                      have K95 := hide ((hg.block (lt_of_heap (unhide K94)) (unhide HOF9)).trans (unhide K94))
                      have HOF5 := hide (hg.off (lt_of_heap (unhide K94)) (unhide HOF9))
                      clear hr hg
                      go_wp2_with fail
                      go_meet
                      case rel =>
                        rw [unhide HWT]
                        exact ⟨x5, unhide HB5, unhide HO5, hm, unhide K95, unhide HOF5⟩
                  case rest =>
                    obtain ⟨x5, hsb, hown, hm5, hk9, hof9⟩ := hcut
                    have HB5 := hide hsb
                    have HO5 := hide hown
                    have HM5 := hide hm5
                    have K95 := hide hk9
                    have HOF5 := hide hof9
                    clear hsb hown hm5 hk9 hof9 HB4 HO4 K94 r34 zr4
                    have HWO := hide (onw_want (unhide HL) (unhide HY0).lt xCmp)
                    have hdw : (wantP c.ts Y.2 xCmp).dp = 0 := ((unhide HWO).dp.trans (unhide HY0).dp).trans hdp'
                    go_wp2_with fail
                    refine (rexpr_x c (unhide HW) (unhide HN) _ _ x5 (by exact (unhide HB5).rx) hdw).mono ?_
                    rintro e w6 ⟨n6, x6, rfl, hr, hg, hm6⟩
                    have HB6 := hide ((unhide HB5).step hr hg)
                    have HO6 := hide ((unhide HO5).step hg)
                    have K96 := hide ((hg.block (lt_of_heap (unhide K95)) (unhide HOF5)).trans (unhide K95))
                    have HM6 := hide hm6
                    clear hr hg hm6 HB5 HO5
                    obtain ⟨k9, f9⟩ := blk (unhide K96)
                    have z96 := lt_of_heap (unhide K96)
                    obtain ⟨⟨kr, fr⟩, ⟨kb, fb⟩, zz⟩ := (unhide HB6).facts
                    obtain ⟨ys, hrow⟩ := (unhide HO6).row
                    have HROW := hide hrow
                    clear hrow
                    have HBE : Hid (Below w6.heap.size w6 (w6.alloc (.cells #[.string tk.text, .int .i64 n2, .int .i64 n6] 273))) := (Below.refl _ _).alloc (Nat.le_refl _) _
                    go_wp2_with (at_builtin; refine wpList_append_lies _ rfl _ _ 103 rfl (w.heap.size + 2) 273 i3 (.agg #[.string ⟨#[]⟩, .int .i64 0, .int .i64 0]) 3 32 Tryz.underlying103 (unhide HI3) (unhide HZ03) (unhide HZ13) (unhide HZ23) rfl (by decide) _ _ _ rfl ((unhide HROW).alloc _) ⟨w6.heap.size, 0, none⟩ 1 1 [.string tk.text, .int .i64 n2, .int .i64 n6] rfl rfl ?c1 ?c2 (by decide) ?c3 ?c4 ?c5 _ rfl ?_)
                    case c1 => exact cell_new (by first | rfl | simp)
                    case c2 => exact one3t _ _ _
                    case c3 => unfold maxLen; omega
                    case c4 => omega
                    case c5 => simp; omega
                    intro g cap w7 ho hg hat _
                    have HB7 := hide (((unhide HB6).keep (unhide HBE)).grown ((unhide HO6).keep (unhide HBE)) hg)
                    have HO7 := hide (((unhide HO6).keep (unhide HBE)).grown ((unhide HB6).keep (unhide HBE)).rx ho (hat.imp id (fun e => by rw [e]; first | exact Nat.le_refl _ | (simp; done))))
                    clear ho hg hat kr fr kb fb zz k9 f9 z96 HB6 HO6 HROW HBE K95 K96 HOF5
                    obtain ⟨⟨kr, fr⟩, ⟨kb, fb⟩, zz⟩ := (unhide HB7).facts
                    have HB8 := hide ((unhide HB7).set (i := 3) (u := .slice (some ⟨g, 0, none⟩) (l.length + 1) cap) rfl)
                    have HO8 := hide ((unhide HO7).set (i := 3) (u := .slice (some ⟨g, 0, none⟩) (l.length + 1) cap))
                    go_wp2_with fail
                    refine (rmay_x c _ (exprP c.ts (wantP c.ts Y.2 xCmp)).2 x6 ⟨#[97, 110, 100]⟩ (by exact (unhide HB8).rx)).mono ?_
                    rintro e w10 ⟨x10, rfl, hr7, hg7, hm7⟩
                    have HB10 := hide ((unhide HB8).step hr7 hg7)
                    have HO10 := hide ((unhide HO8).step hg7)
                    have HR10 := hide hr7
                    have HM10 := hide hm7
                    clear hr7 hg7 hm7 kr fr kb fb zz HB7 HO7 HB8 HO8
                    go_wp2
                    go_roundg gk
                    case measure => simp
                    case rel =>
                      have eT : (testP c.ts st').2 = (exprP c.ts (wantP c.ts Y.2 xCmp)).2 := by rw [unhide HY]; rfl
                      rw [← eT]
                      refine ⟨_, l ++ [(testP c.ts st').1], takeS c.ts (testP c.ts st').2 [⟨#[97, 110, 100]⟩], x10, hitP c.ts (testP c.ts st').2 [⟨#[97, 110, 100]⟩], rfl, ⟨?_, by rw [eT]; exact unhide HB10, by rw [List.length_append]; exact unhide HO10, by rw [List.length_append]; have := (unhide HRL).cnt; simp; omega⟩⟩
                      refine (unhide HRL).ls.round (S := st') rfl (Or.inl rfl) rfl (Nat.le_refl _) (onw_test (unhide HL) st' hnx') (unhide HB10).gx (by rw [eT]; exact unhide HR10) (fun e => ?_)
                      rw [unhide HM10]
                      refine test_ml (unhide HW) hnx' (s1 := x2.ms) (fun e1 => ?_) (fun e2 => ?_) e
                      · have := unhide HM2
                        rw [unhide HY] at this
                        exact this e1
                      · have := unhide HM6
                        rw [unhide HY] at this
                        rw [← unhide HM5]
                        exact this e2
end Go.Proofs.YtfkeddkfegaeiaaGreatDoor
namespace Go.Proofs.YtfkeddkfegaeiaaGreatDoor
open Go.RowKit

theorem RX.setQ {c : Cf} {w : World} {st : St} {x : Xs} {i : Nat} {u : Value} (h : RX c w st x) (hi : i < 21) : RX c (w.setCell ⟨c.qb, i, none⟩ u) st x := by
  obtain ⟨cs, xs, hq, hz, h23, h22, h21, hv, hu⟩ := RF.query h
  obtain ⟨cur, ht1, ht2⟩ := RF.tokens h
  have hne := RF.ne h
  have hlow := RF.low h
  refine ⟨RF.len h, RF.last h, RF.kinds h, RF.nx h, RF.inx h, RF.cor h, RF.stop h, RF.dp h, hne, hlow, ?_, ?_, RF.few h, ⟨cs.setIfInBounds i u, xs, heap_set hq _, by simp [hz], ?_, ?_, ?_, row_off hv hlow.2.1, row_off hu hlow.2.1⟩, ⟨cur, ?_, ht2⟩⟩
  · have := RF.top h
    simpa using this
  · exact (Below.heap_setCell _ _ _ _ (by show c.rb ≠ c.qb; exact hne.1)).trans (RF.reader h)
  · rw [Array.getElem?_setIfInBounds_ne (by omega)]; exact h23
  · rw [Array.getElem?_setIfInBounds_ne (by omega)]; exact h22
  · rw [Array.getElem?_setIfInBounds_ne (by omega)]; exact h21
  · exact (Below.heap_setCell _ _ _ _ (by show c.tb ≠ c.qb; exact hne.2.2)).trans ht1
theorem GX.setQ {c : Cf} {w0 w : World} {x0 x : Xs} {i : Nat} {u : Value} (h : GX c w0 x0 w x) : GX c w0 x0 (w.setCell ⟨c.qb, i, none⟩ u) x :=
  ⟨⟨h.fr.os, h.fr.tape, h.fr.output, by simpa using h.fr.size, fun k hk h1 h2 h3 h4 => (Below.heap_setCell _ _ _ _ (by show k ≠ c.qb; exact h2)).trans (h.fr.block k hk h1 h2 h3 h4), h.fr.mnew, h.fr.enew⟩, h.le, h.few, h.fewm⟩
/-- the query's columns. -/
def QC (c : Cf) (W : World) (v : Value) : Prop := ∃ cs : Array Value, W.heap[c.qb]? = some (.cells cs 108 (0, 0)) ∧ cs.size = 24 ∧ cs[3]? = some v
theorem QC.block {c : Cf} {W W' : World} {v : Value} (h : QC c W v) (hb : W'.heap[c.qb]? = W.heap[c.qb]?) : QC c W' v := by
  obtain ⟨cs, hq, h2⟩ := h
  exact ⟨cs, hb.trans hq, h2⟩
theorem QC.lt {c : Cf} {W : World} {v : Value} (h : QC c W v) : c.qb < W.heap.size := by
  obtain ⟨cs, hq, _⟩ := h
  exact lt_of_heap hq
theorem QC.keep {c : Cf} {W W' : World} {v : Value} (h : QC c W v) (hb : Below W.heap.size W W') : QC c W' v := h.block (hb.block _ h.lt)
theorem QC.kp {c : Cf} {W W' : World} {v : Value} (h : QC c W v) (hk : Kp c.rb W W') (hne : c.rb ≠ c.qb) : QC c W' v := h.block (hk.block _ h.lt (Ne.symm hne))
theorem QC.set {c : Cf} {W : World} {v : Value} {i : Nat} {u : Value} (h : QC c W v) (hi : i ≠ 3) : QC c (W.setCell ⟨c.qb, i, none⟩ u) v := by
  obtain ⟨cs, hq, hz, h3⟩ := h
  exact ⟨cs.setIfInBounds i u, heap_set hq _, by simp [hz], by rw [Array.getElem?_setIfInBounds_ne hi]; exact h3⟩
theorem QC.put {c : Cf} {W : World} {v u : Value} (h : QC c W v) : QC c (W.setCell ⟨c.qb, 3, none⟩ u) u := by
  obtain ⟨cs, hq, hz, h3⟩ := h
  exact ⟨cs.setIfInBounds 3 u, heap_set hq _, by simp [hz], by rw [Array.getElem?_setIfInBounds_self_of_lt (by omega)]⟩
theorem QC.facts {c : Cf} {W : World} {v : Value} (h : QC c W v) : W.cell? ⟨c.qb, 3, none⟩ = some v ∧ (∀ o, W.frozen? ⟨c.qb, o, none⟩ = false) ∧ c.qb < W.heap.size := by
  have hl := h.lt
  obtain ⟨cs, hq, hz, h3⟩ := h
  exact ⟨by rw [(blk hq).1]; exact h3, (blk hq).2, hl⟩
theorem RX.qfro {c : Cf} {w : World} {st : St} {x : Xs} (h : RX c w st x) : (∀ o, w.frozen? ⟨c.qb, o, none⟩ = false) := by
  obtain ⟨cs, xs, hq, _⟩ := RF.query h
  exact (blk hq).2
theorem RX.qcell {c : Cf} {w : World} {st : St} {x : Xs} (h : RX c w st x) (o : Nat) (ho : o < 24) : ∃ v, w.cell? ⟨c.qb, o, none⟩ = some v := by
  obtain ⟨cs, xs, hq, hz, _⟩ := RF.query h
  rw [(blk hq).1]
  exact ⟨cs[o]'(by omega), Array.getElem?_eq_getElem (by omega)⟩
theorem Own.kpq {c : Cf} {w : World} {T : TypeId} {sz : Nat} {W : World} {x : Xs} {v : Value} {n i : Nat} {u : Value} (h : Own c w T sz W x v n) : Own c w T sz (W.setCell ⟨c.qb, i, none⟩ u) x v n := by
  obtain ⟨ys, hr⟩ := h.row
  refine ⟨⟨ys, hr.1, hr.2.imp id ?_⟩, h.off⟩
  rintro ⟨g, cap, cu, hv', hg', hh, r⟩
  exact ⟨g, cap, cu, hv', hg', (Below.heap_setCell _ _ _ _ (by show g ≠ c.qb; exact (h.off g (by rw [hv']; rfl)).qb)).trans hh, r⟩

theorem RX.drew {c : Cf} {w : World} {st : St} {x : Xs} (h : RX c w st x) : RX c w.drew st x := h.keep (Below.refl _ _).drew
theorem GX.drew {c : Cf} {w0 w : World} {x0 x : Xs} (h : GX c w0 x0 w x) : GX c w0 x0 w.drew x := h.below (Below.refl _ _).drew
theorem GX.drew0 {c : Cf} {w0 w : World} {x0 x : Xs} (h : GX c w0.drew x0 w x) : GX c w0 x0 w x := (GX.drew (GX.refl c w0 x0)).trans h
theorem QC.drew {c : Cf} {w : World} {v : Value} (h : QC c w v) : QC c w.drew v := h.keep (Below.refl _ _).drew
theorem Own.drew {c : Cf} {w : World} {T : TypeId} {sz : Nat} {W : World} {x : Xs} {v : Value} {n : Nat} (h : Own c w T sz W x v n) : Own c w T sz W.drew x v n := h.keep (Below.refl _ _).drew
/-- behind an append to the query's columns. -/
theorem col_put {c : Cf} {w w4 W w11 : World} {st : St} {x0 x : Xs} {v : Value} {n g cap m : Nat} {T : TypeId} {sz : Nat} {ys : List Value} (hr : RX c w4 st x) (hg : GX c w x0 w4 x) (hq : QC c w4 v) (ho : Own c w T sz w4 x v n) (hb : Below w4.heap.size w4 W) (hgr : W.grownBy w11 v.ownBlock) (hown : w11.ownsRow (w.heap.size + 2) T sz (.slice (some ⟨g, 0, none⟩) m cap) m ys) (hat : v.ownBlock = some g ∨ W.heap.size ≤ g) :
    RX c (w11.setCell ⟨c.qb, 3, none⟩ (.slice (some ⟨g, 0, none⟩) m cap)) st x ∧ GX c w x0 (w11.setCell ⟨c.qb, 3, none⟩ (.slice (some ⟨g, 0, none⟩) m cap)) x ∧ QC c (w11.setCell ⟨c.qb, 3, none⟩ (.slice (some ⟨g, 0, none⟩) m cap)) (.slice (some ⟨g, 0, none⟩) m cap) ∧ Own c w T sz (w11.setCell ⟨c.qb, 3, none⟩ (.slice (some ⟨g, 0, none⟩) m cap)) x (.slice (some ⟨g, 0, none⟩) m cap) m := by
  have ho' := ho.keep hb
  have hr' := hr.keep hb
  obtain ⟨zs, hz⟩ := ho'.row
  refine ⟨RX.setQ (hr'.grown hgr ho'.off) (by decide), GX.setQ ((hg.below hb).grown hgr (fun b e => by have := (hz.lt b e).1; omega)), QC.put ((hq.keep hb).block (hgr.block _ (hq.keep hb).lt (fun e => (ho'.off _ e.symm).qb rfl))), Own.kpq (ho'.grown hr' hown hat)⟩
/-! ### steps that turn the reader alone -/
theorem rmust_k (c : Cf) (w : World) (st : St) (x : Xs) (y : ByteArray) (h : RX c w st x) :
    Calls Tryz.prog 112 #[.pointer (some ⟨c.rb, 0, none⟩), .string y] w fun e w' => ∃ x' : Xs, e = .returned (.tuple #[]) ∧ RX c w' (wantP c.ts st [y]) x' ∧ GX c w x w' x' ∧ x'.ms = x.ms ∧ Kp c.rb w w' := by
  refine (rmust_any c w st x.I y x.ms x.mv x.ev x.en h).mono ?_
  rintro e w' ⟨rfl, ⟨I', hI, hr⟩, hk⟩
  exact ⟨{ x with I := I' }, rfl, hr, GX.ofKp hk hI, rfl, hk⟩
theorem rmay_k (c : Cf) (w : World) (st : St) (x : Xs) (y : ByteArray) (h : RX c w st x) :
    Calls Tryz.prog 67 #[.pointer (some ⟨c.rb, 0, none⟩), .string y] w fun e w' => ∃ x' : Xs, e = .returned (.bool (hitP c.ts st [y])) ∧ RX c w' (takeS c.ts st [y]) x' ∧ GX c w x w' x' ∧ x'.ms = x.ms ∧ Kp c.rb w w' := by
  refine (rmay_any c w st x.I y x.ms x.mv x.ev x.en h).mono ?_
  rintro e w' ⟨rfl, ⟨I', hI, hr⟩, hk⟩
  exact ⟨{ x with I := I' }, rfl, hr, GX.ofKp hk hI, rfl, hk⟩
theorem rkind_k (c : Cf) (w : World) (st : St) (x : Xs) (k : Nat) (h : RX c w st x) (hk : k = 2 ∨ k = 3) :
    Calls Tryz.prog 111 #[.pointer (some ⟨c.rb, 0, none⟩), .int .i64 k] w fun e w' => ∃ (a b : Int) (x' : Xs), e = .returned (.agg #[.int .i64 a, .int .i64 b, .string (wkT c.ts st k).text]) ∧ RX c w' (wkP c.ts st k) x' ∧ GX c w x w' x' ∧ x'.ms = x.ms ∧ Kp c.rb w w' := by
  refine (rkind_any c w st x.I k x.ms x.mv x.ev x.en h hk).mono ?_
  rintro e w' ⟨⟨a, b, rfl⟩, ⟨I', hI, hr⟩, hk⟩
  exact ⟨a, b, { x with I := I' }, rfl, hr, GX.ofKp hk hI, rfl, hk⟩
theorem rfailm_k (c : Cf) (w : World) (st : St) (x : Xs) (h : RX c w st x) :
    Calls Tryz.prog 70 #[.pointer (some ⟨c.rb, 0, none⟩), .int .i64 9] w fun e w' => ∃ x' : Xs, e = .returned (.tuple #[]) ∧ RX c w' (failP c.ts st eMany) x' ∧ GX c w x w' x' ∧ x'.ms = x.ms ∧ Kp c.rb w w' := by
  refine (rfail_many c w st x.I x.ms x.mv x.ev x.en h).mono ?_
  rintro e w' ⟨rfl, hr, hk⟩
  exact ⟨{ x with I := x.I }, rfl, hr, GX.ofKp hk (Nat.le_refl _), rfl, hk⟩
end Go.Proofs.YtfkeddkfegaeiaaGreatDoor
