/-
  Part 38.
-/
import Derived.Test.YtfkeddkfegaeiaaGreatDoorMvStQ
import Derived.Test.YtfkeddkfegaeiaaGreatDoorMvNwO
namespace Go.Proofs.YtfkeddkfegaeiaaGreatDoor
open Go.RowKit
set_option maxRecDepth 100000 in
set_option maxHeartbeats 1000000 in
theorem fvalues_any (c : Fc) (xv : Value) (ls : List (List Nd)) (hl : ls.length ≤ 100) (hx : XsP c.w0 xv ls) (F : Fx) (W : World) (sv iv tv ev : Value) (wd : Nat) (ss : List Sr) (er en : Option (Nat × Nat)) (h : FS c F W sv iv tv ev wd ss er) (hen : Hid (en = errX c.T ss er ls)) :
    Calls Tryz.prog 284 #[.pointer (some ⟨c.fb, 0, none⟩), xv] W fun e W' => ∃ ad cap, e = .returned (.slice ad ls.length cap) ∧ ∃ F', FA c F W sv iv tv wd ss en W' F' ∧ (en = none → ∀ W2, Fits c.w0 (F'.off c.X) W2 → Fns c.w0 (F'.off c.X) wd (.slice ad ls.length cap) (ls.map fun l => evE (colAt c.T ss) l) W2) := by
  obtain ⟨vs, hrow, hvl, hex⟩ := hx.row
  have HEX := hide hex
  have HVL := hide hvl
  have HH := hide h
  have hold := h.old
  have HOLD := hide hold
  obtain ⟨adx, capx, rfl, hmx, hcx⟩ := hrow
  rw [hvl] at hmx hcx ⊢
  have HCX := hide hcx
  obtain ⟨i0, hi, hinf⟩ := Option.map_eq_some_iff.1 infoPv
  simp only [Prod.mk.injEq] at hinf
  obtain ⟨hz0, hz1, hz2⟩ := hinf
  have HI := hide hi
  have HZ0 := hide hz0
  have HZ1 := hide hz1
  have HZ2 := hide hz2
  clear hi hz0 hz1 hz2 hex hvl h hx hcx hold hmx
  have VS : Hid (∀ n, ValSpec c n) := value_spec c
  go_enter Tryz.func284, Tryz.ntmps284
  go_wp2_with fail
  go_loopg [5, 10] ls.length (fun q av i W' => ∃ pre suf e0 vs F', ls = pre ++ suf ∧ q = suf.length ∧ i = .int .i64 (pre.length : Nat) ∧ e0 = errX c.T ss er pre ∧ vs.length = pre.length ∧ VsF c F W sv iv tv wd ss e0 pre av vs W' F')
  case atStart => exact ⟨[], ls, er, [], F, rfl, rfl, rfl, rfl, rfl, FA.refl (unhide HH), World.ownsRow_nil _ _ _ _, (fun b e => by cases e), (fun _ i u l hu => by simp at hu)⟩
  case round =>
    obtain ⟨pre, suf, e0, us, F1, h1, rfl, rfl, he0, hul, hvf⟩ := hrel
    have l1 : pre.length + suf.length = ls.length := by rw [h1, List.length_append]
    have HZ := hide h1
    have HE0 := hide he0
    have HUL := hide hul
    have HVF := hide hvf
    obtain ⟨adv, capv, rfl⟩ := owns_shape hvf.own
    clear h1 he0 hul hvf
    cases suf with
    | nil =>
      have hlt : decide (pre.length < ls.length) = false := by simp at l1 ⊢; omega
      have hpl : pre = ls := by rw [unhide HZ]; simp
      have HPL := hide hpl
      clear hpl
      go_wp2
      go_ret
      have hvf := unhide HVF
      have hpl := unhide HPL
      subst hpl
      have hee : en = e0 := by rw [unhide HE0]; exact unhide hen
      rw [hee]
      have hul := unhide HUL
      refine ⟨adv, capv, rfl, ?_⟩
      rcases hvf.own.2 with ⟨hv, hnil⟩ | ⟨g, cap, cur, hv, hge, hhp, c1, c2, c3, c4⟩
      · have hp0 : pre = [] := List.length_eq_zero_iff.1 hnil
        subst hp0
        injection hv with hv1 hv2 hv3
        subst hv1 hv3
        exact ⟨F1, hvf.fa, fun _ W2 _ => ⟨[], ⟨none, 0, rfl, by simp, fun h0 => absurd h0 (by simp)⟩, rfl, fun i u f hu => by simp at hu⟩⟩
      · injection hv with hv1 hv2 hv3
        subst hv1 hv3
        have hoff := hvf.off g rfl
        obtain ⟨a1, a2, a3⟩ := FA.fix2 hvf.fa hoff.1 hhp hoff.2 ((unhide HH).offX hoff.1) ⟨_, _, unhide HH⟩
        refine ⟨_, a1, fun he W2 hW2 => ⟨us, ⟨some ⟨g, 0, none⟩, capv, by rw [hul], by rw [hul]; unfold maxLen; omega, fun _ => ⟨g, 0, rfl, lt_of_heap (hW2.new _ _ a2), fun j hj => ?_⟩⟩, by rw [hul, List.length_map], fun i u f hu hf => ?_⟩⟩
        · rw [Nat.zero_add, (blk (hW2.new _ _ a2)).1, ← c4, ← Array.getElem?_toList, List.getElem?_take_of_lt (by omega)]
        · rw [List.getElem?_map] at hf
          obtain ⟨l, hl, rfl⟩ := Option.map_eq_some_iff.1 hf
          obtain ⟨g', cb', q1, q2⟩ := hvf.fns he i u l hu hl
          exact ⟨g', cb', q1, q2.mono a3⟩
    | cons l suf =>
      rw [List.length_cons] at l1
      have hlt : decide (pre.length < ls.length) = true := by simp; omega
      have HZS : Hid (ls = (pre ++ [l]) ++ suf) := by unfold Hid; rw [unhide HZ]; simp
      obtain ⟨b1, o1, rfl, z1, cc1⟩ := (unhide HCX) (by omega)
      obtain ⟨u, hu⟩ : ∃ u, vs[pre.length]? = some u := ⟨vs[pre.length]'(by rw [unhide HVL]; omega), List.getElem?_eq_getElem _⟩
      obtain ⟨n, hxp⟩ := (unhide HEX) pre.length u l hu (by rw [unhide HZ]; simp)
      obtain ⟨ev1, hf1⟩ := (unhide HVF).fa.2.2
      have k1 : wr.cell? ⟨b1, o1 + pre.length, none⟩ = some u := by
        rw [hf1.old.cell (p := ⟨b1, _, none⟩) z1, cc1 _ (by omega), hu]
      have zb1 : b1 < wr.heap.size := Nat.lt_of_lt_of_le z1 hf1.old.size
      have HF1 := hide hf1
      obtain ⟨e1, he1⟩ : ∃ e1, e1 = orE e0 (exErr c.T ss l) := ⟨_, rfl⟩
      have HE1 := hide he1
      have HE1' : Hid (e1 = errX c.T ss er (pre ++ [l])) := by
        unfold Hid errX
        rw [he1, unhide HE0, List.foldl_append]; rfl
      obtain ⟨ui, vi, rfl⟩ := ExP.isI _ _ _ hxp
      have HXP := hide hxp
      clear hu hxp hf1 he1 cc1
      go_wp2_with fail
      refine ((unhide VS) n _ l F1 _ sv iv tv ev1 wd ss e0 e1 (by exact unhide HXP) (by exact unhide HF1) (by exact HE1)).mono ?_
      rintro e w1 ⟨g, cb, rfl, F2, hfa, hfn⟩
      have HFA := hide hfa
      have HFN := hide hfn
      have HOW := hide (owns_kpf (unhide HVF).own hfa.2.1 (fun e => by have := ((unhide HVF).off _ e).1; have := (unhide HH).grow.ltp; omega))
      have hz1 : W.heap.size ≤ w1.heap.size := Nat.le_trans (unhide HVF).fa.2.1.size hfa.2.1.size
      clear hfa hfn k1
      go_wp2_with (at_builtin; refine wpList_append_lies _ rfl _ _ 454 rfl W.heap.size 426 i0 .nilFunc 1 8 Tryz.underlying454 (unhide HI) (unhide HZ0) (unhide HZ1) (unhide HZ2) rfl (by decide) _ _ _ rfl ((unhide HOW).alloc _) ⟨w1.heap.size, 0, none⟩ 1 1 [.func (.func g) #[] cb] rfl rfl ?c1 ?c2 (by decide) ?c3 ?c4 ?c5 _ rfl ?_)
      case c1 => exact news1 (heap_last rfl)
      case c2 => exact one1f _ _ _
      case c3 => unfold maxLen; omega
      case c4 => omega
      case c5 => simp; omega
      intro g9 cap9 w4 ho hg hat _
      have HNX := hide (VsF.step (unhide HH) (unhide HVF) (unhide HE1) (unhide HFA) (unhide HFN) hg (hat.imp id fun e => e.trans (by simp)) ho (unhide HUL))
      clear ho hg hat
      go_wp2
      go_roundg suf.length
      case measure => simp
      case rel =>
        refine ⟨pre ++ [l], suf, e1, us ++ [.func (.func g) #[] cb], F2, unhide HZS, rfl, ?_, unhide HE1', by simp [unhide HUL], unhide HNX⟩
        rw [List.length_append]; go_num
end Go.Proofs.YtfkeddkfegaeiaaGreatDoor
namespace Go.Proofs.YtfkeddkfegaeiaaGreatDoor
open Go.RowKit
/-- a window as the reader left it. -/
structure WinP (w : World) (b : Nat) (x : WinA) (o a d r : Value) : Prop where
  box : w.heap[b]? = some (.cells #[.int .i64 x.place, .string x.call, o, a, d, r] 388 (0, 0))
  of' : match x.of with
    | none => o = .nilIface
    | some l => ∃ n, ExP w (fun _ => True) n o l
  part : XsP w a x.part ∧ x.part.length ≤ 100
  ord : XsP w d x.ord ∧ x.ord.length ≤ 100
  rows : match x.rows with
    | none => r = .pointer none
    | some t => ∃ bn, r = .pointer (some ⟨bn, 0, none⟩) ∧ w.heap[bn]? = some (.cells #[.int .i64 t.place, .int .i64 t.value, .string t.text] 391 (0, 0)) ∧ 0 ≤ t.value ∧ t.value ≤ 9223372036854775807
theorem errX_none {T : List Tb} {ss : List Sr} : ∀ {er : Option (Nat × Nat)} (ls : List (List Nd)), errX T ss er ls = none → er = none
  | _, [], h => h
  | _, _ :: ls, h => (orE_eq_none (errX_none ls h)).1
theorem Fns.mono {w0 : World} {G G' : Fx} {wd : Nat} {v : Value} {fs : List (List Int → Int)} {W : World} (h : Fns w0 G wd v fs W) (hG : G.le G') : Fns w0 G' wd v fs W := by
  obtain ⟨vs, h1, h2, h3⟩ := h.row
  refine ⟨vs, h1, h2, fun i u f hu hf => ?_⟩
  obtain ⟨g, cb, q1, q2⟩ := h3 i u f hu hf
  exact ⟨g, cb, q1, q2.mono hG⟩
def ahOf (x : WinA) : Int := match x.rows with
  | none => 9223372036854775807
  | some t => t.value
def ofOf (T : List Tb) (ss : List Sr) (x : WinA) : List Int → Int := match x.of with
  | none => fun _ => 0
  | some l => evE (colAt T ss) l
def winE (T : List Tb) (ss : List Sr) (er : Option (Nat × Nat)) (x : WinA) : Option (Nat × Nat) := errX T ss (errX T ss (match x.of with
  | none => er
  | some l => orE er (exErr T ss l)) x.part) x.ord
theorem store_nilF (a : Addr) (m : Mode) (w : World) : (store a .nilFunc m).run Tryz.prog w = stored Tryz.prog w a .nilFunc m := run_store Tryz.prog w a _ m rfl
/-- a window in the making. -/
structure WBx (c : Fc) (F : Fx) (W : World) (sv iv tv : Value) (wd : Nat) (ss : List Sr) (e1 : Option (Nat × Nat)) (wb : Nat) (cv ov pv dv : Value) (ah : Int) (W' : World) (F' : Fx) : Prop where
  fa : FA c F W sv iv tv wd ss e1 W' F'
  lo : W.heap.size ≤ wb
  box : W'.heap[wb]? = some (.cells #[cv, ov, pv, dv, .int .i64 ah] 456 (0, 0))
  off : F' wb = none
theorem WBx.next {c : Fc} {F F1 F2 : Fx} {W W1 W2 : World} {sv iv tv ev : Value} {wd : Nat} {ss : List Sr} {er e1 e2 : Option (Nat × Nat)} {wb : Nat} {cv ov pv dv : Value} {ah : Int} (h0 : FS c F W sv iv tv ev wd ss er) (h : WBx c F W sv iv tv wd ss e1 wb cv ov pv dv ah W1 F1) (hfa : FA c F1 W1 sv iv tv wd ss e2 W2 F2) : WBx c F W sv iv tv wd ss e2 wb cv ov pv dv ah W2 F2 :=
  ⟨h.fa.trans hfa, h.lo, (hfa.2.1.block _ (lt_of_heap h.box) (fun e => by have := h0.grow.ltp; have := h.lo; omega)).trans h.box, (hfa.1.old _ (lt_of_heap h.box)).trans h.off⟩
theorem WBx.set {c : Fc} {F F1 : Fx} {W W1 : World} {sv iv tv ev : Value} {wd : Nat} {ss : List Sr} {er e1 : Option (Nat × Nat)} {wb : Nat} {cv ov pv dv : Value} {ah : Int} (h0 : FS c F W sv iv tv ev wd ss er) (h : WBx c F W sv iv tv wd ss e1 wb cv ov pv dv ah W1 F1) (o : Nat) (u : Value) {cv' ov' pv' dv' : Value} {ah' : Int} (e : #[cv, ov, pv, dv, .int .i64 ah].setIfInBounds o u = #[cv', ov', pv', dv', .int .i64 ah']) : WBx c F W sv iv tv wd ss e1 wb cv' ov' pv' dv' ah' (W1.setCell ⟨wb, o, none⟩ u) F1 :=
  ⟨FA.sideSet h0 h.fa h.lo h.off o u, h.lo, by rw [heap_set h.box, e], h.off⟩
set_option maxRecDepth 100000 in
theorem fn_zero (w0 : World) (F : Fx) (n : Nat) : FnG w0 F n 283 #[] (fun _ => 0) := by
  refine ⟨enters_of Tryz.func283 (by kernel_rfl) rfl, fun W rv row hW hl hr => ?_⟩
  obtain ⟨ad, cap, rfl, -, -⟩ := hr
  show Calls Tryz.prog 283 #[_] W _
  go_enter Tryz.func283, Tryz.ntmps283
  go_wp2
  go_ret
  exact ⟨rfl, Below.refl _ _⟩
set_option maxRecDepth 100000 in
set_option maxHeartbeats 1000000 in
theorem fwindow_any (c : Fc) (hiw : c.iw = false) (b : Nat) (x : WinA) (ov pv dv rv : Value) (hw : WinP c.w0 b x ov pv dv rv) (F : Fx) (W : World) (sv iv tv ev : Value) (wd : Nat) (ss : List Sr) (er en : Option (Nat × Nat)) (h : FS c F W sv iv tv ev wd ss er) (hen : Hid (en = winE c.T ss er x)) :
    Calls Tryz.prog 246 #[.pointer (some ⟨c.fb, 0, none⟩), .pointer (some ⟨b, 0, none⟩)] W fun e W' => ∃ wb, e = .returned (.func (.func 285) #[.pointer (some ⟨wb, 0, none⟩)] #[]) ∧ ∃ F', FA c F W sv iv tv wd ss en W' F' ∧ (en = none → ItG c.w0 (F'.off c.X) wd 285 #[.pointer (some ⟨wb, 0, none⟩)] #[] (winF (x.part.map fun l => evE (colAt c.T ss) l) (x.ord.map fun l => evE (colAt c.T ss) l) (ofOf c.T ss x) (callF x.call) (ahOf x))) := by
  have HW := hide hw
  have HH := hide h
  have hbb := (h.old.block b (lt_of_heap hw.box)).trans hw.box
  obtain ⟨kb, -⟩ := blk hbb
  have zb := lt_of_heap hbb
  obtain ⟨kf, -, zf⟩ := h.facts
  have f1 : W.cell? ⟨c.fb, 1, none⟩ = some (.bool false) := by rw [kf, hiw]; rfl
  have k1 : W.cell? ⟨b, 1, none⟩ = some (.string x.call) := kb 1
  have HC := hide (callNamed_any x.call)
  have hsf := store_func
  have hsn := store_nilF
  clear hw h hbb kf hiw kb
  go_enter Tryz.func246, Tryz.ntmps246
  go_wp2_with fail
  refine ((unhide HC) _).mono ?_
  rintro e w1 ⟨hw1, gc, rfl, hcg⟩
  obtain rfl := hw1.symm
  have HCG := hide hcg
  clear hcg HC
  obtain ⟨E1, hE1⟩ : ∃ E1, E1 = (match x.of with
    | none => er
    | some l => orE er (exErr c.T ss l)) := ⟨_, rfl⟩
  have HE1 := hide hE1
  clear hE1
  go_upto_region 5 with (fail)
  obtain ⟨wb, hwb⟩ : ∃ wb, wb = W.heap.size := ⟨_, rfl⟩
  rw [← hwb]
  generalize hw2 : W.alloc (.cells #[.func (.func gc) #[] #[], .func (.func 283) #[] #[], .slice none 0 0, .slice none 0 0, .int .i64 9223372036854775807] 456 (0, 0)) = w2
  have HX2 : Hid (WBx c F W sv iv tv wd ss er wb (.func (.func gc) #[] #[]) (.func (.func 283) #[] #[]) (.slice none 0 0) (.slice none 0 0) 9223372036854775807 w2 F) := by
    rw [← hw2]
    exact ⟨(FA.refl (unhide HH)).alloc _, by omega, heap_last hwb, (unhide HH).grow.noneF (by omega)⟩
  have HBB : Hid (∀ (e1 : Option (Nat × Nat)) (o9 p9 d9 : Value) (a9 : Int) (w9 : World) (F9 : Fx), WBx c F W sv iv tv wd ss e1 wb (.func (.func gc) #[] #[]) o9 p9 d9 a9 w9 F9 → (∀ o, w9.cell? ⟨b, o, none⟩ = #[Value.int .i64 x.place, .string x.call, ov, pv, dv, rv][o]?) ∧ b < w9.heap.size ∧ b ≠ wb ∧ (∀ o, w9.cell? ⟨wb, o, none⟩ = #[Value.func (.func gc) #[] #[], o9, p9, d9, .int .i64 a9][o]?) ∧ (∀ o, w9.frozen? ⟨wb, o, none⟩ = false) ∧ wb < w9.heap.size) := fun e1 o9 p9 d9 a9 w9 F9 h => by
    obtain ⟨ev9, h9⟩ := h.fa.2.2
    have hb9 := (h9.old.block b (lt_of_heap (unhide HW).box)).trans (unhide HW).box
    exact ⟨(blk hb9).1, lt_of_heap hb9, by omega, (blk h.box).1, (blk h.box).2, lt_of_heap h.box⟩
  clear hw2 k1 f1 hwb
  obtain ⟨kb, zb2, hne, kw, kwf, zwb⟩ := (unhide HBB) _ _ _ _ _ _ _ (unhide HX2)
  have k2 : w2.cell? ⟨b, 2, none⟩ = some ov := kb 2
  go_cut [29] from 25 to 29 (fun bv W' => bv = .bool x.of.isSome ∧ W' = w2)
  case first =>
    have hof := (unhide HW).of'
    cases hx : x.of with
    | none =>
      rw [hx] at hof
      obtain rfl : ov = .nilIface := hof
      go_wp2_with fail
      go_meet
      case rel => exact ⟨by rw [hx]; rfl, rfl⟩
    | some l =>
      rw [hx] at hof
      obtain ⟨n, hxp⟩ := hof
      obtain ⟨ui, vi, rfl⟩ := ExP.isI _ _ _ hxp
      go_wp2_with fail
      go_meet
      case rel => exact ⟨by rw [hx]; rfl, rfl⟩
  case rest =>
    obtain ⟨rfl, hWr⟩ := hcut
    obtain rfl := hWr.symm
    obtain ⟨Bo, hBo⟩ : ∃ Bo, Bo = x.of.isSome := ⟨_, rfl⟩
    rw [← hBo]
    have HBO := hide hBo
    clear hBo
    go_upto_if 29 with (fail)
    go_cut [] from 30 to 36 (fun W' => ∃ F1 go cbo, WBx c F W sv iv tv wd ss E1 wb (.func (.func gc) #[] #[]) (.func (.func go) #[] cbo) (.slice none 0 0) (.slice none 0 0) 9223372036854775807 W' F1 ∧ (E1 = none → FnG c.w0 (F1.off c.X) wd go cbo (ofOf c.T ss x)))
    case first =>
      have hof := (unhide HW).of'
      have hE1 := unhide HE1
      have hbo := unhide HBO
      cases hx : x.of with
      | none =>
        rw [hx] at hbo hE1
        obtain rfl : Bo = false := hbo
        obtain rfl : E1 = er := hE1
        go_wp2_with fail
        go_meet
        case rel => exact ⟨F, _, _, unhide HX2, fun _ => by unfold ofOf; rw [hx]; exact fn_zero _ _ _⟩
      | some l =>
        rw [hx] at hof hbo hE1
        obtain rfl : Bo = true := hbo
        obtain ⟨n, hxp⟩ := hof
        obtain ⟨ui, vi, rfl⟩ := ExP.isI _ _ _ hxp
        obtain ⟨ev2, hf2⟩ := (unhide HX2).fa.2.2
        have HV := hide (value_spec c n _ l F w2 sv iv tv ev2 wd ss er E1 hxp hf2 hE1)
        have HXO : Hid (x.of = some l) := hx
        clear hE1 hxp hf2 hx
        go_wp2_with fail
        refine (unhide HV).mono ?_
        rintro e w3 ⟨go, cbo, rfl, F3, hfa, hfn⟩
        have HX3 := hide (WBx.next (unhide HH) (unhide HX2) hfa)
        have HFN := hide hfn
        obtain ⟨-, -, -, kw3, kwf3, zwb3⟩ := (unhide HBB) _ _ _ _ _ _ _ (unhide HX3)
        have kw31 : w3.cell? ⟨wb, 1, none⟩ = some (.func (.func 283) #[] #[]) := kw3 1
        clear hfa hfn kw3
        go_wp2_with fail
        go_meet
        case rel => exact ⟨F3, go, cbo, WBx.set (unhide HH) (unhide HX3) 1 _ rfl, fun he => by unfold ofOf; rw [unhide HXO]; exact (unhide HFN) he⟩
    case rest =>
      clear k2 kb kw kwf
      obtain ⟨F3, go, cbo, hx3, hfn3⟩ := hcut
      have HX3 := hide hx3
      have HFN3 := hide hfn3
      obtain ⟨E2, hE2⟩ : ∃ E2, E2 = errX c.T ss E1 x.part := ⟨_, rfl⟩
      have HE2 := hide hE2
      have HEN : Hid (en = errX c.T ss E2 x.ord) := by
        unfold Hid
        rw [hE2, unhide HE1]
        exact unhide hen
      obtain ⟨ev3, hf3⟩ := hx3.fa.2.2
      have HV3 := hide (fvalues_any c pv x.part (unhide HW).part.2 (unhide HW).part.1 F3 wc sv iv tv ev3 wd ss E1 E2 hf3 hE2)
      obtain ⟨kb, zb3, -, kw3, kwf3, zwb3⟩ := (unhide HBB) _ _ _ _ _ _ _ hx3
      have k3 : wc.cell? ⟨b, 3, none⟩ = some pv := kb 3
      have hpv : ∃ ad n cap, pv = .slice ad n cap := by
        obtain ⟨vs, ⟨ad, cap, e, -, -⟩, -, -⟩ := (unhide HW).part.1.row
        exact ⟨ad, _, cap, e⟩
      have hdv : ∃ ad n cap, dv = .slice ad n cap := by
        obtain ⟨vs, ⟨ad, cap, e, -, -⟩, -, -⟩ := (unhide HW).ord.1.row
        exact ⟨ad, _, cap, e⟩
      obtain ⟨adp, np, capp, rfl⟩ := hpv
      obtain ⟨add, nd, capd, rfl⟩ := hdv
      clear hx3 hfn3 hE2 hf3 kb kw3 kwf3
      go_wp2_with fail
      refine (unhide HV3).mono ?_
      rintro e w4 ⟨adP, capP, rfl, F4, hfa4, hfn4⟩
      have hx4 := WBx.next (unhide HH) (unhide HX3) hfa4
      have HX4 := hide hx4
      have HFN4 := hide hfn4
      have HLE4 := hide hfa4.1.le
      obtain ⟨kb, zb4, -, kw4, kwf4, zwb4⟩ := (unhide HBB) _ _ _ _ _ _ _ hx4
      have kw42 : w4.cell? ⟨wb, 2, none⟩ = some (.slice none 0 0) := kw4 2
      have k4 : w4.cell? ⟨b, 4, none⟩ = some (.slice add nd capd) := kb 4
      clear hx4 hfa4 hfn4 kb kw4 k3 HV3
      go_upto_region 8 with (fail)
      generalize hw5 : w4.setCell ⟨wb, 2, none⟩ (.slice adP x.part.length capP) = w5
      have hx5 : WBx c F W sv iv tv wd ss E2 wb (.func (.func gc) #[] #[]) (.func (.func go) #[] cbo) (.slice adP x.part.length capP) (.slice none 0 0) 9223372036854775807 w5 F4 := by rw [← hw5]; exact WBx.set (unhide HH) (unhide HX4) 2 _ rfl
      have HX5 := hide hx5
      obtain ⟨ev5, hf5⟩ := hx5.fa.2.2
      have HV5 := hide (fvalues_any c _ x.ord (unhide HW).ord.2 (unhide HW).ord.1 F4 w5 sv iv tv ev5 wd ss E2 en hf5 (unhide HEN))
      obtain ⟨kb, zb5, -, kw5, kwf5, zwb5⟩ := (unhide HBB) _ _ _ _ _ _ _ hx5
      have k5 : w5.cell? ⟨b, 4, none⟩ = some (.slice add nd capd) := kb 4
      clear hx5 hf5 kb kw5 hw5 k4 kw42 kwf4
      go_wp2_with fail
      refine (unhide HV5).mono ?_
      rintro e w6 ⟨adD, capD, rfl, F6, hfa6, hfn6⟩
      have hx6 := WBx.next (unhide HH) (unhide HX5) hfa6
      have HX6 := hide hx6
      have HFN6 := hide hfn6
      have HLE6 := hide hfa6.1.le
      obtain ⟨kb, zb6, -, kw6, kwf6, zwb6⟩ := (unhide HBB) _ _ _ _ _ _ _ hx6
      have kw63 : w6.cell? ⟨wb, 3, none⟩ = some (.slice none 0 0) := kw6 3
      clear hx6 hfa6 hfn6 kb kw6 k5 HV5 kwf5
      go_upto_region 9 with (fail)
      generalize hw7 : w6.setCell ⟨wb, 3, none⟩ (.slice adD x.ord.length capD) = w7
      have hx7 : WBx c F W sv iv tv wd ss en wb (.func (.func gc) #[] #[]) (.func (.func go) #[] cbo) (.slice adP x.part.length capP) (.slice adD x.ord.length capD) 9223372036854775807 w7 F6 := by rw [← hw7]; exact WBx.set (unhide HH) (unhide HX6) 3 _ rfl
      have HX7 := hide hx7
      obtain ⟨kb, zb7, -, kw7, kwf7, zwb7⟩ := (unhide HBB) _ _ _ _ _ _ _ hx7
      have k7 : w7.cell? ⟨b, 5, none⟩ = some rv := kb 5
      have kw74 : w7.cell? ⟨wb, 4, none⟩ = some (.int .i64 9223372036854775807) := kw7 4
      have HRV : Hid (∀ bn t, x.rows = some t → rv = .pointer (some ⟨bn, 0, none⟩) → w7.cell? ⟨bn, 1, none⟩ = some (.int .i64 t.value) ∧ bn < w7.heap.size) := fun bn t hx hr => by
        have h := (unhide HW).rows
        rw [hx] at h
        obtain ⟨bn', e1, e2, -⟩ := h
        rw [hr] at e1
        injection e1 with e1
        injection e1 with e1
        injection e1 with e1
        subst e1
        obtain ⟨ev9, h9⟩ := (unhide HX7).fa.2.2
        have h8 := (h9.old.block bn (lt_of_heap e2)).trans e2
        exact ⟨(blk h8).1 1, lt_of_heap h8⟩
      clear hx7 kb kw7 hw7 kw63 kwf6
      go_cut [55] from 51 to 55 (fun bv W' => bv = .bool x.rows.isSome ∧ W' = w7)
      case first =>
        have hrw := (unhide HW).rows
        cases hx : x.rows with
        | none =>
          rw [hx] at hrw
          obtain rfl : rv = .pointer none := hrw
          go_wp2_with fail
          go_meet
          case rel => exact ⟨by rw [hx]; rfl, rfl⟩
        | some t =>
          rw [hx] at hrw
          obtain ⟨bn, rfl, -, -⟩ := hrw
          go_wp2_with fail
          go_meet
          case rel => exact ⟨by rw [hx]; rfl, rfl⟩
      case rest =>
        obtain ⟨rfl, hWr⟩ := hcut
        obtain rfl := hWr.symm
        obtain ⟨Br, hBr⟩ : ∃ Br, Br = x.rows.isSome := ⟨_, rfl⟩
        rw [← hBr]
        have HBR := hide hBr
        clear hBr
        go_upto_if 55 with (fail)
        go_cut [] from 56 to 63 (fun W' => WBx c F W sv iv tv wd ss en wb (.func (.func gc) #[] #[]) (.func (.func go) #[] cbo) (.slice adP x.part.length capP) (.slice adD x.ord.length capD) (ahOf x) W' F6)
        case first =>
          have hrw := (unhide HW).rows
          have hbr := unhide HBR
          cases hx : x.rows with
          | none =>
            rw [hx] at hbr
            obtain rfl : Br = false := hbr
            have HA : Hid (ahOf x = 9223372036854775807) := by unfold Hid ahOf; rw [hx]
            clear hx
            go_wp2_with fail
            go_meet
            case rel => rw [unhide HA]; exact unhide HX7
          | some t =>
            rw [hx] at hrw hbr
            obtain rfl : Br = true := hbr
            obtain ⟨bn, rfl, -, -⟩ := hrw
            obtain ⟨kn, zn⟩ := (unhide HRV) bn t hx rfl
            have HA : Hid (ahOf x = t.value) := by unfold Hid ahOf; rw [hx]
            clear hx
            go_wp2_with fail
            go_meet
            case rel => rw [unhide HA]; exact WBx.set (unhide HH) (unhide HX7) 4 _ rfl
        case rest =>
          have hx8 := hcut
          have HX8 := hide hx8
          clear hx8 hcut k7 kw74 kwf7
          go_wp2
          go_ret
          have hx8 := unhide HX8
          obtain ⟨a1, a2, a3⟩ := FA.fix2 hx8.fa hx8.lo hx8.box hx8.off ((unhide HH).offX hx8.lo) ⟨_, _, unhide HH⟩
          refine ⟨wb, rfl, _, a1, fun he => ?_⟩
          have e2 : E2 = none := errX_none x.ord (by rw [← unhide HEN]; exact he)
          have e1 : E1 = none := errX_none x.part ((unhide HE2).symm.trans e2)
          have l4 := (Fx.off_mono (unhide HLE4) c.X)
          have l6 := (Fx.off_mono (unhide HLE6) c.X)
          refine numbers_any c.w0 _ wd wb (ahOf x) _ _ _ _ ⟨⟨gc, go, cbo, _, _, ⟨a2, ⟨by rw [List.length_map]; exact (unhide HW).part.2, by rw [List.length_map]; exact (unhide HW).ord.2⟩, fun W2 hW2 => ?_, fun W2 hW2 => ?_⟩, unhide HCG, ((unhide HFN3) e1).mono (l4.trans (l6.trans a3))⟩, ?_⟩
          · exact ((unhide HFN4) e2 W2 (hW2.mono (l6.trans a3))).mono (l6.trans a3)
          · exact ((unhide HFN6) he W2 (hW2.mono a3)).mono a3
          · have h := (unhide HW).rows
            unfold ahOf
            cases hx : x.rows with
            | none => exact ⟨by decide, by decide⟩
            | some t =>
              rw [hx] at h
              obtain ⟨bn, -, -, h1, h2⟩ := h
              exact ⟨h1, h2⟩
end Go.Proofs.YtfkeddkfegaeiaaGreatDoor
