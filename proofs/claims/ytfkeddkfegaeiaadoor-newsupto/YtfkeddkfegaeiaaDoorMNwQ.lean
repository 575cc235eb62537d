/-
  Part 21.
-/
import Derived.Test.YtfkeddkfegaeiaaDoorMNwP
namespace Go.Proofs.YtfkeddkfegaeiaaDoor
open Go.RowKit

/-- four lists and a box, all apart. -/
structure Apt (p : Nat) (tv cv rv lv : Value) : Prop where
  tc : Dis tv cv
  tr : Dis tv rv
  tl : Dis tv lv
  cr : Dis cv rv
  cl : Dis cv lv
  rl : Dis rv lv
  pt : tv.ownBlock ≠ some p
  pc : cv.ownBlock ≠ some p
  pr : rv.ownBlock ≠ some p
  pl : lv.ownBlock ≠ some p
theorem Grow.apt {lo p : Nat} {F : Fx} {xs : List Value} {tv cv rv lv : Value} {W : World} (h : Grow lo F p (xs ++ [tv, cv, rv, lv]) W) : Apt p tv cv rv lv := by
  have hd := (List.pairwise_append.1 h.dis).2.1
  simp only [List.pairwise_cons, List.mem_cons, List.mem_nil_iff, or_false, forall_eq_or_imp, forall_eq] at hd
  obtain ⟨⟨h1, h2, h3⟩, ⟨h4, h5⟩, h6, _⟩ := hd
  refine ⟨h1, h2, h3, h4, h5, h6, fun e => ?_, fun e => ?_, fun e => ?_, fun e => ?_⟩
  · exact (h.off tv (by simp) p e).2.1 rfl
  · exact (h.off cv (by simp) p e).2.1 rfl
  · exact (h.off rv (by simp) p e).2.1 rfl
  · exact (h.off lv (by simp) p e).2.1 rfl
/-- the box, and what its four lists hold. -/
structure Lnt (lo p : Nat) (W : World) (tv cv rv lv : Value) (nt nc nr nl : Nat) (ts cs rs ls : List Value) : Prop where
  box : W.heap[p]? = some (.cells #[tv, cv, rv, lv] 44 (0, 0))
  tab : W.ownsRow lo 56 3 tv nt ts
  col : W.ownsRow lo 50 1 cv nc cs
  row : W.ownsRow lo 42 1 rv nr rs
  lst : W.ownsRow lo 54 1 lv nl ls
section
variable {lo p nt nc nr nl : Nat} {W W' : World} {tv cv rv lv : Value} {ts cs rs ls : List Value}
theorem Lnt.below (h : Lnt lo p W tv cv rv lv nt nc nr nl ts cs rs ls) (hb : Below W.heap.size W W') : Lnt lo p W' tv cv rv lv nt nc nr nl ts cs rs ls :=
  ⟨by rw [hb.block p (lt_of_heap h.box)]; exact h.box, owns_below h.tab hb, owns_below h.col hb, owns_below h.row hb, owns_below h.lst hb⟩
theorem Lnt.drew (h : Lnt lo p W tv cv rv lv nt nc nr nl ts cs rs ls) : Lnt lo p W.drew tv cv rv lv nt nc nr nl ts cs rs ls := ⟨h.box, h.tab, h.col, h.row, h.lst⟩
theorem Lnt.alloc (h : Lnt lo p W tv cv rv lv nt nc nr nl ts cs rs ls) (o : Obj) : Lnt lo p (W.alloc o) tv cv rv lv nt nc nr nl ts cs rs ls :=
  h.below ((Below.refl _ _).alloc (Nat.le_refl _) _)
theorem Lnt.grown {x : Value} (h : Lnt lo p W tv cv rv lv nt nc nr nl ts cs rs ls) (hg : W.grownBy W' x.ownBlock) (hp : x.ownBlock ≠ some p) (h1 : Dis x tv) (h2 : Dis x cv) (h3 : Dis x rv) (h4 : Dis x lv) : Lnt lo p W' tv cv rv lv nt nc nr nl ts cs rs ls :=
  ⟨by rw [hg.block p (lt_of_heap h.box) (fun e => hp e.symm)]; exact h.box, owns_other h.tab h1 hg, owns_other h.col h2 hg, owns_other h.row h3 hg, owns_other h.lst h4 hg⟩
theorem Lnt.setTab {v' : Value} {n' : Nat} {xs' : List Value} (h : Lnt lo p W tv cv rv lv nt nc nr nl ts cs rs ls) (ha : Apt p tv cv rv lv) (hg : W.grownBy W' tv.ownBlock) (ho : W'.ownsRow lo 56 3 v' n' xs') (hv : v'.ownBlock ≠ some p) :
    Lnt lo p (W'.setCell ⟨p, 0, none⟩ v') v' cv rv lv n' nc nr nl xs' cs rs ls := by
  have hx := (hg.block p (lt_of_heap h.box) (fun e => ha.pt e.symm)).trans h.box
  exact ⟨by rw [heap_set hx]; rfl, owns_set ho hv, owns_set (owns_other h.col ha.tc hg) ha.pc, owns_set (owns_other h.row ha.tr hg) ha.pr, owns_set (owns_other h.lst ha.tl hg) ha.pl⟩
theorem Lnt.setCol {v' : Value} {n' : Nat} {xs' : List Value} (h : Lnt lo p W tv cv rv lv nt nc nr nl ts cs rs ls) (ha : Apt p tv cv rv lv) (hg : W.grownBy W' cv.ownBlock) (ho : W'.ownsRow lo 50 1 v' n' xs') (hv : v'.ownBlock ≠ some p) :
    Lnt lo p (W'.setCell ⟨p, 1, none⟩ v') tv v' rv lv nt n' nr nl ts xs' rs ls := by
  have hx := (hg.block p (lt_of_heap h.box) (fun e => ha.pc e.symm)).trans h.box
  exact ⟨by rw [heap_set hx]; rfl, owns_set (owns_other h.tab ha.tc.symm hg) ha.pt, owns_set ho hv, owns_set (owns_other h.row ha.cr hg) ha.pr, owns_set (owns_other h.lst ha.cl hg) ha.pl⟩
theorem Lnt.setRow {v' : Value} {n' : Nat} {xs' : List Value} (h : Lnt lo p W tv cv rv lv nt nc nr nl ts cs rs ls) (ha : Apt p tv cv rv lv) (hg : W.grownBy W' rv.ownBlock) (ho : W'.ownsRow lo 42 1 v' n' xs') (hv : v'.ownBlock ≠ some p) :
    Lnt lo p (W'.setCell ⟨p, 2, none⟩ v') tv cv v' lv nt nc n' nl ts cs xs' ls := by
  have hx := (hg.block p (lt_of_heap h.box) (fun e => ha.pr e.symm)).trans h.box
  exact ⟨by rw [heap_set hx]; rfl, owns_set (owns_other h.tab ha.tr.symm hg) ha.pt, owns_set (owns_other h.col ha.cr.symm hg) ha.pc, owns_set ho hv, owns_set (owns_other h.lst ha.rl hg) ha.pl⟩
theorem Lnt.setLst {v' : Value} {n' : Nat} {xs' : List Value} (h : Lnt lo p W tv cv rv lv nt nc nr nl ts cs rs ls) (ha : Apt p tv cv rv lv) (hg : W.grownBy W' lv.ownBlock) (ho : W'.ownsRow lo 54 1 v' n' xs') (hv : v'.ownBlock ≠ some p) :
    Lnt lo p (W'.setCell ⟨p, 3, none⟩ v') tv cv rv v' nt nc nr n' ts cs rs xs' := by
  have hx := (hg.block p (lt_of_heap h.box) (fun e => ha.pl e.symm)).trans h.box
  exact ⟨by rw [heap_set hx]; rfl, owns_set (owns_other h.tab ha.tl.symm hg) ha.pt, owns_set (owns_other h.col ha.cl.symm hg) ha.pc, owns_set (owns_other h.row ha.rl.symm hg) ha.pr, owns_set ho hv⟩
end
/-- tables behind those that are lent. -/
def pads : Nat → List Value
  | 0 => []
  | n + 1 => pads n ++ [.string beyondB, .slice none 0 0, .slice none 0 0]
/-- tables that a machine bears. -/
structure Fit (l : List Tb) : Prop where
  len : l.length ≤ 1048576
  nrows : nrows l ≤ 1048576
  cols : ∀ t ∈ l, t.cols.length ≤ 1048576
  rows : ∀ t ∈ l, t.rows.length ≤ 1048576
  row : ∀ t ∈ l, ∀ r ∈ t.rows, r.length ≤ 1048576
theorem one3l (a : ByteArray) (ad : Option Addr) (n c : Nat) (ad' : Option Addr) (n' c' : Nat) : ∀ u ∈ [Value.string a, Value.slice ad n c, Value.slice ad' n' c'], u.oneCell' = true := by
  intro u hu
  simp only [List.mem_cons, List.mem_nil_iff, or_false] at hu
  rcases hu with rfl | rfl | rfl <;> rfl
theorem infoTexts : (Tryd.prog.info? 50).map (fun i => (i.zero, i.size, i.bytes)) = some (some (.slice none 0 0), 1, 24) := by kernel_rfl
theorem infoRows : (Tryd.prog.info? 42).map (fun i => (i.zero, i.size, i.bytes)) = some (some (.slice none 0 0), 1, 24) := by kernel_rfl

set_option maxRecDepth 100000 in
set_option maxHeartbeats 4000000 in
theorem lend_any (qv : Value) (l : List Tb) (w : World) (hl : TabsAt w qv l) (hfit : Fit l) :
    Calls Tryd.prog 7 #[qv] w fun e w' => ∃ p F tv cv rv lv ts cs rs ls, e = .returned (.pointer (some ⟨p, 0, none⟩)) ∧ w.heap.size ≤ p ∧ LTabs F l ts cs rs ls ∧ Lnt w.heap.size p w' tv cv rv lv (l.length + 8) l.length l.length (nrows l) (ts ++ pads 8) cs rs ls ∧ Grow w.heap.size F p [tv, cv, rv, lv] w' ∧ Below w.heap.size w w' := by
  have HFT := hide hfit
  clear hfit
  have HL := hide hl
  obtain ⟨adl, capl, rfl, ml, mcap, cl⟩ := hl
  unfold maxLen at ml
  have HCL := hide cl
  clear cl
  obtain ⟨it, hi, hinf⟩ := Option.map_eq_some_iff.1 infoTab
  simp only [Prod.mk.injEq] at hinf
  obtain ⟨hz0, hz1, hz2⟩ := hinf
  have HIt := hide hi
  have HZ0t := hide hz0
  have HZ1t := hide hz1
  have HZ2t := hide hz2
  clear hi hz0 hz1 hz2
  obtain ⟨ic, hi, hinf⟩ := Option.map_eq_some_iff.1 infoTexts
  simp only [Prod.mk.injEq] at hinf
  obtain ⟨hz0, hz1, hz2⟩ := hinf
  have HIc := hide hi
  have HZ0c := hide hz0
  have HZ1c := hide hz1
  have HZ2c := hide hz2
  clear hi hz0 hz1 hz2
  obtain ⟨ir, hi, hinf⟩ := Option.map_eq_some_iff.1 infoRows
  simp only [Prod.mk.injEq] at hinf
  obtain ⟨hz0, hz1, hz2⟩ := hinf
  have HIr := hide hi
  have HZ0r := hide hz0
  have HZ1r := hide hz1
  have HZ2r := hide hz2
  clear hi hz0 hz1 hz2
  obtain ⟨il, hi, hinf⟩ := Option.map_eq_some_iff.1 infoRow
  simp only [Prod.mk.injEq] at hinf
  obtain ⟨hz0, hz1, hz2⟩ := hinf
  have HIl := hide hi
  have HZ0l := hide hz0
  have HZ1l := hide hz1
  have HZ2l := hide hz2
  clear hi hz0 hz1 hz2
  go_enter Tryd.func7, Tryd.ntmps7
  go_wp2_with fail
  go_loopg [4] l.length (fun f i W => ∃ pre suf F tv cv rv lv ts cs rs ls, l = pre ++ suf ∧ f = suf.length ∧ i = .int .i64 (pre.length : Nat) ∧ LTabs F pre ts cs rs ls ∧ Lnt w.heap.size w.heap.size W tv cv rv lv pre.length pre.length pre.length (nrows pre) ts cs rs ls ∧ Grow w.heap.size F w.heap.size [tv, cv, rv, lv] W ∧ Below w.heap.size w W)
  case atStart =>
    refine ⟨[], l, fun _ => none, .slice none 0 0, .slice none 0 0, .slice none 0 0, .slice none 0 0, [], [], [], [], rfl, rfl, rfl, .nil, ⟨heap_last rfl, World.ownsRow_nil _ _ _ _, World.ownsRow_nil _ _ _ _, World.ownsRow_nil _ _ _ _, World.ownsRow_nil _ _ _ _⟩, ?_, (Below.refl _ _).alloc (Nat.le_refl _) _⟩
    refine Grow.add (Grow.add (Grow.add (Grow.add ⟨fun b o e => (by simp at e), rfl, by simp, fun v hv => (by simp at hv), List.Pairwise.nil⟩ 0 0) 0 0) 0 0) 0 0
  case round =>
    obtain ⟨pre, suf, F, tv, cv, rv, lv, ts, cs, rs, ls, h1, rfl, rfl, hlt, hln, hgr, hbw⟩ := hrel
    have l1 : pre.length + suf.length = l.length := by rw [h1, List.length_append]
    have HZ := hide h1
    have HLT := hide hlt
    have HLN := hide hln
    have HGR := hide hgr
    have HB := hide hbw
    clear h1 hlt hln hgr hbw
    have zp := (unhide HGR).ltp
    have hfl := (unhide HFT).len
    cases suf with
    | nil =>
      have hlt : decide (pre.length < l.length) = false := by simp at l1 ⊢; omega
      go_wp2_with fail
      clear hlt
      obtain rfl : l = pre := by rw [unhide HZ, List.append_nil]
      go_loopg [11] 8 (fun f k W => ∃ tv', f ≤ 8 ∧ k = .int .i64 ((8 - f : Nat) : Int) ∧ Lnt w.heap.size w.heap.size W tv' cv rv lv (l.length + (8 - f)) l.length l.length (nrows l) (ts ++ pads (8 - f)) cs rs ls ∧ Grow w.heap.size F w.heap.size [tv', cv, rv, lv] W ∧ Below w.heap.size w W)
      case atStart =>
        refine ⟨tv, Nat.le_refl _, rfl, ?_, unhide HGR, unhide HB⟩
        rw [show ts ++ pads (8 - 8) = ts from List.append_nil _]
        exact unhide HLN
      case round =>
        clear HLN HGR HB zp
        obtain ⟨tv', hf8, rfl, hln, hgr, hbw⟩ := hrel
        have HLN := hide hln
        have HGR := hide hgr
        have HB := hide hbw
        clear hln hgr hbw
        have zp := (unhide HGR).ltp
        cases gk with
        | succ f =>
          obtain ⟨at', pt', rfl⟩ := owns_form (unhide HLN).tab
          have hq1 : 8 - (f + 1) < 8 := by omega
          have hq2 : 8 - (f + 1) + 1 = 8 - f := by omega
          generalize 8 - (f + 1) = m at *
          have hd : decide (m < 8) = true := by simpa using hq1
          have HQ2 := hide hq2
          clear hq2
          obtain ⟨kb, fb⟩ := blk (unhide HLN).box
          go_wp2_with (at_builtin; refine wpList_append_lies _ rfl _ _ 39 rfl w.heap.size 56 it (.agg #[.string ⟨#[]⟩, .slice none 0 0, .slice none 0 0]) 3 64 Tryd.underlying39 (unhide HIt) (unhide HZ0t) (unhide HZ1t) (unhide HZ2t) rfl (by decide) _ _ _ rfl ((unhide HLN).tab.alloc _) ⟨wr.heap.size, 0, none⟩ 1 1 [.string beyondB, .slice none 0 0, .slice none 0 0] rfl rfl ?c1 ?c2 (by decide) ?c3 ?c4 ?c5 _ rfl ?_)
          case c1 => exact World.news_of_block (cs := #[.string beyondB, .slice none 0 0, .slice none 0 0]) (heap_last rfl)
          case c2 => exact one3l _ _ _ _ _ _ _
          case c3 => unfold maxLen; omega
          case c4 => omega
          case c5 => simp; omega
          intro gt9 ct9 w9 ho hg hat hlt9
          have HA := hide (Grow.apt (xs := []) ((unhide HGR).alloc (.cells #[.string beyondB, .slice none 0 0, .slice none 0 0] 56)))
          have HG9 := hide (Grow.app (vs1 := []) (vs2 := [cv, rv, lv]) (v' := .slice (some ⟨gt9, 0, none⟩) (l.length + m + 1) ct9) ((unhide HGR).alloc _) (by simp; omega) hg rfl (hat.imp id (fun e => by rw [e]; simp)) hlt9)
          have hgp9 : gt9 ≠ w.heap.size := ((unhide HG9).off (.slice (some ⟨gt9, 0, none⟩) (l.length + m + 1) ct9) (by simp) gt9 rfl).2.1
          have HL9 := hide (((unhide HLN).alloc _).setTab (unhide HA) hg ho (by simp [Value.ownBlock]; exact hgp9))
          have HB9 := hide (((unhide HB).alloc (by omega) _).grown hg (by simp; omega) (fun k e' => ((unhide HGR).off (.slice at' (l.length + m) pt') (by simp) k e').2.2.1))
          have HX9 := hide ((hg.block w.heap.size (by simp; omega) (fun e' => (unhide HA).pt e'.symm)).trans (heap_prev (unhide HLN).box))
          obtain ⟨kb9, fb9⟩ := blk (unhide HX9)
          have zb9 := lt_of_heap (unhide HX9)
          clear ho hg hat kb fb
          go_wp2
          go_roundg f
          case measure => simp
          case rel =>
            refine ⟨.slice (some ⟨gt9, 0, none⟩) (l.length + m + 1) ct9, by omega, ?_, ?_, (unhide HG9).box _ _, (unhide HB9).setCell (Nat.le_refl _) _⟩
            · rw [← unhide HQ2]; go_num
            · rw [← unhide HQ2, pads]
              exact unhide HL9
        | zero =>
          have hd : decide (8 - 0 < 8) = false := by decide
          go_wp2
          go_ret
          exact ⟨w.heap.size, F, tv', cv, rv, lv, ts, cs, rs, ls, rfl, Nat.le_refl _, unhide HLT, unhide HLN, unhide HGR, unhide HB⟩
    | cons t suf =>
      rw [List.length_cons] at l1
      have hlt : decide (pre.length < l.length) = true := by simp; omega
      obtain ⟨b1, o1, rfl, z1, c1⟩ := (unhide HCL) (by omega)
      obtain ⟨qc, qr, htb, k1, k2, k3⟩ := c1 pre.length t (by rw [unhide HZ]; simp)
      have HZ2 : Hid (l = (pre ++ [t]) ++ suf) := by unfold Hid; rw [unhide HZ]; simp
      have hm : t ∈ l := by rw [unhide HZ]; simp
      have hfc := (unhide HFT).cols t hm
      have hfr := (unhide HFT).rows t hm
      have HFW := hide ((unhide HFT).row t hm)
      obtain ⟨cv', rv', e', htc, hcap, htr⟩ := htb
      injection e' with _ e'
      injection e' with e1 e'
      injection e' with e2 _
      subst e1 e2
      have HTC := hide htc
      have HTR := hide htr
      obtain ⟨adc, capc, rfl, mc, q0⟩ := htc
      obtain ⟨vs, ⟨adr, capr, rfl, mr, q1⟩, lr, q2⟩ := htr
      clear q0 q1 q2 mc mr hcap hm c1
      rw [lr] at HTR k3
      rw [List.length_map] at HTC k2
      clear lr vs
      -- the list of tables as it lies, in any world of this call
      have HK : Hid (∀ W, Below w.heap.size w W → W.cell? ⟨b1, o1 + pre.length * 3, none⟩ = some (.string t.name) ∧ W.cell? ⟨b1, o1 + pre.length * 3 + 1, none⟩ = some (.slice adc t.cols.length capc) ∧ W.cell? ⟨b1, o1 + pre.length * 3 + 2, none⟩ = some (.slice adr t.rows.length capr)) := fun W hW =>
        ⟨(hW.cell (p := ⟨b1, o1 + pre.length * 3, none⟩) z1).trans k1, (hW.cell (p := ⟨b1, o1 + pre.length * 3 + 1, none⟩) z1).trans k2, (hW.cell (p := ⟨b1, o1 + pre.length * 3 + 2, none⟩) z1).trans k3⟩
      clear k1 k2 k3
      obtain ⟨_, k2, _⟩ := (unhide HK) _ (unhide HB)
      go_wp2_with fail
      refine (lentTexts_any _ t.cols _ (by exact (unhide HTC).keep (unhide HB)) (by omega)).mono ?_
      rintro e w1 ⟨gc, rfl, hgc, hh1, hb1⟩
      have HG1 := hide (((unhide HGR).below hb1).fix (by have := (unhide HB).size; omega) hh1 (by omega) (fun v hv e => by have := ((unhide HGR).off v hv gc e).2.2.2; omega))
      have HF1 := hide (Fx.le_set (.cells (textsV (t.cols ++ List.replicate 8 ⟨#[98, 101, 121, 111, 110, 100]⟩)).toArray 9 (0, 0)) ((unhide HGR).noneF hgc))
      have HC1 : Hid (LTexts (F.set gc (.cells (textsV (t.cols ++ List.replicate 8 ⟨#[98, 101, 121, 111, 110, 100]⟩)).toArray 9 (0, 0))) gc t.cols) := Fx.set_same _ _ _
      generalize F.set gc (.cells (textsV (t.cols ++ List.replicate 8 ⟨#[98, 101, 121, 111, 110, 100]⟩)).toArray 9 (0, 0)) = F1 at *
      have HL1 := hide ((unhide HLN).below hb1)
      have HB1 := hide ((unhide HB).trans (hb1.mono (unhide HB).size))
      obtain ⟨kb, fb⟩ := blk (unhide HL1).box
      have zb := lt_of_heap (unhide HL1).box
      have szb := (unhide HB).size
      clear hh1 hb1 k2
      obtain ⟨ac, pc, rfl⟩ := owns_form (unhide HL1).col
      go_wp2_with (at_builtin; refine wpList_append_lies _ rfl _ _ 40 rfl w.heap.size 50 ic (.slice none 0 0) 1 24 Tryd.underlying40 (unhide HIc) (unhide HZ0c) (unhide HZ1c) (unhide HZ2c) rfl (by decide) _ _ _ rfl ((unhide HL1).col.alloc _) ⟨w1.heap.size, 0, none⟩ 1 1 [.slice (some ⟨gc, 0, none⟩) (t.cols.length + 8) (t.cols.length + 8)] rfl rfl ?c1 ?c2 (by decide) ?c3 ?c4 ?c5 _ rfl ?_)
      case c1 => exact news1 (heap_last rfl)
      case c2 => exact one1l _ _ _
      case c3 => unfold maxLen; omega
      case c4 => omega
      case c5 => simp; omega
      intro gt ct w2 ho hg hat hlt2
      have HA := hide (Grow.apt (xs := []) ((unhide HG1).alloc (.cells #[.slice (some ⟨gc, 0, none⟩) (t.cols.length + 8) (t.cols.length + 8)] 50)))
      have HG2 := hide (Grow.app (vs1 := [tv]) (vs2 := [rv, lv]) (v' := .slice (some ⟨gt, 0, none⟩) (pre.length + 1) ct) ((unhide HG1).alloc _) (by simp; omega) hg rfl (hat.imp id (fun e => by rw [e]; simp)) hlt2)
      have hgp : gt ≠ w.heap.size := ((unhide HG2).off (.slice (some ⟨gt, 0, none⟩) (pre.length + 1) ct) (by simp) gt rfl).2.1
      have HLN2 := hide (((unhide HL1).alloc _).setCol (unhide HA) hg ho (by simp [Value.ownBlock]; exact hgp))
      have HB2 := hide (((unhide HB1).alloc (by omega) _).grown hg (by simp; omega) (fun k e' => ((unhide HG1).off (.slice ac pre.length pc) (by simp) k e').2.2.1))
      have HX2 := hide ((hg.block w.heap.size (by simp; omega) (fun e' => (unhide HA).pc e'.symm)).trans (heap_prev (unhide HL1).box))
      obtain ⟨kb2, fb2⟩ := blk (unhide HX2)
      have zb2 := lt_of_heap (unhide HX2)
      clear kb fb ho hg hat
      have HG3 := hide ((unhide HG2).box 1 (.slice (some ⟨gt, 0, none⟩) (pre.length + 1) ct))
      have HB3 := hide ((unhide HB2).setCell (p := ⟨w.heap.size, 1, none⟩) (Nat.le_refl _) (.slice (some ⟨gt, 0, none⟩) (pre.length + 1) ct))
      go_wp2_with fail
      clear kb2 fb2 zb2 zb HX2 HG2 HB2 HL1 HG1 HB1 HA
      generalize w2.setCell ⟨w.heap.size, 1, none⟩ (.slice (some ⟨gt, 0, none⟩) (pre.length + 1) ct) = w3 at *
      generalize hcv : Value.slice (some ⟨gt, 0, none⟩) (pre.length + 1) ct = cvn at *
      clear hlt
      go_loopg [6, 7] t.rows.length (fun f x k W => ∃ p2 s2 F2 lv2 es ls2, t.rows = p2 ++ s2 ∧ f = s2.length ∧ k = .int .i64 (p2.length : Nat) ∧ F1.le F2 ∧ LRows F2 p2 es ls2 ∧ W.ownsRow w.heap.size 54 1 x p2.length es ∧ Lnt w.heap.size w.heap.size W tv cvn rv lv2 pre.length (pre.length + 1) pre.length (nrows pre + p2.length) ts (cs ++ [.slice (some ⟨gc, 0, none⟩) (t.cols.length + 8) (t.cols.length + 8)]) rs (ls ++ ls2) ∧ Grow w.heap.size F2 w.heap.size [x, tv, cvn, rv, lv2] W ∧ Below w.heap.size w W)
      case atStart =>
        refine ⟨[], t.rows, F1, lv, [], [], rfl, rfl, rfl, Fx.le.refl _, .nil, World.ownsRow_nil _ _ _ _, ?_, (unhide HG3).add 0 0, unhide HB3⟩
        rw [List.append_nil]
        exact unhide HLN2
      case round =>
        clear HG3 HB3 HLN2
        obtain ⟨p2, s2, F2, lv2, es, ls2, h1, rfl, rfl, hF2, hlr, hox, hln, hgr, hbw⟩ := hrel
        have l2 : p2.length + s2.length = t.rows.length := by rw [h1, List.length_append]
        have HZR := hide h1
        have HF2 := hide hF2
        have HLR := hide hlr
        have HOX := hide hox
        have HLX := hide hln
        have HGX := hide hgr
        have HBX := hide hbw
        clear h1 hF2 hlr hox hln hgr hbw
        obtain ⟨kk1, kk2, kk3⟩ := (unhide HK) _ (unhide HBX)
        cases s2 with
        | cons r s2 =>
          rw [List.length_cons] at l2
          have hlt : decide (p2.length < t.rows.length) = true := by simp; omega
          obtain ⟨vs, ⟨ad9, cap9, e9, q9, ccc⟩, lr, rr⟩ := unhide HTR
          injection e9 with e9 e11 e10
          subst e9 e10
          rw [lr] at ccc
          obtain ⟨b2, o2, rfl, z2, cc2⟩ := ccc (by omega)
          obtain ⟨u, hu⟩ : ∃ u, vs[p2.length]? = some u := ⟨vs[p2.length]'(by omega), List.getElem?_eq_getElem _⟩
          have hru := rr p2.length r u (by rw [unhide HZR]; simp) hu
          have HRU := hide hru
          obtain ⟨adu, capu, rfl, q3, q4⟩ := hru
          rw [List.length_map] at hu HRU
          have k1 : w.cell? ⟨b2, o2 + p2.length, none⟩ = some (.slice adu r.length capu) := by rw [cc2 _ (by omega), hu]
          have HKR : Hid (∀ W, Below w.heap.size w W → W.cell? ⟨b2, o2 + p2.length, none⟩ = some (.slice adu r.length capu)) := fun W hW => (hW.cell (p := ⟨b2, o2 + p2.length, none⟩) z2).trans k1
          clear q9 e11 q3 q4 hu rr ccc cc2 lr k1
          have kr := (unhide HKR) _ (unhide HBX)
          have HZR2 : Hid (t.rows = (p2 ++ [r]) ++ s2) := by unfold Hid; rw [unhide HZR]; simp
          have hrl := (unhide HFW) r (by rw [unhide HZR]; simp)
          have hnr : nrows pre + t.rows.length ≤ 1048576 := by
            have := (unhide HFT).nrows
            rw [unhide HZ, nrows_append] at this
            simp only [nrows] at this
            omega
          clear vs
          go_wp2_with fail
          refine (lentInts_any _ r _ (by exact (unhide HRU).keep (unhide HBX)) (by omega)).mono ?_
          rintro e w4 ⟨gr, rfl, hgr, hh4, hb4⟩
          have HG4 := hide (((unhide HGX).below hb4).fix (by have := (unhide HBX).size; omega) hh4 (by have := (unhide HGX).ltp; omega) (fun v hv e => by have := ((unhide HGX).off v hv gr e).2.2.2; omega))
          have HF3 := hide (Fx.le_set (.cells (intsV (r ++ List.replicate 8 (-77))).toArray 3 (0, 0)) ((unhide HGX).noneF hgr))
          have HI3 : Hid (LInts (F2.set gr (.cells (intsV (r ++ List.replicate 8 (-77))).toArray 3 (0, 0))) gr r) := Fx.set_same _ _ _
          generalize F2.set gr (.cells (intsV (r ++ List.replicate 8 (-77))).toArray 3 (0, 0)) = F3 at *
          have HL4 := hide ((unhide HLX).below hb4)
          have HO4 := hide (owns_below (unhide HOX) hb4)
          have HB4 := hide ((unhide HBX).trans (hb4.mono (unhide HBX).size))
          clear hh4 hb4 kr kk1 kk2 kk3 HLX HOX
          obtain ⟨al, pl, rfl⟩ := owns_form (unhide HL4).lst
          obtain ⟨ax, px, rfl⟩ := owns_form (unhide HO4)
          obtain ⟨kb, fb⟩ := blk (unhide HL4).box
          have zb := lt_of_heap (unhide HL4).box
          go_wp2_with (at_builtin; refine wpList_append_lies _ rfl _ _ 42 rfl w.heap.size 54 il (.slice none 0 0) 1 24 Tryd.underlying42 (unhide HIl) (unhide HZ0l) (unhide HZ1l) (unhide HZ2l) rfl (by decide) _ _ _ rfl ((unhide HL4).lst.alloc _) ⟨w4.heap.size, 0, none⟩ 1 1 [.slice (some ⟨gr, 0, none⟩) (r.length + 8) (r.length + 8)] rfl rfl ?c1 ?c2 (by decide) ?c3 ?c4 ?c5 _ rfl ?_)
          case c1 => exact news1 (heap_last rfl)
          case c2 => exact one1l _ _ _
          case c3 => unfold maxLen; omega
          case c4 => omega
          case c5 => simp; omega
          intro gt2 ct2 w5 ho hg hat hlt5
          have HA5 := hide (Grow.apt (xs := [.slice ax p2.length px]) ((unhide HG4).alloc (.cells #[.slice (some ⟨gr, 0, none⟩) (r.length + 8) (r.length + 8)] 54)))
          have HG5 := hide (Grow.app (vs1 := [.slice ax p2.length px, tv, cvn, rv]) (vs2 := []) (v' := .slice (some ⟨gt2, 0, none⟩) (nrows pre + p2.length + 1) ct2) ((unhide HG4).alloc _) (by simp; omega) hg rfl (hat.imp id (fun e => by rw [e]; simp)) hlt5)
          have hgp : gt2 ≠ w.heap.size := ((unhide HG5).off (.slice (some ⟨gt2, 0, none⟩) (nrows pre + p2.length + 1) ct2) (by simp) gt2 rfl).2.1
          have hxp : (Value.slice ax p2.length px).ownBlock ≠ some w.heap.size := fun e => ((unhide HG5).off (.slice ax p2.length px) (by simp) _ e).2.1 rfl
          have HD5 := hide ((List.pairwise_cons.1 (unhide HG4).dis).1)
          have HL5 := hide (((unhide HL4).alloc _).setLst (unhide HA5) hg ho (by simp [Value.ownBlock]; exact hgp))
          have HO5 := hide (owns_set (off := 3) (x := .slice (some ⟨gt2, 0, none⟩) (nrows pre + p2.length + 1) ct2) (owns_other ((unhide HO4).alloc _) ((unhide HD5) (.slice al (nrows pre + p2.length) pl) (by simp)).symm hg) hxp)
          have HB5 := hide (((unhide HB4).alloc (by omega) _).grown hg (by simp; omega) (fun k e' => ((unhide HG4).off (.slice al (nrows pre + p2.length) pl) (by simp) k e').2.2.1))
          have HX5 := hide ((hg.block w.heap.size (by simp; omega) (fun e' => (unhide HA5).pl e'.symm)).trans (heap_prev (unhide HL4).box))
          obtain ⟨kb5, fb5⟩ := blk (unhide HX5)
          have zb5 := lt_of_heap (unhide HX5)
          obtain ⟨kk1, kk2, kk3⟩ := (unhide HK) _ (unhide HB5)
          have kr := (unhide HKR) _ (unhide HB5)
          have hne1 : b1 ≠ w.heap.size := by omega
          have hne2 : b2 ≠ w.heap.size := by omega
          have HGB5 := hide ((unhide HG5).box 3 (.slice (some ⟨gt2, 0, none⟩) (nrows pre + p2.length + 1) ct2))
          have HBB5 := hide ((unhide HB5).setCell (p := ⟨w.heap.size, 3, none⟩) (Nat.le_refl _) (.slice (some ⟨gt2, 0, none⟩) (nrows pre + p2.length + 1) ct2))
          clear kb fb ho hg hat HL4 HO4 HX5 HG5 HB5 HA5
          have hrc : r.length ≤ r.length + 8 := by omega
          go_wp2_with (at_builtin; refine wpList_append_lies _ rfl _ _ 42 rfl w.heap.size 54 il (.slice none 0 0) 1 24 Tryd.underlying42 (unhide HIl) (unhide HZ0l) (unhide HZ1l) (unhide HZ2l) rfl (by decide) _ _ _ rfl ((unhide HO5).alloc _) ⟨w5.heap.size, 0, none⟩ 1 1 [.slice (some ⟨gr, 0, none⟩) r.length (r.length + 8)] rfl rfl ?c1 ?c2 (by decide) ?c3 ?c4 ?c5 _ rfl ?_)
          case c1 => exact news1 (heap_last (by simp))
          case c2 => exact one1l _ _ _
          case c3 => unfold maxLen; omega
          case c4 => omega
          case c5 => simp; omega
          intro gt3 ct3 w6 ho6 hg6 hat6 hlt6
          have HG6 := hide (Grow.app (vs1 := []) (vs2 := [tv, cvn, rv, .slice (some ⟨gt2, 0, none⟩) (nrows pre + p2.length + 1) ct2]) (v' := .slice (some ⟨gt3, 0, none⟩) (p2.length + 1) ct3) ((unhide HGB5).alloc _) (by simp; omega) hg6 rfl (hat6.imp id (fun e => by rw [e]; simp)) hlt6)
          have HD6 := hide ((List.pairwise_cons.1 (unhide HGB5).dis).1)
          have HL6 := hide (((unhide HL5).alloc _).grown hg6 hxp ((unhide HD6) _ (by simp)) ((unhide HD6) _ (by simp)) ((unhide HD6) _ (by simp)) ((unhide HD6) _ (by simp)))
          have HB6 := hide (((unhide HBB5).alloc (by simp; omega) _).grown hg6 (by simp; omega) (fun k e' => ((unhide HGB5).off (.slice ax p2.length px) (by simp) k e').2.2.1))
          have HO6 := hide ho6
          clear ho6 hg6 hat6 kb5 fb5 kk1 kk2 kk3 kr
          go_wp2
          go_roundg s2.length
          case measure => simp
          case rel =>
            refine ⟨p2 ++ [r], s2, F3, .slice (some ⟨gt2, 0, none⟩) (nrows pre + p2.length + 1) ct2, _, _, unhide HZR2, rfl, ?_, (unhide HF2).trans (unhide HF3), .snoc r gr ((unhide HLR).mono (unhide HF3)) (unhide HI3), ?_, ?_, unhide HG6, unhide HB6⟩
            · rw [List.length_append]; go_num
            · rw [List.length_append]; exact unhide HO6
            · rw [List.length_append]; exact unhide HL6
        | nil =>
          obtain ⟨ax, px, rfl⟩ := owns_form (unhide HOX)
          obtain rfl : p2 = t.rows := by rw [unhide HZR, List.append_nil]
          have hlt : decide (t.rows.length < t.rows.length) = false := by simp
          clear HZR l2
          have hnr : nrows pre + t.rows.length ≤ 1048576 := by
            have := (unhide HFT).nrows
            rw [unhide HZ, nrows_append] at this
            simp only [nrows] at this
            omega
          go_wp2_with fail
          clear hlt kk1 kk2 kk3
          go_loopg [6, 10] 8 (fun f x k W => ∃ F3 ps, f ≤ 8 ∧ k = .int .i64 ((8 - f : Nat) : Int) ∧ F2.le F3 ∧ ps.length = 8 - f ∧ (∀ v ∈ ps, LPad F3 v) ∧ W.ownsRow w.heap.size 54 1 x (t.rows.length + (8 - f)) (es ++ ps) ∧ Lnt w.heap.size w.heap.size W tv cvn rv lv2 pre.length (pre.length + 1) pre.length (nrows pre + t.rows.length) ts (cs ++ [.slice (some ⟨gc, 0, none⟩) (t.cols.length + 8) (t.cols.length + 8)]) rs (ls ++ ls2) ∧ Grow w.heap.size F3 w.heap.size [x, tv, cvn, rv, lv2] W ∧ Below w.heap.size w W)
          case atStart =>
            refine ⟨F2, [], Nat.le_refl _, rfl, Fx.le.refl _, rfl, fun v hv => (by simp at hv), ?_, unhide HLX, unhide HGX, unhide HBX⟩
            rw [List.append_nil]
            exact unhide HOX
          case round =>
            clear HOX HLX HGX HBX
            obtain ⟨F3, ps, hf8, rfl, hF3, hps, hpad, hox, hln, hgr, hbw⟩ := hrel
            have HF3 := hide hF3
            have HPS := hide hps
            have HPAD := hide hpad
            have HOX := hide hox
            have HLX := hide hln
            have HGX := hide hgr
            have HBX := hide hbw
            have zx := (unhide HGX).ltp
            clear hF3 hps hpad hox hln hgr hbw
            cases gk with
            | succ f =>
              obtain ⟨ay, py, rfl⟩ := owns_form (unhide HOX)
              have hq1 : 8 - (f + 1) < 8 := by omega
              have hq2 : 8 - (f + 1) + 1 = 8 - f := by omega
              generalize 8 - (f + 1) = m at *
              have hd : decide (m < 8) = true := by simpa using hq1
              have HQ2 := hide hq2
              clear hq2
              go_wp2_with (at_builtin; refine wpList_append_lies _ rfl _ _ 42 rfl w.heap.size 54 il (.slice none 0 0) 1 24 Tryd.underlying42 (unhide HIl) (unhide HZ0l) (unhide HZ1l) (unhide HZ2l) rfl (by decide) _ _ _ rfl (((unhide HOX).alloc _).alloc _) ⟨wr.heap.size + 1, 0, none⟩ 1 1 [.slice (some ⟨wr.heap.size, 0, none⟩) 1 1] rfl rfl ?c1 ?c2 (by decide) ?c3 ?c4 ?c5 _ rfl ?_)
              case c1 => exact news1 (heap_last (by simp))
              case c2 => exact one1l _ _ _
              case c3 => unfold maxLen; omega
              case c4 => omega
              case c5 => simp; omega
              intro gt3 ct3 w6 ho6 hg6 hat6 hlt6
              have HGA := hide (((unhide HGX).alloc (.cells #[.int .i64 (-77)] 3)).fix (b := wr.heap.size) (o := .cells #[.int .i64 (-77)] 3 (0, 0)) (by omega) (heap_last rfl) (by omega) (fun v hv e => by have := ((unhide HGX).off v hv _ e).2.2.2; omega))
              have HF4 := hide (Fx.le_set (.cells #[.int .i64 (-77)] 3 (0, 0)) ((unhide HGX).noneF (Nat.le_refl _)))
              have HP4 : Hid (LPad (F3.set wr.heap.size (.cells #[.int .i64 (-77)] 3 (0, 0))) (.slice (some ⟨wr.heap.size, 0, none⟩) 1 1)) := ⟨_, rfl, Fx.set_same _ _ _⟩
              generalize F3.set wr.heap.size (.cells #[.int .i64 (-77)] 3 (0, 0)) = F4 at *
              have hxp : (Value.slice ay (t.rows.length + m) py).ownBlock ≠ some w.heap.size := fun e => ((unhide HGX).off (.slice ay (t.rows.length + m) py) (by simp) _ e).2.1 rfl
              have HG6 := hide (Grow.app (vs1 := []) (vs2 := [tv, cvn, rv, lv2]) (v' := .slice (some ⟨gt3, 0, none⟩) (t.rows.length + m + 1) ct3) ((unhide HGA).alloc _) (by simp; omega) hg6 rfl (hat6.imp id (fun e => by rw [e]; simp)) hlt6)
              have HD6 := hide ((List.pairwise_cons.1 (unhide HGX).dis).1)
              have HL6 := hide ((((unhide HLX).alloc _).alloc _).grown hg6 hxp ((unhide HD6) _ (by simp)) ((unhide HD6) _ (by simp)) ((unhide HD6) _ (by simp)) ((unhide HD6) _ (by simp)))
              have HB6 := hide ((((unhide HBX).alloc (by omega) _).alloc (by simp; omega) _).grown hg6 (by simp; omega) (fun k e' => ((unhide HGX).off (.slice ay (t.rows.length + m) py) (by simp) k e').2.2.1))
              have HO6 := hide ho6
              clear ho6 hg6 hat6
              go_wp2
              go_roundg f
              case measure => simp
              case rel =>
                refine ⟨F4, ps ++ [.slice (some ⟨wr.heap.size, 0, none⟩) 1 1], by omega, ?_, (unhide HF3).trans (unhide HF4), ?_, fun v hv => ?_, ?_, unhide HL6, unhide HG6, unhide HB6⟩
                · rw [← unhide HQ2]; go_num
                · rw [List.length_append, unhide HPS, ← unhide HQ2]; rfl
                · rcases List.mem_append.1 hv with hv | hv
                  · exact ((unhide HPAD) v hv).mono (unhide HF4)
                  · rw [List.mem_singleton] at hv
                    rw [hv]
                    exact unhide HP4
                · rw [← unhide HQ2, ← Nat.add_assoc]
                  exact unhide HO6
            | zero =>
              have hd : decide (8 - 0 < 8) = false := by decide
              obtain ⟨hol, hor⟩ := unhide HOX
              rcases hor with ⟨_, hn0⟩ | ⟨gx, capx, cur, rfl, hge, hhx, hlex, hcapx, hszx, htk⟩
              · omega
              rw [Nat.mul_one] at htk
              have HG5 := hide ((unhide HGX).seal rfl hhx)
              have hF35 := Fx.le_set (.cells cur 54 (0, 0)) (((unhide HGX).off (.slice (some ⟨gx, 0, none⟩) (t.rows.length + (8 - 0)) capx) (by simp) gx rfl).1)
              have HTAB : Hid (LTab (F3.set gx (.cells cur 54 (0, 0))) t gc gx capx cur ls2) :=
                ⟨hF35 _ _ ((unhide HF3) _ _ ((unhide HF2) _ _ (unhide HC1))), Fx.set_same _ _ _, es, ps, (unhide HLR).mono ((unhide HF3).trans hF35), unhide HPS, fun v hv => ((unhide HPAD) v hv).mono hF35, htk⟩
              have HFF := hide (((((unhide HF1).trans (unhide HF2)).trans (unhide HF3))).trans hF35)
              generalize F3.set gx (.cells cur 54 (0, 0)) = F5 at *
              clear hol hge hhx hszx htk hF35 HOX HGX HC1 HLR HPAD HPS
              unfold maxLen at hcapx
              have hcx : t.rows.length ≤ capx := by omega
              obtain ⟨ar, pr, rfl⟩ := owns_form (unhide HLX).row
              obtain ⟨kb, fb⟩ := blk (unhide HLX).box
              go_wp2_with (at_builtin; refine wpList_append_lies _ rfl _ _ 41 rfl w.heap.size 42 ir (.slice none 0 0) 1 24 Tryd.underlying41 (unhide HIr) (unhide HZ0r) (unhide HZ1r) (unhide HZ2r) rfl (by decide) _ _ _ rfl ((unhide HLX).row.alloc _) ⟨wr.heap.size, 0, none⟩ 1 1 [.slice (some ⟨gx, 0, none⟩) (t.rows.length + 8) capx] rfl rfl ?c1 ?c2 (by decide) ?c3 ?c4 ?c5 _ rfl ?_)
              case c1 => exact news1 (heap_last rfl)
              case c2 => exact one1l _ _ _
              case c3 => unfold maxLen; omega
              case c4 => omega
              case c5 => simp; omega
              intro gt7 ct7 w7 ho hg hat hlt7
              have HA := hide (Grow.apt (xs := []) ((unhide HG5).alloc (.cells #[.slice (some ⟨gx, 0, none⟩) (t.rows.length + 8) capx] 42)))
              have HG7 := hide (Grow.app (vs1 := [tv, cvn]) (vs2 := [lv2]) (v' := .slice (some ⟨gt7, 0, none⟩) (pre.length + 1) ct7) ((unhide HG5).alloc _) (by simp; omega) hg rfl (hat.imp id (fun e => by rw [e]; simp)) hlt7)
              have hgp : gt7 ≠ w.heap.size := ((unhide HG7).off (.slice (some ⟨gt7, 0, none⟩) (pre.length + 1) ct7) (by simp) gt7 rfl).2.1
              have HL8 := hide (((unhide HLX).alloc _).setRow (unhide HA) hg ho (by simp [Value.ownBlock]; exact hgp))
              have HB7 := hide (((unhide HBX).alloc (by omega) _).grown hg (by simp; omega) (fun k e' => ((unhide HG5).off (.slice ar pre.length pr) (by simp) k e').2.2.1))
              have HX7 := hide ((hg.block w.heap.size (by simp; omega) (fun e' => (unhide HA).pr e'.symm)).trans (heap_prev (unhide HLX).box))
              obtain ⟨kb7, fb7⟩ := blk (unhide HX7)
              have zb7 := lt_of_heap (unhide HX7)
              have HG8 := hide ((unhide HG7).box 2 (.slice (some ⟨gt7, 0, none⟩) (pre.length + 1) ct7))
              have HB8 := hide ((unhide HB7).setCell (p := ⟨w.heap.size, 2, none⟩) (Nat.le_refl _) (.slice (some ⟨gt7, 0, none⟩) (pre.length + 1) ct7))
              clear kb fb ho hg hat
              go_wp2_with fail
              clear kb7 fb7 zb7 HX7 HA HG7 HB7 HLX HBX HG5 hd
              generalize w7.setCell ⟨w.heap.size, 2, none⟩ (.slice (some ⟨gt7, 0, none⟩) (pre.length + 1) ct7) = w8 at *
              generalize hrvn : Value.slice (some ⟨gt7, 0, none⟩) (pre.length + 1) ct7 = rvn at *
              obtain ⟨kk1, kk2, kk3⟩ := (unhide HK) _ (unhide HB8).drew
              obtain ⟨att, ptt, rfl⟩ := owns_form (unhide HL8).tab
              have m8 : w8.drew.cell? ⟨w.heap.size, 0, none⟩ = some (.slice att pre.length ptt) := by
                show w8.cell? _ = _
                rw [(blk (unhide HL8).box).1]
                rfl
              have m8w : w8.cell? ⟨w.heap.size, 0, none⟩ = some (.slice att pre.length ptt) := m8
              have f8 : ∀ o, w8.drew.frozen? ⟨w.heap.size, o, none⟩ = false := fun o => (blk (unhide HL8).box).2 o
              have z8 := (unhide HG8).ltp
              have HLB8 := hide (unhide HL8).drew
              have HGB8 := hide (unhide HG8).drew
              have HBB8 := hide (unhide HB8).drew
              generalize hc8 : t.cols.length + 8 = c8 at *
              have hcc8 : t.cols.length ≤ c8 := by omega
              have HC8 := hide hc8
              clear hc8
              have hpl : pre.length < l.length := by omega
              go_region_law (first
                | (refine step_append_lies _ rfl (.tmp 103) (.tmp 121) 39 rfl w.heap.size 56 it (.agg #[.string ⟨#[]⟩, .slice none 0 0, .slice none 0 0]) 3 64 Tryd.underlying39 (unhide HIt) (unhide HZ0t) (unhide HZ1t) (unhide HZ2t) rfl (by decide) (.slice att pre.length ptt) pre.length ts (by simp [Act.eval]) ((unhide HLB8).tab.alloc _) ⟨w8.heap.size, 0, none⟩ 1 1 [.string t.name, .slice (some ⟨gc, 0, none⟩) t.cols.length c8, .slice (some ⟨gx, 0, none⟩) t.rows.length capx] (by simp [Act.eval]) rfl (World.news_of_block (cs := #[.string t.name, .slice (some ⟨gc, 0, none⟩) t.cols.length c8, .slice (some ⟨gx, 0, none⟩) t.rows.length capx]) (heap_last rfl)) (one3l _ _ _ _ _ _ _) (by decide) (by unfold maxLen; omega) (by omega) (by simp; omega) _ rfl ?_; intro gt9 ct9 w9 ho hg hat hlt9; have HA := hide (Grow.apt (xs := []) ((unhide HGB8).alloc (.cells #[.string t.name, .slice (some ⟨gc, 0, none⟩) t.cols.length c8, .slice (some ⟨gx, 0, none⟩) t.rows.length capx] 56))); have HG9 := hide (Grow.app (vs1 := []) (vs2 := [cvn, rvn, lv2]) (v' := .slice (some ⟨gt9, 0, none⟩) (pre.length + 1) ct9) ((unhide HGB8).alloc _) (by simp; omega) hg rfl (hat.imp id (fun e => Nat.le_of_eq e.symm)) hlt9); have hgp9 : gt9 ≠ w.heap.size := ((unhide HG9).off (.slice (some ⟨gt9, 0, none⟩) (pre.length + 1) ct9) (by simp) gt9 rfl).2.1; have HL9 := hide (((unhide HLB8).alloc _).setTab (unhide HA) hg ho (by simp [Value.ownBlock]; exact hgp9)); have HB9 := hide (((unhide HBB8).alloc (by simp; omega) _).grown hg (by simp; omega) (fun k e' => ((unhide HGB8).off (.slice att pre.length ptt) (by simp) k e').2.2.1)); have HX9 := hide ((hg.block w.heap.size (by simp; omega) (fun e' => (unhide HA).pt e'.symm)).trans (heap_prev (unhide HLB8).box)); have kb9 := (blk (unhide HX9)).1 0; have fb9 := (blk (unhide HX9)).2; have zb9 := lt_of_heap (unhide HX9); clear ho hg hat)
                | fail)
              all_goals
                go_wp2
                go_roundg suf.length
                case measure => simp
                case rel =>
                  have hc8 := unhide HC8
                  subst hc8
                  refine ⟨pre ++ [t], suf, F5, .slice (some ⟨gt9, 0, none⟩) (pre.length + 1) ct9, cvn, rvn, lv2, _, _, _, _, unhide HZ2, rfl, ?_, .snoc t gc gx capx cur ((unhide HLT).mono (unhide HFF)) (unhide HTAB), ?_, (unhide HG9).box _ _, (unhide HB9).setCell (Nat.le_refl _) _⟩
                  · rw [List.length_append]; go_num
                  · have e : nrows (pre ++ [t]) = nrows pre + t.rows.length := by rw [nrows_append]; simp [nrows]
                    rw [e, List.length_append]
                    exact unhide HL9
end Go.Proofs.YtfkeddkfegaeiaaDoor
