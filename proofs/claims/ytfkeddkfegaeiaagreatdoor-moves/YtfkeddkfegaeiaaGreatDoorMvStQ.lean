/-
  Part 36.
-/
import Derived.Test.YtfkeddkfegaeiaaGreatDoorMvStP
import Derived.Test.YtfkeddkfegaeiaaGreatDoorMvPlS
import Derived.Test.YtfkeddkfegaeiaaGreatDoorMvPlC
import Derived.Test.YtfkeddkfegaeiaaGreatDoorMvNwG
import Derived.Test.YtfkeddkfegaeiaaGreatDoorMvEnv
namespace Go.Proofs.YtfkeddkfegaeiaaGreatDoor
open Go.RowKit
theorem infoPv : (Tryz.prog.info? 426).map (fun i => (i.zero, i.size, i.bytes)) = some (some .nilFunc, 1, 8) := by kernel_rfl
theorem Kp.grownN {r : Nat} {a w w' : World} {v : Value} (h : Kp r a w) (hg : w.grownBy w' v.ownBlock) (ho : ∀ b, v.ownBlock = some b → a.heap.size ≤ b) : Kp r a w' :=
  ⟨hg.os.trans h.os, hg.tape.trans h.tape, hg.output.trans h.output, Nat.le_trans h.size hg.size, fun k hk hne => (hg.block k (Nat.lt_of_lt_of_le hk h.size) (fun e => by have := ho k e.symm; omega)).trans (h.block k hk hne)⟩
/-- a row of our own grows, newer than where the finder began. -/
theorem FA.side {c : Fc} {F F' : Fx} {w w' w9 : World} {sv iv tv ev v : Value} {wd : Nat} {ss : List Sr} {er er' : Option (Nat × Nat)} (h0 : FS c F w sv iv tv ev wd ss er) (h : FA c F w sv iv tv wd ss er' w' F') (hg : w'.grownBy w9 v.ownBlock) (ho : ∀ b, v.ownBlock = some b → w.heap.size ≤ b ∧ F' b = none) : FA c F w sv iv tv wd ss er' w9 F' := by
  obtain ⟨hx, hk, ev', hf⟩ := h
  have hb : Below c.w0.heap.size w' w9 := (Below.refl _ _).grown hg hf.old.size (fun b e => Nat.le_trans h0.old.size (ho b e).1)
  have ofb : ∀ b, b < w.heap.size → some b ≠ v.ownBlock := fun b hb e => by have := (ho b e.symm).1; omega
  have hfb : some c.fb ≠ v.ownBlock := ofb _ h0.grow.ltp
  refine ⟨hx, hk.grownN hg (fun b e => (ho b e).1), ev', hf.env.keep hb, hf.old.trans hb, ⟨fun b o e => ⟨(hf.grow.fits b o e).1, ?_⟩, hf.grow.offp, Nat.lt_of_lt_of_le hf.grow.ltp hg.size, fun u hu b e => ?_, hf.grow.dis⟩, (hg.block _ hf.grow.ltp hfb).trans hf.box, hf.err, hf.tabs, owns_other hf.srcs ?_ hg, hf.few, hf.ok, hf.wide, fun b e => Nat.lt_of_lt_of_le (hf.fbX b e) hg.size, hf.low⟩
  · rw [hg.block b (hf.grow.ltF e) (fun e' => by rw [(ho b e'.symm).2] at e; cases e)]
    exact (hf.grow.fits b o e).2
  · obtain ⟨q1, q2, q3, q4⟩ := hf.grow.off u hu b e
    exact ⟨q1, q2, q3, Nat.lt_of_lt_of_le q4 hg.size⟩
  · intro b e1 e2
    have := (h0.grow.off sv List.mem_cons_self b e2).2.2.2
    have := (ho b e1).1
    omega
/-- a cell of a block of our own is written. -/
theorem FA.sideSet {c : Fc} {F F' : Fx} {w w' : World} {sv iv tv ev : Value} {wd : Nat} {ss : List Sr} {er er' : Option (Nat × Nat)} (h0 : FS c F w sv iv tv ev wd ss er) (h : FA c F w sv iv tv wd ss er' w' F') {b : Nat} (hlo' : w.heap.size ≤ b) (hn : F' b = none) (o : Nat) (x : Value) : FA c F w sv iv tv wd ss er' (w'.setCell ⟨b, o, none⟩ x) F' := by
  obtain ⟨hx, hk, ev', hf⟩ := h
  have hlo : c.w0.heap.size ≤ b := Nat.le_trans h0.old.size hlo'
  have hv : ∀ v ∈ [sv, iv, tv], v.ownBlock ≠ some b := fun v hv e => by have := (h0.grow.off v hv b e).2.2.2; omega
  have hne : b ≠ c.fb := fun e => by have := h0.grow.ltp; omega
  exact ⟨hx, hk.setNew hlo' _, ev', hf.env.keep ((Below.refl _ _).setCell hlo _), hf.old.setCell hlo _, hf.grow.setOff hn x, (Below.heap_setCell _ _ _ _ (Ne.symm hne)).trans hf.box, hf.err, hf.tabs, owns_set hf.srcs (hv sv List.mem_cons_self), hf.few, hf.ok, hf.wide, fun b' e => by simpa using hf.fbX b' e, hf.low⟩
theorem FA.refl {c : Fc} {F : Fx} {w : World} {sv iv tv ev : Value} {wd : Nat} {ss : List Sr} {er : Option (Nat × Nat)} (h : FS c F w sv iv tv ev wd ss er) : FA c F w sv iv tv wd ss er w F := ⟨Ext.refl _ _, Kp.refl _ _, ev, h⟩
theorem FS.offX {c : Fc} {F : Fx} {w : World} {sv iv tv ev : Value} {wd : Nat} {ss : List Sr} {er : Option (Nat × Nat)} (h : FS c F w sv iv tv ev wd ss er) {b : Nat} (hb : w.heap.size ≤ b) : c.X b = false := by
  cases e : c.X b with
  | false => rfl
  | true => have := h.fbX _ e; omega
/-- exprs that lie in a row. -/
structure XsP (w : World) (v : Value) (ls : List (List Nd)) : Prop where
  row : ∃ vs, RowAt w v vs ∧ vs.length = ls.length ∧ ∀ (i : Nat) u l, vs[i]? = some u → ls[i]? = some l → ∃ n, ExP w (fun _ => True) n u l
def errX (T : List Tb) (ss : List Sr) (er : Option (Nat × Nat)) (ls : List (List Nd)) : Option (Nat × Nat) := ls.foldl (fun a l => orE a (exErr T ss l)) er
/-- values found so far. -/
structure VsF (c : Fc) (F : Fx) (W : World) (sv iv tv : Value) (wd : Nat) (ss : List Sr) (en : Option (Nat × Nat)) (pre : List (List Nd)) (av : Value) (vs : List Value) (W' : World) (F' : Fx) : Prop where
  fa : FA c F W sv iv tv wd ss en W' F'
  own : W'.ownsRow W.heap.size 426 1 av pre.length vs
  off : ∀ b, av.ownBlock = some b → W.heap.size ≤ b ∧ F' b = none
  fns : en = none → ∀ (i : Nat) u l, vs[i]? = some u → pre[i]? = some l → ∃ g cb, u = .func (.func g) #[] cb ∧ FnG c.w0 (F'.off c.X) wd g cb (evE (colAt c.T ss) l)
theorem VsF.step {c : Fc} {F F' F1 : Fx} {W W' W1 W9 : World} {sv iv tv ev : Value} {wd : Nat} {ss : List Sr} {er e0 en : Option (Nat × Nat)} {pre : List (List Nd)} {av : Value} {vs : List Value} (h0 : FS c F W sv iv tv ev wd ss er) (h : VsF c F W sv iv tv wd ss e0 pre av vs W' F') {l : List Nd} (hen : en = orE e0 (exErr c.T ss l)) (hfa : FA c F' W' sv iv tv wd ss en W1 F1) {g : Nat} {cb : Array Value} (hfn : en = none → FnG c.w0 (F1.off c.X) wd g cb (evE (colAt c.T ss) l)) {T : TypeId}
    (hg : (W1.alloc (.cells #[.func (.func g) #[] cb] T (0, 0))).grownBy W9 av.ownBlock) {g9 cap9 : Nat} (hat : av.ownBlock = some g9 ∨ g9 = (W1.alloc (.cells #[.func (.func g) #[] cb] T (0, 0))).heap.size) (ho : W9.ownsRow W.heap.size 426 1 (.slice (some ⟨g9, 0, none⟩) (pre.length + 1) cap9) (pre.length + 1) (vs ++ [.func (.func g) #[] cb])) (hvl : vs.length = pre.length) :
    VsF c F W sv iv tv wd ss en (pre ++ [l]) (.slice (some ⟨g9, 0, none⟩) (pre.length + 1) cap9) (vs ++ [.func (.func g) #[] cb]) W9 F1 := by
  have h1 : FA c F W sv iv tv wd ss en W1 F1 := h.fa.trans hfa
  have hoff : ∀ b, av.ownBlock = some b → W.heap.size ≤ b ∧ F1 b = none := fun b e => ⟨(h.off b e).1, (hfa.1.old b (h.own.lt b e).2).trans (h.off b e).2⟩
  refine ⟨FA.side h0 (h1.alloc _) hg hoff, by rw [List.length_append]; exact ho, fun b e => ?_, fun he i u m hu hm => ?_⟩
  · injection e with e
    subst e
    rcases hat with hat | hat
    · exact hoff _ hat
    · have hz := h1.2.1.size
      obtain ⟨-, -, ev1, hf1⟩ := h1
      rw [hat]
      exact ⟨by simp; omega, hf1.grow.noneF (by simp)⟩
  · rw [hen] at he
    rcases snoc_get hu with ⟨hi, hu⟩ | ⟨hi, rfl⟩
    · rw [List.getElem?_append_left (by omega)] at hm
      obtain ⟨g', cb', q1, q2⟩ := h.fns (orE_eq_none he).1 i u m hu hm
      exact ⟨g', cb', q1, q2.mono (Fx.off_mono hfa.1.le c.X)⟩
    · rw [hi, hvl, List.getElem?_append_right (Nat.le_refl _), Nat.sub_self] at hm
      simp at hm
      subst hm
      exact ⟨g, cb, rfl, hfn (by rw [hen]; exact he)⟩
end Go.Proofs.YtfkeddkfegaeiaaGreatDoor
namespace Go.Proofs.YtfkeddkfegaeiaaGreatDoor
open Go.RowKit
/-- the document's number of an error, as the program numbers its variables. -/
def errG : Nat → Nat
  | 0 => 0
  | 1 => 1
  | 2 => 2
  | 3 => 3
  | 4 => 5
  | 5 => 6
  | 6 => 7
  | 7 => 8
  | 8 => 4
  | _ => 9
structure Sents (a : Nat → Addr) (w : World) : Prop where
  cell : ∀ j, j < 10 → w.cell? ⟨errG j, 0, none⟩ = some (.iface 496 (.pointer (some (a j))))
  row : ∀ j, j < 10 → ∃ c t, w.heap[(a j).block]? = some (.cells c t (0, 0))
  ne : ∀ i j, i < 10 → j < 10 → i ≠ j → a i ≠ a j
theorem errG_tw : ∀ j, j < 10 → tw (errG j) = true := by decide
theorem errG_ne : ∀ i, i < 10 → ∀ j, j < 10 → i ≠ j → errG i ≠ errG j := by decide
theorem EnvX.sents {a : Nat → Addr} {B : Nat} {w : World} (h : EnvX a B w) : Sents (fun j => a (errG j)) w :=
  ⟨fun j hj => h.cell _ (errG_tw j hj), fun j hj => h.row _ (errG_tw j hj), fun i j hi hj e => h.ne _ _ (errG_tw i hi) (errG_tw j hj) (errG_ne i hi j hj e)⟩
theorem Sents.keep {a : Nat → Addr} {w w' : World} (h : Sents a w) (hb : Below w.heap.size w w') : Sents a w' := by
  refine ⟨fun j hj => ?_, fun j hj => ?_, h.ne⟩
  · have hc := h.cell j hj
    have hlt : errG j < w.heap.size := World.block_lt_of_cell? w _ hc
    rw [hb.cell (p := ⟨errG j, 0, none⟩) hlt]; exact hc
  · obtain ⟨c, t, hr⟩ := h.row j hj
    exact ⟨c, t, by rw [hb.block _ (lt_of_heap hr)]; exact hr⟩
/-- the program's error of the document's number. -/
def errOf (a : Nat → Addr) (n : Int) : Value := if n = 0 then .nilIface else .iface 496 (.pointer (some (a (n - 1).toNat)))
set_option maxRecDepth 100000 in
set_option maxHeartbeats 4000000 in
theorem checkOne_any (a : Nat → Addr) (t : Tb) (cv rv lv : Value) (ahead : List Tb) (w : World) (hS : Sents a w) (hc : RowAt w cv (textsV t.cols)) (hcap : t.cols.length ≤ scap cv) (hr : RowsAt w rv t.rows) (hl : TabsAt w lv ahead) :
    Calls Tryz.prog 91 #[.agg #[.string t.name, cv, rv], lv] w fun e w' => e = .returned (errOf a (p6 t ahead)) ∧ Below w.heap.size w w' := by
  have HS := hide hS
  have HC := hide hc
  have HR := hide hr
  have HL := hide hl
  have HCAP := hide hcap
  obtain ⟨adc, capc, rfl, mc, _⟩ := hc
  obtain ⟨vs, ⟨adr, capr, rfl, mr, _⟩, lr, _⟩ := hr
  rw [List.length_map] at mc
  simp only [List.length_map] at *
  rw [lr] at mr
  rw [lr] at HR
  rw [lr]
  unfold maxLen at mc mr
  clear hS hl hcap
  have g3 : w.cell? ⟨3, 0, none⟩ = some (.iface 496 (.pointer (some (a 3)))) := (unhide HS).cell 3 (by decide)
  have g6 : w.cell? ⟨7, 0, none⟩ = some (.iface 496 (.pointer (some (a 6)))) := (unhide HS).cell 6 (by decide)
  have g8 : w.cell? ⟨4, 0, none⟩ = some (.iface 496 (.pointer (some (a 8)))) := (unhide HS).cell 8 (by decide)
  have g9 : w.cell? ⟨9, 0, none⟩ = some (.iface 496 (.pointer (some (a 9)))) := (unhide HS).cell 9 (by decide)
  have z3 : 3 < w.heap.size := World.block_lt_of_cell? w _ g3
  have z6 : 7 < w.heap.size := World.block_lt_of_cell? w _ g6
  have z8 : 4 < w.heap.size := World.block_lt_of_cell? w _ g8
  have z9 : 9 < w.heap.size := World.block_lt_of_cell? w _ g9
  have HB0 : Hid (Below w.heap.size w (w.alloc (.cells #[.string t.name, .slice adc t.cols.length capc, .slice adr t.rows.length capr] 44))) := (Below.refl _ _).alloc (Nat.le_refl _) _
  go_enter Tryz.func91, Tryz.ntmps91
  go_wp2_with fail
  refine (isName_any t.name _).mono ?_
  rintro e w1 ⟨rfl, hw1⟩
  subst hw1
  cases hn : nameB t.name.data.toList with
  | false =>
    have HN := hide hn
    clear hn
    go_wp2
    go_ret
    refine ⟨?_, unhide HB0⟩
    have e : p6 t ahead = 4 := by unfold p6; rw [unhide HN]; rfl
    rw [e]
    rfl
  | true =>
    have HN := hide hn
    clear hn
    go_wp2_with fail
    refine (hasNoName_any _ t.cols _ (by exact (unhide HC).keep (unhide HB0))).mono ?_
    rintro e w1 ⟨rfl, hw1⟩
    subst hw1
    cases hna : t.cols.any (fun c => !nameB c.data.toList) with
    | true =>
      have HNA := hide hna
      clear hna
      go_wp2
      go_ret
      refine ⟨?_, unhide HB0⟩
      have e : p6 t ahead = 4 := by unfold p6; rw [unhide HN, unhide HNA]; rfl
      rw [e]
      rfl
    | false =>
      have HNA := hide hna
      clear hna
      by_cases hbad : t.cols.length < 1 ∨ 6 < t.cols.length ∨ 200 < t.rows.length
      · have HE : Hid (p6 t ahead = 9) := by
          unfold Hid p6
          rw [unhide HN, unhide HNA, if_neg (by simp), if_pos]
          simp only [Bool.or_eq_true, decide_eq_true_eq]
          omega
        by_cases d1 : t.cols.length < 1
        · have hd1 : ((t.cols.length : Int) == 0) = true := by rw [beq_iff_eq]; omega
          go_wp2
          go_ret
          exact ⟨by rw [unhide HE]; rfl, unhide HB0⟩
        · have hd1 : ((t.cols.length : Int) == 0) = false := by rw [beq_eq_false_iff_ne]; omega
          by_cases d2 : 6 < t.cols.length
          · have hd2 : decide ((6 : Int) < (t.cols.length : Int)) = true := by simp; omega
            go_wp2
            go_ret
            exact ⟨by rw [unhide HE]; rfl, unhide HB0⟩
          · have hd2 : decide ((6 : Int) < (t.cols.length : Int)) = false := by simp; omega
            have hd3 : decide ((200 : Int) < (t.rows.length : Int)) = true := by simp; omega
            go_wp2
            go_ret
            exact ⟨by rw [unhide HE]; rfl, unhide HB0⟩
      · have hd1 : ((t.cols.length : Int) == 0) = false := by rw [beq_eq_false_iff_ne]; omega
        have hd2 : decide ((6 : Int) < (t.cols.length : Int)) = false := by simp; omega
        have hd3 : decide ((200 : Int) < (t.rows.length : Int)) = false := by simp; omega
        have HE : Hid (p6 t ahead = if ahead.any (fun u => u.name.toList == t.name.toList) || dupF [] t.cols then 7 else if t.rows.any (fun r => decide (r.length ≠ t.cols.length)) then 10 else 0) := by
          unfold Hid p6
          rw [unhide HN, unhide HNA, if_neg (by simp), if_neg]
          simp only [Bool.or_eq_true, decide_eq_true_eq]
          omega
        go_wp2_with fail
        refine (hasTable_any lv ahead t.name _ (by exact (unhide HL).keep (unhide HB0))).mono ?_
        rintro e w1 ⟨rfl, hb1⟩
        have HB1 : Hid (Below w.heap.size w w1) := (unhide HB0).trans (hb1.mono (by simp))
        have HX1 : Hid (w1.heap[w.heap.size]? = some (.cells #[.string t.name, .slice adc t.cols.length capc, .slice adr t.rows.length capr] 44 (0, 0))) := by
          unfold Hid
          rw [hb1.block _ (by simp)]
          exact heap_last rfl
        have kx1 := (blk (unhide HX1)).1
        have zx1 := lt_of_heap (unhide HX1)
        rw [← (unhide HB1).cell (p := ⟨7, 0, none⟩) z6] at g6
        rw [← (unhide HB1).cell (p := ⟨9, 0, none⟩) z9] at g9
        clear hb1 g3 g8 hd1 hd2 hd3
        cases hht : ahead.any (fun u => u.name.toList == t.name.toList) with
        | true =>
          have HHT := hide hht
          clear hht
          go_wp2
          go_ret
          refine ⟨?_, unhide HB1⟩
          have e : p6 t ahead = 7 := by rw [unhide HE, unhide HHT]; rfl
          rw [e]
          rfl
        | false =>
          have HHT := hide hht
          clear hht
          go_wp2_with fail
          refine (hasTwice_any _ t.cols _ (by exact (unhide HC).keep (unhide HB1)) (unhide HCAP)).mono ?_
          rintro e w2 ⟨rfl, hw2⟩
          obtain rfl := hw2.symm
          cases hdp : dupF [] t.cols with
          | true =>
            have HDP := hide hdp
            clear hdp
            go_wp2
            go_ret
            refine ⟨?_, unhide HB1⟩
            have e : p6 t ahead = 7 := by rw [unhide HE, unhide HHT, unhide HDP]; rfl
            rw [e]
            rfl
          | false =>
            have HDP := hide hdp
            clear hdp
            go_wp2_with fail
            refine (hasWide_any _ t.rows t.name adc t.cols.length capc _ w.heap.size _ (by exact (unhide HR).keep (unhide HB1)) (by exact unhide HX1)).mono ?_
            rintro e w2 ⟨rfl, hb2⟩
            have HB2 : Hid (Below w.heap.size w w2) := (unhide HB1).trans (hb2.mono (unhide HB1).size)
            rw [← hb2.cell (p := ⟨9, 0, none⟩) (Nat.lt_of_lt_of_le z9 (unhide HB1).size)] at g9
            clear hb2 kx1 zx1 g6 HX1
            cases hwd : t.rows.any (fun r => decide (r.length ≠ t.cols.length)) with
            | true =>
              have HWD := hide hwd
              clear hwd
              go_wp2
              go_ret
              refine ⟨?_, unhide HB2⟩
              have e : p6 t ahead = 10 := by rw [unhide HE, unhide HHT, unhide HDP, unhide HWD]; rfl
              rw [e]
              rfl
            | false =>
              have HWD := hide hwd
              clear hwd
              go_wp2
              go_ret
              refine ⟨?_, unhide HB2⟩
              have e : p6 t ahead = 0 := by rw [unhide HE, unhide HHT, unhide HDP, unhide HWD]; rfl
              rw [e]
              rfl
end Go.Proofs.YtfkeddkfegaeiaaGreatDoor
namespace Go.Proofs.YtfkeddkfegaeiaaGreatDoor
open Go.RowKit
set_option maxRecDepth 100000 in
set_option maxHeartbeats 4000000 in
theorem check_any (a : Nat → Addr) (lv : Value) (l : List Tb) (w : World) (hS : Sents a w) (hl : TabsAt w lv l) :
    Calls Tryz.prog 58 #[lv] w fun e w' => e = .returned (errOf a (p6all l)) ∧ Below w.heap.size w w' := by
  have HS := hide hS
  have HL := hide hl
  have g8 : w.cell? ⟨4, 0, none⟩ = some (.iface 496 (.pointer (some (a 8)))) := hS.cell 8 (by decide)
  have z8 : 4 < w.heap.size := World.block_lt_of_cell? w _ g8
  clear hS
  obtain ⟨adl, capl, rfl, ml, mcap, cl⟩ := hl
  unfold maxLen at ml
  have HCL := hide cl
  clear cl
  by_cases h4 : 4 < l.length
  · have hd : decide ((4 : Int) < (l.length : Int)) = true := by simp; omega
    have HE : Hid (p6all l = 9) := by unfold Hid p6all; rw [if_pos h4]
    go_enter Tryz.func58, Tryz.ntmps58
    go_wp2
    go_ret
    exact ⟨by rw [unhide HE]; rfl, Below.refl _ _⟩
  · have hd : decide ((4 : Int) < (l.length : Int)) = false := by simp; omega
    have HE : Hid (p6all l = p6from [] l) := by unfold Hid p6all; rw [if_neg h4]
    go_enter Tryz.func58, Tryz.ntmps58
    go_wp2_with fail
    clear hd g8
    go_loopg [12] l.length (fun f j W => ∃ pre suf, l = pre ++ suf ∧ f = suf.length ∧ j = .int .i64 (pre.length : Nat) ∧ p6all l = p6from pre suf ∧ Below w.heap.size w W)
    case atStart => exact ⟨[], l, rfl, rfl, rfl, unhide HE, Below.refl _ _⟩
    case round =>
      clear HE
      obtain ⟨pre, suf, h1, rfl, rfl, hal, hbw⟩ := hrel
      have l1 : pre.length + suf.length = l.length := by rw [h1, List.length_append]
      have HZ := hide h1
      have HAL := hide hal
      have HB := hide hbw
      clear h1 hal hbw
      cases suf with
      | nil =>
        have hlt : decide (pre.length < l.length) = false := by simp at l1 ⊢; omega
        go_wp2
        go_ret
        exact ⟨by rw [unhide HAL]; rfl, unhide HB⟩
      | cons t suf =>
        rw [List.length_cons] at l1
        have hlt : decide (pre.length < l.length) = true := by simp; omega
        obtain ⟨b1, o1, rfl, z1, c1⟩ := (unhide HCL) (by omega)
        obtain ⟨cv, rv, htb, k1, k2, k3⟩ := c1 pre.length t (by rw [unhide HZ]; simp)
        rw [← (unhide HB).cell (p := ⟨b1, o1 + pre.length * 3, none⟩) z1] at k1
        rw [← (unhide HB).cell (p := ⟨b1, o1 + pre.length * 3 + 1, none⟩) z1] at k2
        rw [← (unhide HB).cell (p := ⟨b1, o1 + pre.length * 3 + 2, none⟩) z1] at k3
        obtain ⟨cv', rv', e', htc, hcap, htr⟩ := htb
        injection e' with _ e'
        injection e' with e1 e'
        injection e' with e2 _
        subst e1 e2
        have HTC := hide htc
        have HTR := hide htr
        have HCAP := hide hcap
        have HZ2 : Hid (l = (pre ++ [t]) ++ suf) := by unfold Hid; rw [unhide HZ]; simp
        have HAH : Hid (TabsAt w (.slice (some ⟨b1, o1, none⟩) pre.length capl) pre) := by
          have h := unhide HL
          rw [unhide HZ] at h
          exact h.ahead
        obtain ⟨adc, capc, rfl, _, _⟩ := htc
        obtain ⟨vs, ⟨adr, capr, rfl, _, _⟩, lr, _⟩ := htr
        rw [lr] at HTR k3
        rw [List.length_map] at HTC HCAP k2
        clear c1 hcap
        have hpc : pre.length ≤ capl := by omega
        go_wp2_with fail
        have HBA : Hid (Below w.heap.size w (wr.alloc (.cells #[.string t.name, .slice adc t.cols.length capc, .slice adr t.rows.length capr] 44)).drew) := ((unhide HB).alloc (unhide HB).size _).drew
        go_region_with (go_at_call 91; refine (checkOne_any a t _ _ _ pre _ (by exact (unhide HS).keep (unhide HBA)) (by exact (unhide HTC).keep (unhide HBA)) (by exact unhide HCAP) (by exact (unhide HTR).keep (unhide HBA)) (by exact (unhide HAH).keep (unhide HBA))).mono ?_; rintro e w2 ⟨rfl, hb2⟩; have HB2 : Hid (Below w.heap.size w w2) := (unhide HBA).trans (hb2.mono (unhide HBA).size); clear hb2)
        by_cases h0 : p6 t pre = 0
        · have HNX : Hid (p6all l = p6from (pre ++ [t]) suf) := by unfold Hid; rw [unhide HAL, p6from, if_pos h0]
          rw [show errOf a (p6 t pre) = .nilIface from by unfold errOf; rw [if_pos h0]]
          all_goals
            go_wp2
            go_roundg suf.length
            case measure => simp
            case rel =>
              refine ⟨pre ++ [t], suf, unhide HZ2, rfl, ?_, unhide HNX, unhide HB2⟩
              rw [List.length_append]; go_num
        · have HNX : Hid (errOf a (p6all l) = errOf a (p6 t pre)) := by unfold Hid; rw [unhide HAL, p6from, if_neg h0]
          have he : errOf a (p6 t pre) = .iface 496 (.pointer (some (a (p6 t pre - 1).toNat))) := by unfold errOf; rw [if_neg h0]
          rw [he] at HNX ⊢
          clear he h0
          generalize a (p6 t pre - 1).toNat = ae at *
          all_goals
            go_wp2
            go_ret
            exact ⟨by rw [unhide HNX]; rfl, unhide HB2⟩
end Go.Proofs.YtfkeddkfegaeiaaGreatDoor
namespace Go.Proofs.YtfkeddkfegaeiaaGreatDoor
open Go.RowKit
/-- a list that lies for good. -/
def RowF (F : Fx) (T : TypeId) (v : Value) (xs : List Value) : Prop := (v = .slice none 0 0 ∧ xs = []) ∨ ∃ g cap cur, v = .slice (some ⟨g, 0, none⟩) xs.length cap ∧ F g = some (.cells cur T (0, 0)) ∧ cur.toList.take xs.length = xs ∧ xs.length ≤ cap ∧ cap ≤ maxLen
theorem RowF.mono {F F' : Fx} (hF : F.le F') {T : TypeId} {v : Value} {xs : List Value} (h : RowF F T v xs) : RowF F' T v xs := by
  rcases h with h | ⟨g, cap, cur, h1, h2, h3⟩
  · exact .inl h
  · exact .inr ⟨g, cap, cur, h1, hF _ _ h2, h3⟩
theorem RowF.rowAt {F : Fx} {T : TypeId} {v : Value} {xs : List Value} (h : RowF F T v xs) {W : World} (hF : ∀ b o, F b = some o → W.heap[b]? = some o) : RowAt W v xs := by
  rcases h with ⟨h1, h2⟩ | ⟨g, cap, cur, h1, h2, h3, h4, h5⟩
  · subst h1 h2
    exact ⟨none, 0, rfl, by decide, fun hp => absurd hp (by simp)⟩
  · refine ⟨_, cap, h1, Nat.le_trans h4 h5, fun hp => ⟨g, 0, rfl, lt_size (hF _ _ h2), fun j hj => ?_⟩⟩
    have e : (cur.toList.take xs.length)[j]? = xs[j]? := by rw [h3]
    rw [List.getElem?_take, if_pos hj] at e
    rw [Nat.zero_add, (blk (hF _ _ h2)).1, ← e]
    simp
theorem RowF.cap {F : Fx} {T : TypeId} {v : Value} {xs : List Value} (h : RowF F T v xs) : xs.length ≤ scap v := by
  rcases h with ⟨h1, h2⟩ | ⟨g, cap, cur, h1, h2, h3, h4, h5⟩
  · subst h1 h2; exact Nat.zero_le _
  · subst h1; exact h4
/-- a list that grew, laid down. -/
theorem rowF_seal {lo p n : Nat} {F : Fx} {T : TypeId} {v : Value} {vs xs : List Value} {W : World} (h : Grow lo F p (v :: vs) W) (ho : W.ownsRow lo T 1 v n xs) : ∃ F', F.le F' ∧ Grow lo F' p vs W ∧ RowF F' T v xs := by
  obtain ⟨hl, ho⟩ := ho
  rcases ho with ⟨h1, h2⟩ | ⟨g, cap, cur, h1, h2, h3, h4, h5, h6, h7⟩
  · subst h1 h2
    exact ⟨F, Fx.le.refl _, h.drop, .inl ⟨rfl, by simpa using hl⟩⟩
  · subst h1
    rw [Nat.mul_one] at hl h7
    refine ⟨F.set g (.cells cur T (0, 0)), Fx.le_set _ ?_, h.seal rfl h3, .inr ⟨g, cap, cur, by rw [hl], Fx.set_same _ _ _, by rw [hl]; exact h7, by omega, h5⟩⟩
    exact (h.off _ List.mem_cons_self g rfl).1
/-- a table that lies for good: its three cells. -/
structure TabF (F : Fx) (t : Tb) (cv rv : Value) : Prop where
  cols : RowF F 9 cv (textsV t.cols)
  rows : ∃ es, RowF F 32 rv es ∧ es.length = t.rows.length ∧ ∀ (k : Nat) (r : List Int) (u : Value), t.rows[k]? = some r → es[k]? = some u → RowF F 3 u (intsV r)
theorem TabF.mono {F F' : Fx} (hF : F.le F') {t : Tb} {cv rv : Value} (h : TabF F t cv rv) : TabF F' t cv rv := by
  obtain ⟨h1, es, h2, h3, h4⟩ := h
  exact ⟨h1.mono hF, es, h2.mono hF, h3, fun k r u e1 e2 => (h4 k r u e1 e2).mono hF⟩
inductive TabsF (F : Fx) : List Tb → List Value → Prop
  | nil : TabsF F [] []
  | snoc {l : List Tb} {D : List Value} (t : Tb) (cv rv : Value) : TabsF F l D → TabF F t cv rv → TabsF F (l ++ [t]) (D ++ [.string t.name, cv, rv])
theorem TabsF.mono {F F' : Fx} (hF : F.le F') {l : List Tb} {D : List Value} (h : TabsF F l D) : TabsF F' l D := by
  induction h with
  | nil => exact .nil
  | snoc t cv rv _ ht ih => exact .snoc t cv rv ih (ht.mono hF)
theorem TabsF.len {F : Fx} {l : List Tb} {D : List Value} (h : TabsF F l D) : D.length = l.length * 3 := by
  induction h with
  | nil => rfl
  | snoc t cv rv _ ht ih => simp; omega
theorem TabsF.at {F : Fx} {l : List Tb} {D : List Value} (h : TabsF F l D) : ∀ (j : Nat) (t : Tb), l[j]? = some t → ∃ cv rv, TabF F t cv rv ∧ D[j * 3]? = some (.string t.name) ∧ D[j * 3 + 1]? = some cv ∧ D[j * 3 + 2]? = some rv := by
  induction h with
  | nil => intro j t e; simp at e
  | @snoc l D u cv rv hl ht ih =>
    intro j t e
    have hD := hl.len
    rcases Nat.lt_trichotomy j l.length with hj | hj | hj
    · rw [List.getElem?_append_left hj] at e
      obtain ⟨cv', rv', h1, h2, h3, h4⟩ := ih j t e
      exact ⟨cv', rv', h1, by rw [List.getElem?_append_left (by omega)]; exact h2, by rw [List.getElem?_append_left (by omega)]; exact h3, by rw [List.getElem?_append_left (by omega)]; exact h4⟩
    · subst hj
      rw [List.getElem?_append_right (Nat.le_refl _), Nat.sub_self] at e
      simp at e
      subst e
      refine ⟨cv, rv, ht, ?_, ?_, ?_⟩
      · rw [← hD, List.getElem?_append_right (Nat.le_refl _), Nat.sub_self]; rfl
      · rw [← hD, List.getElem?_append_right (by omega), Nat.add_sub_cancel_left]; rfl
      · rw [← hD, List.getElem?_append_right (by omega), Nat.add_sub_cancel_left]; rfl
    · rw [List.getElem?_eq_none (by simp; omega)] at e
      cases e
theorem TabF.tbV {F : Fx} {t : Tb} {cv rv : Value} (h : TabF F t cv rv) {W : World} (hF : ∀ b o, F b = some o → W.heap[b]? = some o) : TbV W [.string t.name, cv, rv] t := by
  obtain ⟨h1, es, h2, h3, h4⟩ := h
  exact ⟨cv, rv, rfl, h1.rowAt hF, by simpa using h1.cap, es, h2.rowAt hF, h3, fun k r u e1 e2 => (h4 k r u e1 e2).rowAt hF⟩
/-- all tables, as they lie for good. -/
structure Tabs (F : Fx) (g : Nat) (l : List Tb) (D : List Value) : Prop where
  all : F g = some (.cells D.toArray 44 (0, 0))
  tabs : TabsF F l D
theorem Tabs.tabsAt {F : Fx} {g : Nat} {l : List Tb} {D : List Value} (h : Tabs F g l D) {W : World} (hF : ∀ b o, F b = some o → W.heap[b]? = some o) (hm : l.length ≤ maxLen) : TabsAt W (.slice (some ⟨g, 0, none⟩) l.length l.length) l := by
  refine ⟨_, _, rfl, hm, Nat.le_refl _, fun hp => ⟨g, 0, rfl, lt_size (hF _ _ h.all), fun j t e => ?_⟩⟩
  obtain ⟨cv, rv, h1, h2, h3, h4⟩ := h.tabs.at j t e
  have hc := (blk (hF _ _ h.all)).1
  refine ⟨cv, rv, h1.tbV hF, ?_, ?_, ?_⟩
  · rw [Nat.zero_add, hc]; simpa using h2
  · rw [Nat.zero_add, hc]; simpa using h3
  · rw [Nat.zero_add, hc]; simpa using h4
theorem nameB_size {s : ByteArray} (h : nameB s.data.toList = true) : s.size ≤ 8 := by
  unfold nameB at h
  simp only [Bool.and_eq_true, decide_eq_true_eq] at h
  have : s.data.toList.length = s.size := by rw [Array.length_toList]; rfl
  omega
structure Small (t : Tb) : Prop where
  name : t.name.size ≤ 8
  cols : ∀ c ∈ t.cols, c.size ≤ 8
  ncols : t.cols.length ≤ 6
  nrows : t.rows.length ≤ 200
  rows : ∀ r ∈ t.rows, r.length = t.cols.length
theorem p6_small {t : Tb} {ahead : List Tb} (h : p6 t ahead = 0) : Small t := by
  unfold p6 at h
  split at h
  · cases h
  rename_i h1
  split at h
  · cases h
  rename_i h2
  split at h
  · cases h
  split at h
  · cases h
  rename_i h4
  simp only [Bool.or_eq_true, Bool.not_eq_true', not_or, Bool.not_eq_false, Bool.not_eq_true] at h1 h2 h4
  simp only [decide_eq_false_iff_not] at h2
  refine ⟨nameB_size h1.1, fun c hc => ?_, by omega, by omega, fun r hr => ?_⟩
  · have := List.any_eq_false.1 h1.2 c hc
    simp only [Bool.not_eq_true', Bool.not_eq_false] at this
    exact nameB_size this
  · have := List.any_eq_false.1 h4 r hr
    simp only [decide_eq_true_eq, Decidable.not_not] at this
    exact this
theorem p6from_small {l pre : List Tb} (h : p6from pre l = 0) : ∀ t ∈ l, Small t := by
  induction l generalizing pre with
  | nil => intro t ht; cases ht
  | cons u r ih =>
    intro t ht
    rw [p6from] at h
    split at h
    · rename_i h0
      rcases List.mem_cons.1 ht with rfl | ht
      · exact p6_small h0
      · exact ih h t ht
    · rename_i h0
      exact absurd h h0
theorem p6all_small {l : List Tb} (h : p6all l = 0) : l.length ≤ 4 ∧ ∀ t ∈ l, Small t := by
  unfold p6all at h
  split at h
  · cases h
  · rename_i h4
    exact ⟨by omega, p6from_small h⟩
end Go.Proofs.YtfkeddkfegaeiaaGreatDoor
