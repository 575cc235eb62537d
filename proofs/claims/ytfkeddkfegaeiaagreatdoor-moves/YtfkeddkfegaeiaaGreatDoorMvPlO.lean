/-
  Part 25.
-/
import Derived.Test.YtfkeddkfegaeiaaGreatDoorMvPlK
import Derived.Deep.AppendLies
import Derived.Deep.RegionHeld3
import Derived.Deep.DeepCutAuto
namespace Go.Proofs.YtfkeddkfegaeiaaGreatDoor
open Go.RowKit
/-- the finder behind a step that may have made its rows grow. -/
def FG (c : Fc) (F : Fx) (iv tv : Value) (f : Fs) (W' : World) : Prop := ∃ F' sv' ev', F.le F' ∧ FS c F' W' sv' iv tv ev' f.wd f.ss f.er
set_option maxRecDepth 100000 in
set_option maxHeartbeats 1000000 in
theorem fsource_none (c : Fc) (F : Fx) (W : World) (sv iv tv ev : Value) (wd : Nat) (ss : List Sr) (er : Option (Nat × Nat)) (h : FS c F W sv iv tv ev wd ss er) (p : Int) (t u : Tk) (hno : tabNo c.T t.text = none) :
    Calls Tryz.prog 196 #[.pointer (some ⟨c.fb, 0, none⟩), .agg #[.int .i64 p, .int .i64 t.place, .string t.text, .int .i64 u.place, .string u.text]] W fun e W' => e = .returned (.tuple #[]) ∧ FG c F iv tv ⟨ss, wd, orE er (some (t.place, eTable))⟩ W' := by
  have HH0 := hide h
  have HT := hide (h.alloc (.cells #[.int .i64 p, .int .i64 t.place, .string t.text, .int .i64 u.place, .string u.text] 260))
  clear h
  go_enter Tryz.func196, Tryz.ntmps196
  go_upto_region 1 with (fail)
  have HBL : Hid ((W.alloc (.cells #[.int .i64 p, .int .i64 t.place, .string t.text, .int .i64 u.place, .string u.text] 260)).heap[W.heap.size]? = some (.cells #[.int .i64 p, .int .i64 t.place, .string t.text, .int .i64 u.place, .string u.text] 260 (0, 0))) := heap_last rfl
  generalize W.alloc (.cells #[.int .i64 p, .int .i64 t.place, .string t.text, .int .i64 u.place, .string u.text] 260) = W1 at *
  generalize W.heap.size = b at *
  obtain ⟨kb, fb⟩ := blk (unhide HBL)
  have zb := lt_of_heap (unhide HBL)
  obtain ⟨j, fz, z⟩ := (unhide HT).facts
  have j0 : W1.cell? ⟨c.fb, 0, none⟩ = some (.slice (some ⟨c.tb, c.tof, none⟩) c.T.length c.tc) := j 0
  have hg := (unhide HT).env.cell 5 (by decide)
  clear j
  go_cut [4] (fun v W2 => v = .pointer none ∧ W2 = W1.drew)
  case first =>
    go_region_with (go_at_call 242; refine (tableNamed_any c.tb c.tof c.tc c.T t.text _ (by exact (unhide HT).drew.tabs _ (unhide HT).drew.fits)).mono ?_; rintro e w2 ⟨rfl, hw2⟩; obtain rfl := hw2.symm; rw [hno]; simp only [Option.map_none])
    all_goals
      go_wp2_with fail
      go_meet
      case rel => exact ⟨rfl, rfl⟩
  case rest =>
    obtain ⟨rfl, rfl⟩ := hcut
    go_wp2_with fail
    refine (Wrong_at _ _ _ _).mono ?_
    rintro e w2 ⟨q, rfl, hq1, hq2, hat, hb2⟩
    have HT2 := hide (told_at (unhide HT).drew hq1 hat hb2)
    clear hat hb2
    go_wp2_with fail
    refine (ffail_any c _ _ sv iv tv ev wd ss er (by exact (unhide HT2).2.2) q t.place eTable (Fx.set_same _ _ _)).mono ?_
    rintro e w3 ⟨rfl, hk3, ev3, h3⟩
    have HE := hide h3
    clear hk3 h3
    go_wp2
    refine bodyPost_ret (results_none rfl _ _ _) rfl ?_
    exact ⟨rfl, _, _, _, (unhide HT2).1.le, unhide HE⟩
theorem infoSrc : (Tryz.prog.info? 423).map (fun i => (i.zero, i.size, i.bytes)) = some (some (.agg #[.string ⟨#[]⟩, .pointer none, .int .i64 0]), 3, 32) := by kernel_rfl
theorem one3s (a : ByteArray) (ad : Option Addr) (n : Int) : ∀ u ∈ [Value.string a, Value.pointer ad, Value.int .i64 n], u.oneCell' = true := by
  intro u hu
  simp only [List.mem_cons, List.mem_nil_iff, or_false] at hu
  rcases hu with rfl | rfl | rfl <;> rfl
/-- the sources' row grew, and the box holds it. -/
theorem FS.grew {c : Fc} {F : Fx} {W W9 : World} {sv iv tv ev : Value} {wd : Nat} {ss : List Sr} {er : Option (Nat × Nat)} {g cap : Nat} {s : Sr} (h : FS c F W sv iv tv ev wd ss er) (hg : W.grownBy W9 sv.ownBlock) (hat : sv.ownBlock = some g ∨ g = W.heap.size) (hlt : g < W9.heap.size)
    (ho : W9.ownsRow c.w0.heap.size 423 3 (.slice (some ⟨g, 0, none⟩) (ss.length + 1) cap) (ss.length + 1) (srP c (ss ++ [s]))) (h3 : ss.length < 3) (hs : s.tab < c.T.length) (hf : s.first = wd) :
    FS c F ((W9.setCell ⟨c.fb, 2, none⟩ (.slice (some ⟨g, 0, none⟩) (ss.length + 1) cap)).setCell ⟨c.fb, 3, none⟩ (.int .i64 ((wd + (colsOf c.T s).length : Nat) : Int))) (.slice (some ⟨g, 0, none⟩) (ss.length + 1) cap) iv tv ev (wd + (colsOf c.T s).length) (ss ++ [s]) er := by
  have hb9 : Below c.w0.heap.size W W9 := (Below.refl _ _).grown hg h.old.size (fun k e => (h.grow.off sv List.mem_cons_self k e).2.2.1)
  have hG := Grow.app (vs1 := []) (vs2 := [iv, tv]) (v' := .slice (some ⟨g, 0, none⟩) (ss.length + 1) cap) h.grow h.old.size hg rfl (hat.imp id (fun e => by rw [e]; exact Nat.le_refl _)) hlt
  have hgf : g ≠ c.fb := (hG.off (.slice (some ⟨g, 0, none⟩) (ss.length + 1) cap) List.mem_cons_self g rfl).2.1
  have hbx := (hg.block c.fb h.grow.ltp (fun e => (h.grow.off sv List.mem_cons_self _ e.symm).2.1 rfl)).trans h.box
  have hcl : (colsOf c.T s).length ≤ 6 := by
    unfold colsOf
    rw [List.getD_eq_getElem?_getD, List.getElem?_eq_getElem hs]
    exact h.wide.2.2 _ (List.getElem_mem hs)
  have hw := h.wide
  refine ⟨(h.env.keep hb9).keep (((Below.refl _ _).setCell h.low _).setCell h.low _), ((h.old.trans hb9).setCell h.low _).setCell h.low _, (hG.box _ _).box _ _, ?_, h.err, h.tabs, ?_, ?_, ?_, ?_, fun b e => ?_, h.low⟩
  · rw [heap_set (heap_set hbx _)]; rfl
  · rw [List.length_append]
    exact owns_set (owns_set ho (by simp [Value.ownBlock]; exact hgf)) (by simp [Value.ownBlock]; exact hgf)
  · rw [List.length_append, List.length_cons, List.length_nil]; omega
  · intro x hx
    rcases List.mem_append.1 hx with hx | hx
    · exact h.ok x hx
    · rw [List.mem_singleton.1 hx]; exact hs
  · refine ⟨by rw [List.length_append, List.length_cons, List.length_nil]; omega, fun x hx => ?_, hw.2.2⟩
    rcases List.mem_append.1 hx with hx | hx
    · have := hw.2.1 x hx; omega
    · rw [List.mem_singleton.1 hx, hf]; omega
  · have := h.fbX b e
    have := hg.size
    simp [World.setCell]
    omega
end Go.Proofs.YtfkeddkfegaeiaaGreatDoor
namespace Go.Proofs.YtfkeddkfegaeiaaGreatDoor
open Go.RowKit
theorem FS.grewFits {c : Fc} {F : Fx} {W W9 : World} {sv iv tv ev : Value} {wd : Nat} {ss : List Sr} {er : Option (Nat × Nat)} {g m cap : Nat} (h : FS c F W sv iv tv ev wd ss er) (hg : W.grownBy W9 sv.ownBlock) (hat : sv.ownBlock = some g ∨ g = W.heap.size) (hlt : g < W9.heap.size) :
    Fits c.w0 F (W9.setCell ⟨c.fb, 2, none⟩ (.slice (some ⟨g, 0, none⟩) m cap)) ∧ (W9.setCell ⟨c.fb, 2, none⟩ (.slice (some ⟨g, 0, none⟩) m cap)).heap[c.fb]? = some (.cells #[c.tabs, .bool c.iw, .slice (some ⟨g, 0, none⟩) m cap, .int .i64 wd, iv, tv, ev] 299 (0, 0)) := by
  have hb9 : Below c.w0.heap.size W W9 := (Below.refl _ _).grown hg h.old.size (fun k e => (h.grow.off sv List.mem_cons_self k e).2.2.1)
  have hG := Grow.app (vs1 := []) (vs2 := [iv, tv]) (v' := .slice (some ⟨g, 0, none⟩) m cap) h.grow h.old.size hg rfl (hat.imp id (fun e => by rw [e]; exact Nat.le_refl _)) hlt
  have hbx := (hg.block c.fb h.grow.ltp (fun e => (h.grow.off sv List.mem_cons_self _ e.symm).2.1 rfl)).trans h.box
  refine ⟨⟨(h.old.trans hb9).setCell h.low _, fun b o e => ((hG.box 2 (.slice (some ⟨g, 0, none⟩) m cap)).fits b o e).2⟩, ?_⟩
  rw [heap_set hbx]; rfl
set_option maxRecDepth 100000 in
set_option maxHeartbeats 2000000 in
theorem fsource_put (c : Fc) (F : Fx) (W : World) (sv iv tv ev : Value) (wd : Nat) (ss : List Sr) (er en : Option (Nat × Nat)) (h : FS c F W sv iv tv ev wd ss er) (h3 : ss.length < 3) (p : Int) (t u : Tk) (k : Nat) (hno : tabNo c.T t.text = some k) (hk : k < c.T.length) (n : Nat) (hn : (c.T.getD k tb0).cols.length = n) (hen : Hid (en = orE er (if (spoken ss u.text).isSome then some (u.place, eTwice) else none))) :
    Calls Tryz.prog 196 #[.pointer (some ⟨c.fb, 0, none⟩), .agg #[.int .i64 p, .int .i64 t.place, .string t.text, .int .i64 u.place, .string u.text]] W fun e W' => e = .returned (.tuple #[]) ∧ FG c F iv tv ⟨ss ++ [⟨u.text, k, wd⟩], wd + n, en⟩ W' := by
  obtain ⟨is, hi, hinf⟩ := Option.map_eq_some_iff.1 infoSrc
  simp only [Prod.mk.injEq] at hinf
  obtain ⟨hz0, hz1, hz2⟩ := hinf
  have HI := hide hi
  have HZ0 := hide hz0
  have HZ1 := hide hz1
  have HZ2 := hide hz2
  clear hi hz0 hz1 hz2
  have HN := hide hn
  have hn6 : n ≤ 6 := by
    rw [← hn, List.getD_eq_getElem?_getD, List.getElem?_eq_getElem hk]
    exact h.wide.2.2 _ (List.getElem_mem hk)
  have hwd18 : wd ≤ 18 := by have := h.wide.1; omega
  have hbf : W.heap.size ≠ c.fb := by have := h.grow.ltp; omega
  have HBO : Hid (sv.ownBlock ≠ some W.heap.size) := fun e => by have := (h.grow.off sv List.mem_cons_self _ e).2.2.2; omega
  have HT := hide (h.alloc (.cells #[.int .i64 p, .int .i64 t.place, .string t.text, .int .i64 u.place, .string u.text] 260))
  clear h hn
  go_enter Tryz.func196, Tryz.ntmps196
  go_upto_region 1 with (fail)
  have HBL : Hid ((W.alloc (.cells #[.int .i64 p, .int .i64 t.place, .string t.text, .int .i64 u.place, .string u.text] 260)).heap[W.heap.size]? = some (.cells #[.int .i64 p, .int .i64 t.place, .string t.text, .int .i64 u.place, .string u.text] 260 (0, 0))) := heap_last rfl
  generalize W.alloc (.cells #[.int .i64 p, .int .i64 t.place, .string t.text, .int .i64 u.place, .string u.text] 260) = W1 at *
  generalize W.heap.size = b at *
  obtain ⟨kb, fb⟩ := blk (unhide HBL)
  have zb := lt_of_heap (unhide HBL)
  obtain ⟨j, fz, z⟩ := (unhide HT).facts
  have j0 : W1.cell? ⟨c.fb, 0, none⟩ = some (.slice (some ⟨c.tb, c.tof, none⟩) c.T.length c.tc) := j 0
  clear j
  go_cut [4] (fun v W2 => v = .pointer (some ⟨c.tb, c.tof + k * 3, none⟩) ∧ W2 = W1.drew)
  case first =>
    go_region_with (go_at_call 242; refine (tableNamed_any c.tb c.tof c.tc c.T t.text _ (by exact (unhide HT).drew.tabs _ (unhide HT).drew.fits)).mono ?_; rintro e w2 ⟨rfl, hw2⟩; obtain rfl := hw2.symm; rw [hno]; simp only [Option.map_some])
    all_goals
      go_wp2_with fail
      go_meet
      case rel => exact ⟨rfl, rfl⟩
  case rest =>
    obtain ⟨rfl, rfl⟩ := hcut
    go_wp2_with fail
    refine (spokenOf_any c F _ sv iv tv ev wd ss er (by exact (unhide HT).drew) u.text).mono ?_
    rintro e w2 ⟨⟨ad, rfl, hm⟩, hw2⟩
    obtain rfl := hw2.symm
    have HM := hide hm
    clear hm
    go_upto_if 27 with (fail)
    go_cut [] (fun W2 => ∃ F2 ev2, F.le F2 ∧ FS c F2 W2 sv iv tv ev2 wd ss en ∧ W2.heap[b]? = some (.cells #[.int .i64 p, .int .i64 t.place, .string t.text, .int .i64 u.place, .string u.text] 260 (0, 0)))
    case first =>
      cases hs : spoken ss u.text with
      | none =>
        obtain rfl := (unhide HM).no hs
        have HEN : Hid (en = er) := by rw [unhide hen, hs]; exact orE_none er
        clear hs
        go_wp2_with fail
        go_meet
        case rel => exact ⟨F, ev, Fx.le.refl F, by rw [unhide HEN]; exact (unhide HT).drew, unhide HBL⟩
      | some x =>
        obtain ⟨-, g, q, rfl, -, -, -, -⟩ := (unhide HM).yes hs
        have HEN : Hid (en = orE er (some (u.place, eTwice))) := by rw [unhide hen, hs]; rfl
        have hg := (unhide HT).env.cell 7 (by decide)
        clear hs
        go_wp2_with fail
        refine (Wrong_at _ _ _ _).mono ?_
        rintro e w2 ⟨q2, rfl, hq1, hq2, hat, hb2⟩
        have HT2 := hide (told_at (unhide HT).drew hq1 hat hb2)
        have HBL2 := hide ((hb2.block b zb).trans (unhide HBL))
        clear hat hb2
        go_wp2_with fail
        refine (ffail_any c _ _ sv iv tv ev wd ss er (by exact (unhide HT2).2.2) q2 u.place eTwice (Fx.set_same _ _ _)).mono ?_
        rintro e w3 ⟨rfl, hk3, ev3, h3'⟩
        have HE := hide h3'
        have HBL3 := hide ((hk3.block b (lt_of_heap (unhide HBL2)) hbf).trans (unhide HBL2))
        clear hk3 h3'
        go_wp2_with fail
        go_meet
        case rel => exact ⟨_, _, (unhide HT2).1.le, by rw [unhide HEN]; exact unhide HE, unhide HBL3⟩
    case rest =>
      obtain ⟨F2, ev2, hle, hfs, hbl⟩ := hcut
      have HLE := hide hle
      have HF2 := hide hfs
      have HBL2 := hide hbl
      obtain ⟨ads, caps, hsv⟩ := owns_shape hfs.srcs
      subst hsv
      obtain ⟨jj, q4, q3⟩ := hfs.facts
      have q1 : wc.cell? ⟨c.fb, 2, none⟩ = some (.slice ads ss.length caps) := jj 2
      have q2 : wc.cell? ⟨c.fb, 3, none⟩ = some (.int .i64 wd) := jj 3
      obtain ⟨kb2, fb2⟩ := blk hbl
      have kb4 : wc.cell? ⟨b, 4, none⟩ = some (.string u.text) := kb2 4
      have zb2 := lt_of_heap hbl
      have hsz := hfs.old.size
      have nb1 : b ≠ wc.heap.size := by omega
      have nf1 : c.fb ≠ wc.heap.size := by omega
      have HFB : Hid ((Value.slice ads ss.length caps).ownBlock ≠ some c.fb) := fun e => (hfs.grow.off (.slice ads ss.length caps) List.mem_cons_self _ e).2.1 rfl
      clear hle hfs hbl kb fb j0 HT HBL HM jj kb2
      go_upto_region 6 with (fail)
      go_cut [] (fun W3 => ∃ g cap W9, W3 = W9.setCell ⟨c.fb, 2, none⟩ (.slice (some ⟨g, 0, none⟩) (ss.length + 1) cap) ∧ (wc.drew.alloc (.cells #[.string u.text, .pointer (some ⟨c.tb, c.tof + k * 3, none⟩), .int .i64 wd] 423)).grownBy W9 (Value.slice ads ss.length caps).ownBlock ∧ ((Value.slice ads ss.length caps).ownBlock = some g ∨ g = (wc.drew.alloc (.cells #[.string u.text, .pointer (some ⟨c.tb, c.tof + k * 3, none⟩), .int .i64 wd] 423)).heap.size) ∧ g < W9.heap.size ∧ W9.ownsRow c.w0.heap.size 423 3 (.slice (some ⟨g, 0, none⟩) (ss.length + 1) cap) (ss.length + 1) (srP c ss ++ [.string u.text, .pointer (some ⟨c.tb, c.tof + k * 3, none⟩), .int .i64 wd]))
      case first =>
        go_region_law (first
          | (refine step_append_lies _ rfl (.tmp 40) (.tmp 51) 293 rfl c.w0.heap.size 423 is (.agg #[.string ⟨#[]⟩, .pointer none, .int .i64 0]) 3 32 Tryz.underlying293 (unhide HI) (unhide HZ0) (unhide HZ1) (unhide HZ2) rfl (by decide) (.slice ads ss.length caps) ss.length (srP c ss) (by simp [Act.eval]) ((unhide HF2).drew.srcs.alloc _) ⟨wc.heap.size, 0, none⟩ 1 1 [.string u.text, .pointer (some ⟨c.tb, c.tof + k * 3, none⟩), .int .i64 wd] (by simp [Act.eval]) rfl (World.news_of_block (cs := #[.string u.text, .pointer (some ⟨c.tb, c.tof + k * 3, none⟩), .int .i64 wd]) (heap_last rfl)) (one3s _ _ _) (by decide) (by unfold maxLen; omega) (by omega) (by simp; omega) _ rfl ?_; intro g9 cap9 w9 ho hg hat hlt9; have s1 : w9.cell? ⟨c.fb, 2, none⟩ = some (.slice ads ss.length caps) := (hg.cell_far ⟨c.fb, 2, none⟩ (by simp; omega) (fun e => (unhide HFB) e.symm)).trans ((World.cell?_alloc_lt _ _ ⟨c.fb, 2, none⟩ (by exact q3)).trans q1); have s2 : w9.cell? ⟨c.fb, 3, none⟩ = some (.int .i64 wd) := (hg.cell_far ⟨c.fb, 3, none⟩ (by simp; omega) (fun e => (unhide HFB) e.symm)).trans ((World.cell?_alloc_lt _ _ ⟨c.fb, 3, none⟩ (by exact q3)).trans q2); have s3 : w9.cell? ⟨b, 4, none⟩ = some (.string u.text) := (hg.cell_far ⟨b, 4, none⟩ (by simp; omega) (fun e => (unhide HBO) e.symm)).trans ((World.cell?_alloc_lt _ _ ⟨b, 4, none⟩ (by exact zb2)).trans kb4); have f9 : w9.frozen? ⟨c.fb, 2, none⟩ = false := (hg.frozen_far ⟨c.fb, 2, none⟩ (by simp; omega) (fun e => (unhide HFB) e.symm)).trans ((World.frozen?_of_block (w := wc) (by exact Below.heap_alloc _ _ _ (by exact q3))).trans (q4 _)))
          | fail)
        all_goals
          go_wp2_with fail
          go_meet
          case rel => exact ⟨_, _, _, rfl, hg, hat, hlt9, ho⟩
      case rest =>
        obtain ⟨g, cap, W9, rfl, hg, hat, hlt9, ho⟩ := hcut
        have HFW := hide ((unhide HF2).drew.alloc (.cells #[.string u.text, .pointer (some ⟨c.tb, c.tof + k * 3, none⟩), .int .i64 wd] 423))
        have HGR := hide (FS.grew (s := ⟨u.text, k, wd⟩) (unhide HFW) hg hat hlt9 (by rw [← srP_snoc]; exact ho) h3 hk rfl)
        obtain ⟨hfit, hbx⟩ := FS.grewFits (m := ss.length + 1) (cap := cap) (unhide HFW) hg hat hlt9
        obtain ⟨ztb, cv, rv, -, qq2, -, hrow, -⟩ := ((unhide HFW).tabs _ hfit).tab hk
        obtain ⟨adc, capc, rfl, -, -⟩ := hrow
        rw [List.length_map, unhide HN] at qq2
        obtain ⟨kx, fx⟩ := blk hbx
        have kx3 : (W9.setCell ⟨c.fb, 2, none⟩ (.slice (some ⟨g, 0, none⟩) (ss.length + 1) cap)).cell? ⟨c.fb, 3, none⟩ = some (.int .i64 wd) := kx 3
        have zx := lt_of_heap hbx
        clear hg hat hlt9 ho hfit hbx kx q1 q2 q3 q4 kb4 fb2 nb1 nf1 zb2 HFW
        generalize W9.setCell ⟨c.fb, 2, none⟩ (.slice (some ⟨g, 0, none⟩) (ss.length + 1) cap) = W10 at *
        go_upto_region 7 with (fail)
        go_region
        all_goals
          go_wp2
          go_end0
          have h9 := unhide HGR
          have e9 : (colsOf c.T ⟨u.text, k, wd⟩).length = n := unhide HN
          have e8 : ((wd + n : Nat) : Int) = (wd : Int) + n := by omega
          rw [e9, e8] at h9
          exact ⟨rfl, F2, .slice (some ⟨g, 0, none⟩) (ss.length + 1) cap, ev2, unhide HLE, h9.drew⟩
end Go.Proofs.YtfkeddkfegaeiaaGreatDoor
namespace Go.Proofs.YtfkeddkfegaeiaaGreatDoor
open Go.RowKit
theorem tabNo_lt {T : List Tb} {s : ByteArray} {k : Nat} (h : tabNo T s = some k) : k < T.length := by
  unfold tabNo at h
  rw [List.findIdx?_eq_some_iff_getElem] at h
  exact h.1
theorem fsource_any (c : Fc) (F : Fx) (W : World) (sv iv tv ev : Value) (wd : Nat) (ss : List Sr) (er : Option (Nat × Nat)) (h : FS c F W sv iv tv ev wd ss er) (h3 : ss.length < 3) (p : Int) (t u : Tk) :
    Calls Tryz.prog 196 #[.pointer (some ⟨c.fb, 0, none⟩), .agg #[.int .i64 p, .int .i64 t.place, .string t.text, .int .i64 u.place, .string u.text]] W fun e W' => e = .returned (.tuple #[]) ∧ FG c F iv tv (srcStep c.T ⟨ss, wd, er⟩ (t, u)) W' := by
  cases hk : tabNo c.T t.text with
  | none =>
    have e : srcStep c.T ⟨ss, wd, er⟩ (t, u) = ⟨ss, wd, orE er (some (t.place, eTable))⟩ := by unfold srcStep; rw [hk]
    rw [e]
    exact fsource_none c F W sv iv tv ev wd ss er h p t u hk
  | some k =>
    have e : srcStep c.T ⟨ss, wd, er⟩ (t, u) = ⟨ss ++ [⟨u.text, k, wd⟩], wd + (c.T.getD k tb0).cols.length, orE er (if (spoken ss u.text).isSome then some (u.place, eTwice) else none)⟩ := by unfold srcStep; rw [hk]
    rw [e]
    exact fsource_put c F W sv iv tv ev wd ss er _ h h3 p t u k hk (tabNo_lt hk) _ rfl rfl
theorem srcStep_len (T : List Tb) (f : Fs) (x : Tk × Tk) : (srcStep T f x).ss.length ≤ f.ss.length + 1 := by
  unfold srcStep
  split
  · simp
  · simp
end Go.Proofs.YtfkeddkfegaeiaaGreatDoor
namespace Go.Proofs.YtfkeddkfegaeiaaGreatDoor
open Go.RowKit
theorem owns_kpf {W W' : World} {r base n : Nat} {e : TypeId} {size : Nat} {v : Value} {xs : List Value} (h : W.ownsRow base e size v n xs) (hk : Kp r W W') (hv : v.ownBlock ≠ some r) : W'.ownsRow base e size v n xs :=
  h.kept (row := some r) ⟨hk.os, hk.tape, hk.output, hk.size, fun k hk' hne => hk.block k hk' (fun e' => hne (by rw [e']))⟩ (.inr hv)
/-- the items' row grew, and the box holds it. -/
theorem FS.grewI {c : Fc} {F : Fx} {W W9 : World} {sv iv tv ev : Value} {wd n : Nat} {ss : List Sr} {er : Option (Nat × Nat)} {g cap : Nat} (h : FS c F W sv iv tv ev wd ss er) (hg : W.grownBy W9 iv.ownBlock) (hat : iv.ownBlock = some g ∨ g = W.heap.size) (hlt : g < W9.heap.size) :
    FS c F (W9.setCell ⟨c.fb, 4, none⟩ (.slice (some ⟨g, 0, none⟩) n cap)) sv (.slice (some ⟨g, 0, none⟩) n cap) tv ev wd ss er := by
  have hin : iv ∈ [sv, iv, tv] := by simp
  have hb9 : Below c.w0.heap.size W W9 := (Below.refl _ _).grown hg h.old.size (fun k e => (h.grow.off iv hin k e).2.2.1)
  have hG := Grow.app (vs1 := [sv]) (vs2 := [tv]) (v' := .slice (some ⟨g, 0, none⟩) n cap) h.grow h.old.size hg rfl (hat.imp id (fun e => by rw [e]; exact Nat.le_refl _)) hlt
  have hbx := (hg.block c.fb h.grow.ltp (fun e => (h.grow.off iv hin _ e.symm).2.1 rfl)).trans h.box
  have hd : Dis iv sv := by
    have := h.grow.dis
    simp only [List.pairwise_cons, List.mem_cons, List.mem_nil_iff, or_false, forall_eq_or_imp, forall_eq] at this
    exact this.1.1.symm
  refine ⟨(h.env.keep hb9).keep ((Below.refl _ _).setCell h.low _), (h.old.trans hb9).setCell h.low _, hG.box _ _, ?_, h.err, h.tabs, ?_, h.few, h.ok, h.wide, fun b e => ?_, h.low⟩
  · rw [heap_set hbx]; rfl
  · exact owns_set (owns_other h.srcs hd hg) (fun e => (h.grow.off sv List.mem_cons_self _ e).2.1 rfl)
  · have := h.fbX b e
    have := hg.size
    simp [World.setCell]
    omega
/-- the tests' row grew, and the box holds it. -/
theorem FS.grewT {c : Fc} {F : Fx} {W W9 : World} {sv iv tv ev : Value} {wd n : Nat} {ss : List Sr} {er : Option (Nat × Nat)} {g cap : Nat} (h : FS c F W sv iv tv ev wd ss er) (hg : W.grownBy W9 tv.ownBlock) (hat : tv.ownBlock = some g ∨ g = W.heap.size) (hlt : g < W9.heap.size) :
    FS c F (W9.setCell ⟨c.fb, 5, none⟩ (.slice (some ⟨g, 0, none⟩) n cap)) sv iv (.slice (some ⟨g, 0, none⟩) n cap) ev wd ss er := by
  have hin : tv ∈ [sv, iv, tv] := by simp
  have hb9 : Below c.w0.heap.size W W9 := (Below.refl _ _).grown hg h.old.size (fun k e => (h.grow.off tv hin k e).2.2.1)
  have hG := Grow.app (vs1 := [sv, iv]) (vs2 := []) (v' := .slice (some ⟨g, 0, none⟩) n cap) h.grow h.old.size hg rfl (hat.imp id (fun e => by rw [e]; exact Nat.le_refl _)) hlt
  have hbx := (hg.block c.fb h.grow.ltp (fun e => (h.grow.off tv hin _ e.symm).2.1 rfl)).trans h.box
  have hd : Dis tv sv := by
    have := h.grow.dis
    simp only [List.pairwise_cons, List.mem_cons, List.mem_nil_iff, or_false, forall_eq_or_imp, forall_eq] at this
    exact this.1.2.symm
  refine ⟨(h.env.keep hb9).keep ((Below.refl _ _).setCell h.low _), (h.old.trans hb9).setCell h.low _, hG.box _ _, ?_, h.err, h.tabs, ?_, h.few, h.ok, h.wide, fun b e => ?_, h.low⟩
  · rw [heap_set hbx]; rfl
  · exact owns_set (owns_other h.srcs hd hg) (fun e => (h.grow.off sv List.mem_cons_self _ e).2.1 rfl)
  · have := h.fbX b e
    have := hg.size
    simp [World.setCell]
    omega
theorem FS.dis {c : Fc} {F : Fx} {W : World} {sv iv tv ev : Value} {wd : Nat} {ss : List Sr} {er : Option (Nat × Nat)} (h : FS c F W sv iv tv ev wd ss er) : Dis sv iv ∧ Dis sv tv ∧ Dis iv tv ∧ sv.ownBlock ≠ some c.fb ∧ iv.ownBlock ≠ some c.fb ∧ tv.ownBlock ≠ some c.fb := by
  have hd := h.grow.dis
  simp only [List.pairwise_cons, List.mem_cons, List.mem_nil_iff, or_false, forall_eq_or_imp, forall_eq] at hd
  exact ⟨hd.1.1, hd.1.2, hd.2.1, fun e => (h.grow.off sv (by simp) _ e).2.1 rfl, fun e => (h.grow.off iv (by simp) _ e).2.1 rfl, fun e => (h.grow.off tv (by simp) _ e).2.1 rfl⟩
/-- the items found so far. -/
def ItsF (w0 : World) (F : Fx) (wd : Nat) (vs : List Value) (fs : List (List (List Int) → List Int)) : Prop := vs.length = fs.length ∧ ∀ (i : Nat) (v : Value) (f : List (List Int) → List Int), vs[i]? = some v → fs[i]? = some f → ∃ g a cb, v = .func (.func g) a cb ∧ ItG w0 F wd g a cb f
theorem ItsF.mono {w0 : World} {F F' : Fx} {wd : Nat} {vs : List Value} {fs : List (List (List Int) → List Int)} (h : ItsF w0 F wd vs fs) (hF : F.le F') : ItsF w0 F' wd vs fs := ⟨h.1, fun i v f e1 e2 => by
  obtain ⟨g, a, cb, h1, h2⟩ := h.2 i v f e1 e2
  exact ⟨g, a, cb, h1, h2.mono hF⟩⟩
theorem ItsF.nil (w0 : World) (F : Fx) (wd : Nat) : ItsF w0 F wd [] [] := ⟨rfl, fun i v f e => by simp at e⟩
theorem snoc_get {α : Type} {l : List α} {a x : α} {i : Nat} (h : (l ++ [a])[i]? = some x) : (i < l.length ∧ l[i]? = some x) ∨ (i = l.length ∧ x = a) := by
  rcases Nat.lt_or_ge i l.length with hi | hi
  · rw [List.getElem?_append_left hi] at h; exact Or.inl ⟨hi, h⟩
  · rw [List.getElem?_append_right hi] at h
    have hz : i - l.length = 0 := by
      rcases Nat.eq_zero_or_pos (i - l.length) with h0 | h0
      · exact h0
      · rw [List.getElem?_eq_none (by simp; omega)] at h; cases h
    rw [hz] at h
    simp at h
    exact Or.inr ⟨by omega, h.symm⟩
theorem ItsF.snoc {w0 : World} {F : Fx} {wd : Nat} {vs : List Value} {fs : List (List (List Int) → List Int)} (h : ItsF w0 F wd vs fs) {g : Nat} {a cb : Array Value} {f : List (List Int) → List Int} (hf : ItG w0 F wd g a cb f) : ItsF w0 F wd (vs ++ [.func (.func g) a cb]) (fs ++ [f]) := by
  refine ⟨by simp [h.1], fun i v f' e1 e2 => ?_⟩
  have hl := h.1
  rcases snoc_get e1 with ⟨hi, e1⟩ | ⟨hi, rfl⟩
  · rcases snoc_get e2 with ⟨_, e2⟩ | ⟨hi', _⟩
    · exact h.2 i v f' e1 e2
    · omega
  · rcases snoc_get e2 with ⟨hi', _⟩ | ⟨_, rfl⟩
    · omega
    · exact ⟨g, a, cb, rfl, hf⟩
/-- the tests found so far. -/
def TsF (w0 : World) (F : Fx) (wd : Nat) (vs : List Value) (fs : List (List Int → Bool)) : Prop := vs.length = fs.length ∧ ∀ (i : Nat) (v : Value) (f : List Int → Bool), vs[i]? = some v → fs[i]? = some f → ∃ g cb, v = .func (.func g) #[] cb ∧ TsG w0 F wd g cb f
theorem TsF.mono {w0 : World} {F F' : Fx} {wd : Nat} {vs : List Value} {fs : List (List Int → Bool)} (h : TsF w0 F wd vs fs) (hF : F.le F') : TsF w0 F' wd vs fs := ⟨h.1, fun i v f e1 e2 => by
  obtain ⟨g, cb, h1, h2⟩ := h.2 i v f e1 e2
  exact ⟨g, cb, h1, h2.mono hF⟩⟩
theorem TsF.nil (w0 : World) (F : Fx) (wd : Nat) : TsF w0 F wd [] [] := ⟨rfl, fun i v f e => by simp at e⟩
theorem TsF.snoc {w0 : World} {F : Fx} {wd : Nat} {vs : List Value} {fs : List (List Int → Bool)} (h : TsF w0 F wd vs fs) {g : Nat} {cb : Array Value} {f : List Int → Bool} (hf : TsG w0 F wd g cb f) : TsF w0 F wd (vs ++ [.func (.func g) #[] cb]) (fs ++ [f]) := by
  refine ⟨by simp [h.1], fun i v f' e1 e2 => ?_⟩
  have hl := h.1
  rcases snoc_get e1 with ⟨hi, e1⟩ | ⟨hi, rfl⟩
  · rcases snoc_get e2 with ⟨_, e2⟩ | ⟨hi', _⟩
    · exact h.2 i v f' e1 e2
    · omega
  · rcases snoc_get e2 with ⟨hi', _⟩ | ⟨_, rfl⟩
    · omega
    · exact ⟨g, cb, rfl, hf⟩
end Go.Proofs.YtfkeddkfegaeiaaGreatDoor
