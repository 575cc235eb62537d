/-
  Part 46.
-/
import Derived.Test.YtfkeddkfegaeiaaGreatDoorRcPlCj
import Derived.Test.YtfkeddkfegaeiaaGreatDoorRcPlCs
namespace Go.Proofs.YtfkeddkfegaeiaaGreatDoor
open Go.RowKit
/-- what meaning leaves. -/
def MeanW (a : Nat → Addr) (w : World) (tb0 tof0 tc0 : Nat) (T0 : List Tb) (x : WithX) (y : SelX) (e : Ending) (w' : World) : Prop := Below w.heap.size w w' ∧ ∃ wb gb tb tc f1 f2 fm cur cv G X, e = .returned (.tuple #[.pointer (some ⟨wb, 0, none⟩), .nilIface]) ∧ w'.heap[wb]? = some (.cells #[.pointer (some ⟨gb, 0, none⟩), .pointer (some ⟨fm, 2, none⟩)] 288 (0, 0)) ∧
  w'.heap[gb]? = some (.cells #[.slice (some ⟨tb, 0, none⟩) (T0.length + 1) tc, .pointer (some ⟨f1, 2, none⟩), .pointer (some ⟨f2, 2, none⟩)] 292 (0, 0)) ∧ gb ≠ tb ∧ wb ≠ tb ∧ G tb = none ∧ GrowAt w w' tb tc T0 (newT x) cur cv (.slice none 0 0) ∧ Fits w G w' ∧
  SelM w G ⟨w, a, f1, tb0, tof0, tc0, T0, fun b => b == wb, true⟩ (foldS T0 x.first.srcs).ss (foldS T0 x.first.srcs).wd (fnsX T0 x.first) (tnsX T0 x.first) ∧
  SelM w G ⟨w, a, f2, tb, 0, tc, T0 ++ [newT x], X, true⟩ (foldS (T0 ++ [newT x]) x.second.srcs).ss (foldS (T0 ++ [newT x]) x.second.srcs).wd (fnsX (T0 ++ [newT x]) x.second) (tnsX (T0 ++ [newT x]) x.second) ∧
  SelM w G ⟨w, a, fm, tb, 0, tc, T0 ++ [newT x], X, false⟩ (foldS (T0 ++ [newT x]) y.srcs).ss (foldS (T0 ++ [newT x]) y.srcs).wd (fnsX (T0 ++ [newT x]) y) (tnsX (T0 ++ [newT x]) y)
set_option maxRecDepth 100000 in
set_option maxHeartbeats 4000000 in
theorem meaning_with (a : Nat → Addr) (w : World) (hE : EnvX a w.heap.size w) (q lo : Nat) (qp : Int) (vw vm : Value) (hq : w.heap[q]? = some (.cells #[.int .i64 qp, vw, vm] 180 (0, 0)))
    (tb0 tof0 tc0 : Nat) (T0 : List Tb) (hT0 : TabsAt w (.slice (some ⟨tb0, tof0, none⟩) T0.length tc0) T0) (h0 : 0 < T0.length) (hf9 : T0.length < 1000) (hc6 : ∀ t ∈ T0, t.cols.length ≤ 6) (x : WithX) (hw : WithOk w lo vw x) (hx : WithFine T0 x) (y : SelX) (hm : SelOk w lo vm y) (hy : SelFine (T0 ++ [newT x]) y) :
    Calls Tryz.prog 81 #[.pointer (some ⟨q, 0, none⟩), .slice (some ⟨tb0, tof0, none⟩) T0.length tc0] w fun e w' => MeanW a w tb0 tof0 tc0 T0 x y e w' := by
  obtain ⟨b, vi, vs, vt, es, us, rfl, hb, hs, hi, hil, hsp, hone, ht, htl, hex, e1, e2, e3, -⟩ := sel_open hm hy
  obtain ⟨bw, vc, vf, vg, rfl, hrest⟩ := id hw
  clear hrest
  obtain ⟨W, hW⟩ : ∃ W, W = w.alloc (.cells #[.pointer none, .pointer none] 288) := ⟨_, rfl⟩
  have hbW : Below w.heap.size w W := by rw [hW]; exact (Below.refl _ _).alloc (Nat.le_refl _) _
  have hwb : W.heap[w.heap.size]? = some (.cells #[.pointer none, .pointer none] 288 (0, 0)) := by rw [hW]; exact heap_last rfl
  have HWM := hide (withMeaning_ok a w hE (Fx.set (fun _ => none) w.heap.size (.cells #[.pointer none, .pointer none] 288 (0, 0))) W (fun b => b == w.heap.size) hbW (fun b o e => by
    by_cases hk : b = w.heap.size
    · subst hk
      rw [Fx.set_same] at e
      injection e with e
      subst e
      exact ⟨Nat.le_refl _, hwb⟩
    · rw [Fx.set_other _ _ hk] at e
      cases e) (fun b hb => by
    obtain rfl : b = w.heap.size := by simpa using hb
    exact ⟨_, Fx.set_same _ _ _⟩) tb0 tof0 tc0 T0 hT0 h0 hf9 hc6 lo _ x hw hx)
  have HE := hide hE
  have HB := hide hb
  have HS := hide hs
  have HI := hide hi
  have HSP := hide hsp
  have HO := hide hone
  have HTS := hide ht
  have HX := hide hex
  have HC6 := hide hc6
  have HFX := hide hx
  have HE1 := hide e1
  have HE2 := hide e2
  have HE3 := hide e3
  have i1 := hy.i0
  have i2 := hy.i6
  have i3 := hy.t9
  have i4 := hy.s0
  have i5 := hy.s3
  obtain ⟨kq, -⟩ := blk ((hbW.block q (lt_of_heap hq)).trans hq)
  have q1 : W.cell? ⟨q, 1, none⟩ = some (.pointer (some ⟨bw, 0, none⟩)) := kq 1
  have zq : q < W.heap.size := Nat.lt_of_lt_of_le (lt_of_heap hq) hbW.size
  have HQ := hide hq
  have HW := hide hW
  have HBW := hide hbW
  obtain ⟨kq0, -⟩ := blk hq
  have q10 : w.cell? ⟨q, 1, none⟩ = some (.pointer (some ⟨bw, 0, none⟩)) := kq0 1
  have zq0 := lt_of_heap hq
  clear hE hb hs hi hsp hone ht hex hc6 hx hy e1 e2 e3 hq kq hW hwb hw hm hT0 hbW kq0
  go_enter Tryz.func81, Tryz.ntmps81
  go_wp2_with fail
  rw [← unhide HW]
  refine (unhide HWM).mono ?_
  rintro e W1 ⟨hold1, gb, tb, tc, f1, f2, F1, rfl, hle1, hF1, hXt, hXg, hgt, hFg, ⟨cur, cv, ot, hFt, hgrow⟩, hsel1, hsel2⟩
  have hwb1 := (hF1 _ _ (hle1 _ _ (Fx.set_same _ _ _))).2
  have hF1w := hle1 _ _ (Fx.set_same _ _ _)
  obtain ⟨kw, fw⟩ := blk hwb1
  have w0' : W1.cell? ⟨w.heap.size, 0, none⟩ = some (.pointer none) := kw 0
  have wf0 : W1.frozen? ⟨w.heap.size, 0, none⟩ = false := fw 0
  obtain ⟨kg, -⟩ := blk (hF1 _ _ hFg).2
  have g0 : W1.cell? ⟨gb, 0, none⟩ = some (.slice (some ⟨tb, 0, none⟩) (T0.length + 1) tc) := kg 0
  have zg := lt_size (hF1 _ _ hFg).2
  have zw := lt_of_heap hwb1
  have zt := lt_size (hF1 _ _ hFt).2
  obtain ⟨kq, -⟩ := blk ((hold1.block q zq0).trans (unhide HQ))
  have q2 : W1.cell? ⟨q, 2, none⟩ = some (.pointer (some ⟨b, 0, none⟩)) := kq 2
  have zq1 : q < W1.heap.size := Nat.lt_of_lt_of_le zq0 hold1.size
  have hgw : gb ≠ w.heap.size := fun e => by rw [e] at hXg; simp at hXg
  have htw : tb ≠ w.heap.size := fun e => by rw [e] at hXt; simp at hXt
  obtain ⟨W3, hW3⟩ : ∃ W3, W3 = (W1.setCell ⟨w.heap.size, 0, none⟩ (.pointer (some ⟨gb, 0, none⟩))).alloc (.cells #[.slice (some ⟨tb, 0, none⟩) (T0.length + 1) tc, .bool false, .slice none 0 0, .int .i64 0, .slice none 0 0, .slice none 0 0, .nilIface] 299) := ⟨_, rfl⟩
  have hz3 : W3.heap.size = W1.heap.size + 1 := by rw [hW3]; simp [World.setCell]
  have hk3 : ∀ k, k < W1.heap.size → k ≠ w.heap.size → W3.heap[k]? = W1.heap[k]? := fun k hk hne => by
    rw [hW3, Below.heap_alloc _ _ _ (by simpa [World.setCell] using hk), Below.heap_setCell _ _ _ _ hne]
  have hw3 : W3.heap[w.heap.size]? = some (.cells #[.pointer (some ⟨gb, 0, none⟩), .pointer none] 288 (0, 0)) := by
    rw [hW3, Below.heap_alloc _ _ _ (by simpa [World.setCell] using zw), heap_set hwb1]
    rfl
  have hbx3 : W3.heap[W1.heap.size]? = some (.cells #[.slice (some ⟨tb, 0, none⟩) (T0.length + 1) tc, .bool false, .slice none 0 0, .int .i64 0, .slice none 0 0, .slice none 0 0, .nilIface] 299 (0, 0)) := by
    rw [hW3]
    exact heap_last (by simp [World.setCell])
  have hold3 : Below w.heap.size w W3 := by
    rw [hW3]
    exact (hold1.setCell (Nat.le_refl _) _).alloc (by simpa [World.setCell] using hold1.size) _
  obtain ⟨F2, hF2⟩ : ∃ F2, F2 = F1.set w.heap.size (.cells #[.pointer (some ⟨gb, 0, none⟩), .pointer none] 288 (0, 0)) := ⟨_, rfl⟩
  have h12 : ∀ k, k ≠ w.heap.size → F2 k = F1 k := fun k hk => by rw [hF2]; exact Fx.set_other _ _ hk
  have hF2f : ∀ k o, F2 k = some o → w.heap.size ≤ k ∧ W3.heap[k]? = some o := fun k o e => by
    by_cases hk : k = w.heap.size
    · subst hk
      rw [hF2, Fx.set_same] at e
      injection e with e
      subst e
      exact ⟨Nat.le_refl _, hw3⟩
    · rw [h12 k hk] at e
      obtain ⟨h1, h2⟩ := hF1 k o e
      exact ⟨h1, (hk3 k (lt_size h2) hk).trans h2⟩
  have HGROW : Hid (∀ W2, Fits w (F2.off fun b => b == w.heap.size) W2 → GrowAt w W2 tb tc T0 (newT x) cur cv (.slice none 0 0)) := fun W2 h2 => hgrow W2 ⟨h2.old, fun k o e => h2.new k o (by
    unfold Fx.off at e ⊢
    split at e
    · cases e
    · rename_i hk
      rw [if_neg hk, h12 k (fun e => by rw [e] at hk; simp at hk)]
      exact e)⟩
  have HF2w : Hid (F2 w.heap.size = some (.cells #[.pointer (some ⟨gb, 0, none⟩), .pointer none] 288 (0, 0))) := by show F2 _ = _; rw [hF2, Fx.set_same]
  have HF2t : Hid (F2 tb = some ot) := by show F2 tb = _; rw [h12 tb htw]; exact hFt
  have HF2g : Hid (F2 gb = some (.cells #[.slice (some ⟨tb, 0, none⟩) (T0.length + 1) tc, .pointer (some ⟨f1, 2, none⟩), .pointer (some ⟨f2, 2, none⟩)] 292 (0, 0))) := by show F2 gb = _; rw [h12 gb hgw]; exact hFg
  have h12o : (F1.off fun b => (b == w.heap.size) || b == tb).le (F2.off fun b => (b == w.heap.size) || b == tb) := fun k o e => by
    unfold Fx.off at e ⊢
    split at e
    · cases e
    · rename_i hk
      rw [if_neg hk, h12 k (fun e => by rw [e] at hk; simp at hk)]
      exact e
  have HSEL1 := hide (hsel1.mono h12o)
  have HSEL2 := hide (hsel2.mono h12o)
  have hn2 : F2 W1.heap.size = none := by
    cases e : F2 W1.heap.size with
    | none => rfl
    | some o =>
      rw [h12 _ (by omega)] at e
      have := lt_size (hF1 _ _ e).2
      omega
  have hTl : (T0 ++ [newT x]).length = T0.length + 1 := by simp
  have HFS : Hid (FS ⟨w, a, W1.heap.size, tb, 0, tc, T0 ++ [newT x], fun b => (b == w.heap.size) || b == tb, false⟩ F2 W3 (.slice none 0 0) (.slice none 0 0) (.slice none 0 0) .nilIface 0 [] none) := by
    refine ⟨(unhide HE).keep hold3, hold3, ⟨hF2f, hn2, by simp [hz3], fun v hv k e => ?_, ?_⟩, ?_, rfl, fun W' hW' => ?_, World.ownsRow_nil _ _ _ _, by simp, fun s hs => by simp at hs, ⟨by simp, fun s hs => by simp at hs, fun t ht => ?_⟩, fun k e => ?_, hold1.size⟩
    · simp only [List.mem_cons, List.mem_nil_iff, or_false, or_self] at hv
      subst hv
      simp [Value.ownBlock] at e
    · refine .cons (fun v hv => ?_) (.cons (fun v hv => ?_) (.cons (fun v hv => by cases hv) .nil)) <;> exact Dis.nilL _ _ _
    · show W3.heap[W1.heap.size]? = some (.cells #[.slice (some ⟨tb, 0, none⟩) (T0 ++ [newT x]).length tc, .bool false, .slice none 0 0, .int .i64 0, .slice none 0 0, .slice none 0 0, .nilIface] 299 (0, 0))
      rw [hTl]
      exact hbx3
    · exact ((unhide HGROW) W' ⟨hW'.old, fun k o e => hW'.new k o (Fx.off_le _ _ _ _ e)⟩).tabs hW'.old (by simp [newT])
    · rcases List.mem_append.1 ht with h | h
      · exact (unhide HC6) t h
      · obtain rfl : t = newT x := by simpa using h
        have := (unhide HFX).c6
        simpa [newT] using this
    · simp only [Bool.or_eq_true, beq_iff_eq] at e
      rw [hz3]
      rcases e with rfl | rfl <;> omega
  have HW3 := hide hW3
  have hz1 := hold1.size
  clear hold1 hle1 hF1 hXt hXg hFg hFt hgrow hsel1 hsel2 hwb1 hF1w kw fw kg kq hW3 hk3 hw3 hbx3 hold3 hF2 h12 hF2f h12o hn2
  go_wp2_with fail
  rw [← unhide HW3]
  refine (fselection_any _ _ _ b lo _ vi vs vt y.srcs (unhide HFS) (unhide HB) (unhide HS) i4 i5 es (unhide HI) (by omega) (by omega) (eoV (T0 ++ [newT x])) (foV (T0 ++ [newT x])) ((unhide HSP) _ rfl rfl) (unhide HO) us (unhide HTS) (by omega) (unhide HX)).mono ?_
  intro e w2 hdone
  obtain ⟨F', sv, iv, tv, ev, ivs, tvs, hle, hft, he⟩ := hdone
  simp only at hft he
  rw [unhide HE3] at hft he
  clear HFS HB HS HI HSP HO HTS HX HC6 HE HWM
  have hxw : w2.heap[w.heap.size]? = some (.cells #[.pointer (some ⟨gb, 0, none⟩), .pointer none] 288 (0, 0)) := (hft.st.grow.fits _ _ (hle _ _ (unhide HF2w))).2
  have hold := hft.st.old
  simp only at hold
  obtain rfl : ev = .nilIface := hft.st.err
  simp only [Option.isNone_none, if_true] at he
  subst he
  have hl1 : ivs.length = es.length := by have := (hft.its rfl).1; simpa using this
  have hl2 : tvs.length = us.length := by have := (hft.tst rfl).1; simpa using this
  obtain ⟨F3, hle2, hF3, hsel⟩ := hft.seal (fun k hk => by
    simp only [Bool.or_eq_true, beq_iff_eq] at hk
    rcases hk with rfl | rfl
    · exact ⟨_, hle _ _ (unhide HF2w)⟩
    · exact ⟨_, hle _ _ (unhide HF2t)⟩) (by unfold maxLen; omega) (by unfold maxLen; omega)
  rw [unhide HE1, unhide HE2] at hsel
  have HF3 := hide hF3
  have HSEL := hide hsel
  have HXW := hide hxw
  have HOLD := hide hold
  have HLE := hide (hle.trans hle2)
  obtain ⟨kx, fx⟩ := blk hxw
  have kx1 : w2.cell? ⟨w.heap.size, 1, none⟩ = some (.pointer none) := kx 1
  have fx1 : w2.frozen? ⟨w.heap.size, 1, none⟩ = false := fx 1
  have zx := lt_of_heap hxw
  clear hft hle hle2 hF3 hsel hxw hold kx fx hl1 hl2
  go_wp2
  go_ret2
  have hoff := Fx.off_mono (unhide HLE) (fun b => (b == w.heap.size) || b == tb)
  have hbl : Below w.heap.size w (w2.setCell ⟨w.heap.size, 1, none⟩ (.pointer (some ⟨W1.heap.size, 2, none⟩))) := (unhide HOLD).setCell (Nat.le_refl _) _
  have hkb : ∀ k o, F3 k = some o → k ≠ w.heap.size → (w2.setCell ⟨w.heap.size, 1, none⟩ (.pointer (some ⟨W1.heap.size, 2, none⟩))).heap[k]? = some o := fun k o e hk => by
    rw [Below.heap_setCell _ _ _ _ hk]
    exact ((unhide HF3) k o e).2
  refine ⟨hbl, w.heap.size, gb, tb, tc, f1, f2, W1.heap.size, cur, cv, F3.off (fun b => (b == w.heap.size) || b == tb), _, rfl, ?_, hkb _ _ ((unhide HLE) _ _ (unhide HF2g)) hgw, hgt, htw.symm, ?_, ?_, ⟨hbl, fun k o e => ?_⟩, (unhide HSEL1).mono hoff, (unhide HSEL2).mono hoff, unhide HSEL⟩
  · rw [heap_set (unhide HXW)]
    rfl
  · unfold Fx.off
    rw [if_pos (by simp)]
  · refine (unhide HGROW) _ ⟨hbl, fun k o e => ?_⟩
    have hk : k ≠ w.heap.size := fun e' => by
      rw [e'] at e
      simp [Fx.off] at e
    exact hkb _ _ ((unhide HLE) _ _ (Fx.off_le _ _ _ _ e)) hk
  · have hk : k ≠ w.heap.size := fun e' => by
      rw [e'] at e
      simp [Fx.off] at e
    exact hkb _ _ (Fx.off_le _ _ _ _ e) hk
end Go.Proofs.YtfkeddkfegaeiaaGreatDoor
namespace Go.Proofs.YtfkeddkfegaeiaaGreatDoor
open Go.RowKit
/-- how many rows a select puts together over tables; those that are chosen; what it gives. -/
def selN (Tm T : List Tb) (x : SelX) : Nat := mulN (rowsOf T (foldS Tm x.srcs).ss)
def selC (Tm T : List Tb) (x : SelX) : Rws' := chosenN T (foldS Tm x.srcs).ss (tnsX Tm x) (selN Tm T x)
def selL (Tm T : List Tb) (x : SelX) : Rws' := turned (selC Tm T x).length ((fnsX Tm x).map fun f => f (selC Tm T x))
theorem selL_len (Tm T : List Tb) (x : SelX) : (selL Tm T x).length ≤ selN Tm T x := by
  unfold selL turned
  rw [List.length_map, List.length_range]
  exact chosenN_le _ _ _ _
theorem selL_wide (Tm T : List Tb) (x : SelX) : Wide x.items.length (selL Tm T x) := fun r hr => by
  unfold selL turned at hr
  obtain ⟨i, -, rfl⟩ := List.mem_map.1 hr
  simp [fnsX]
def withT (x : WithX) (m : Rws') : Tb := ⟨x.name.text, x.cols.map (·.text), m⟩
/-- the rows that 'with' comes to. -/
def withR (T0 : List Tb) (x : WithX) : Option Rws' := growR (selN T0 T0 x.first) (selL T0 T0 x.first) (fun m => selN (T0 ++ [newT x]) (T0 ++ [withT x m]) x.second) (fun m => selL (T0 ++ [newT x]) (T0 ++ [withT x m]) x.second)
/-- the rows of the whole. -/
def wholeR (T0 : List Tb) (x : WithX) (y : SelX) : Option Rws' := match withR T0 x with
  | none => none
  | some m => if 4000 < selN (T0 ++ [newT x]) (T0 ++ [withT x m]) y then none else some (selL (T0 ++ [newT x]) (T0 ++ [withT x m]) y)
theorem firsts_congr {T T' : List Tb} : ∀ (ss : List Sr) (k : Nat), (∀ s, colsOf T' s = colsOf T s) → Firsts T k ss → Firsts T' k ss
  | [], _, _, _ => trivial
  | s :: ss, k, h, hf => ⟨hf.1, by rw [h s]; exact firsts_congr ss _ h hf.2⟩
theorem wdS_congr {T T' : List Tb} (ss : List Sr) (h : ∀ s, colsOf T' s = colsOf T s) : wdS T' ss = wdS T ss := by
  unfold wdS
  rw [show (fun s => (colsOf T' s).length) = fun s => (colsOf T s).length from funext fun s => by rw [h s]]
theorem cols_with (T0 : List Tb) (x : WithX) (m : Rws') (s : Sr) : colsOf (T0 ++ [withT x m]) s = colsOf (T0 ++ [newT x]) s := by
  unfold colsOf
  rw [List.getD_eq_getElem?_getD, List.getD_eq_getElem?_getD]
  by_cases h : s.tab < T0.length
  · rw [List.getElem?_append_left h, List.getElem?_append_left h]
  · rw [List.getElem?_append_right (by omega), List.getElem?_append_right (by omega)]
    cases s.tab - T0.length with
    | zero => rfl
    | succ n => rfl
/-- a select that was found gives its rows. -/
theorem sel_rows (w0 : World) (G : Fx) (c : Fc) (Tm : List Tb) (x : SelX) (hf : SelFine Tm x) (h : SelM w0 G c (foldS Tm x.srcs).ss (foldS Tm x.srcs).wd (fnsX Tm x) (tnsX Tm x)) (hcT : c.T = Tm) (w : World) (hw : Fits w0 G w) (B : Nat) (hE : EnvX c.a B w) (T : List Tb) (tc : Nat) (hT : TabsAt w (.slice (some ⟨c.tb, c.tof, none⟩) T.length tc) T)
    (hlen : T.length = Tm.length) (hcols : ∀ s, colsOf T s = colsOf Tm s) (h2 : ∀ t ∈ T, t.rows.length ≤ 200) (hsh : ∀ t ∈ T, ∀ r ∈ t.rows, r.length = t.cols.length) :
    Calls Tryz.prog 126 #[.pointer (some ⟨c.fb, 2, none⟩)] w fun e w' => RwDone c.a w (selN Tm T x) (selL Tm T x) e w' := by
  have her : (foldS Tm x.srcs).er = none := fold_none (fun e => eoV Tm e (foldS Tm x.srcs).ss) x.items _ (fold_none (fun u => tsErr Tm (foldS Tm x.srcs).ss u) x.tests _ hf.er)
  have hfi := firsts_foldS Tm x.srcs
  exact srows_any w0 G c _ _ _ _ h (by rw [foldS_full her]; exact hf.s0) (by unfold fnsX; rw [List.length_map]; exact hf.i6) w hw B hE T tc hT ⟨by rw [hlen, hcT], h2, hsh, firsts_congr _ _ hcols hfi.1, by rw [wdS_congr _ hcols]; exact hfi.2⟩ _ rfl _ rfl
theorem Fits.kp {w0 W W' : World} {G : Fx} {r : Nat} (h : Fits w0 G W) (hk : Kp r W W') (hr : w0.heap.size ≤ r) (hG : G r = none) : Fits w0 G W' :=
  ⟨h.old.trans (hk.below hr h.old.size), fun b o e => (hk.block b (lt_size (h.new b o e)) (fun e' => by rw [e', hG] at e; cases e)).trans (h.new b o e)⟩
theorem tabs_shape {T0 : List Tb} {x : WithX} {m : Rws'} (h2 : ∀ t ∈ T0, t.rows.length ≤ 200) (hm : m.length ≤ 200) : ∀ t ∈ T0 ++ [withT x m], t.rows.length ≤ 200 := fun t ht => by
  rcases List.mem_append.1 ht with h | h
  · exact h2 t h
  · obtain rfl : t = withT x m := by simpa using h
    exact hm
theorem tabs_wide {T0 : List Tb} {x : WithX} {m : Rws'} (h2 : ∀ t ∈ T0, ∀ r ∈ t.rows, r.length = t.cols.length) (hm : Wide (x.cols.map (·.text)).length m) : ∀ t ∈ T0 ++ [withT x m], ∀ r ∈ t.rows, r.length = t.cols.length := fun t ht => by
  rcases List.mem_append.1 ht with h | h
  · exact h2 t h
  · obtain rfl : t = withT x m := by simpa using h
    exact hm
/-- what whole.rows leaves. -/
def WhDone (a : Nat → Addr) (w : World) (res : Option Rws') (e : Ending) (w' : World) : Prop := Below w.heap.size w w' ∧ (res = none → e = .returned (.tuple #[.slice none 0 0, errV a eMany])) ∧
  ∀ l, res = some l → ∃ g, e = .returned (.tuple #[.slice (some ⟨g, 0, none⟩) l.length l.length, .nilIface]) ∧ w.heap.size ≤ g ∧ RowsB w' g 32 l.length l
theorem wholeR_none {T0 : List Tb} {x : WithX} {y : SelX} (h : withR T0 x = none) : wholeR T0 x y = none := by unfold wholeR; rw [h]
theorem wholeR_some {T0 : List Tb} {x : WithX} {y : SelX} {m : Rws'} (h : withR T0 x = some m) : wholeR T0 x y = if 4000 < selN (T0 ++ [newT x]) (T0 ++ [withT x m]) y then none else some (selL (T0 ++ [newT x]) (T0 ++ [withT x m]) y) := by unfold wholeR; rw [h]
set_option maxRecDepth 100000 in
set_option maxHeartbeats 4000000 in
theorem wrows_with (a : Nat → Addr) (w w1 : World) (B : Nat) (hE : EnvX a B w1) (hB : B ≤ w.heap.size) (tb0 tof0 tc0 : Nat) (T0 : List Tb) (hT0 : TabsAt w (.slice (some ⟨tb0, tof0, none⟩) T0.length tc0) T0) (h200 : ∀ t ∈ T0, t.rows.length ≤ 200) (hsh : ∀ t ∈ T0, ∀ r ∈ t.rows, r.length = t.cols.length)
    (x : WithX) (hx : WithFine T0 x) (y : SelX) (hy : SelFine (T0 ++ [newT x]) y) (wb gb tb tc f1 f2 fm : Nat) (cur : Array Value) (cv : Value) (G : Fx) (X : Nat → Bool)
    (hwb : w1.heap[wb]? = some (.cells #[.pointer (some ⟨gb, 0, none⟩), .pointer (some ⟨fm, 2, none⟩)] 288 (0, 0))) (hgb : w1.heap[gb]? = some (.cells #[.slice (some ⟨tb, 0, none⟩) (T0.length + 1) tc, .pointer (some ⟨f1, 2, none⟩), .pointer (some ⟨f2, 2, none⟩)] 292 (0, 0))) (hgt : gb ≠ tb) (hwt : wb ≠ tb) (hG : G tb = none) (hgr : GrowAt w w1 tb tc T0 (newT x) cur cv (.slice none 0 0)) (hfit : Fits w G w1)
    (h1 : SelM w G ⟨w, a, f1, tb0, tof0, tc0, T0, fun b => b == wb, true⟩ (foldS T0 x.first.srcs).ss (foldS T0 x.first.srcs).wd (fnsX T0 x.first) (tnsX T0 x.first))
    (h2 : SelM w G ⟨w, a, f2, tb, 0, tc, T0 ++ [newT x], X, true⟩ (foldS (T0 ++ [newT x]) x.second.srcs).ss (foldS (T0 ++ [newT x]) x.second.srcs).wd (fnsX (T0 ++ [newT x]) x.second) (tnsX (T0 ++ [newT x]) x.second))
    (h3 : SelM w G ⟨w, a, fm, tb, 0, tc, T0 ++ [newT x], X, false⟩ (foldS (T0 ++ [newT x]) y.srcs).ss (foldS (T0 ++ [newT x]) y.srcs).wd (fnsX (T0 ++ [newT x]) y) (tnsX (T0 ++ [newT x]) y)) :
    Calls Tryz.prog 82 #[.pointer (some ⟨wb, 0, none⟩)] w1 fun e w' => WhDone a w (wholeR T0 x y) e w' := by
  have htl := hgr.low
  have hold := hfit.old
  have e1 := hx.w1
  have e2 := hx.w2
  have hcl : (x.cols.map (·.text)).length = x.cols.length := List.length_map _
  have hlen : ∀ m, (T0 ++ [withT x m]).length = (T0 ++ [newT x]).length := fun m => by simp
  have hEk : ∀ W, Kp tb w1 W → EnvX a B W := fun W hk => hE.keep (hk.below (by omega) hE.env.size)
  have HM : Hid (∀ W m cur cv rv, Kp tb w1 W → GrowAt w W tb tc T0 (withT x m) cur cv rv → m.length ≤ 200 → Wide (x.cols.map (·.text)).length m → Calls Tryz.prog 126 #[.pointer (some ⟨fm, 2, none⟩)] W fun e w' => RwDone a W (selN (T0 ++ [newT x]) (T0 ++ [withT x m]) y) (selL (T0 ++ [newT x]) (T0 ++ [withT x m]) y) e w') := fun W m cur cv rv hk hGW hm hwm =>
    sel_rows w G _ (T0 ++ [newT x]) y hy h3 rfl W (hfit.kp hk htl hG) B (hEk W hk) (T0 ++ [withT x m]) tc (hGW.tabs (hold.trans (hk.below htl hold.size)) (by simp only [withT]; unfold maxLen; omega)) (hlen m) (cols_with T0 x m) (tabs_shape h200 hm) (tabs_wide hsh hwm)
  have HGR : Hid (Calls Tryz.prog 125 #[.pointer (some ⟨gb, 0, none⟩)] w1 fun e w' => GrowDone a w w1 tb tc T0 x.name.text (x.cols.map (·.text)) (withR T0 x) e w') :=
    grow_any a w w1 B hE gb tb tc f1 f2 (by omega) hgt T0 x.name.text (List.map (fun c : Tk => c.text) x.cols) cur cv _ hgb hgr _ _ (fun h => Nat.le_trans (selL_len _ _ _) h) (by rw [hcl, ← e1]; exact selL_wide _ _ _)
      (sel_rows w G _ T0 x.first hx.f1 h1 rfl w1 hfit B hE T0 tc0 (hT0.keep hold) rfl (fun _ => rfl) h200 hsh) _ _ (fun m h => Nat.le_trans (selL_len _ _ _) h) (fun m _ => by rw [hcl, ← e2]; exact selL_wide _ _ _)
      (fun W m cur cv rv hk hGW hm hwm => sel_rows w G _ (T0 ++ [newT x]) x.second hx.f2 h2 rfl W (hfit.kp hk htl hG) B (hEk W hk) (T0 ++ [withT x m]) tc (hGW.tabs (hold.trans (hk.below htl hold.size)) (by show m.length ≤ _; unfold maxLen; omega)) (hlen m) (cols_with T0 x m) (tabs_shape h200 hm) (tabs_wide hsh hwm))
  obtain ⟨res, hres⟩ : ∃ res, res = wholeR T0 x y := ⟨_, rfl⟩
  rw [← hres]
  have HRES := hide hres
  have HOLD := hide hold
  obtain ⟨kx, -⟩ := blk hwb
  have k0 : w1.cell? ⟨wb, 0, none⟩ = some (.pointer (some ⟨gb, 0, none⟩)) := kx 0
  have k1 : w1.cell? ⟨wb, 1, none⟩ = some (.pointer (some ⟨fm, 2, none⟩)) := kx 1
  have K1 := hide k1
  have zx := lt_of_heap hwb
  have zg := lt_of_heap hgb
  have zt := lt_of_heap hgr.blk
  clear hE hT0 h200 hsh hx hy hwb hgb hgr hfit h1 h2 h3 hold e1 e2 hcl hlen hEk hres kx k1 hG
  go_enter Tryz.func82, Tryz.ntmps82
  go_wp2_with fail
  refine (unhide HGR).mono ?_
  rintro e w2 ⟨hk2, hno, hok⟩
  have HK2 := hide hk2
  have HB2 : Hid (Below w.heap.size w w2) := (unhide HOLD).trans (hk2.below htl (unhide HOLD).size)
  cases hr : withR T0 x with
  | none =>
    obtain rfl := hno hr
    have HR : Hid (res = none) := by show res = none; rw [unhide HRES]; exact wholeR_none hr
    clear hno hok hr hk2
    go_wp2
    go_ret2
    exact ⟨unhide HB2, fun _ => rfl, fun l e => by rw [unhide HR] at e; cases e⟩
  | some m =>
    obtain ⟨rfl, hos, hml, hwd, cur2, cv2, rv2, hg2⟩ := hok _ hr
    have HMM := hide ((unhide HM) w2 m cur2 cv2 rv2 hk2 hg2 hml hwd)
    have hR := wholeR_some (y := y) hr
    rw [← unhide HRES] at hR
    generalize selN (T0 ++ [newT x]) (T0 ++ [withT x m]) y = N at *
    generalize selL (T0 ++ [newT x]) (T0 ++ [withT x m]) y = l at *
    have HR := hide hR
    have k1 : w2.cell? ⟨wb, 1, none⟩ = some (.pointer (some ⟨fm, 2, none⟩)) := (hk2.cell (p := ⟨wb, 1, none⟩) zx hwt).trans (unhide K1)
    have zx2 : wb < w2.heap.size := Nat.lt_of_lt_of_le zx hk2.size
    have hz2 := (unhide HB2).size
    clear hno hok hr hk2 hos hwd hg2 hR
    go_wp2_with fail
    refine (unhide HMM).mono ?_
    rintro e w3 ⟨hb3, hr3⟩
    have HB3 : Hid (Below w.heap.size w w3) := (unhide HB2).trans (hb3.mono hz2)
    clear hb3 HMM
    by_cases h4 : 4000 < N
    · rw [if_pos h4] at hr3
      subst hr3
      have HR2 : Hid (res = none) := by show res = none; rw [unhide HR, if_pos h4]
      go_wp2
      go_ret2
      exact ⟨unhide HB3, fun _ => rfl, fun l e => by rw [unhide HR2] at e; cases e⟩
    · rw [if_neg h4] at hr3
      obtain ⟨g, rfl, hg, hrb⟩ := hr3
      have HR2 : Hid (res = some l) := by show res = some l; rw [unhide HR, if_neg h4]
      have HRB := hide hrb
      clear hrb
      go_wp2
      go_ret2
      refine ⟨unhide HB3, fun e => (by rw [unhide HR2] at e; cases e), fun l' e => ?_⟩
      rw [unhide HR2] at e
      injection e with e
      subst e
      exact ⟨g, rfl, by omega, unhide HRB⟩
end Go.Proofs.YtfkeddkfegaeiaaGreatDoor
