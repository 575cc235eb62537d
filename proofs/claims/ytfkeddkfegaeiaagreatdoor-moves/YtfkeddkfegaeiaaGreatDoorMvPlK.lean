/-
  Part 24.
-/
import Derived.Test.YtfkeddkfegaeiaaGreatDoorMvPlI
import Derived.Deep.RegionHeld3
import Derived.OwnWalk
namespace Go.Proofs.YtfkeddkfegaeiaaGreatDoor
open Go.RowKit
set_option maxRecDepth 100000 in
set_option maxHeartbeats 2000000 in
theorem ftest_any (c : Fc) (n : Nat) (F : Fx) (W0 : World) (sv iv tv ev : Value) (wd : Nat) (ss : List Sr) (er e1 en : Option (Nat × Nat)) (h : FS c F W0 sv iv tv ev wd ss er) (p : Int) (sg : ByteArray) (x y : Value) (k m : List Nd) (hx : ExP c.w0 (fun _ => True) n x k) (hy : ExP c.w0 (fun _ => True) n y m) (he1 : Hid (e1 = orE er (exErr c.T ss k))) (hen : Hid (en = orE e1 (exErr c.T ss m))) :
    Calls Tryz.prog 198 #[.pointer (some ⟨c.fb, 0, none⟩), .agg #[.int .i64 p, x, .string sg, y]] W0 fun e W' => ∃ g cb, e = .returned (.func (.func g) #[] cb) ∧ ∃ F', FA c F W0 sv iv tv wd ss en W' F' ∧ (en = none → TsG c.w0 (F'.off c.X) wd g cb (fun r => cmpOf sg (evE (colAt c.T ss) k r) (evE (colAt c.T ss) m r))) := by
  have IH : Hid (ValSpec c n) := value_spec c n
  have HH0 := hide h
  have HX := hide hx
  have HY := hide hy
  have hsf := store_func
  have hmf : ∀ (fn : Fn) (first cap : Array Value) (w : World), (Instr.makeFunc fn first cap).run Tryz.prog w = .ok (.func fn first cap) w := fun _ _ _ _ => rfl
  obtain ⟨ui, vi, rfl⟩ := ExP.isI _ _ _ hx
  obtain ⟨uj, vj, rfl⟩ := ExP.isI _ _ _ hy
  clear h hx hy
  go_enter Tryz.func198, Tryz.ntmps198
  go_upto_region 1 with (fail)
  have HB0 : Hid (Below W0.heap.size W0 (W0.alloc (.cells #[.int .i64 p, .iface ui vi, .string sg, .iface uj vj] 263))) := (Below.refl _ _).alloc (Nat.le_refl _) _
  have HH : Hid (FS c F (W0.alloc (.cells #[.int .i64 p, .iface ui vi, .string sg, .iface uj vj] 263)) sv iv tv ev wd ss er) := (unhide HH0).alloc _
  have HBL : Hid ((W0.alloc (.cells #[.int .i64 p, .iface ui vi, .string sg, .iface uj vj] 263)).heap[W0.heap.size]? = some (.cells #[.int .i64 p, .iface ui vi, .string sg, .iface uj vj] 263 (0, 0))) := heap_last rfl
  have hbf : W0.heap.size ≠ c.fb := by have := (unhide HH0).grow.ltp; omega
  generalize W0.alloc (.cells #[.int .i64 p, .iface ui vi, .string sg, .iface uj vj] 263) = W at *
  generalize hbe : W0.heap.size = b at *
  have HBE := hide hbe
  clear hbe
  have zb := lt_of_heap (unhide HBL)
  have HKB : Hid (∀ W1, Kp c.fb W W1 → (∀ o, W1.cell? ⟨b, o, none⟩ = #[.int .i64 p, .iface ui vi, .string sg, .iface uj vj][o]?) ∧ b < W1.heap.size) := fun W1 hk => ⟨fun o => by rw [hk.cell (p := ⟨b, o, none⟩) zb hbf]; exact (blk (unhide HBL)).1 o, Nat.lt_of_lt_of_le zb hk.size⟩
  obtain ⟨kb, zb0⟩ := (unhide HKB) _ (Kp.refl _ _)
  have zb0a : b < W.heap.size + 1 := by omega
  have na0 : b ≠ W.heap.size := by omega
  have na1 : b ≠ W.heap.size + 1 := by omega
  have na2 : W.heap.size ≠ b := by omega
  have na3 : W.heap.size + 1 ≠ b := by omega
  have kq1 : W.cell? ⟨b, 1, none⟩ = some (.iface ui vi) := kb 1
  have kq3 : W.cell? ⟨b, 3, none⟩ = some (.iface uj vj) := kb 3
  go_cut [5, 6] (fun v5 v6 W1 => ∃ bx bz g g' cb cb' F1 F', v5 = .pointer (some ⟨bx, 0, none⟩) ∧ v6 = .pointer (some ⟨bz, 0, none⟩) ∧ FA c F W sv iv tv wd ss en W1 F' ∧ F'.off c.X bx = some (.cells #[.func (.func g) #[] cb] 426 (0, 0)) ∧ F'.off c.X bz = some (.cells #[.func (.func g') #[] cb'] 426 (0, 0)) ∧ F1.le (F'.off c.X) ∧ (en = none → FnG c.w0 F1 wd g cb (evE (colAt c.T ss) k) ∧ FnG c.w0 F1 wd g' cb' (evE (colAt c.T ss) m)))
  case first =>
    go_region_held3 (fun w' => w'.cell? ⟨b, 1, none⟩ = some (.iface ui vi) ∧ w'.cell? ⟨b, 3, none⟩ = some (.iface uj vj)) (go_keep) (first
      | (go_at_call 247; refine ((unhide IH) _ k F ((W.drew.alloc (.cells #[.nilFunc] 426)).alloc (.cells #[.nilFunc] 426)) sv iv tv ev wd ss er e1 (by exact unhide HX) (by exact ((unhide HH).drew.alloc _).alloc _) he1).mono ?_; clear HX; rintro e w1 ⟨g, cb, rfl, F1, hfa, hfn⟩; have HFN := hide hfn; have B0 := hide (Bx.call hfa ((Bx.new (unhide HH).drew (lo := W.heap.size) (Nat.le_refl _) (b := W.heap.size) rfl).alloc _)); have cB0 := (blk (unhide B0).at').1 0; have fB0 := (blk (unhide B0).at').2 0; have yB0 := lt_of_heap (unhide B0).at'; have B1 := hide (Bx.call hfa (Bx.new ((unhide HH).drew.alloc _) (lo := W.heap.size) (by simp) (b := W.heap.size + 1) (by simp))); have cB1 := (blk (unhide B1).at').1 0; have fB1 := (blk (unhide B1).at').2 0; have yB1 := lt_of_heap (unhide B1).at';  have HFA := hide (hfa.from (w := W) (by exact ((Below.refl _ _).drew.alloc (by simp) _).alloc (by simp) _)); obtain ⟨kb1, zb1⟩ := (unhide HKB) _ (unhide HFA).2.1; have zb1a : b < w1.heap.size + 1 := (by omega); have nb0 : b ≠ w1.heap.size := (by omega); have nb1 : b ≠ w1.heap.size + 1 := (by omega); have nb2 : w1.heap.size ≠ b := (by omega); have nb3 : w1.heap.size + 1 ≠ b := (by omega);  have kq1 : w1.cell? ⟨b, 1, none⟩ = some (.iface ui vi) := kb1 1; have kq3 : w1.cell? ⟨b, 3, none⟩ = some (.iface uj vj) := kb1 3; obtain ⟨ev1, hf1⟩ := hfa.2.2; have HF1 := hide hf1; have z1 : W.heap.size ≤ w1.heap.size := (unhide HFA).2.1.size; clear hfa hfn kb hf1)
      | (go_at_call 247; refine ((unhide IH) _ k F (W.drew.alloc (.cells #[.nilFunc] 426)) sv iv tv ev wd ss er e1 (by exact unhide HX) (by exact (unhide HH).drew.alloc _) he1).mono ?_; clear HX; rintro e w1 ⟨g, cb, rfl, F1, hfa, hfn⟩; have HFN := hide hfn; have B0 := hide (Bx.call hfa (Bx.new (unhide HH).drew (lo := W.heap.size) (Nat.le_refl _) (b := W.heap.size) rfl)); have cB0 := (blk (unhide B0).at').1 0; have fB0 := (blk (unhide B0).at').2 0; have yB0 := lt_of_heap (unhide B0).at';  have HFA := hide (hfa.from (w := W) (by exact (Below.refl _ _).drew.alloc (by simp) _)); obtain ⟨kb1, zb1⟩ := (unhide HKB) _ (unhide HFA).2.1; have zb1a : b < w1.heap.size + 1 := (by omega); have nb0 : b ≠ w1.heap.size := (by omega); have nb1 : b ≠ w1.heap.size + 1 := (by omega); have nb2 : w1.heap.size ≠ b := (by omega); have nb3 : w1.heap.size + 1 ≠ b := (by omega);  have kq1 : w1.cell? ⟨b, 1, none⟩ = some (.iface ui vi) := kb1 1; have kq3 : w1.cell? ⟨b, 3, none⟩ = some (.iface uj vj) := kb1 3; obtain ⟨ev1, hf1⟩ := hfa.2.2; have HF1 := hide hf1; have z1 : W.heap.size ≤ w1.heap.size := (unhide HFA).2.1.size; clear hfa hfn kb hf1)
      | (go_at_call 247; refine ((unhide IH) _ k F W.drew sv iv tv ev wd ss er e1 (by exact unhide HX) (by exact (unhide HH).drew) he1).mono ?_; clear HX; rintro e w1 ⟨g, cb, rfl, F1, hfa, hfn⟩; have HFN := hide hfn;  have HFA := hide (hfa.from (w := W) (by exact (Below.refl _ _).drew)); obtain ⟨kb1, zb1⟩ := (unhide HKB) _ (unhide HFA).2.1; have zb1a : b < w1.heap.size + 1 := (by omega); have nb0 : b ≠ w1.heap.size := (by omega); have nb1 : b ≠ w1.heap.size + 1 := (by omega); have nb2 : w1.heap.size ≠ b := (by omega); have nb3 : w1.heap.size + 1 ≠ b := (by omega);  have kq1 : w1.cell? ⟨b, 1, none⟩ = some (.iface ui vi) := kb1 1; have kq3 : w1.cell? ⟨b, 3, none⟩ = some (.iface uj vj) := kb1 3; obtain ⟨ev1, hf1⟩ := hfa.2.2; have HF1 := hide hf1; have z1 : W.heap.size ≤ w1.heap.size := (unhide HFA).2.1.size; clear hfa hfn kb hf1)
      | (go_at_call 247; refine ((unhide IH) _ m F1 ((w1.alloc (.cells #[.nilFunc] 426)).alloc (.cells #[.nilFunc] 426)) sv iv tv ev1 wd ss e1 en (by exact unhide HY) (by exact ((unhide HF1).alloc _).alloc _) hen).mono ?_; rintro e w2 ⟨g', cb', rfl, F2, hfa, hfn⟩; have HFN2 := hide hfn; (try (have B0q := hide (Bx.call hfa (((unhide B0).alloc _).alloc _)); have cB0q := (blk (unhide B0q).at').1 0; have fB0q := (blk (unhide B0q).at').2 0; have yB0q := lt_of_heap (unhide B0q).at'; clear cB0 fB0)); (try (have B1q := hide (Bx.call hfa (((unhide B1).alloc _).alloc _)); have cB1q := (blk (unhide B1q).at').1 0; have fB1q := (blk (unhide B1q).at').2 0; have yB1q := lt_of_heap (unhide B1q).at'; clear cB1 fB1)); have B2 := hide (Bx.call hfa ((Bx.new (unhide HF1) (lo := W.heap.size) z1 (b := w1.heap.size) rfl).alloc _)); have cB2 := (blk (unhide B2).at').1 0; have fB2 := (blk (unhide B2).at').2 0; have yB2 := lt_of_heap (unhide B2).at'; have B3 := hide (Bx.call hfa (Bx.new ((unhide HF1).alloc _) (lo := W.heap.size) (by simp; omega) (b := w1.heap.size + 1) (by simp))); have cB3 := (blk (unhide B3).at').1 0; have fB3 := (blk (unhide B3).at').2 0; have yB3 := lt_of_heap (unhide B3).at'; have HLE := hide hfa.1.le; have HFA2 := hide ((unhide HFA).trans (hfa.from (by exact ((Below.refl _ _).alloc (Nat.le_refl _) _).alloc (by simp) _))); obtain ⟨ev2, hf2⟩ := hfa.2.2; have HF2 := hide hf2; have z2 : W.heap.size ≤ w2.heap.size := (unhide HFA2).2.1.size; have kr1 : w2.cell? ⟨b, 1, none⟩ = some (.iface ui vi) := ((unhide HKB) _ (unhide HFA2).2.1).1 1; have kr3 : w2.cell? ⟨b, 3, none⟩ = some (.iface uj vj) := ((unhide HKB) _ (unhide HFA2).2.1).1 3; have zb2 : b < w2.heap.size := ((unhide HKB) _ (unhide HFA2).2.1).2; have zb2a : b < w2.heap.size + 1 := (by omega); have nc0 : b ≠ w2.heap.size := (by omega); have nc1 : b ≠ w2.heap.size + 1 := (by omega); have nc2 : w2.heap.size ≠ b := (by omega); have nc3 : w2.heap.size + 1 ≠ b := (by omega);  clear hfa hfn hf2)
      | (go_at_call 247; refine ((unhide IH) _ m F1 (w1.alloc (.cells #[.nilFunc] 426)) sv iv tv ev1 wd ss e1 en (by exact unhide HY) (by exact (unhide HF1).alloc _) hen).mono ?_; rintro e w2 ⟨g', cb', rfl, F2, hfa, hfn⟩; have HFN2 := hide hfn; (try (have B0q := hide (Bx.call hfa ((unhide B0).alloc _)); have cB0q := (blk (unhide B0q).at').1 0; have fB0q := (blk (unhide B0q).at').2 0; have yB0q := lt_of_heap (unhide B0q).at'; clear cB0 fB0)); (try (have B1q := hide (Bx.call hfa ((unhide B1).alloc _)); have cB1q := (blk (unhide B1q).at').1 0; have fB1q := (blk (unhide B1q).at').2 0; have yB1q := lt_of_heap (unhide B1q).at'; clear cB1 fB1)); have B2 := hide (Bx.call hfa (Bx.new (unhide HF1) (lo := W.heap.size) z1 (b := w1.heap.size) rfl)); have cB2 := (blk (unhide B2).at').1 0; have fB2 := (blk (unhide B2).at').2 0; have yB2 := lt_of_heap (unhide B2).at'; have HLE := hide hfa.1.le; have HFA2 := hide ((unhide HFA).trans (hfa.from (by exact (Below.refl _ _).alloc (Nat.le_refl _) _))); obtain ⟨ev2, hf2⟩ := hfa.2.2; have HF2 := hide hf2; have z2 : W.heap.size ≤ w2.heap.size := (unhide HFA2).2.1.size; have kr1 : w2.cell? ⟨b, 1, none⟩ = some (.iface ui vi) := ((unhide HKB) _ (unhide HFA2).2.1).1 1; have kr3 : w2.cell? ⟨b, 3, none⟩ = some (.iface uj vj) := ((unhide HKB) _ (unhide HFA2).2.1).1 3; have zb2 : b < w2.heap.size := ((unhide HKB) _ (unhide HFA2).2.1).2; have zb2a : b < w2.heap.size + 1 := (by omega); have nc0 : b ≠ w2.heap.size := (by omega); have nc1 : b ≠ w2.heap.size + 1 := (by omega); have nc2 : w2.heap.size ≠ b := (by omega); have nc3 : w2.heap.size + 1 ≠ b := (by omega);  clear hfa hfn hf2)
      | (go_at_call 247; refine ((unhide IH) _ m F1 w1 sv iv tv ev1 wd ss e1 en (by exact unhide HY) (by exact unhide HF1) hen).mono ?_; rintro e w2 ⟨g', cb', rfl, F2, hfa, hfn⟩; have HFN2 := hide hfn; (try (have B0q := hide (Bx.call hfa (unhide B0)); have cB0q := (blk (unhide B0q).at').1 0; have fB0q := (blk (unhide B0q).at').2 0; have yB0q := lt_of_heap (unhide B0q).at'; clear cB0 fB0)); (try (have B1q := hide (Bx.call hfa (unhide B1)); have cB1q := (blk (unhide B1q).at').1 0; have fB1q := (blk (unhide B1q).at').2 0; have yB1q := lt_of_heap (unhide B1q).at'; clear cB1 fB1)); have HLE := hide hfa.1.le; have HFA2 := hide ((unhide HFA).trans (hfa.from (by exact Below.refl _ _))); obtain ⟨ev2, hf2⟩ := hfa.2.2; have HF2 := hide hf2; have z2 : W.heap.size ≤ w2.heap.size := (unhide HFA2).2.1.size; have kr1 : w2.cell? ⟨b, 1, none⟩ = some (.iface ui vi) := ((unhide HKB) _ (unhide HFA2).2.1).1 1; have kr3 : w2.cell? ⟨b, 3, none⟩ = some (.iface uj vj) := ((unhide HKB) _ (unhide HFA2).2.1).1 3; have zb2 : b < w2.heap.size := ((unhide HKB) _ (unhide HFA2).2.1).2; have zb2a : b < w2.heap.size + 1 := (by omega); have nc0 : b ≠ w2.heap.size := (by omega); have nc1 : b ≠ w2.heap.size + 1 := (by omega); have nc2 : w2.heap.size ≠ b := (by omega); have nc3 : w2.heap.size + 1 ≠ b := (by omega);  clear hfa hfn hf2))
    all_goals
      go_wp2_with fail
      go_meet
      case rel =>
        have HQ : Hid (en = none → FnG c.w0 (F2.off c.X) wd g cb (evE (colAt c.T ss) k) ∧ FnG c.w0 (F2.off c.X) wd g' cb' (evE (colAt c.T ss) m)) := fun he => by
          have h1 := orE_eq_none ((unhide hen).symm.trans he)
          exact ⟨((unhide HFN) h1.1).mono (Fx.off_mono (unhide HLE) c.X), (unhide HFN2) he⟩
        first
          | exact ⟨_, _, g, g', cb, cb', F2.off c.X, _, rfl, rfl, fin_nn (unhide HFA2) rfl rfl (unhide HQ)⟩
          | exact ⟨_, _, g, g', cb, cb', F2.off c.X, _, rfl, rfl, fin_nm (unhide HFA2) rfl rfl (unhide HQ)⟩
          | exact ⟨_, _, g, g', cb, cb', F2.off c.X, _, rfl, rfl, fin_on (unhide HH) (unhide HFA2) (unhide B0q) rfl (unhide HQ)⟩
          | exact ⟨_, _, g, g', cb, cb', F2.off c.X, _, rfl, rfl, fin_no (unhide HH) (unhide HFA2) (unhide B0q) rfl (unhide HQ)⟩
          | exact ⟨_, _, g, g', cb, cb', F2.off c.X, _, rfl, rfl, fin_om (unhide HH) (unhide HFA2) (unhide B0q) rfl (unhide HQ)⟩
          | exact ⟨_, _, g, g', cb, cb', F2.off c.X, _, rfl, rfl, fin_mo (unhide HH) (unhide HFA2) (unhide B0q) rfl (unhide HQ)⟩
          | exact ⟨_, _, g, g', cb, cb', F2.off c.X, _, rfl, rfl, fin_on (unhide HH) (unhide HFA2) (unhide B1q) rfl (unhide HQ)⟩
          | exact ⟨_, _, g, g', cb, cb', F2.off c.X, _, rfl, rfl, fin_no (unhide HH) (unhide HFA2) (unhide B1q) rfl (unhide HQ)⟩
          | exact ⟨_, _, g, g', cb, cb', F2.off c.X, _, rfl, rfl, fin_om (unhide HH) (unhide HFA2) (unhide B1q) rfl (unhide HQ)⟩
          | exact ⟨_, _, g, g', cb, cb', F2.off c.X, _, rfl, rfl, fin_mo (unhide HH) (unhide HFA2) (unhide B1q) rfl (unhide HQ)⟩
          | exact ⟨_, _, g, g', cb, cb', F2.off c.X, _, rfl, rfl, fin_on (unhide HH) (unhide HFA2) (unhide B2) rfl (unhide HQ)⟩
          | exact ⟨_, _, g, g', cb, cb', F2.off c.X, _, rfl, rfl, fin_no (unhide HH) (unhide HFA2) (unhide B2) rfl (unhide HQ)⟩
          | exact ⟨_, _, g, g', cb, cb', F2.off c.X, _, rfl, rfl, fin_om (unhide HH) (unhide HFA2) (unhide B2) rfl (unhide HQ)⟩
          | exact ⟨_, _, g, g', cb, cb', F2.off c.X, _, rfl, rfl, fin_mo (unhide HH) (unhide HFA2) (unhide B2) rfl (unhide HQ)⟩
          | exact ⟨_, _, g, g', cb, cb', F2.off c.X, _, rfl, rfl, fin_on (unhide HH) (unhide HFA2) (unhide B3) rfl (unhide HQ)⟩
          | exact ⟨_, _, g, g', cb, cb', F2.off c.X, _, rfl, rfl, fin_no (unhide HH) (unhide HFA2) (unhide B3) rfl (unhide HQ)⟩
          | exact ⟨_, _, g, g', cb, cb', F2.off c.X, _, rfl, rfl, fin_om (unhide HH) (unhide HFA2) (unhide B3) rfl (unhide HQ)⟩
          | exact ⟨_, _, g, g', cb, cb', F2.off c.X, _, rfl, rfl, fin_mo (unhide HH) (unhide HFA2) (unhide B3) rfl (unhide HQ)⟩
          | exact ⟨_, _, g, g', cb, cb', F2.off c.X, _, rfl, rfl, FA.write2 (unhide HH) (unhide HFA2) (unhide B0q) (unhide B1q) (by omega) _ _ (unhide HQ)⟩
          | exact ⟨_, _, g, g', cb, cb', F2.off c.X, _, rfl, rfl, FA.write2 (unhide HH) (unhide HFA2) (unhide B0q) (unhide B2) (by omega) _ _ (unhide HQ)⟩
          | exact ⟨_, _, g, g', cb, cb', F2.off c.X, _, rfl, rfl, FA.write2 (unhide HH) (unhide HFA2) (unhide B0q) (unhide B3) (by omega) _ _ (unhide HQ)⟩
          | exact ⟨_, _, g, g', cb, cb', F2.off c.X, _, rfl, rfl, FA.write2 (unhide HH) (unhide HFA2) (unhide B1q) (unhide B0q) (by omega) _ _ (unhide HQ)⟩
          | exact ⟨_, _, g, g', cb, cb', F2.off c.X, _, rfl, rfl, FA.write2 (unhide HH) (unhide HFA2) (unhide B1q) (unhide B2) (by omega) _ _ (unhide HQ)⟩
          | exact ⟨_, _, g, g', cb, cb', F2.off c.X, _, rfl, rfl, FA.write2 (unhide HH) (unhide HFA2) (unhide B1q) (unhide B3) (by omega) _ _ (unhide HQ)⟩
          | exact ⟨_, _, g, g', cb, cb', F2.off c.X, _, rfl, rfl, FA.write2 (unhide HH) (unhide HFA2) (unhide B2) (unhide B0q) (by omega) _ _ (unhide HQ)⟩
          | exact ⟨_, _, g, g', cb, cb', F2.off c.X, _, rfl, rfl, FA.write2 (unhide HH) (unhide HFA2) (unhide B2) (unhide B1q) (by omega) _ _ (unhide HQ)⟩
          | exact ⟨_, _, g, g', cb, cb', F2.off c.X, _, rfl, rfl, FA.write2 (unhide HH) (unhide HFA2) (unhide B2) (unhide B3) (by omega) _ _ (unhide HQ)⟩
          | exact ⟨_, _, g, g', cb, cb', F2.off c.X, _, rfl, rfl, FA.write2 (unhide HH) (unhide HFA2) (unhide B3) (unhide B0q) (by omega) _ _ (unhide HQ)⟩
          | exact ⟨_, _, g, g', cb, cb', F2.off c.X, _, rfl, rfl, FA.write2 (unhide HH) (unhide HFA2) (unhide B3) (unhide B1q) (by omega) _ _ (unhide HQ)⟩
          | exact ⟨_, _, g, g', cb, cb', F2.off c.X, _, rfl, rfl, FA.write2 (unhide HH) (unhide HFA2) (unhide B3) (unhide B2) (by omega) _ _ (unhide HQ)⟩
  case rest =>
    obtain ⟨bx, bz, g, g', cb, cb', F1, F', rfl, rfl, hfa, hx1, hz1, hle, hfn⟩ := hcut
    have HFA := hide hfa
    have HX1 := hide hx1
    have HZ1 := hide hz1
    have HLE := hide hle
    have HFN := hide hfn
    obtain ⟨kb1, zb1⟩ := (unhide HKB) _ hfa.2.1
    clear hfa hx1 hz1 hle hfn kb kq1 kq3
    go_wp2_with fail
    refine (comparison_any sg _).mono ?_
    rintro e w3 ⟨rfl, hw3⟩
    obtain rfl := hw3.symm
    go_wp2
    go_ret
    obtain ⟨a1, a2, a3⟩ := FA.fix (unhide HFA) (o := .cells #[.func (.func (cmpF sg)) #[] #[]] 428) rfl
    exact ⟨_, _, rfl, _, a1.from (w := W0) (by rw [unhide HBE]; exact unhide HB0), fun he => ts_fn _ _ _ _ _ _ _ _ _ _ _ _ _ _ _ _ (a3 _ _ (unhide HX1)) (a3 _ _ (unhide HZ1)) a2 (((unhide HFN) he).1.mono ((unhide HLE).trans a3)) (((unhide HFN) he).2.mono ((unhide HLE).trans a3)) (cm_any sg)⟩
end Go.Proofs.YtfkeddkfegaeiaaGreatDoor
namespace Go.Proofs.YtfkeddkfegaeiaaGreatDoor
open Go.RowKit
/-- a list that lies in a block that was not there yet. -/
def NewAt (W : World) (u : Value) : Prop := ∀ b o n c, u = .slice (some ⟨b, o, none⟩) n c → W.heap.size ≤ b
/-- function g, bound to fs and cb, gives f of rows of n numbers each. -/
def ItG (w0 : World) (F : Fx) (n g : Nat) (fs cb : Array Value) (f : List (List Int) → List Int) : Prop := Enters g ∧ ∀ (W : World) (rv : Value) (rows : List (List Int)), Fits w0 F W → (∀ r ∈ rows, r.length = n) → rows.length ≤ 4000 → RowsAt W rv rows → Calls Tryz.prog g (fs ++ #[rv] ++ cb) W fun e W' => ∃ u, e = .returned u ∧ RowAt W' u (intsV (f rows)) ∧ NewAt W u ∧ (f rows).length = rows.length ∧ Below W.heap.size W W'
theorem ItG.mono {w0 : World} {F F' : Fx} {n g : Nat} {fs cb : Array Value} {f : List (List Int) → List Int} (h : ItG w0 F n g fs cb f) (hF : F.le F') : ItG w0 F' n g fs cb f := ⟨h.1, fun W rv rows hW => h.2 W rv rows (hW.mono hF)⟩
theorem row_full {W : World} {g : Nat} {T : TypeId} {xs : List Value} (h : W.heap[g]? = some (.cells xs.toArray T (0, 0))) (hm : xs.length ≤ maxLen) (cap : Nat) : RowAt W (.slice (some ⟨g, 0, none⟩) xs.length cap) xs :=
  ⟨_, cap, rfl, hm, fun _ => ⟨g, 0, rfl, lt_of_heap h, fun j _ => by rw [Nat.zero_add, (blk h).1]; simp⟩⟩
set_option maxRecDepth 100000 in
set_option maxHeartbeats 1000000 in
theorem it_val (w0 : World) (F : Fx) (n bx g : Nat) (cb : Array Value) (f : List Int → Int) (T : TypeId) (hx : F bx = some (.cells #[.func (.func g) #[] cb] T (0, 0))) (hf : FnG w0 F n g cb f) :
    ItG w0 F n 248 #[] #[.pointer (some ⟨bx, 0, none⟩)] (fun rows => rows.map f) := by
  refine ⟨enters_of Tryz.func248 (by kernel_rfl) rfl, fun w rv rows hW hl hsz hr => ?_⟩
  obtain ⟨i0, hi, hinf⟩ := Option.map_eq_some_iff.1 infoInt
  simp only [Prod.mk.injEq] at hinf
  obtain ⟨hz0, hz1, hz2⟩ := hinf
  have HI := hide hi
  have HZ0 := hide hz0
  have HZ1 := hide hz1
  have HZ2 := hide hz2
  clear hi hz0 hz1 hz2
  have eg := hf.1
  have HF := hide hf.2
  have HW := hide hW
  have HLEN := hide hl
  have HX := hide (hW.new _ _ hx)
  obtain ⟨vs, ⟨adr, capr, rfl, mr, cr⟩, lr, rr⟩ := hr
  rw [lr] at mr cr
  have HCR := hide cr
  have HRR := hide rr
  have HLR := hide lr
  rw [lr]
  clear hx hf hW hl cr rr lr mr
  show Calls Tryz.prog 248 #[_, _] w _
  go_enter Tryz.func248, Tryz.ntmps248
  go_wp2_with (at_make; refine wpList_make_full _ rfl _ _ 32 rfl w.heap.size 3 i0 (.int .i64 0) 1 Tryz.underlying32 (unhide HI) (unhide HZ0) (unhide HZ1) .i64 .i64 _ _ rows.length rfl rfl ?c1 ?c2 ?c3 ?c4 ?c5 ?_)
  case c1 => simp
  case c2 => simp
  case c3 => rw [unhide HZ2]; omega
  case c4 => unfold maxLen; omega
  case c5 => exact Nat.le_refl _
  intro w1 ho hg
  rcases ho.2 with ⟨hv, _⟩ | ⟨g1, cap, cur, hv, hge, hh, c1, c2, c3, c4⟩
  · cases hv
  injection hv with hv1 hv2 hv3
  injection hv1 with hv1
  injection hv1 with hv1
  subst hv1
  have hcl : cur.toList.length = rows.length := by rw [Array.length_toList, c3]; omega
  have HH1 : Hid (w1.heap[w.heap.size]? = some (.cells cur.toList.toArray 3 (0, 0))) := by unfold Hid; rw [hh]
  have HB1 : Hid (Below w.heap.size w w1) := (Below.refl _ _).grown hg (Nat.le_refl _) (fun k e => by cases e)
  clear ho hg hh c1 c2 c3 c4 hv2 hv3 hge
  generalize cur.toList = L at *
  go_wp2_with fail
  go_loopg [5, 6, 12] rows.length (fun q _ _ i W => ∃ pre suf, rows = pre ++ suf ∧ q = suf.length ∧ i = .int .i64 (pre.length : Nat) ∧ W.heap[w.heap.size]? = some (.cells (intsV (pre.map f) ++ L.drop pre.length).toArray 3 (0, 0)) ∧ Below w.heap.size w W)
  case atStart => exact ⟨[], rows, rfl, rfl, rfl, by simpa using unhide HH1, unhide HB1⟩
  case round =>
    obtain ⟨pre, suf, h1, rfl, rfl, hh, hbw⟩ := hrel
    have l1 : pre.length + suf.length = rows.length := by rw [h1, List.length_append]
    have HZ := hide h1
    have HHW := hide hh
    have HBW := hide hbw
    have zw := lt_of_heap hh
    obtain ⟨kc, kf⟩ := blk hh
    clear h1 hh hbw
    cases suf with
    | nil =>
      have hlt : decide (pre.length < rows.length) = false := by simp at l1 ⊢; omega
      go_wp2
      go_ret
      refine ⟨_, rfl, ?_, fun b o n c e => by injection e with e _ _; injection e with e; injection e with e; omega, by simp, unhide HBW⟩
      have e : pre = rows := by rw [unhide HZ]; simp
      have h9 := unhide HHW
      rw [e, List.drop_eq_nil_of_le (by omega), List.append_nil] at h9
      have h8 := row_full h9 (by simp; unfold maxLen; omega) rows.length
      rw [show (intsV (rows.map f)).length = rows.length from by simp] at h8
      exact h8
    | cons r suf =>
      rw [List.length_cons] at l1
      have hlt : decide (pre.length < rows.length) = true := by simp; omega
      have HZ2 : Hid (rows = (pre ++ [r]) ++ suf) := by unfold Hid; rw [unhide HZ]; simp
      obtain ⟨b1, o1, rfl, z1, cc1⟩ := (unhide HCR) (by omega)
      obtain ⟨u, hu⟩ : ∃ u, vs[pre.length]? = some u := ⟨vs[pre.length]'(by rw [unhide HLR]; omega), List.getElem?_eq_getElem _⟩
      have hru := (unhide HRR) pre.length r u (by rw [unhide HZ]; simp) hu
      have k1 : wr.cell? ⟨b1, o1 + pre.length, none⟩ = some u := by
        rw [(unhide HBW).cell (p := ⟨b1, _, none⟩) z1, cc1 _ (by omega), hu]
      have HRU := hide (hru.keep (unhide HBW))
      have HRL : Hid (r.length = n) := (unhide HLEN) r (by rw [unhide HZ]; simp)
      obtain ⟨adu, capu, rfl, _, _⟩ := hru
      rw [List.length_map] at k1 HRU
      have kx : wr.cell? ⟨bx, 0, none⟩ = some (.func (.func g) #[] cb) := by
        rw [(unhide HBW).cell (p := ⟨bx, 0, none⟩) (lt_of_heap (unhide HX)), (blk (unhide HX)).1]; rfl
      clear hu cc1 kc
      go_wp2_with fail
      refine ((unhide HF) _ _ r (by exact (unhide HW).below (unhide HBW)) (unhide HRL) (by exact unhide HRU)).mono ?_
      rintro e w2 ⟨rfl, hb2⟩
      have hh2 := (hb2.block _ zw).trans (unhide HHW)
      have HH2 := hide hh2
      have HB2 : Hid (Below w.heap.size w w2) := (unhide HBW).trans (hb2.mono (unhide HBW).size)
      have zw2 := lt_of_heap hh2
      obtain ⟨kc, kf2⟩ := blk hh2
      have hlp : (intsV (pre.map f)).length = pre.length := by simp
      obtain ⟨t, L', hL⟩ : ∃ t L', L.drop pre.length = t :: L' := by
        cases e : L.drop pre.length with
        | nil => exfalso; have := congrArg List.length e; rw [List.length_drop] at this; simp at this; omega
        | cons t L' => exact ⟨t, L', rfl⟩
      have k2 : w2.cell? ⟨w.heap.size, pre.length, none⟩ = some t := by
        rw [kc, hL]
        simp
      have HNX : Hid ((intsV (pre.map f) ++ L.drop pre.length).toArray.setIfInBounds pre.length (.int .i64 (f r)) = (intsV ((pre ++ [r]).map f) ++ L.drop (pre.length + 1)).toArray) := by
        unfold Hid
        have hd1 : L.drop (pre.length + 1) = L' := by rw [← List.drop_drop, hL]; rfl
        rw [hL, hd1, List.setIfInBounds_toArray, List.set_append_right _ _ (by omega), hlp, Nat.sub_self, List.set_cons_zero]
        simp
      clear hb2 hh2 kc hL k1 kx
      go_wp2
      go_roundg suf.length
      case measure => simp
      case rel =>
        refine ⟨pre ++ [r], suf, unhide HZ2, rfl, ?_, ?_, (unhide HB2).setCell (by exact Nat.le_refl _) _⟩
        · rw [List.length_append]; go_num
        · rw [heap_set (unhide HH2), unhide HNX, List.length_append]; rfl
end Go.Proofs.YtfkeddkfegaeiaaGreatDoor
namespace Go.Proofs.YtfkeddkfegaeiaaGreatDoor
open Go.RowKit
/-- what finding an item does: it is found as a function value that gives f. -/
def ItemSpec (c : Fc) (p : Int) (v wv : Value) (ap : Int) (an : ByteArray) (eo : List Sr → Option (Nat × Nat)) (f : List Sr → List (List Int) → List Int) : Prop := ∀ (F : Fx) (W : World) (sv iv tv ev : Value) (wd : Nat) (ss : List Sr) (er en : Option (Nat × Nat)), FS c F W sv iv tv ev wd ss er → Hid (en = orE er (eo ss)) →
  Calls Tryz.prog 197 #[.pointer (some ⟨c.fb, 0, none⟩), .agg #[.int .i64 p, v, wv, .int .i64 ap, .string an]] W fun e W' => ∃ g fs cb, e = .returned (.func (.func g) fs cb) ∧ ∃ F', FA c F W sv iv tv wd ss en W' F' ∧ (en = none → ItG c.w0 (F'.off c.X) wd g fs cb (f ss))
set_option maxRecDepth 100000 in
set_option maxHeartbeats 1000000 in
theorem item_val (c : Fc) (n : Nat) (p : Int) (v : Value) (ap : Int) (an : ByteArray) (l : List Nd) (hx : ExP c.w0 (fun _ => True) n v l) :
    ItemSpec c p v (.pointer none) ap an (fun ss => exErr c.T ss l) (fun ss rows => rows.map (evE (colAt c.T ss) l)) := by
  intro F W sv iv tv ev wd ss er en h hen
  have IH : Hid (ValSpec c n) := value_spec c n
  have HH := hide h
  have HX := hide hx
  have hsf := store_func
  have hmf : ∀ (fn : Fn) (first cap : Array Value) (w : World), (Instr.makeFunc fn first cap).run Tryz.prog w = .ok (.func fn first cap) w := fun _ _ _ _ => rfl
  obtain ⟨ui, vi, rfl⟩ := ExP.isI _ _ _ hx
  clear h hx
  go_enter Tryz.func197, Tryz.ntmps197
  go_wp2_with fail
  refine ((unhide IH) _ l F _ sv iv tv ev wd ss er en (by exact unhide HX) (by exact (unhide HH).alloc _) hen).mono ?_
  rintro e w1 ⟨g, cb, rfl, F1, hfa, hfn⟩
  have HFA := hide (hfa.from ((Below.refl W.heap.size W).alloc (Nat.le_refl _) _))
  have HFN := hide hfn
  clear hfa hfn
  go_wp2
  go_ret
  obtain ⟨a1, a2, a3⟩ := FA.fix (unhide HFA) (o := .cells #[.func (.func g) #[] cb] 426) rfl
  exact ⟨_, _, _, rfl, _, a1, fun he => it_val _ _ _ _ _ _ _ _ a2 (((unhide HFN) he).mono a3)⟩
end Go.Proofs.YtfkeddkfegaeiaaGreatDoor
