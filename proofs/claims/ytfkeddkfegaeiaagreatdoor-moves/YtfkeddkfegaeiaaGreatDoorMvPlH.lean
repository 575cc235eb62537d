/-
  Part 22.
-/
import Derived.Test.YtfkeddkfegaeiaaGreatDoorMvPlG
import Derived.Deep.RegionHeld3
namespace Go.Proofs.YtfkeddkfegaeiaaGreatDoor
open Go.RowKit
/-- two steps of the finder. -/
theorem FA.trans {c : Fc} {F F1 F2 : Fx} {w w1 w2 : World} {sv iv tv : Value} {wd : Nat} {ss : List Sr} {e1 e2 : Option (Nat × Nat)} (h : FA c F w sv iv tv wd ss e1 w1 F1) (k : FA c F1 w1 sv iv tv wd ss e2 w2 F2) : FA c F w sv iv tv wd ss e2 w2 F2 :=
  ⟨h.1.trans k.1 h.2.1.size, h.2.1.trans k.2.1, k.2.2⟩
theorem FA.ofDrew {c : Fc} {F F1 : Fx} {w w1 : World} {sv iv tv : Value} {wd : Nat} {ss : List Sr} {e1 : Option (Nat × Nat)} (h : FA c F w.drew sv iv tv wd ss e1 w1 F1) : FA c F w sv iv tv wd ss e1 w1 F1 := ⟨h.1, ((Kp.refl c.fb w).drew).trans h.2.1, h.2.2⟩
/-- two function values in two new boxes. -/
theorem FA.fix2 {c : Fc} {F F' : Fx} {w w' : World} {sv iv tv : Value} {wd : Nat} {ss : List Sr} {er' : Option (Nat × Nat)} (h : FA c F w sv iv tv wd ss er' w' F') {b : Nat} {o : Obj} (hlo : w.heap.size ≤ b) (hb : w'.heap[b]? = some o) (hn : F' b = none) (hX : c.X b = false) (h0 : ∃ ev er, FS c F w sv iv tv ev wd ss er) :
    FA c F w sv iv tv wd ss er' w' (F'.set b o) ∧ (F'.set b o).off c.X b = some o ∧ (F'.off c.X).le ((F'.set b o).off c.X) := by
  obtain ⟨hx, hk, ev', hf⟩ := h
  obtain ⟨ev, er, h0⟩ := h0
  exact ⟨⟨hx.trans (Ext.set (n := w.heap.size) o hlo hn) (Nat.le_refl _), hk, ev', hf.fixNew h0 hb hlo hn⟩, Fx.off_some (Fx.set_same _ _ _) hX, Fx.off_mono (Fx.le_set o hn) c.X⟩
theorem Grow.setOff {lo p b off : Nat} {F : Fx} {vs : List Value} {W : World} (h : Grow lo F p vs W) (hF : F b = none) (u : Value) : Grow lo F p vs (W.setCell ⟨b, off, none⟩ u) :=
  ⟨fun k o e => ⟨(h.fits k o e).1, by rw [Below.heap_setCell _ _ _ _ (fun e' => by simp at e'; rw [e', hF] at e; cases e)]; exact (h.fits k o e).2⟩, h.offp, by simpa using h.ltp, fun v hv k e => by simpa using h.off v hv k e, h.dis⟩
/-- a new box that is yet to be written. -/
structure Bx (c : Fc) (lo : Nat) (w : World) (F : Fx) (b : Nat) (u : Value) (T : TypeId) : Prop where
  lo : lo ≤ b
  at' : w.heap[b]? = some (.cells #[u] T (0, 0))
  off : F b = none
  offX : c.X b = false
  ne : b ≠ c.fb
theorem Bx.new {c : Fc} {lo : Nat} {F : Fx} {w : World} {sv iv tv ev : Value} {wd : Nat} {ss : List Sr} {er : Option (Nat × Nat)} {u : Value} {T : TypeId} {b : Nat} (h : FS c F w sv iv tv ev wd ss er) (hlo : lo ≤ w.heap.size) (hb : b = w.heap.size) : Bx c lo (w.alloc (.cells #[u] T (0, 0))) F b u T := by
  subst hb
  refine ⟨hlo, heap_last rfl, h.grow.noneF (Nat.le_refl _), ?_, fun e => by have := h.grow.ltp; omega⟩
  cases e : c.X w.heap.size with
  | false => rfl
  | true => have := h.fbX _ e; omega
theorem Bx.alloc {c : Fc} {lo : Nat} {F : Fx} {w : World} {u : Value} {T : TypeId} {b : Nat} (h : Bx c lo w F b u T) (o : Obj) : Bx c lo (w.alloc o) F b u T := ⟨h.lo, heap_prev h.at', h.off, h.offX, h.ne⟩
theorem Bx.call {c : Fc} {lo : Nat} {F F' : Fx} {w w' : World} {sv iv tv : Value} {wd : Nat} {ss : List Sr} {er : Option (Nat × Nat)} (hf : FA c F w sv iv tv wd ss er w' F') {u : Value} {T : TypeId} {b : Nat} (h : Bx c lo w F b u T) : Bx c lo w' F' b u T :=
  ⟨h.lo, (hf.2.1.block b (lt_of_heap h.at') h.ne).trans h.at', (hf.1.old b (lt_of_heap h.at')).trans h.off, h.offX, h.ne⟩
/-- a box is written, and laid down for good. -/
theorem FA.write {c : Fc} {F F' : Fx} {w w' : World} {sv iv tv ev : Value} {wd : Nat} {ss : List Sr} {er er' : Option (Nat × Nat)} (h0 : FS c F w sv iv tv ev wd ss er) (h : FA c F w sv iv tv wd ss er' w' F') {b : Nat} {u : Value} {T : TypeId} (hb : Bx c w.heap.size w' F' b u T) (x : Value) :
    FA c F w sv iv tv wd ss er' (w'.setCell ⟨b, 0, none⟩ x) (F'.set b (.cells #[x] T (0, 0))) ∧ (F'.set b (.cells #[x] T (0, 0))).off c.X b = some (.cells #[x] T (0, 0)) ∧ (F'.off c.X).le ((F'.set b (.cells #[x] T (0, 0))).off c.X) := by
  obtain ⟨hx, hk, ev', hf⟩ := h
  have hlo : c.w0.heap.size ≤ b := Nat.le_trans h0.old.size hb.lo
  have hv : ∀ v ∈ [sv, iv, tv], v.ownBlock ≠ some b := fun v hv e => by have := (h0.grow.off v hv b e).2.2.2; have := hb.lo; omega
  have hf' : FS c F' (w'.setCell ⟨b, 0, none⟩ x) sv iv tv ev' wd ss er' :=
    ⟨hf.env.keep ((Below.refl _ _).setCell hlo _), hf.old.setCell hlo _, hf.grow.setOff hb.off x, (Below.heap_setCell _ _ _ _ (Ne.symm hb.ne)).trans hf.box, hf.err, hf.tabs, owns_set hf.srcs (hv sv List.mem_cons_self), hf.few, hf.ok, hf.wide, fun b' e => by simpa using hf.fbX b' e, hf.low⟩
  have hh : (w'.setCell ⟨b, 0, none⟩ x).heap[b]? = some (.cells #[x] T (0, 0)) := (heap_set hb.at' x).trans rfl
  exact ⟨⟨hx.trans (Ext.set (n := w.heap.size) _ hb.lo hb.off) (Nat.le_refl _), hk.setNew hb.lo _, ev', hf'.fix hh hlo hb.ne hv hb.off⟩, Fx.off_some (Fx.set_same _ _ _) hb.offX, Fx.off_mono (Fx.le_set _ hb.off) c.X⟩
theorem Bx.write {c : Fc} {lo : Nat} {F : Fx} {w : World} {u x y : Value} {T T' : TypeId} {b b' : Nat} (h : Bx c lo w F b u T) (hne : b ≠ b') : Bx c lo (w.setCell ⟨b', 0, none⟩ x) (F.set b' (.cells #[y] T' (0, 0))) b u T :=
  ⟨h.lo, (Below.heap_setCell _ _ _ _ hne).trans h.at', (Fx.set_other F _ hne).trans h.off, h.offX, h.ne⟩
theorem FA.write2 {c : Fc} {F F' : Fx} {w w' : World} {sv iv tv ev : Value} {wd : Nat} {ss : List Sr} {er er' : Option (Nat × Nat)} {Q : Prop} (h0 : FS c F w sv iv tv ev wd ss er) (h : FA c F w sv iv tv wd ss er' w' F') {b b' : Nat} {u u' : Value} {T T' : TypeId} (hb : Bx c w.heap.size w' F' b u T) (hb' : Bx c w.heap.size w' F' b' u' T') (hne : b' ≠ b) (x x' : Value) (q : Q) :
    FA c F w sv iv tv wd ss er' ((w'.setCell ⟨b, 0, none⟩ x).setCell ⟨b', 0, none⟩ x') ((F'.set b (.cells #[x] T (0, 0))).set b' (.cells #[x'] T' (0, 0))) ∧ ((F'.set b (.cells #[x] T (0, 0))).set b' (.cells #[x'] T' (0, 0))).off c.X b = some (.cells #[x] T (0, 0)) ∧ ((F'.set b (.cells #[x] T (0, 0))).set b' (.cells #[x'] T' (0, 0))).off c.X b' = some (.cells #[x'] T' (0, 0)) ∧ (F'.off c.X).le (((F'.set b (.cells #[x] T (0, 0))).set b' (.cells #[x'] T' (0, 0))).off c.X) ∧ Q := by
  obtain ⟨a1, a2, a3⟩ := FA.write h0 h hb x
  obtain ⟨d1, d2, d3⟩ := FA.write h0 a1 (hb'.write hne) x'
  exact ⟨d1, d3 _ _ a2, d2, a3.trans d3, q⟩
theorem FA.alloc {c : Fc} {F F' : Fx} {w w' : World} {sv iv tv : Value} {wd : Nat} {ss : List Sr} {er' : Option (Nat × Nat)} (h : FA c F w sv iv tv wd ss er' w' F') (o : Obj) : FA c F w sv iv tv wd ss er' (w'.alloc o) F' := ⟨h.1, h.2.1.alloc o, let ⟨ev, hf⟩ := h.2.2; ⟨ev, hf.alloc o⟩⟩
theorem fin_nn {c : Fc} {F F' : Fx} {w w' : World} {sv iv tv : Value} {wd : Nat} {ss : List Sr} {er' : Option (Nat × Nat)} {Q : Prop} (h : FA c F w sv iv tv wd ss er' w' F') {b b' : Nat} {T T' : TypeId} {x x' : Value} (hb : b = w'.heap.size) (hb' : b' = w'.heap.size + 1) (q : Q) : FA c F w sv iv tv wd ss er' ((w'.alloc (.cells #[x] T)).alloc (.cells #[x'] T')) ((F'.set b (.cells #[x] T (0, 0))).set b' (.cells #[x'] T' (0, 0))) ∧ ((F'.set b (.cells #[x] T (0, 0))).set b' (.cells #[x'] T' (0, 0))).off c.X b = some (.cells #[x] T (0, 0)) ∧ ((F'.set b (.cells #[x] T (0, 0))).set b' (.cells #[x'] T' (0, 0))).off c.X b' = some (.cells #[x'] T' (0, 0)) ∧ (F'.off c.X).le (((F'.set b (.cells #[x] T (0, 0))).set b' (.cells #[x'] T' (0, 0))).off c.X) ∧ Q := by
  obtain ⟨a1, a2, a3⟩ := FA.fix h (o := .cells #[x] T) hb
  obtain ⟨d1, d2, d3⟩ := FA.fix a1 (o := .cells #[x'] T') (b := b') (by simpa using hb')
  exact ⟨d1, d3 _ _ a2, d2, a3.trans d3, q⟩
theorem fin_nm {c : Fc} {F F' : Fx} {w w' : World} {sv iv tv : Value} {wd : Nat} {ss : List Sr} {er' : Option (Nat × Nat)} {Q : Prop} (h : FA c F w sv iv tv wd ss er' w' F') {b b' : Nat} {T T' : TypeId} {x x' : Value} (hb : b' = w'.heap.size) (hb' : b = w'.heap.size + 1) (q : Q) : FA c F w sv iv tv wd ss er' ((w'.alloc (.cells #[x'] T')).alloc (.cells #[x] T)) ((F'.set b' (.cells #[x'] T' (0, 0))).set b (.cells #[x] T (0, 0))) ∧ ((F'.set b' (.cells #[x'] T' (0, 0))).set b (.cells #[x] T (0, 0))).off c.X b = some (.cells #[x] T (0, 0)) ∧ ((F'.set b' (.cells #[x'] T' (0, 0))).set b (.cells #[x] T (0, 0))).off c.X b' = some (.cells #[x'] T' (0, 0)) ∧ (F'.off c.X).le (((F'.set b' (.cells #[x'] T' (0, 0))).set b (.cells #[x] T (0, 0))).off c.X) ∧ Q := by
  obtain ⟨a1, a2, a3⟩ := FA.fix h (o := .cells #[x'] T') hb
  obtain ⟨d1, d2, d3⟩ := FA.fix a1 (o := .cells #[x] T) (b := b) (by simpa using hb')
  exact ⟨d1, d2, d3 _ _ a2, a3.trans d3, q⟩
theorem fin_on {c : Fc} {F F' : Fx} {w w' : World} {sv iv tv ev : Value} {wd : Nat} {ss : List Sr} {er er' : Option (Nat × Nat)} {Q : Prop} (h0 : FS c F w sv iv tv ev wd ss er) (h : FA c F w sv iv tv wd ss er' w' F') {b b' : Nat} {T T' : TypeId} {x x' : Value} {u : Value} (hb : Bx c w.heap.size w' F' b u T) (hb' : b' = w'.heap.size) (q : Q) : FA c F w sv iv tv wd ss er' ((w'.setCell ⟨b, 0, none⟩ x).alloc (.cells #[x'] T')) ((F'.set b (.cells #[x] T (0, 0))).set b' (.cells #[x'] T' (0, 0))) ∧ ((F'.set b (.cells #[x] T (0, 0))).set b' (.cells #[x'] T' (0, 0))).off c.X b = some (.cells #[x] T (0, 0)) ∧ ((F'.set b (.cells #[x] T (0, 0))).set b' (.cells #[x'] T' (0, 0))).off c.X b' = some (.cells #[x'] T' (0, 0)) ∧ (F'.off c.X).le (((F'.set b (.cells #[x] T (0, 0))).set b' (.cells #[x'] T' (0, 0))).off c.X) ∧ Q := by
  obtain ⟨a1, a2, a3⟩ := FA.write h0 h hb x
  obtain ⟨d1, d2, d3⟩ := FA.fix a1 (o := .cells #[x'] T') (b := b') (by simpa using hb')
  exact ⟨d1, d3 _ _ a2, d2, a3.trans d3, q⟩
theorem fin_no {c : Fc} {F F' : Fx} {w w' : World} {sv iv tv ev : Value} {wd : Nat} {ss : List Sr} {er er' : Option (Nat × Nat)} {Q : Prop} (h0 : FS c F w sv iv tv ev wd ss er) (h : FA c F w sv iv tv wd ss er' w' F') {b b' : Nat} {T T' : TypeId} {x x' : Value} {u : Value} (hb : Bx c w.heap.size w' F' b' u T') (hb' : b = w'.heap.size) (q : Q) : FA c F w sv iv tv wd ss er' ((w'.alloc (.cells #[x] T)).setCell ⟨b', 0, none⟩ x') ((F'.set b (.cells #[x] T (0, 0))).set b' (.cells #[x'] T' (0, 0))) ∧ ((F'.set b (.cells #[x] T (0, 0))).set b' (.cells #[x'] T' (0, 0))).off c.X b = some (.cells #[x] T (0, 0)) ∧ ((F'.set b (.cells #[x] T (0, 0))).set b' (.cells #[x'] T' (0, 0))).off c.X b' = some (.cells #[x'] T' (0, 0)) ∧ (F'.off c.X).le (((F'.set b (.cells #[x] T (0, 0))).set b' (.cells #[x'] T' (0, 0))).off c.X) ∧ Q := by
  obtain ⟨a1, a2, a3⟩ := FA.fix h (o := .cells #[x] T) hb'
  obtain ⟨d1, d2, d3⟩ := FA.write h0 a1 (b := b') (u := u) (T := T') ⟨hb.lo, heap_prev hb.at', (Fx.set_other _ _ (by have := lt_of_heap hb.at'; omega)).trans hb.off, hb.offX, hb.ne⟩ x'
  exact ⟨d1, d3 _ _ a2, d2, a3.trans d3, q⟩
theorem fin_om {c : Fc} {F F' : Fx} {w w' : World} {sv iv tv ev : Value} {wd : Nat} {ss : List Sr} {er er' : Option (Nat × Nat)} {Q : Prop} (h0 : FS c F w sv iv tv ev wd ss er) (h : FA c F w sv iv tv wd ss er' w' F') {b b' : Nat} {T T' : TypeId} {x x' : Value} {u : Value} (hb : Bx c w.heap.size w' F' b u T) (hb' : b' = w'.heap.size) (q : Q) : FA c F w sv iv tv wd ss er' ((w'.alloc (.cells #[x'] T')).setCell ⟨b, 0, none⟩ x) ((F'.set b' (.cells #[x'] T' (0, 0))).set b (.cells #[x] T (0, 0))) ∧ ((F'.set b' (.cells #[x'] T' (0, 0))).set b (.cells #[x] T (0, 0))).off c.X b = some (.cells #[x] T (0, 0)) ∧ ((F'.set b' (.cells #[x'] T' (0, 0))).set b (.cells #[x] T (0, 0))).off c.X b' = some (.cells #[x'] T' (0, 0)) ∧ (F'.off c.X).le (((F'.set b' (.cells #[x'] T' (0, 0))).set b (.cells #[x] T (0, 0))).off c.X) ∧ Q := by
  obtain ⟨a1, a2, a3⟩ := FA.fix h (o := .cells #[x'] T') hb'
  obtain ⟨d1, d2, d3⟩ := FA.write h0 a1 (b := b) (u := u) (T := T) ⟨hb.lo, heap_prev hb.at', (Fx.set_other _ _ (by have := lt_of_heap hb.at'; omega)).trans hb.off, hb.offX, hb.ne⟩ x
  exact ⟨d1, d2, d3 _ _ a2, a3.trans d3, q⟩
theorem fin_mo {c : Fc} {F F' : Fx} {w w' : World} {sv iv tv ev : Value} {wd : Nat} {ss : List Sr} {er er' : Option (Nat × Nat)} {Q : Prop} (h0 : FS c F w sv iv tv ev wd ss er) (h : FA c F w sv iv tv wd ss er' w' F') {b b' : Nat} {T T' : TypeId} {x x' : Value} {u : Value} (hb : Bx c w.heap.size w' F' b' u T') (hb' : b = w'.heap.size) (q : Q) : FA c F w sv iv tv wd ss er' ((w'.setCell ⟨b', 0, none⟩ x').alloc (.cells #[x] T)) ((F'.set b' (.cells #[x'] T' (0, 0))).set b (.cells #[x] T (0, 0))) ∧ ((F'.set b' (.cells #[x'] T' (0, 0))).set b (.cells #[x] T (0, 0))).off c.X b = some (.cells #[x] T (0, 0)) ∧ ((F'.set b' (.cells #[x'] T' (0, 0))).set b (.cells #[x] T (0, 0))).off c.X b' = some (.cells #[x'] T' (0, 0)) ∧ (F'.off c.X).le (((F'.set b' (.cells #[x'] T' (0, 0))).set b (.cells #[x] T (0, 0))).off c.X) ∧ Q := by
  obtain ⟨a1, a2, a3⟩ := FA.write h0 h hb x'
  obtain ⟨d1, d2, d3⟩ := FA.fix a1 (o := .cells #[x] T) (b := b) (by simpa using hb')
  exact ⟨d1, d2, d3 _ _ a2, a3.trans d3, q⟩
theorem FA.from {c : Fc} {F F' : Fx} {w w1 w' : World} {sv iv tv : Value} {wd : Nat} {ss : List Sr} {er' : Option (Nat × Nat)} (hb : Below w.heap.size w w1) (h : FA c F w1 sv iv tv wd ss er' w' F') : FA c F w sv iv tv wd ss er' w' F' := ⟨h.1.mono hb.size, (Kp.ofBelow hb).trans h.2.1, h.2.2⟩
set_option maxRecDepth 100000 in
set_option maxHeartbeats 40000000 in
theorem fpair_any (c : Fc) (n : Nat) (IH : Hid (ValSpec c n)) (F : Fx) (W : World) (sv iv tv ev : Value) (wd : Nat) (ss : List Sr) (er e1 en : Option (Nat × Nat)) (h : FS c F W sv iv tv ev wd ss er) (b : Nat) (p : Int) (sg : ByteArray) (x y : Value) (k m : List Nd) (hb : c.w0.heap[b]? = some (.cells #[.int .i64 p, x, .string sg, y] 263 (0, 0))) (hx : ExP c.w0 (fun _ => True) n x k) (hy : ExP c.w0 (fun _ => True) n y m) (hi : ∃ u v, x = .iface u v) (hj : ∃ u v, y = .iface u v) (he1 : Hid (e1 = orE er (exErr c.T ss k))) (hen : Hid (en = orE e1 (exErr c.T ss m))) :
    Calls Tryz.prog 290 #[.pointer (some ⟨c.fb, 0, none⟩), .pointer (some ⟨b, 0, none⟩)] W fun e W' => ∃ g cb, e = .returned (.func (.func g) #[] cb) ∧ ∃ F', FA c F W sv iv tv wd ss en W' F' ∧ (en = none → FnG c.w0 (F'.off c.X) wd g cb (fun r => opOf sg (evE (colAt c.T ss) k r) (evE (colAt c.T ss) m r))) := by
  have HH := hide h
  have hb' := (h.old.block b (lt_of_heap hb)).trans hb
  have zb := lt_of_heap hb'
  have hbf : b ≠ c.fb := by have := h.low; have := lt_of_heap hb; omega
  have HKB : Hid (∀ W1, Kp c.fb W W1 → (∀ o, W1.cell? ⟨b, o, none⟩ = #[.int .i64 p, x, .string sg, y][o]?) ∧ b < W1.heap.size) := fun W1 hk => ⟨fun o => by rw [hk.cell (p := ⟨b, o, none⟩) zb hbf]; exact (blk hb').1 o, Nat.lt_of_lt_of_le zb hk.size⟩
  have HX := hide hx
  have HY := hide hy
  have hsf := store_func
  have hmf : ∀ (fn : Fn) (first cap : Array Value) (w : World), (Instr.makeFunc fn first cap).run Tryz.prog w = .ok (.func fn first cap) w := fun _ _ _ _ => rfl
  obtain ⟨ui, vi, rfl⟩ := hi
  obtain ⟨uj, vj, rfl⟩ := hj
  clear h hb hb' hx hy
  obtain ⟨kb, zb0⟩ := (unhide HKB) _ (Kp.refl _ _)
  have zb0a : b < W.heap.size + 1 := by omega
  have na0 : b ≠ W.heap.size := by omega
  have na1 : b ≠ W.heap.size + 1 := by omega
  have na2 : W.heap.size ≠ b := by omega
  have na3 : W.heap.size + 1 ≠ b := by omega
  have kq1 : W.cell? ⟨b, 1, none⟩ = some (.iface ui vi) := kb 1
  have kq3 : W.cell? ⟨b, 3, none⟩ = some (.iface uj vj) := kb 3
  go_enter Tryz.func290, Tryz.ntmps290
  go_upto_region 1 with (fail)
  go_cut [5, 6] (fun v5 v6 W1 => ∃ bx bz g g' cb cb' F1 F', v5 = .pointer (some ⟨bx, 0, none⟩) ∧ v6 = .pointer (some ⟨bz, 0, none⟩) ∧ FA c F W sv iv tv wd ss en W1 F' ∧ F'.off c.X bx = some (.cells #[.func (.func g) #[] cb] 426 (0, 0)) ∧ F'.off c.X bz = some (.cells #[.func (.func g') #[] cb'] 426 (0, 0)) ∧ F1.le (F'.off c.X) ∧ (en = none → FnG c.w0 F1 wd g cb (evE (colAt c.T ss) k) ∧ FnG c.w0 F1 wd g' cb' (evE (colAt c.T ss) m)))
  case first =>
    go_region_held3 (fun w' => w'.cell? ⟨b, 1, none⟩ = some (.iface ui vi) ∧ w'.cell? ⟨b, 3, none⟩ = some (.iface uj vj)) (go_keep) (first
      | (go_at_call 247; refine ((unhide IH) _ k F ((W.drew.alloc (.cells #[.nilFunc] 426)).alloc (.cells #[.nilFunc] 426)) sv iv tv ev wd ss er e1 (by exact unhide HX) (by exact ((unhide HH).drew.alloc _).alloc _) he1).mono ?_; clear HX; rintro e w1 ⟨g, cb, rfl, F1, hfa, hfn⟩; have HFN := hide hfn; have B0 := hide (Bx.call hfa ((Bx.new (unhide HH).drew (lo := W.heap.size) (Nat.le_refl _) (b := W.heap.size) rfl).alloc _)); have cB0 := (blk (unhide B0).at').1 0; have fB0 := (blk (unhide B0).at').2 0; have yB0 := lt_of_heap (unhide B0).at'; have B1 := hide (Bx.call hfa (Bx.new ((unhide HH).drew.alloc _) (lo := W.heap.size) (by simp) (b := W.heap.size + 1) (by simp))); have cB1 := (blk (unhide B1).at').1 0; have fB1 := (blk (unhide B1).at').2 0; have yB1 := lt_of_heap (unhide B1).at';  have HFA := hide (hfa.from (w := W) (by exact ((Below.refl _ _).drew.alloc (by simp) _).alloc (by simp) _)); obtain ⟨kb1, zb1⟩ := (unhide HKB) _ (unhide HFA).2.1; have zb1a : b < w1.heap.size + 1 := (by omega); have nb0 : b ≠ w1.heap.size := (by omega); have nb1 : b ≠ w1.heap.size + 1 := (by omega); have nb2 : w1.heap.size ≠ b := (by omega); have nb3 : w1.heap.size + 1 ≠ b := (by omega);  have kq1 : w1.cell? ⟨b, 1, none⟩ = some (.iface ui vi) := kb1 1; have kq3 : w1.cell? ⟨b, 3, none⟩ = some (.iface uj vj) := kb1 3; obtain ⟨ev1, hf1⟩ := hfa.2.2; have HF1 := hide hf1; have z1 : W.heap.size ≤ w1.heap.size := (unhide HFA).2.1.size; clear hfa hfn kb hf1)
      | (go_at_call 247; refine ((unhide IH) _ k F (W.drew.alloc (.cells #[.nilFunc] 426)) sv iv tv ev wd ss er e1 (by exact unhide HX) (by exact (unhide HH).drew.alloc _) he1).mono ?_; clear HX; rintro e w1 ⟨g, cb, rfl, F1, hfa, hfn⟩; have HFN := hide hfn; have B0 := hide (Bx.call hfa (Bx.new (unhide HH).drew (lo := W.heap.size) (Nat.le_refl _) (b := W.heap.size) rfl)); have cB0 := (blk (unhide B0).at').1 0; have fB0 := (blk (unhide B0).at').2 0; have yB0 := lt_of_heap (unhide B0).at';  have HFA := hide (hfa.from (w := W) (by exact (Below.refl _ _).drew.alloc (by simp) _)); obtain ⟨kb1, zb1⟩ := (unhide HKB) _ (unhide HFA).2.1; have zb1a : b < w1.heap.size + 1 := (by omega); have nb0 : b ≠ w1.heap.size := (by omega); have nb1 : b ≠ w1.heap.size + 1 := (by omega); have nb2 : w1.heap.size ≠ b := (by omega); have nb3 : w1.heap.size + 1 ≠ b := (by omega);  have kq1 : w1.cell? ⟨b, 1, none⟩ = some (.iface ui vi) := kb1 1; have kq3 : w1.cell? ⟨b, 3, none⟩ = some (.iface uj vj) := kb1 3; obtain ⟨ev1, hf1⟩ := hfa.2.2; have HF1 := hide hf1; have z1 : W.heap.size ≤ w1.heap.size := (unhide HFA).2.1.size; clear hfa hfn kb hf1)
      | (go_at_call 247; refine ((unhide IH) _ k F W.drew sv iv tv ev wd ss er e1 (by exact unhide HX) (by exact (unhide HH).drew) he1).mono ?_; clear HX; rintro e w1 ⟨g, cb, rfl, F1, hfa, hfn⟩; have HFN := hide hfn;  have HFA := hide (hfa.from (w := W) (by exact (Below.refl _ _).drew)); obtain ⟨kb1, zb1⟩ := (unhide HKB) _ (unhide HFA).2.1; have zb1a : b < w1.heap.size + 1 := (by omega); have nb0 : b ≠ w1.heap.size := (by omega); have nb1 : b ≠ w1.heap.size + 1 := (by omega); have nb2 : w1.heap.size ≠ b := (by omega); have nb3 : w1.heap.size + 1 ≠ b := (by omega);  have kq1 : w1.cell? ⟨b, 1, none⟩ = some (.iface ui vi) := kb1 1; have kq3 : w1.cell? ⟨b, 3, none⟩ = some (.iface uj vj) := kb1 3; obtain ⟨ev1, hf1⟩ := hfa.2.2; have HF1 := hide hf1; have z1 : W.heap.size ≤ w1.heap.size := (unhide HFA).2.1.size; clear hfa hfn kb hf1)
      | (go_at_call 247; refine ((unhide IH) _ m F1 ((w1.alloc (.cells #[.nilFunc] 426)).alloc (.cells #[.nilFunc] 426)) sv iv tv ev1 wd ss e1 en (by exact unhide HY) (by exact ((unhide HF1).alloc _).alloc _) hen).mono ?_; rintro e w2 ⟨g', cb', rfl, F2, hfa, hfn⟩; have HFN2 := hide hfn; (try (have B0q := hide (Bx.call hfa (((unhide B0).alloc _).alloc _)); have cB0q := (blk (unhide B0q).at').1 0; have fB0q := (blk (unhide B0q).at').2 0; have yB0q := lt_of_heap (unhide B0q).at'; clear cB0 fB0)); (try (have B1q := hide (Bx.call hfa (((unhide B1).alloc _).alloc _)); have cB1q := (blk (unhide B1q).at').1 0; have fB1q := (blk (unhide B1q).at').2 0; have yB1q := lt_of_heap (unhide B1q).at'; clear cB1 fB1)); have B2 := hide (Bx.call hfa ((Bx.new (unhide HF1) (lo := W.heap.size) z1 (b := w1.heap.size) rfl).alloc _)); have cB2 := (blk (unhide B2).at').1 0; have fB2 := (blk (unhide B2).at').2 0; have yB2 := lt_of_heap (unhide B2).at'; have B3 := hide (Bx.call hfa (Bx.new ((unhide HF1).alloc _) (lo := W.heap.size) (by simp; omega) (b := w1.heap.size + 1) (by simp))); have cB3 := (blk (unhide B3).at').1 0; have fB3 := (blk (unhide B3).at').2 0; have yB3 := lt_of_heap (unhide B3).at'; have HLE := hide hfa.1.le; have HFA2 := hide ((unhide HFA).trans (hfa.from (by exact ((Below.refl _ _).alloc (Nat.le_refl _) _).alloc (by simp) _))); obtain ⟨ev2, hf2⟩ := hfa.2.2; have HF2 := hide hf2; have z2 : W.heap.size ≤ w2.heap.size := (unhide HFA2).2.1.size; have kr1 : w2.cell? ⟨b, 1, none⟩ = some (.iface ui vi) := ((unhide HKB) _ (unhide HFA2).2.1).1 1; have kr3 : w2.cell? ⟨b, 3, none⟩ = some (.iface uj vj) := ((unhide HKB) _ (unhide HFA2).2.1).1 3; have zb2 : b < w2.heap.size := ((unhide HKB) _ (unhide HFA2).2.1).2; have zb2a : b < w2.heap.size + 1 := (by omega); have nc0 : b ≠ w2.heap.size := (by omega); have nc1 : b ≠ w2.heap.size + 1 := (by omega); have nc2 : w2.heap.size ≠ b := (by omega); have nc3 : w2.heap.size + 1 ≠ b := (by omega);  clear hfa hfn hf2)
      | (go_at_call 247; refine ((unhide IH) _ m F1 (w1.alloc (.cells #[.nilFunc] 426)) sv iv tv ev1 wd ss e1 en (by exact unhide HY) (by exact (unhide HF1).alloc _) hen).mono ?_; rintro e w2 ⟨g', cb', rfl, F2, hfa, hfn⟩; have HFN2 := hide hfn; (try (have B0q := hide (Bx.call hfa ((unhide B0).alloc _)); have cB0q := (blk (unhide B0q).at').1 0; have fB0q := (blk (unhide B0q).at').2 0; have yB0q := lt_of_heap (unhide B0q).at'; clear cB0 fB0)); (try (have B1q := hide (Bx.call hfa ((unhide B1).alloc _)); have cB1q := (blk (unhide B1q).at').1 0; have fB1q := (blk (unhide B1q).at').2 0; have yB1q := lt_of_heap (unhide B1q).at'; clear cB1 fB1)); have B2 := hide (Bx.call hfa (Bx.new (unhide HF1) (lo := W.heap.size) z1 (b := w1.heap.size) rfl)); have cB2 := (blk (unhide B2).at').1 0; have fB2 := (blk (unhide B2).at').2 0; have yB2 := lt_of_heap (unhide B2).at'; have HLE := hide hfa.1.le; have HFA2 := hide ((unhide HFA).trans (hfa.from (by exact (Below.refl _ _).alloc (Nat.le_refl _) _))); obtain ⟨ev2, hf2⟩ := hfa.2.2; have HF2 := hide hf2; have z2 : W.heap.size ≤ w2.heap.size := (unhide HFA2).2.1.size; have kr1 : w2.cell? ⟨b, 1, none⟩ = some (.iface ui vi) := ((unhide HKB) _ (unhide HFA2).2.1).1 1; have kr3 : w2.cell? ⟨b, 3, none⟩ = some (.iface uj vj) := ((unhide HKB) _ (unhide HFA2).2.1).1 3; have zb2 : b < w2.heap.size := ((unhide HKB) _ (unhide HFA2).2.1).2; have zb2a : b < w2.heap.size + 1 := (by omega); have nc0 : b ≠ w2.heap.size := (by omega); have nc1 : b ≠ w2.heap.size + 1 := (by omega); have nc2 : w2.heap.size ≠ b := (by omega); have nc3 : w2.heap.size + 1 ≠ b := (by omega);  clear hfa hfn hf2)
      | (go_at_call 247; refine ((unhide IH) _ m F1 w1 sv iv tv ev1 wd ss e1 en (by exact unhide HY) (by exact unhide HF1) hen).mono ?_; rintro e w2 ⟨g', cb', rfl, F2, hfa, hfn⟩; have HFN2 := hide hfn; (try (have B0q := hide (Bx.call hfa (unhide B0)); have cB0q := (blk (unhide B0q).at').1 0; have fB0q := (blk (unhide B0q).at').2 0; have yB0q := lt_of_heap (unhide B0q).at'; clear cB0 fB0)); (try (have B1q := hide (Bx.call hfa (unhide B1)); have cB1q := (blk (unhide B1q).at').1 0; have fB1q := (blk (unhide B1q).at').2 0; have yB1q := lt_of_heap (unhide B1q).at'; clear cB1 fB1)); have HLE := hide hfa.1.le; have HFA2 := hide ((unhide HFA).trans (hfa.from (by exact Below.refl _ _))); obtain ⟨ev2, hf2⟩ := hfa.2.2; have HF2 := hide hf2; have z2 : W.heap.size ≤ w2.heap.size := (unhide HFA2).2.1.size; have kr1 : w2.cell? ⟨b, 1, none⟩ = some (.iface ui vi) := ((unhide HKB) _ (unhide HFA2).2.1).1 1; have kr3 : w2.cell? ⟨b, 3, none⟩ = some (.iface uj vj) := ((unhide HKB) _ (unhide HFA2).2.1).1 3; have zb2 : b < w2.heap.size := ((unhide HKB) _ (unhide HFA2).2.1).2; have zb2a : b < w2.heap.size + 1 := (by omega); have nc0 : b ≠ w2.heap.size := (by omega); have nc1 : b ≠ w2.heap.size + 1 := (by omega); have nc2 : w2.heap.size ≠ b := (by omega); have nc3 : w2.heap.size + 1 ≠ b := (by omega);  clear hfa hfn hf2))
    all_goals
      go_wp2_with fail
      go_meet
      case rel =>
        have HQ : Hid (en = none → FnG c.w0 (F2.off c.X) wd g cb (evE (colAt c.T ss) k) ∧ FnG c.w0 (F2.off c.X) wd g' cb' (evE (colAt c.T ss) m)) := fun he => by
          have h1 := orE_eq_none ((unhide hen).symm.trans he)
          exact ⟨((unhide HFN) h1.1).mono (Fx.off_mono (unhide HLE) c.X), (unhide HFN2) he⟩
        first
          | exact ⟨_, _, g, g', cb, cb', F2.off c.X, _, rfl, rfl, fin_nn (unhide HFA2) rfl rfl (unhide HQ)⟩
          | exact ⟨_, _, g, g', cb, cb', F2.off c.X, _, rfl, rfl, fin_nm (unhide HFA2) rfl rfl (unhide HQ)⟩
          | exact ⟨_, _, g, g', cb, cb', F2.off c.X, _, rfl, rfl, fin_on (unhide HH) (unhide HFA2) (unhide B0q) rfl (unhide HQ)⟩
          | exact ⟨_, _, g, g', cb, cb', F2.off c.X, _, rfl, rfl, fin_no (unhide HH) (unhide HFA2) (unhide B0q) rfl (unhide HQ)⟩
          | exact ⟨_, _, g, g', cb, cb', F2.off c.X, _, rfl, rfl, fin_om (unhide HH) (unhide HFA2) (unhide B0q) rfl (unhide HQ)⟩
          | exact ⟨_, _, g, g', cb, cb', F2.off c.X, _, rfl, rfl, fin_mo (unhide HH) (unhide HFA2) (unhide B0q) rfl (unhide HQ)⟩
          | exact ⟨_, _, g, g', cb, cb', F2.off c.X, _, rfl, rfl, fin_on (unhide HH) (unhide HFA2) (unhide B1q) rfl (unhide HQ)⟩
          | exact ⟨_, _, g, g', cb, cb', F2.off c.X, _, rfl, rfl, fin_no (unhide HH) (unhide HFA2) (unhide B1q) rfl (unhide HQ)⟩
          | exact ⟨_, _, g, g', cb, cb', F2.off c.X, _, rfl, rfl, fin_om (unhide HH) (unhide HFA2) (unhide B1q) rfl (unhide HQ)⟩
          | exact ⟨_, _, g, g', cb, cb', F2.off c.X, _, rfl, rfl, fin_mo (unhide HH) (unhide HFA2) (unhide B1q) rfl (unhide HQ)⟩
          | exact ⟨_, _, g, g', cb, cb', F2.off c.X, _, rfl, rfl, fin_on (unhide HH) (unhide HFA2) (unhide B2) rfl (unhide HQ)⟩
          | exact ⟨_, _, g, g', cb, cb', F2.off c.X, _, rfl, rfl, fin_no (unhide HH) (unhide HFA2) (unhide B2) rfl (unhide HQ)⟩
          | exact ⟨_, _, g, g', cb, cb', F2.off c.X, _, rfl, rfl, fin_om (unhide HH) (unhide HFA2) (unhide B2) rfl (unhide HQ)⟩
          | exact ⟨_, _, g, g', cb, cb', F2.off c.X, _, rfl, rfl, fin_mo (unhide HH) (unhide HFA2) (unhide B2) rfl (unhide HQ)⟩
          | exact ⟨_, _, g, g', cb, cb', F2.off c.X, _, rfl, rfl, fin_on (unhide HH) (unhide HFA2) (unhide B3) rfl (unhide HQ)⟩
          | exact ⟨_, _, g, g', cb, cb', F2.off c.X, _, rfl, rfl, fin_no (unhide HH) (unhide HFA2) (unhide B3) rfl (unhide HQ)⟩
          | exact ⟨_, _, g, g', cb, cb', F2.off c.X, _, rfl, rfl, fin_om (unhide HH) (unhide HFA2) (unhide B3) rfl (unhide HQ)⟩
          | exact ⟨_, _, g, g', cb, cb', F2.off c.X, _, rfl, rfl, fin_mo (unhide HH) (unhide HFA2) (unhide B3) rfl (unhide HQ)⟩
          | exact ⟨_, _, g, g', cb, cb', F2.off c.X, _, rfl, rfl, FA.write2 (unhide HH) (unhide HFA2) (unhide B0q) (unhide B1q) (by omega) _ _ (unhide HQ)⟩
          | exact ⟨_, _, g, g', cb, cb', F2.off c.X, _, rfl, rfl, FA.write2 (unhide HH) (unhide HFA2) (unhide B0q) (unhide B2) (by omega) _ _ (unhide HQ)⟩
          | exact ⟨_, _, g, g', cb, cb', F2.off c.X, _, rfl, rfl, FA.write2 (unhide HH) (unhide HFA2) (unhide B0q) (unhide B3) (by omega) _ _ (unhide HQ)⟩
          | exact ⟨_, _, g, g', cb, cb', F2.off c.X, _, rfl, rfl, FA.write2 (unhide HH) (unhide HFA2) (unhide B1q) (unhide B0q) (by omega) _ _ (unhide HQ)⟩
          | exact ⟨_, _, g, g', cb, cb', F2.off c.X, _, rfl, rfl, FA.write2 (unhide HH) (unhide HFA2) (unhide B1q) (unhide B2) (by omega) _ _ (unhide HQ)⟩
          | exact ⟨_, _, g, g', cb, cb', F2.off c.X, _, rfl, rfl, FA.write2 (unhide HH) (unhide HFA2) (unhide B1q) (unhide B3) (by omega) _ _ (unhide HQ)⟩
          | exact ⟨_, _, g, g', cb, cb', F2.off c.X, _, rfl, rfl, FA.write2 (unhide HH) (unhide HFA2) (unhide B2) (unhide B0q) (by omega) _ _ (unhide HQ)⟩
          | exact ⟨_, _, g, g', cb, cb', F2.off c.X, _, rfl, rfl, FA.write2 (unhide HH) (unhide HFA2) (unhide B2) (unhide B1q) (by omega) _ _ (unhide HQ)⟩
          | exact ⟨_, _, g, g', cb, cb', F2.off c.X, _, rfl, rfl, FA.write2 (unhide HH) (unhide HFA2) (unhide B2) (unhide B3) (by omega) _ _ (unhide HQ)⟩
          | exact ⟨_, _, g, g', cb, cb', F2.off c.X, _, rfl, rfl, FA.write2 (unhide HH) (unhide HFA2) (unhide B3) (unhide B0q) (by omega) _ _ (unhide HQ)⟩
          | exact ⟨_, _, g, g', cb, cb', F2.off c.X, _, rfl, rfl, FA.write2 (unhide HH) (unhide HFA2) (unhide B3) (unhide B1q) (by omega) _ _ (unhide HQ)⟩
          | exact ⟨_, _, g, g', cb, cb', F2.off c.X, _, rfl, rfl, FA.write2 (unhide HH) (unhide HFA2) (unhide B3) (unhide B2) (by omega) _ _ (unhide HQ)⟩
  case rest =>
    obtain ⟨bx, bz, g, g', cb, cb', F1, F', rfl, rfl, hfa, hx1, hz1, hle, hfn⟩ := hcut
    have HFA := hide hfa
    have HX1 := hide hx1
    have HZ1 := hide hz1
    have HLE := hide hle
    have HFN := hide hfn
    obtain ⟨kb1, zb1⟩ := (unhide HKB) _ hfa.2.1
    clear hfa hx1 hz1 hle hfn kb kq1 kq3
    cases h1 : (sg.toList == [43]) with
    | true =>
      go_wp2
      go_ret
      refine ⟨_, _, rfl, F', unhide HFA, fun he => ?_⟩
      have e : (fun r => opOf sg (evE (colAt c.T ss) k r) (evE (colAt c.T ss) m r)) = fun r => wrap64 (evE (colAt c.T ss) k r + evE (colAt c.T ss) m r) := by funext r; unfold opOf; rw [if_pos h1]
      rw [e]
      exact fn_add _ _ _ _ _ _ _ _ _ _ _ _ (unhide HX1) (unhide HZ1) (((unhide HFN) he).1.mono (unhide HLE)) (((unhide HFN) he).2.mono (unhide HLE))
    | false =>
      cases h2 : (sg.toList == [45]) with
      | true =>
        go_wp2
        go_ret
        refine ⟨_, _, rfl, F', unhide HFA, fun he => ?_⟩
        have e : (fun r => opOf sg (evE (colAt c.T ss) k r) (evE (colAt c.T ss) m r)) = fun r => wrap64 (evE (colAt c.T ss) k r - evE (colAt c.T ss) m r) := by funext r; unfold opOf; rw [if_neg (by rw [h1]; decide), if_pos h2]
        rw [e]
        exact fn_sub _ _ _ _ _ _ _ _ _ _ _ _ (unhide HX1) (unhide HZ1) (((unhide HFN) he).1.mono (unhide HLE)) (((unhide HFN) he).2.mono (unhide HLE))
      | false =>
        go_wp2
        go_ret
        refine ⟨_, _, rfl, F', unhide HFA, fun he => ?_⟩
        have e : (fun r => opOf sg (evE (colAt c.T ss) k r) (evE (colAt c.T ss) m r)) = fun r => wrap64 (evE (colAt c.T ss) k r * evE (colAt c.T ss) m r) := by funext r; unfold opOf; rw [if_neg (by rw [h1]; decide), if_neg (by rw [h2]; decide)]
        rw [e]
        exact fn_mul _ _ _ _ _ _ _ _ _ _ _ _ (unhide HX1) (unhide HZ1) (((unhide HFN) he).1.mono (unhide HLE)) (((unhide HFN) he).2.mono (unhide HLE))
end Go.Proofs.YtfkeddkfegaeiaaGreatDoor
