/-
  Part 48.
-/
import Derived.Test.YtfkeddkfegaeiaaGreatDoorProg
import Derived.Conc.MuLone
import Derived.KernelRfl
import Derived.Test.YtfkeddkfegaeiaaGreatDoorJ27
import Derived.Test.YtfkeddkfegaeiaaGreatDoorJ29
import Derived.Test.YtfkeddkfegaeiaaGreatDoorMNwN
import Derived.Maps.OwnSet
import Derived.Deep.RegionHeld3
import Derived.Test.YtfkeddkfegaeiaaGreatDoorJ28
import Derived.Defers
import Derived.Test.YtfkeddkfegaeiaaGreatDoorMPlBh
namespace Go.Proofs.YtfkeddkfegaeiaaGreatDoor
open Go

abbrev muLink : Go.Conc.Locks.MuLink := { lock := 76, unlock := 77, ilock := 119, iunlock := 120, lockSlow := 185, unlockSlow := 188, disable := 174, enable := 176, acquire := 177, relMerge := 186, cas32 := 184, add32 := 187, tMutex := 135, tIMutex := 133, tPMutex := 282, tPIMutex := 342, tPI32 := 344, tUP := 336, tNoCopy := 130, tU32 := 131 }
theorem muLib : Go.Conc.Locks.MuLib Tryz.prog muLink :=
  ⟨Tryz.func76, Tryz.func77, Tryz.func119, Tryz.func120, Tryz.func174, Tryz.func176, Tryz.func177, Tryz.func186, Tryz.func184, Tryz.func187,
   Tryz.underlying133, Tryz.runUnderlying133, Tryz.sizeOf133, Tryz.isAgg133, Tryz.zeroValue133,
   Tryz.underlying135, Tryz.runUnderlying135, Tryz.sizeOf135, Tryz.isAgg135, Tryz.zeroValue135,
   Tryz.underlying282, Tryz.runUnderlying282, Tryz.sizeOf282, Tryz.isAgg282, Tryz.zeroValue282,
   Tryz.underlying342, Tryz.runUnderlying342, Tryz.sizeOf342, Tryz.isAgg342, Tryz.zeroValue342,
   Tryz.underlying344, Tryz.runUnderlying344, Tryz.sizeOf344, Tryz.isAgg344, Tryz.zeroValue344,
   Tryz.underlying336, Tryz.runUnderlying336, Tryz.sizeOf336, Tryz.isAgg336, Tryz.zeroValue336,
   Tryz.underlying130, Tryz.runUnderlying130, Tryz.sizeOf130, Tryz.isAgg130, Tryz.zeroValue130,
   Tryz.underlying21, Tryz.runUnderlying21, Tryz.sizeOf21, Tryz.isAgg21, Tryz.zeroValue21,
   (by kernel_rfl)⟩
end Go.Proofs.YtfkeddkfegaeiaaGreatDoor
namespace Go.Proofs.YtfkeddkfegaeiaaGreatDoor
open Go.RowKit Go.MuLone Go.Maps Go.WideMaps

/-- all but two blocks is as it was. -/
structure Off2 (p q : Nat) (w w' : World) : Prop where
  os : w'.os = w.os
  tape : w'.tape = w.tape
  output : w'.output = w.output
  size : w.heap.size ≤ w'.heap.size
  block : ∀ k, k < w.heap.size → k ≠ p → k ≠ q → w'.heap[k]? = w.heap[k]?
theorem Off2.refl (p q : Nat) (w : World) : Off2 p q w w := ⟨rfl, rfl, rfl, Nat.le_refl _, fun _ _ _ _ => rfl⟩
theorem Off2.trans {p q : Nat} {w w1 w2 : World} (h : Off2 p q w w1) (k : Off2 p q w1 w2) : Off2 p q w w2 :=
  ⟨k.os.trans h.os, k.tape.trans h.tape, k.output.trans h.output, Nat.le_trans h.size k.size, fun n hn h1 h2 => (k.block n (Nat.lt_of_lt_of_le hn h.size) h1 h2).trans (h.block n hn h1 h2)⟩
theorem Below.off2 {p q : Nat} {w w' : World} (h : Below w.heap.size w w') : Off2 p q w w' := ⟨h.os, h.tape, h.output, h.size, fun k hk _ _ => h.block k hk⟩
theorem Off2.below {p q B : Nat} {w w' : World} (h : Off2 p q w w') (hB : B ≤ w.heap.size) (hp : B ≤ p) (hq : B ≤ q) : Below B w w' := ⟨h.os, h.tape, h.output, h.size, fun k hk => h.block k (by omega) (by omega) (by omega)⟩
theorem Off2.setCell (p q : Nat) (w : World) (o : Nat) (u : Value) : Off2 p q w (w.setCell ⟨p, o, none⟩ u) :=
  ⟨rfl, rfl, rfl, by simp [World.setCell], fun k _ h1 _ => Below.heap_setCell _ _ _ _ (by show k ≠ p; exact h1)⟩
theorem Off2.grown {p q : Nat} {w w' : World} (h : w.grownBy w' (some q)) : Off2 p q w w' :=
  ⟨h.os, h.tape, h.output, h.size, fun k hk _ h2 => h.block k hk (fun e => by injection e with e; omega)⟩

/-- an element, as it lies. -/
abbrev RvM (v : Value) : Option (DataW Value × List MemPlace) := some (.held v, [])
theorem readsLaw : Keyed Tryz.prog 9 := string_keyed Tryz.underlying9
abbrev qCells (tv : Value) (x y : Int) (mb : Nat) (m : Int) : Array Value := #[tv, .int .i32 x, .int .u32 y, .map (some mb), .int .i64 m]

theorem nil_eql (w : World) (v : Value) : (binOp .eql 23 .nilIface (.iface 496 v)).run Tryz.prog w = .ok (.bool false) w := by
  have h : ∀ d : Nat, (Op.equalIn (d + 1) 23 .nilIface (.iface 496 v)).run Tryz.prog w = .ok false w := fun d => by simp [Op.equalIn, run_underlying Tryz.underlying23]
  simp only [binOp]
  simp [Op.equal, Op.maxDepth, h 9999]
set_option maxRecDepth 100000 in
set_option maxHeartbeats 1000000 in
theorem isNil_any (p : Addr) (w : World) : Calls Tryz.prog 18 #[.nilIface, .iface 496 (.pointer (some p))] w fun e w' => e = .returned (.bool false) ∧ w' = w := by
  have hne := nil_eql w (.pointer (some p))
  go_enter Tryz.func18, Tryz.ntmps18
  go_wp2
  go_ret
  exact ⟨rfl, rfl⟩
set_option maxRecDepth 100000 in
set_option maxHeartbeats 1000000 in
theorem asNil_any (t : Value) (w : World) : Calls Tryz.prog 122 #[.nilIface, t] w fun e w' => e = .returned (.bool false) ∧ w' = w := by
  go_enter Tryz.func122, Tryz.ntmps122
  go_wp2
  go_ret
  exact ⟨rfl, rfl⟩
set_option maxRecDepth 100000 in
set_option maxHeartbeats 1000000 in
theorem ownNil_any (w : World) : Calls Tryz.prog 80 #[.nilIface] w fun e w' => e = .returned .nilIface ∧ Below w.heap.size w w' := by
  go_enter Tryz.func80, Tryz.ntmps80
  go_wp2_with (go_at_call 122; refine (asNil_any _ _).mono ?_; rintro e w' ⟨rfl, rfl⟩)
  go_ret
  exact ⟨rfl, (Below.refl _ _).alloc (Nat.le_refl _) _⟩

set_option maxRecDepth 100000 in
set_option maxHeartbeats 1000000 in
theorem keep_ok (a : Nat → Addr) (B : Nat) (w : World) (hE : EnvX a B w) (qb mb n : Nat) (D : DataW Value) (s : ByteArray) (hs : s.size ≤ 1000) (ad : Option Addr) (tv : Value) (x y m : Int) (hm : 0 ≤ m ∧ m < 1000000000) (hn : n < 1000000000) (hne : mb ≠ qb)
    (hq : w.heap[qb]? = some (.cells (qCells tv x y mb m) 140 (0, 0))) (hown : w.ownsMap Tryz.prog 9 RvM mb n D) :
    Calls Tryz.prog 79 #[.pointer (some ⟨qb, 1, none⟩), .string s, .agg #[.pointer ad, .nilIface]] w fun e w' => e = .returned (.tuple #[]) ∧ w'.ownsMap Tryz.prog 9 RvM mb (n + 1) (D.put (.string s.data.toList) (.held (.agg #[.pointer ad, .nilIface]))) ∧ w'.heap[qb]? = some (.cells (qCells tv x y mb (m + 1)) 140 (0, 0)) ∧ Off2 qb mb w w' := by
  have hkey := keyOf_string_mk (P := Tryz.prog) Tryz.underlying9 (s := s) (by unfold maxLen; omega)
  have gl : w.cell? ⟨0, 0, none⟩ = some (errV a 0) := hE.cell _ (by decide)
  have zl : 0 < w.heap.size := World.block_lt_of_cell? w _ gl
  obtain ⟨kq, fq⟩ := blk hq
  have zq := lt_of_heap hq
  have k3 : w.cell? ⟨qb, 3, none⟩ = some (.map (some mb)) := kq 3
  have HQ := hide hq
  have HO := hide hown
  clear hq hown hE
  go_enter Tryz.func79, Tryz.ntmps79
  go_wp2_with fail
  refine (isNil_any _ _).mono ?_
  rintro e w1 ⟨rfl, hw1⟩
  subst hw1
  obtain ⟨w2, hrun, hown2, hturn2⟩ := ((unhide HO).alloc (.cells #[.pointer ad, .nilIface] 209)).drew.store (t := 136) (e := 209) readsLaw Tryz.underlying136 (by unfold maxLen; omega) (val := .agg #[.pointer ad, .nilIface]) hkey rfl
  have hg2 := hturn2.grown
  have HO2 := hide hown2
  have zm := (unhide HO).lt
  have hq2 : w2.heap[qb]? = some (.cells (qCells tv x y mb m) 140 (0, 0)) := (hg2.block qb (by simp; omega) (fun e => by injection e with e; omega)).trans (heap_prev (unhide HQ))
  have hb2 : w2.heap[w.heap.size]? = some (.cells #[.pointer ad, .nilIface] 209 (0, 0)) := (hg2.block w.heap.size (by simp) (fun e => by injection e with e; omega)).trans (heap_last rfl)
  obtain ⟨kq2, fq2⟩ := blk hq2
  obtain ⟨kb2, -⟩ := blk hb2
  have q3 : w2.cell? ⟨qb, 3, none⟩ = some (.map (some mb)) := kq2 3
  have q4 : w2.cell? ⟨qb, 4, none⟩ = some (.int .i64 m) := kq2 4
  have c0 : w2.cell? ⟨w.heap.size, 0, none⟩ = some (.pointer ad) := kb2 0
  have c1 : w2.cell? ⟨w.heap.size, 1, none⟩ = some .nilIface := kb2 1
  have z2 : qb < w2.heap.size := lt_of_heap hq2
  have z2b : w.heap.size < w2.heap.size := lt_of_heap hb2
  have HQ2 := hide hq2
  have HF2 : Hid (Off2 qb mb w w2) := (Below.off2 ((Below.refl _ _).alloc (Nat.le_refl _) _)).trans ((Below.off2 (Below.refl _ _).drew).trans (Off2.grown hg2))
  have hne4 : w.heap.size ≠ qb := by omega
  clear hturn2 hg2 hown2 hq2 hb2 kq2 kb2 kq
  go_wp2_with fail
  go_region_held3 (fun w' => w'.cell? ⟨qb, 3, none⟩ = some (.map (some mb)) ∧ w'.cell? ⟨w.heap.size, 0, none⟩ = some (.pointer ad) ∧ w'.cell? ⟨w.heap.size, 1, none⟩ = some .nilIface) (go_keep) (first | fail)
  have hw1 : wrap64 (m + 1) = m + 1 := by unfold wrap64; omega
  go_wp2
  go_end0
  refine ⟨rfl, (unhide HO2).setCell (a := ⟨qb, 4, none⟩) hne _, ?_, (unhide HF2).trans (Off2.setCell qb mb w2 4 _)⟩
  rw [heap_set (unhide HQ2)]
  rfl
end Go.Proofs.YtfkeddkfegaeiaaGreatDoor
namespace Go.Proofs.YtfkeddkfegaeiaaGreatDoor
open Go.RowKit Go.MuLone Go.Maps Go.WideMaps

set_option maxHeartbeats 400000 in
theorem clone_1000 (s : ByteArray) (w : World) (hs : s.size ≤ 1000) : Calls Tryz.prog 78 #[.string s] w fun e w' => e = .returned (.string s) ∧ Below w.heap.size w w' := by
  go_enter Tryz.func78, Tryz.ntmps78
  go_wp2_with fail
  refine (Tryz.stringslite_Clone s _ (by omega)).mono ?_
  rintro e w1 ⟨rfl, hb⟩
  have HB := hide hb
  clear hb
  go_wp2
  go_ret
  exact ⟨rfl, unhide HB⟩
theorem read_good (s : ByteArray) (a : Nat → Addr) (B : Nat) (w : World) (hE : Env a B w) (hs : s.size ≤ 1000) (X : QueryX) (h : readP s = .ok X) :
    Calls Tryz.prog 36 #[.string s] w fun e w' => ∃ b, e = .returned (.tuple #[.pointer (some ⟨b, 0, none⟩), .nilIface]) ∧ QueryOk w' w.heap.size (.pointer (some ⟨b, 0, none⟩)) X ∧ Below w.heap.size w w' := by
  unfold readP at h
  cases hsc : scanP s with
  | error x => rw [hsc] at h; cases h
  | ok ts =>
    rw [hsc] at h
    obtain ⟨l, hl⟩ := scanP_shape hsc
    refine (read_ok s a B w hE hs ts l hsc hl (.ok X) h.symm).mono ?_
    rintro e w' ⟨hb, v, rfl, hq⟩
    obtain ⟨b, vw, vm, rfl, h2⟩ := hq
    exact ⟨b, rfl, ⟨b, vw, vm, rfl, h2⟩, hb⟩
theorem QueryOk.off3 {w w' : World} {lo lo' p q : Nat} {v : Value} {x : QueryX} (h : QueryOk w lo v x) (hk : Off2 p q w w') (hp : p < lo) (hq : q < lo) (hl : lo' ≤ lo) : QueryOk w' lo' v x := by
  have hks : Keeps qT lo w w' := fun k cs t hlo hk2 _ => hk.block k (lt_of_heap hk2) (by omega) (by omega)
  obtain ⟨b, vw, vm, h1, h2, h3, h4, h5⟩ := h
  exact ⟨b, vw, vm, h1, Nat.le_trans hl h2, (hk.block b (lt_of_heap h3) (by omega) (by omega)).trans h3, h4.keep hl hks, h5.keep hl hks.sel⟩
theorem QueryOk.off2 {w w' : World} {lo p q : Nat} {v : Value} {x : QueryX} (h : QueryOk w lo v x) (hk : Off2 p q w w') (hp : p < lo) (hq : q < lo) : QueryOk w' lo v x := h.off3 hk hp hq (Nat.le_refl _)

theorem owns_mapB {P : Program} {k : TypeId} {R : Value → Option (DataW Value × List MemPlace)} {b n : Nat} {D : DataW Value} {w w' : World} (h : w.ownsMap P k R b n D) (hb : Below w.heap.size w w') : w'.ownsMap P k R b n D := by
  have hlt := h.lt
  obtain ⟨es, clock, h1, h2, h3, h4⟩ := h
  exact ⟨es, clock, (hb.block b hlt).trans h1, h2, h3, h4⟩
/-- the quarry's block and map, in a later world. -/
structure Qy (w0 : World) (tv : Value) (qb mb : Nat) (x y m : Int) (n : Nat) (D : DataW Value) (W : World) : Prop where
  blk : W.heap[qb]? = some (.cells (qCells tv x y mb m) 140 (0, 0))
  map : W.ownsMap Tryz.prog 9 RvM mb n D
  off : Off2 qb mb w0 W
theorem Qy.below {w0 W W' : World} {tv : Value} {qb mb n : Nat} {x y m : Int} {D : DataW Value} (h : Qy w0 tv qb mb x y m n D W) (hb : Below W.heap.size W W') : Qy w0 tv qb mb x y m n D W' :=
  ⟨(hb.block qb (lt_of_heap h.blk)).trans h.blk, owns_mapB h.map hb, h.off.trans (Below.off2 hb)⟩
theorem Qy.set {w0 W : World} {tv : Value} {qb mb n : Nat} {x y m : Int} {D : DataW Value} (h : Qy w0 tv qb mb x y m n D W) {c o : Nat} (h1 : w0.heap.size ≤ c) (h2 : c ≠ qb) (h3 : c ≠ mb) (u : Value) : Qy w0 tv qb mb x y m n D (W.setCell ⟨c, o, none⟩ u) :=
  ⟨by rw [Below.heap_setCell _ _ _ _ (by show qb ≠ c; omega)]; exact h.blk, h.map.setCell (a := ⟨c, o, none⟩) (by show mb ≠ c; omega) u, ⟨h.off.os, h.off.tape, h.off.output, by simpa [World.setCell] using h.off.size, fun k hk e1 e2 => by rw [Below.heap_setCell _ _ _ _ (by show k ≠ c; omega)]; exact h.off.block k hk e1 e2⟩⟩

set_option maxRecDepth 100000 in
set_option maxHeartbeats 4000000 in
theorem parts_new (a : Nat → Addr) (B : Nat) (w : World) (hE : EnvX a B w) (qb mb n : Nat) (hBq : B ≤ qb) (hBm : B ≤ mb) (D : DataW Value) (s : ByteArray) (hs : s.size ≤ 1000) (X : QueryX) (hX : readP s = .ok X) (tv : Value) (y m : Int) (hm : 0 ≤ m ∧ m < 1000000000) (hn : n < 1000000000) (hne : mb ≠ qb)
    (hq : w.heap[qb]? = some (.cells (qCells tv 0 y mb m) 140 (0, 0))) (hown : w.ownsMap Tryz.prog 9 RvM mb n D) (hnew : Maps.has D (.string s.data.toList) = false) (hat : ∀ z, D.atKey (.string s.data.toList) z = z) :
    Calls Tryz.prog 50 #[.pointer (some ⟨qb, 1, none⟩), .string s] w fun e w' => ∃ b, e = .returned (.tuple #[.pointer (some ⟨b, 0, none⟩), .nilIface]) ∧ QueryOk w' w.heap.size (.pointer (some ⟨b, 0, none⟩)) X ∧ w'.heap[qb]? = some (.cells (qCells tv 0 y mb (m + 1)) 140 (0, 0)) ∧ w'.ownsMap Tryz.prog 9 RvM mb (n + 1) (D.put (.string s.data.toList) (.held (.agg #[.pointer (some ⟨b, 0, none⟩), .nilIface]))) ∧ Off2 qb mb w w' := by
  have hkey := keyOf_string_mk (P := Tryz.prog) Tryz.underlying9 (s := s) (by unfold maxLen; omega)
  obtain ⟨kq, fq⟩ := blk hq
  have zq := lt_of_heap hq
  have zm := hown.lt
  have k1 : w.cell? ⟨qb, 1, none⟩ = some (.int .i32 0) := kq 1
  have f1 : w.frozen? ⟨qb, 1, none⟩ = false := fq 1
  have k3 : w.cell? ⟨qb, 3, none⟩ = some (.map (some mb)) := kq 3
  have HQ := hide hq
  have HO := hide hown
  have HE := hide hE
  have HX := hide hX
  have HN := hide hnew
  have HA := hide hat
  have HO1 := hide (hown.setCell (a := ⟨qb, 1, none⟩) hne (.int .i32 1))
  have hq1 := heap_set (off := 1) hq (.int .i32 1)
  have HQ1 : Hid ((w.setCell ⟨qb, 1, none⟩ (.int .i32 1)).heap[qb]? = some (.cells (qCells tv 1 y mb m) 140 (0, 0))) := hq1
  have HF1 : Hid (Off2 qb mb w (w.setCell ⟨qb, 1, none⟩ (.int .i32 1))) := Off2.setCell qb mb w 1 _
  have hlook : (Instr.lookup 136 (.map (some mb)) (.string s) true).run Tryz.prog (w.setCell ⟨qb, 1, none⟩ (.int .i32 1)) = .ok (.tuple #[.agg #[.pointer none, .nilIface], .bool false]) (w.setCell ⟨qb, 1, none⟩ (.int .i32 1)) := by
    obtain ⟨v, ps, hrun, hv⟩ := (unhide HO1).look_ok readsLaw (t := 136) (e := 209) Tryz.underlying136 (Tryz.zeroValue209 _) rfl hkey
    rw [hat] at hv
    injection hv with hv
    injection hv with hv _
    injection hv with hv
    rw [hrun, hnew, hv]
  clear hq hown hE hX hnew hat kq fq hq1
  go_enter_defers Tryz.func50, Tryz.ntmps50
  go_wp2_with (go_at_call 76; refine (lock_free muLib ⟨qb, 1, none⟩ _ k1 f1).mono ?_; rintro e w' ⟨rfl, rfl⟩)
  have HY1 : Hid (Qy w tv qb mb 1 y m n D ((w.setCell ⟨qb, 1, none⟩ (.int .i32 1)).alloc (.cells #[.pointer none, .nilIface] 209))) := Qy.below ⟨unhide HQ1, unhide HO1, unhide HF1⟩ ((Below.refl _ _).alloc (Nat.le_refl _) _)
  have hx1 : ((w.setCell ⟨qb, 1, none⟩ (.int .i32 1)).alloc (.cells #[.pointer none, .nilIface] 209)).heap[w.heap.size]? = some (.cells #[.pointer none, .nilIface] 209 (0, 0)) := heap_last (by simp [World.setCell])
  generalize (w.setCell ⟨qb, 1, none⟩ (.int .i32 1)).alloc (.cells #[.pointer none, .nilIface] 209) = W1 at *
  have hzB : B ≤ w.heap.size := (unhide HE).env.size
  have HX1 := hide hx1
  clear hlook hx1 k1 f1 k3 HQ HO HO1 HQ1 HF1
  refine (clone_1000 s _ hs).mono ?_
  rintro e w2 ⟨rfl, hb2⟩
  have HY2 := hide ((unhide HY1).below hb2)
  have HX2 := hide ((hb2.block _ (lt_of_heap (unhide HX1))).trans (unhide HX1))
  clear hb2 HY1 HX1
  go_wp2_with fail
  refine (read_good s a B _ (by exact ((unhide HE).keep ((unhide HY2).off.below hzB hBq hBm)).env) hs X (unhide HX)).mono ?_
  rintro e w3 ⟨b, rfl, hq3, hb3⟩
  have HY3 := hide ((unhide HY2).below hb3)
  have hx3 := (hb3.block _ (lt_of_heap (unhide HX2))).trans (unhide HX2)
  have HX3 := hide hx3
  have HQ3 := hide hq3
  have hlo : w.heap.size < w2.heap.size := lt_of_heap (unhide HX2)
  obtain ⟨kx, fx⟩ := blk hx3
  have kx0 : w3.cell? ⟨w.heap.size, 0, none⟩ = some (.pointer none) := kx 0
  have kx1 : w3.cell? ⟨w.heap.size, 1, none⟩ = some .nilIface := kx 1
  have zx := lt_of_heap hx3
  have hnq : w.heap.size ≠ qb := by omega
  have hnm : w.heap.size ≠ mb := by omega
  clear hb3 hq3 hx3 HY2 HX2 kx
  go_wp2_with fail
  have HY4 := hide (((unhide HY3).set (o := 0) (Nat.le_refl _) hnq hnm (.pointer (some ⟨b, 0, none⟩))).set (o := 1) (Nat.le_refl _) hnq hnm .nilIface)
  have HX4 : Hid (((w3.setCell ⟨w.heap.size, 0, none⟩ (.pointer (some ⟨b, 0, none⟩))).setCell ⟨w.heap.size, 1, none⟩ .nilIface).heap[w.heap.size]? = some (.cells #[.pointer (some ⟨b, 0, none⟩), .nilIface] 209 (0, 0))) := by
    unfold Hid
    rw [heap_set (heap_set (unhide HX3) _)]
    rfl
  have HQ4 : Hid (QueryOk ((w3.setCell ⟨w.heap.size, 0, none⟩ (.pointer (some ⟨b, 0, none⟩))).setCell ⟨w.heap.size, 1, none⟩ .nilIface) w2.heap.size (.pointer (some ⟨b, 0, none⟩)) X) := ((unhide HQ3).off2 (Off2.setCell w.heap.size w.heap.size w3 0 _) hlo hlo).off2 (Off2.setCell w.heap.size w.heap.size _ 1 _) hlo hlo
  generalize (w3.setCell ⟨w.heap.size, 0, none⟩ (.pointer (some ⟨b, 0, none⟩))).setCell ⟨w.heap.size, 1, none⟩ .nilIface = W4 at *
  clear HY3 HX3 HQ3 kx0 kx1 zx fx
  refine (keep_ok a B _ (by exact (unhide HE).keep ((unhide HY4).off.below hzB hBq hBm)) qb mb n D s hs _ tv 1 y m hm hn hne (by exact (unhide HY4).blk) (by exact (unhide HY4).map)).mono ?_
  rintro e w5 ⟨rfl, hm5, hq5, ho5⟩
  have HY5 : Hid (Qy w tv qb mb 1 y (m + 1) (n + 1) (D.put (.string s.data.toList) (.held (.agg #[.pointer (some ⟨b, 0, none⟩), .nilIface]))) w5) := ⟨hq5, hm5, (unhide HY4).off.trans ho5⟩
  have hx5 := (ho5.block _ (lt_of_heap (unhide HX4)) hnq hnm).trans (unhide HX4)
  have HQ5 := hide ((unhide HQ4).off2 ho5 (by omega) (by omega))
  obtain ⟨kx, fx⟩ := blk hx5
  have kx0 : w5.cell? ⟨w.heap.size, 0, none⟩ = some (.pointer (some ⟨b, 0, none⟩)) := kx 0
  have kx1 : w5.cell? ⟨w.heap.size, 1, none⟩ = some .nilIface := kx 1
  have zx := lt_of_heap hx5
  clear hm5 hq5 ho5 hx5 HY4 HX4 HQ4 kx
  go_wp2_with fail
  go_region_held3 (fun w' => w'.cell? ⟨w.heap.size, 0, none⟩ = some (.pointer (some ⟨b, 0, none⟩)) ∧ w'.cell? ⟨w.heap.size, 1, none⟩ = some .nilIface) (go_keep) (first | (go_at_call 80; refine (ownNil_any _).mono ?_; rintro e w6 ⟨rfl, hb6⟩; have j0 := (hb6.cell (p := ⟨w.heap.size, 0, none⟩) (by simpa using zx)).trans kx0; have j1 := (hb6.cell (p := ⟨w.heap.size, 1, none⟩) (by simpa using zx)).trans kx1; have HB6 : Hid (Below w5.heap.size w5 w6) := (Below.refl _ _).drew.trans hb6; clear hb6))
  all_goals go_wp2
  have hy6 := (unhide HY5).below (unhide HB6)
  have HY6 := hide hy6
  obtain ⟨kq, fq⟩ := blk hy6.blk
  have k1 : w6.cell? ⟨qb, 1, none⟩ = some (.int .i32 1) := kq 1
  have f1 : w6.frozen? ⟨qb, 1, none⟩ = false := fq 1
  clear hy6 kq fq
  refine leaves_cons (f := 77) (args := #[.pointer (some ⟨qb, 1, none⟩)]) (by simp) (by simp [go_sem]) ?_
  refine (unlock_deferred muLib ⟨qb, 1, none⟩ .returning _ k1 f1).mono ?_
  rintro e u' w'' ⟨rfl, rfl, rfl⟩
  refine ⟨_, results_tmp2 rfl _ _ _, b, rfl, ?_, ?_, (unhide HY6).map.setCell (a := ⟨qb, 1, none⟩) hne _, (unhide HY6).off.trans (Off2.setCell qb mb w6 1 _)⟩
  · exact ((unhide HQ5).keepB (unhide HB6)).off3 (Off2.setCell qb mb w6 1 _) (by omega) (by omega) (by omega)
  · rw [heap_set (unhide HY6).blk]
    rfl
end Go.Proofs.YtfkeddkfegaeiaaGreatDoor
namespace Go.Proofs.YtfkeddkfegaeiaaGreatDoor
open Go.RowKit Go.MuLone Go.Maps Go.WideMaps

def eoV (T : List Tb) (x : ItemA) (ss : List Sr) : Option (Nat × Nat) := exErr T ss x.val
def foV (T : List Tb) (x : ItemA) (ss : List Sr) (rows : List (List Int)) : List Int := rows.map (evE (colAt T ss) x.val)
/-- what a select gives, plain. -/
structure Pn (T : List Tb) (x : SelX) (fs : Fs) (N : Nat) (ch l : List (List Int)) (R : Option (Nat × Nat)) : Prop where
  efs : fs = foldS T x.srcs
  eN : N = mulN (rowsOf T fs.ss)
  ech : ch = chosenN T fs.ss (x.tests.map fun u => tsHolds (colAt T fs.ss) u) N
  el : l = turned ch.length ((x.items.map fun e => foV T e fs.ss).map fun f => f ch)
  eR : R = x.tests.foldl (fun a u => orE a (tsErr T fs.ss u)) (x.items.foldl (fun a e => orE a (eoV T e fs.ss)) fs.er)

set_option maxRecDepth 100000 in
set_option maxHeartbeats 1000000 in
theorem answer_sel (a : Nat → Addr) (w : World) (B : Nat) (hE : EnvX a B w) (lo q : Nat) (X : QueryX) (hq : QueryOk w lo (.pointer (some ⟨q, 0, none⟩)) X) (hwt : X.wth = none) (hwin : ∀ i ∈ X.main.items, i.win = none) (hi0 : 0 < X.main.items.length) (hi6 : X.main.items.length ≤ 6) (hs0 : 0 < X.main.srcs.length) (hs3 : X.main.srcs.length ≤ 3) (hu9 : X.main.tests.length ≤ 1000)
    (tb tof tc : Nat) (T : List Tb) (hT : TabsAt w (.slice (some ⟨tb, tof, none⟩) T.length tc) T) (hc6 : ∀ t ∈ T, t.cols.length ≤ 6) (h200 : ∀ t ∈ T, t.rows.length ≤ 200) (hsh : ∀ t ∈ T, ∀ r ∈ t.rows, r.length = t.cols.length)
    (fs : Fs) (N : Nat) (ch l : List (List Int)) (R : Option (Nat × Nat)) (hp : Pn T X.main fs N ch l R) :
    ∃ es : List (ItemA × Value × Option Addr), es.map (·.1) = X.main.items ∧ Calls Tryz.prog 51 #[.pointer (some ⟨q, 0, none⟩), .slice (some ⟨tb, tof, none⟩) T.length tc] w fun e w' => AnsDone a w N l es R e w' := by
  obtain ⟨q', vw, vm, e0, -, hqb, hvw, hsel⟩ := hq
  injection e0 with e0
  injection e0 with e0
  injection e0 with e0
  subst e0
  rw [hwt] at hvw
  obtain rfl : vw = .pointer none := hvw
  obtain ⟨b, vi, vs, vt, es, us, rfl, -, hb, ⟨hi, hie, hiv⟩, hs, ⟨ht, hte, hto⟩⟩ := hsel
  have hlen : es.length = X.main.items.length := by rw [← hie, List.length_map]
  have hlen2 : us.length = X.main.tests.length := by rw [← hte, List.length_map]
  have hno : ∀ e ∈ es, e.1.win = none := fun e he => hwin _ (by rw [← hie]; exact List.mem_map_of_mem he)
  have hval : ∀ e ∈ es, e.2.2 = none ∧ ExOk w lo e.2.1 e.1.val := fun e he => by
    have h1 := hiv e he
    rw [hno e he] at h1
    obtain ⟨h2, h3⟩ := h1
    injection h2 with h2
    exact ⟨h2, h3⟩
  refine ⟨es, hie, answer_plain a w B hE q lo _ b hqb tb tof tc T hT hc6 h200 hsh _ vi vs vt X.main.srcs hb hs hs0 hs3 es hi (by omega) (by omega) (eoV T) (foV T) (fun c hc hcT _ e he => ?_) (fun e he => ?_) us ht (by omega) (fun u hu => ?_) fs hp.efs N hp.eN ch ?_ l ?_ R ?_⟩
  · obtain ⟨h1, n, h2⟩ := hval e he
    rw [h1]
    have h3 : ExP w (fun _ => True) n e.2.1 e.1.val := ExP.keep (fun _ _ => trivial) (fun _ _ _ _ _ _ => rfl) n _ _ h2
    have h4 := item_val c n e.1.place e.2.1 e.1.asP e.1.asT e.1.val (h3.keepB hc)
    unfold eoV foV
    rw [hcT] at h4
    exact h4
  · obtain ⟨h1, n, h2⟩ := hval e he
    obtain ⟨u, x, h3⟩ := ExP.isI _ _ _ h2
    exact Or.inr ⟨u, x, h3⟩
  · obtain ⟨⟨n1, h1⟩, n2, h2⟩ := hto u hu
    refine ⟨max n1 n2, ExP.up n1 _ _ _ (by omega) (ExP.keep (fun _ _ => trivial) (fun _ _ _ _ _ _ => rfl) _ _ _ h1), ExP.up n2 _ _ _ (by omega) (ExP.keep (fun _ _ => trivial) (fun _ _ _ _ _ _ => rfl) _ _ _ h2)⟩
  · rw [hp.ech, ← hte, List.map_map]; rfl
  · rw [hp.el, ← hie, List.map_map, List.map_map, List.map_map]; rfl
  · rw [hp.eR, ← hie, ← hte, List.foldl_map, List.foldl_map]; rfl

/-- what Ask leaves. -/
def AskDone (a : Nat → Addr) (w : World) (qb mb : Nat) (N : Nat) (l : List (List Int)) (its : List ItemA) (R : Option (Nat × Nat)) (e : Ending) (w' : World) : Prop := Off2 qb mb w w' ∧
  (∀ p k, R = some (p, k) → ∃ b, e = .returned (.tuple #[.agg #[.slice none 0 0, .slice none 0 0], .iface 110 (.pointer (some ⟨b, 0, none⟩))]) ∧ w.heap.size ≤ b ∧ w'.heap[b]? = some (.cells #[.int .i64 (p : Nat), errV a k] 113 (0, 0))) ∧
  (R = none → 4000 < N → e = .returned (.tuple #[.agg #[.slice none 0 0, .slice none 0 0], errV a eMany])) ∧
  (R = none → N ≤ 4000 → ∃ gc gr es, es.map (·.1) = its ∧ e = .returned (.tuple #[.agg #[.slice (some ⟨gc, 0, none⟩) es.length es.length, .slice (some ⟨gr, 0, none⟩) l.length l.length], .nilIface]) ∧ w.heap.size ≤ gc ∧ w.heap.size ≤ gr ∧ w'.heap[gc]? = some (.cells (namesV es).toArray 9 (0, 0)) ∧ RowsB w' gr 32 l.length (sortL l))

set_option maxRecDepth 100000 in
set_option maxHeartbeats 4000000 in
theorem ask_first (a : Nat → Addr) (B : Nat) (w : World) (hE : EnvX a B w) (qb mb n : Nat) (hBq : B ≤ qb) (hBm : B ≤ mb) (D : DataW Value) (s : ByteArray) (hs : s.size ≤ 1000) (X : QueryX) (hX : readP s = .ok X) (tb tof tc : Nat) (T : List Tb) (y m : Int) (hm : 0 ≤ m ∧ m < 1000000000) (hn : n < 1000000000) (hne : mb ≠ qb)
    (hq : w.heap[qb]? = some (.cells (qCells (.slice (some ⟨tb, tof, none⟩) T.length tc) 0 y mb m) 140 (0, 0))) (hown : w.ownsMap Tryz.prog 9 RvM mb n D) (hnew : Maps.has D (.string s.data.toList) = false) (hat : ∀ z, D.atKey (.string s.data.toList) z = z)
    (hwt : X.wth = none) (hwin : ∀ i ∈ X.main.items, i.win = none) (hi0 : 0 < X.main.items.length) (hi6 : X.main.items.length ≤ 6) (hs0 : 0 < X.main.srcs.length) (hs3 : X.main.srcs.length ≤ 3) (hu9 : X.main.tests.length ≤ 1000)
    (hT : ∀ W, Off2 qb mb w W → TabsAt W (.slice (some ⟨tb, tof, none⟩) T.length tc) T) (hc6 : ∀ t ∈ T, t.cols.length ≤ 6) (h200 : ∀ t ∈ T, t.rows.length ≤ 200) (hsh : ∀ t ∈ T, ∀ r ∈ t.rows, r.length = t.cols.length)
    (fs : Fs) (N : Nat) (ch l : List (List Int)) (R : Option (Nat × Nat)) (hp : Pn T X.main fs N ch l R) :
    Calls Tryz.prog 25 #[.pointer (some ⟨qb, 0, none⟩), .string s] w fun e w' => AskDone a w qb mb N l X.main.items R e w' := by
  obtain ⟨W0, hW0⟩ : ∃ W0, W0 = w.alloc (.cells #[.slice none 0 0, .slice none 0 0] 68) := ⟨_, rfl⟩
  have hb0 : Below w.heap.size w W0 := by rw [hW0]; exact (Below.refl _ _).alloc (Nat.le_refl _) _
  have hx0 : W0.heap[w.heap.size]? = some (.cells #[.slice none 0 0, .slice none 0 0] 68 (0, 0)) := by rw [hW0]; exact heap_last rfl
  have zq := lt_of_heap hq
  have zm := hown.lt
  have HE0 := hide (hE.keep (hb0.mono hE.env.size))
  have HP := hide (parts_new a B W0 (unhide HE0) qb mb n hBq hBm D s hs X hX _ y m hm hn hne ((hb0.block qb zq).trans hq) (owns_mapB hown hb0) hnew hat)
  have HAN : Hid (∀ w1 b, Off2 qb mb W0 w1 → QueryOk w1 W0.heap.size (.pointer (some ⟨b, 0, none⟩)) X → ∃ es : List (ItemA × Value × Option Addr), es.map (·.1) = X.main.items ∧ Calls Tryz.prog 51 #[.pointer (some ⟨b, 0, none⟩), .slice (some ⟨tb, tof, none⟩) T.length tc] w1 fun e w' => AnsDone a w1 N l es R e w') := fun w1 b h1 h2 =>
    answer_sel a w1 B ((unhide HE0).keep (h1.below (unhide HE0).env.size hBq hBm)) W0.heap.size b X h2 hwt hwin hi0 hi6 hs0 hs3 hu9 tb tof tc T (hT w1 ((Below.off2 hb0).trans h1)) hc6 h200 hsh fs N ch l R hp
  have HF0 : Hid (Off2 qb mb w W0) := Below.off2 hb0
  have HX0 := hide hx0
  have zx0 := lt_of_heap hx0
  have HWW := hide hW0
  clear hE hX hq hown hnew hat hwt hwin hi0 hi6 hs0 hs3 hu9 hT hc6 h200 hsh hp hb0 hx0 hW0
  go_enter Tryz.func25, Tryz.ntmps25
  go_wp2_with fail
  rw [← unhide HWW]
  refine (unhide HP).mono ?_
  rintro e w1 ⟨b, rfl, hqo, hq1, hmap1, hoff1⟩
  obtain ⟨es, hes, hcall⟩ := (unhide HAN) w1 b hoff1 hqo
  have HC := hide hcall
  have hx1 := (hoff1.block _ zx0 (by omega) (by omega)).trans (unhide HX0)
  have HX1 := hide hx1
  have zx1 := lt_of_heap hx1
  have HF1 : Hid (Off2 qb mb w w1) := (unhide HF0).trans hoff1
  obtain ⟨kq, -⟩ := blk hq1
  have k0 : w1.cell? ⟨qb, 0, none⟩ = some (.slice (some ⟨tb, tof, none⟩) T.length tc) := kq 0
  have zq1 := lt_of_heap hq1
  have hz01 := hoff1.size
  clear hqo hq1 hmap1 hoff1 hcall hx1 kq HP HAN
  go_wp2_with fail
  refine (unhide HC).mono ?_
  rintro e w2 ⟨hb2, hbad, hmany, hgood⟩
  have hx2 := (hb2.block _ zx1).trans (unhide HX1)
  have HX2 := hide hx2
  obtain ⟨kx, fx⟩ := blk hx2
  have zx2 := lt_of_heap hx2
  have x0 : w2.cell? ⟨w.heap.size, 0, none⟩ = some (.slice none 0 0) := kx 0
  have x1 : w2.cell? ⟨w.heap.size, 1, none⟩ = some (.slice none 0 0) := kx 1
  have xf0 : w2.frozen? ⟨w.heap.size, 0, none⟩ = false := fx 0
  have xf1 : w2.frozen? ⟨w.heap.size, 1, none⟩ = false := fx 1
  have HF2 : Hid (∀ u v, Off2 qb mb w ((w2.setCell ⟨w.heap.size, 0, none⟩ u).setCell ⟨w.heap.size, 1, none⟩ v)) := fun u v => by
    have h1 := (unhide HF1).trans (Below.off2 hb2)
    refine ⟨h1.os, h1.tape, h1.output, by simpa [World.setCell] using h1.size, fun k hk e1 e2 => ?_⟩
    rw [Below.heap_setCell _ _ _ _ (by show k ≠ w.heap.size; omega), Below.heap_setCell _ _ _ _ (by show k ≠ w.heap.size; omega)]
    exact h1.block k hk e1 e2
  have hzw : w.heap.size < w1.heap.size := zx1
  clear hb2 hx2 kx fx HC k0
  cases R with
  | some pk =>
    obtain ⟨p, k⟩ := pk
    obtain ⟨ev, rfl, b9, rfl, h1, h2⟩ := hbad p k rfl
    have H22 := hide h2
    clear hbad hmany hgood h2
    go_wp2
    refine bodyPost_ret (v := .tuple #[.agg #[.slice none 0 0, .slice none 0 0], .iface 110 (.pointer (some ⟨b9, 0, none⟩))]) (by simp [results, Tryz.results25, go_sem, *]) rfl ⟨(unhide HF2) _ _, fun p' k' e => ?_, (fun e => by cases e), (fun e => by cases e)⟩
    cases e
    refine ⟨b9, rfl, by omega, ?_⟩
    rw [Below.heap_setCell _ _ _ _ (by show b9 ≠ w.heap.size; omega), Below.heap_setCell _ _ _ _ (by show b9 ≠ w.heap.size; omega)]
    exact unhide H22
  | none =>
    by_cases h4 : 4000 < N
    · obtain rfl := hmany rfl h4
      clear hbad hmany hgood
      go_wp2
      exact bodyPost_ret (v := .tuple #[.agg #[.slice none 0 0, .slice none 0 0], errV a eMany]) (by simp [results, Tryz.results25, go_sem, *]) rfl ⟨(unhide HF2) _ _, (fun p' k' e => by cases e), fun _ _ => rfl, fun _ h => absurd h4 (by omega)⟩
    · obtain ⟨gc, gr, rfl, hgc, hgr, hnm, hrb⟩ := hgood rfl (by omega)
      have HNM := hide hnm
      have HRB := hide hrb
      have HES := hide hes
      clear hbad hmany hgood hnm hrb hes
      go_wp2
      refine bodyPost_ret (v := .tuple #[.agg #[.slice (some ⟨gc, 0, none⟩) es.length es.length, .slice (some ⟨gr, 0, none⟩) l.length l.length], .nilIface]) (by simp [results, Tryz.results25, go_sem, *]) rfl ⟨(unhide HF2) _ _, (fun p' k' e => by cases e), (fun _ h => absurd h h4), fun _ _ => ⟨gc, gr, es, unhide HES, rfl, by omega, by omega, ?_, ?_⟩⟩
      · rw [Below.heap_setCell _ _ _ _ (by show gc ≠ w.heap.size; omega), Below.heap_setCell _ _ _ _ (by show gc ≠ w.heap.size; omega)]
        exact unhide HNM
      · refine (unhide HRB).turn (x := w.heap.size) (by simp [World.setCell]) (fun k hk hne => ?_) (by omega) (two_slices (unhide HX2) (fun z e => by cases e) (fun z e => by cases e))
        rw [Below.heap_setCell _ _ _ _ hne, Below.heap_setCell _ _ _ _ hne]
end Go.Proofs.YtfkeddkfegaeiaaGreatDoor
namespace Go.Proofs.YtfkeddkfegaeiaaGreatDoor
open Go.RowKit Go.MuLone Go.Maps Go.WideMaps

set_option maxRecDepth 100000 in
set_option maxHeartbeats 1000000 in
theorem pNew_fine (a : Nat → Addr) (lv : Value) (l : List Tb) (w : World) (hS : Sents a w) (hl : TabsAt w lv l) (h6 : p6all l = 0) :
    Calls Tryz.prog 35 #[lv] w fun e w' => ∃ q m g F D, e = .returned (.tuple #[.pointer (some ⟨q, 0, none⟩), .nilIface]) ∧ Tabs F g l D ∧ (∀ b o, F b = some o → w.heap.size ≤ b ∧ b < m ∧ w'.heap[b]? = some o) ∧ w.heap.size ≤ m ∧ m < q ∧ w'.heap[m]? = some (.map #[] 0) ∧ w'.heap[q]? = some (.cells (qCells (.slice (some ⟨g, 0, none⟩) l.length l.length) 0 0 m 0) 140 (0, 0)) ∧ Below w.heap.size w w' := by
  have HS := hide hS
  have HL := hide hl
  clear hS hl
  have HE : Hid (errOf a (p6all l) = .nilIface) := by unfold Hid errOf; rw [if_pos h6]
  go_enter Tryz.func35, Tryz.ntmps35
  go_wp2_with fail
  refine (check_any a lv l _ (by exact unhide HS) (by exact unhide HL)).mono ?_
  rintro e w1 ⟨rfl, hb1⟩
  rw [unhide HE]
  have HB := hide hb1
  clear hb1
  go_wp2_with fail
  refine (copied_any lv l _ (by exact (unhide HL).keep (unhide HB)) h6).mono ?_
  rintro e w2 ⟨g, F, D, rfl, ht, hF, hb2⟩
  have HT := hide ht
  have HF := hide hF
  have HB2 := hide hb2
  clear ht hF hb2
  have hmm := @run_makeMap Tryz.prog
  go_wp2
  have hz1 := (unhide HB).size
  have hz2 := (unhide HB2).size
  refine bodyPost_ret (v := .tuple #[.pointer (some ⟨w2.heap.size + 1, 0, none⟩), .nilIface]) (by simp [results, Tryz.results35, go_sem]) rfl ⟨w2.heap.size + 1, w2.heap.size, g, F, D, rfl, unhide HT, fun b o e => ?_, by omega, by omega, ?_, ?_, ?_⟩
  · obtain ⟨h1, h2⟩ := (unhide HF) b o e
    exact ⟨by omega, lt_size h2, heap_prev (heap_prev h2)⟩
  · exact heap_prev (heap_last rfl)
  · exact heap_last (by simp)
  · exact (((unhide HB).trans ((unhide HB2).mono (by omega))).alloc (by omega) _).alloc (by simp; omega) _

theorem map_empty {w : World} {m : Nat} (h : w.heap[m]? = some (.map #[] 0)) : w.ownsMap Tryz.prog 9 RvM m 0 (.map []) := by
  obtain ⟨es, clock, h1, h2, h3, h4⟩ := World.ownsMap_made w Tryz.prog 9 RvM
  rw [World.alloc_heap_new] at h1
  injection h1 with h1
  injection h1 with h1 h5
  subst h1 h5
  exact ⟨#[], 0, h, h2, h3, h4⟩
theorem tabs_one {W : World} {b : Nat} {t : Tb} {cv rv : Value} (hb : W.heap[b]? = some (.cells #[.string t.name, cv, rv] 44 (0, 0))) (hc : RowAt W cv (textsV t.cols)) (hcap : t.cols.length ≤ scap cv) (hr : RowsAt W rv t.rows) : TabsAt W (.slice (some ⟨b, 0, none⟩) 1 1) [t] := by
  refine ⟨_, _, rfl, by simp [maxLen], Nat.le_refl _, fun _ => ⟨b, 0, rfl, lt_of_heap hb, fun j t' e => ?_⟩⟩
  match j, e with
  | 0, e =>
    simp at e
    subst e
    exact ⟨cv, rv, ⟨cv, rv, rfl, hc, hcap, hr⟩, (blk hb).1 0, (blk hb).1 1, (blk hb).1 2⟩
  | j + 1, e => simp at e

/-- what a text is asked of one table, and what it gives. -/
structure Askd (T : List Tb) (s : ByteArray) (X : QueryX) (fs : Fs) (N : Nat) (ch l : List (List Int)) : Prop where
  short : s.size ≤ 1000
  read : readP s = .ok X
  wt : X.wth = none
  win : ∀ i ∈ X.main.items, i.win = none
  its : 0 < X.main.items.length ∧ X.main.items.length ≤ 6
  srs : 0 < X.main.srcs.length ∧ X.main.srcs.length ≤ 3
  tss : X.main.tests.length ≤ 1000
  pn : Pn T X.main fs N ch l none
  few : N ≤ 4000

set_option maxRecDepth 100000 in
set_option maxHeartbeats 4000000 in
theorem asked_plain (a : Nat → Addr) (B : Nat) (w : World) (hE : EnvX a B w) (t : Tb) (cv rv : Value) (hc : RowAt w cv (textsV t.cols)) (hcap : t.cols.length ≤ scap cv) (hr : RowsAt w rv t.rows) (h6 : p6all [t] = 0) (hc6 : t.cols.length ≤ 6) (h200 : t.rows.length ≤ 200) (hsh : ∀ r ∈ t.rows, r.length = t.cols.length)
    (s : ByteArray) (X : QueryX) (fs : Fs) (N : Nat) (ch l : List (List Int)) (hA : Askd [t] s X fs N ch l) :
    Calls Tryz.prog 22 #[.agg #[.string t.name, cv, rv], .string s] w fun e w' => ∃ gr, e = .returned (.tuple #[.slice (some ⟨gr, 0, none⟩) l.length l.length, .bool true]) ∧ w.heap.size ≤ gr ∧ RowsB w' gr 32 l.length (sortL l) ∧ Below w.heap.size w w' := by
  have HE := hide hE
  have HC := hide hc
  have HR := hide hr
  have HCAP := hide hcap
  have HA := hide hA
  have HSH := hide hsh
  obtain ⟨adc, capc, rfl, mc, -⟩ := hc
  obtain ⟨vs, ⟨adr, capr, rfl, mr, -⟩, lr, -⟩ := hr
  rw [List.length_map] at HC HCAP ⊢
  rw [lr] at HR ⊢
  clear hE hcap hA hsh mc mr lr
  go_enter Tryz.func22, Tryz.ntmps22
  go_wp2_with fail
  have hb2 : Below w.heap.size w ((w.alloc (.cells #[.string t.name, .slice adc t.cols.length capc, .slice adr t.rows.length capr] 44)).alloc (.cells #[.string t.name, .slice adc t.cols.length capc, .slice adr t.rows.length capr] 44)) := ((Below.refl _ _).alloc (Nat.le_refl _) _).alloc (by simp) _
  have ht2 : ((w.alloc (.cells #[.string t.name, .slice adc t.cols.length capc, .slice adr t.rows.length capr] 44)).alloc (.cells #[.string t.name, .slice adc t.cols.length capc, .slice adr t.rows.length capr] 44)).heap[w.heap.size + 1]? = some (.cells #[.string t.name, .slice adc t.cols.length capc, .slice adr t.rows.length capr] 44 (0, 0)) := heap_last (by simp)
  generalize ((w.alloc (.cells #[.string t.name, .slice adc t.cols.length capc, .slice adr t.rows.length capr] 44)).alloc (.cells #[.string t.name, .slice adc t.cols.length capc, .slice adr t.rows.length capr] 44)) = W2 at *
  have HB2 := hide hb2
  have HE2 := hide ((unhide HE).keep (hb2.mono (unhide HE).env.size))
  have HT2 : Hid (TabsAt W2 (.slice (some ⟨w.heap.size + 1, 0, none⟩) 1 1) [t]) := tabs_one ht2 ((unhide HC).keep hb2) (unhide HCAP) ((unhide HR).keep hb2)
  have hzB := (unhide HE2).env.size
  clear hb2 ht2
  refine (pNew_fine (fun j => a (errG j)) _ [t] _ (by exact (unhide HE2).sents) (by exact unhide HT2) h6).mono ?_
  rintro e w3 ⟨q, m, g, F, D, rfl, htab, hF, hm0, hmq, hmap, hqb, hb3⟩
  have hA := unhide HA
  have HAS := hide (ask_first a B w3 ((unhide HE2).keep (hb3.mono hzB)) q m 0 (by omega) (by omega) (.map []) s hA.short X hA.read g 0 1 [t] 0 0 ⟨by omega, by omega⟩ (by omega) (by omega) hqb (map_empty hmap) rfl (fun _ => rfl) hA.wt hA.win hA.its.1 hA.its.2 hA.srs.1 hA.srs.2 hA.tss
    (fun W hW => htab.tabsAt (fun b o e => by obtain ⟨h1, h2, h3⟩ := hF b o e; exact (hW.block b (lt_size h3) (by omega) (by omega)).trans h3) (by simp [maxLen])) (fun u hu => by simp at hu; subst hu; exact hc6) (fun u hu => by simp at hu; subst hu; exact h200) (fun u hu => by simp at hu; subst hu; exact unhide HSH) fs N ch l none hA.pn)
  have HB3 : Hid (Below w.heap.size w w3) := (unhide HB2).trans (hb3.mono (unhide HB2).size)
  have hzw : w.heap.size ≤ W2.heap.size := (unhide HB2).size
  have hz3 := hb3.size
  have hfew := hA.few
  clear htab hF hmap hqb hb3 hA
  go_wp2_with fail
  refine (unhide HAS).mono ?_
  rintro e w4 ⟨hoff, -, -, hgood⟩
  obtain ⟨gc, gr, es, hes, rfl, hgc, hgr, hnm, hrb⟩ := hgood rfl hfew
  have HRB := hide hrb
  have HB4 : Hid (Below w.heap.size w w4) := (unhide HB3).trans (hoff.below (by omega) (by omega) (by omega))
  clear hgood hnm hrb hoff HAS hes
  have hnw : (w4.alloc (.cells #[.slice (some ⟨gc, 0, none⟩) es.length es.length, .slice (some ⟨gr, 0, none⟩) l.length l.length] 68)).heap[w4.heap.size]? = some (.cells #[.slice (some ⟨gc, 0, none⟩) es.length es.length, .slice (some ⟨gr, 0, none⟩) l.length l.length] 68 (0, 0)) := heap_last rfl
  have kn : (w4.alloc (.cells #[.slice (some ⟨gc, 0, none⟩) es.length es.length, .slice (some ⟨gr, 0, none⟩) l.length l.length] 68)).cell? ⟨w4.heap.size, 1, none⟩ = some (.slice (some ⟨gr, 0, none⟩) l.length l.length) := (blk hnw).1 1
  clear hnw
  go_wp2_with fail
  go_region_held3 (fun w' => w'.cell? ⟨w4.heap.size, 1, none⟩ = some (.slice (some ⟨gr, 0, none⟩) l.length l.length)) (go_keep) (first | fail)
  all_goals go_wp2
  all_goals go_ret2
  all_goals refine ⟨gr, rfl, by omega, ?_, ((unhide HB4).alloc (unhide HB4).size _).drew⟩
  all_goals exact (unhide HRB).turn (x := w4.heap.size) (by simp) (fun k hk _ => Below.heap_alloc _ _ _ hk) (by obtain ⟨cur, h9, -⟩ := unhide HRB; have := lt_of_heap h9; omega) (fun o z e => by have := World.block_lt_of_cell? w4 _ e; simp at this)
end Go.Proofs.YtfkeddkfegaeiaaGreatDoor
