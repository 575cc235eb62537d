/-
  Part 43.
-/
import Derived.Test.YtfkeddkfegaeiaaGreatDoorRcPlCg
import Derived.Test.YtfkeddkfegaeiaaGreatDoorRcTll
import Derived.Test.YtfkeddkfegaeiaaGreatDoorRcRkC
import Derived.Test.YtfkeddkfegaeiaaGreatDoorRcNwO
import Derived.Maps.OwnSet
import Derived.Deep.RegionHeld3
import Derived.Test.YtfkeddkfegaeiaaGreatDoorRcTel
import Derived.Defers
import Derived.Test.YtfkeddkfegaeiaaGreatDoorRcPlBh
namespace Go.Proofs.YtfkeddkfegaeiaaGreatDoor
open Go.RowKit Go.MuLone Go.Maps Go.WideMaps
/-- all but two blocks is as it was. -/
structure Off2 (p q : Nat) (w w' : World) : Prop where
  os : w'.os = w.os
  tape : w'.tape = w.tape
  output : w'.output = w.output
  size : w.heap.size ≤ w'.heap.size
  block : ∀ k, k < w.heap.size → k ≠ p → k ≠ q → w'.heap[k]? = w.heap[k]?
theorem Off2.refl (p q : Nat) (w : World) : Off2 p q w w := ⟨rfl, rfl, rfl, Nat.le_refl _, fun _ _ _ _ => rfl⟩
theorem Off2.trans {p q : Nat} {w w1 w2 : World} (h : Off2 p q w w1) (k : Off2 p q w1 w2) : Off2 p q w w2 :=
  ⟨k.os.trans h.os, k.tape.trans h.tape, k.output.trans h.output, Nat.le_trans h.size k.size, fun n hn h1 h2 => (k.block n (Nat.lt_of_lt_of_le hn h.size) h1 h2).trans (h.block n hn h1 h2)⟩
theorem Below.off2 {p q : Nat} {w w' : World} (h : Below w.heap.size w w') : Off2 p q w w' := ⟨h.os, h.tape, h.output, h.size, fun k hk _ _ => h.block k hk⟩
theorem Off2.below {p q B : Nat} {w w' : World} (h : Off2 p q w w') (hB : B ≤ w.heap.size) (hp : B ≤ p) (hq : B ≤ q) : Below B w w' := ⟨h.os, h.tape, h.output, h.size, fun k hk => h.block k (by omega) (by omega) (by omega)⟩
theorem Off2.setCell (p q : Nat) (w : World) (o : Nat) (u : Value) : Off2 p q w (w.setCell ⟨p, o, none⟩ u) :=
  ⟨rfl, rfl, rfl, by simp [World.setCell], fun k _ h1 _ => Below.heap_setCell _ _ _ _ (by show k ≠ p; exact h1)⟩
theorem Off2.grown {p q : Nat} {w w' : World} (h : w.grownBy w' (some q)) : Off2 p q w w' :=
  ⟨h.os, h.tape, h.output, h.size, fun k hk _ h2 => h.block k hk (fun e => by injection e with e; omega)⟩
/-- an element, as it lies. -/
abbrev RvM (v : Value) : Option (DataW Value × List MemPlace) := some (.held v, [])
theorem readsLaw : Keyed Tryz.prog 9 := string_keyed Tryz.underlying9
abbrev qCells (tv : Value) (x y : Int) (mb : Nat) (m : Int) : Array Value := #[tv, .int .i32 x, .int .u32 y, .map (some mb), .int .i64 m]
theorem nil_eql (w : World) (v : Value) : (binOp .eql 23 .nilIface (.iface 496 v)).run Tryz.prog w = .ok (.bool false) w := by
  have h : ∀ d : Nat, (Op.equalIn (d + 1) 23 .nilIface (.iface 496 v)).run Tryz.prog w = .ok false w := fun d => by simp [Op.equalIn, run_underlying Tryz.underlying23]
  simp only [binOp]
  simp [Op.equal, Op.maxDepth, h 9999]
set_option maxRecDepth 100000 in
set_option maxHeartbeats 1000000 in
theorem isNil_any (p : Addr) (w : World) : Calls Tryz.prog 18 #[.nilIface, .iface 496 (.pointer (some p))] w fun e w' => e = .returned (.bool false) ∧ w' = w := by
  have hne := nil_eql w (.pointer (some p))
  go_enter Tryz.func18, Tryz.ntmps18
  go_wp2
  go_ret
  exact ⟨rfl, rfl⟩
set_option maxRecDepth 100000 in
set_option maxHeartbeats 1000000 in
theorem asNil_any (t : Value) (w : World) : Calls Tryz.prog 122 #[.nilIface, t] w fun e w' => e = .returned (.bool false) ∧ w' = w := by
  go_enter Tryz.func122, Tryz.ntmps122
  go_wp2
  go_ret
  exact ⟨rfl, rfl⟩
set_option maxRecDepth 100000 in
set_option maxHeartbeats 1000000 in
theorem ownNil_any (w : World) : Calls Tryz.prog 80 #[.nilIface] w fun e w' => e = .returned .nilIface ∧ Below w.heap.size w w' := by
  go_enter Tryz.func80, Tryz.ntmps80
  go_wp2_with (go_at_call 122; refine (asNil_any _ _).mono ?_; rintro e w' ⟨rfl, rfl⟩)
  go_ret
  exact ⟨rfl, (Below.refl _ _).alloc (Nat.le_refl _) _⟩
set_option maxRecDepth 100000 in
set_option maxHeartbeats 1000000 in
theorem keep_ok (a : Nat → Addr) (B : Nat) (w : World) (hE : EnvX a B w) (qb mb n : Nat) (D : DataW Value) (s : ByteArray) (hs : s.size ≤ 1000) (ad : Option Addr) (tv : Value) (x y m : Int) (hm : 0 ≤ m ∧ m < 1000000000) (hn : n < 1000000000) (hne : mb ≠ qb)
    (hq : w.heap[qb]? = some (.cells (qCells tv x y mb m) 140 (0, 0))) (hown : w.ownsMap Tryz.prog 9 RvM mb n D) :
    Calls Tryz.prog 79 #[.pointer (some ⟨qb, 1, none⟩), .string s, .agg #[.pointer ad, .nilIface]] w fun e w' => e = .returned (.tuple #[]) ∧ w'.ownsMap Tryz.prog 9 RvM mb (n + 1) (D.put (.string s.data.toList) (.held (.agg #[.pointer ad, .nilIface]))) ∧ w'.heap[qb]? = some (.cells (qCells tv x y mb (m + 1)) 140 (0, 0)) ∧ Off2 qb mb w w' := by
  have hkey := keyOf_string_mk (P := Tryz.prog) Tryz.underlying9 (s := s) (by unfold maxLen; omega)
  have gl : w.cell? ⟨0, 0, none⟩ = some (errV a 0) := hE.cell _ (by decide)
  have zl : 0 < w.heap.size := World.block_lt_of_cell? w _ gl
  obtain ⟨kq, fq⟩ := blk hq
  have zq := lt_of_heap hq
  have k3 : w.cell? ⟨qb, 3, none⟩ = some (.map (some mb)) := kq 3
  have HQ := hide hq
  have HO := hide hown
  clear hq hown hE
  go_enter Tryz.func79, Tryz.ntmps79
  go_wp2_with fail
  refine (isNil_any _ _).mono ?_
  rintro e w1 ⟨rfl, hw1⟩
  subst hw1
  obtain ⟨w2, hrun, hown2, hturn2⟩ := ((unhide HO).alloc (.cells #[.pointer ad, .nilIface] 209)).drew.store (t := 136) (e := 209) readsLaw Tryz.underlying136 (by unfold maxLen; omega) (val := .agg #[.pointer ad, .nilIface]) hkey rfl
  have hg2 := hturn2.grown
  have HO2 := hide hown2
  have zm := (unhide HO).lt
  have hq2 : w2.heap[qb]? = some (.cells (qCells tv x y mb m) 140 (0, 0)) := (hg2.block qb (by simp; omega) (fun e => by injection e with e; omega)).trans (heap_prev (unhide HQ))
  have hb2 : w2.heap[w.heap.size]? = some (.cells #[.pointer ad, .nilIface] 209 (0, 0)) := (hg2.block w.heap.size (by simp) (fun e => by injection e with e; omega)).trans (heap_last rfl)
  obtain ⟨kq2, fq2⟩ := blk hq2
  obtain ⟨kb2, -⟩ := blk hb2
  have q3 : w2.cell? ⟨qb, 3, none⟩ = some (.map (some mb)) := kq2 3
  have q4 : w2.cell? ⟨qb, 4, none⟩ = some (.int .i64 m) := kq2 4
  have c0 : w2.cell? ⟨w.heap.size, 0, none⟩ = some (.pointer ad) := kb2 0
  have c1 : w2.cell? ⟨w.heap.size, 1, none⟩ = some .nilIface := kb2 1
  have z2 : qb < w2.heap.size := lt_of_heap hq2
  have z2b : w.heap.size < w2.heap.size := lt_of_heap hb2
  have HQ2 := hide hq2
  have HF2 : Hid (Off2 qb mb w w2) := (Below.off2 ((Below.refl _ _).alloc (Nat.le_refl _) _)).trans ((Below.off2 (Below.refl _ _).drew).trans (Off2.grown hg2))
  have hne4 : w.heap.size ≠ qb := by omega
  clear hturn2 hg2 hown2 hq2 hb2 kq2 kb2 kq
  go_wp2_with fail
  go_region_held3 (fun w' => w'.cell? ⟨qb, 3, none⟩ = some (.map (some mb)) ∧ w'.cell? ⟨w.heap.size, 0, none⟩ = some (.pointer ad) ∧ w'.cell? ⟨w.heap.size, 1, none⟩ = some .nilIface) (go_keep) (first | fail)
  have hw1 : wrap64 (m + 1) = m + 1 := by unfold wrap64; omega
  go_wp2
  go_end0
  refine ⟨rfl, (unhide HO2).setCell (a := ⟨qb, 4, none⟩) hne _, ?_, (unhide HF2).trans (Off2.setCell qb mb w2 4 _)⟩
  rw [heap_set (unhide HQ2)]
  rfl
end Go.Proofs.YtfkeddkfegaeiaaGreatDoor
namespace Go.Proofs.YtfkeddkfegaeiaaGreatDoor
open Go.RowKit Go.MuLone Go.Maps Go.WideMaps
set_option maxHeartbeats 400000 in
theorem clone_1000 (s : ByteArray) (w : World) (hs : s.size ≤ 1000) : Calls Tryz.prog 78 #[.string s] w fun e w' => e = .returned (.string s) ∧ Below w.heap.size w w' := by
  go_enter Tryz.func78, Tryz.ntmps78
  go_wp2_with fail
  refine (Tryz.stringslite_Clone s _ (by omega)).mono ?_
  rintro e w1 ⟨rfl, hb⟩
  have HB := hide hb
  clear hb
  go_wp2
  go_ret
  exact ⟨rfl, unhide HB⟩
theorem read_good (s : ByteArray) (a : Nat → Addr) (B : Nat) (w : World) (hE : Env a B w) (hs : s.size ≤ 1000) (X : QueryX) (h : readP s = .ok X) :
    Calls Tryz.prog 36 #[.string s] w fun e w' => ∃ b, e = .returned (.tuple #[.pointer (some ⟨b, 0, none⟩), .nilIface]) ∧ QueryOk w' w.heap.size (.pointer (some ⟨b, 0, none⟩)) X ∧ Below w.heap.size w w' := by
  unfold readP at h
  cases hsc : scanP s with
  | error x => rw [hsc] at h; cases h
  | ok ts =>
    rw [hsc] at h
    obtain ⟨l, hl⟩ := scanP_shape hsc
    refine (read_ok s a B w hE hs ts l hsc hl (.ok X) h.symm).mono ?_
    rintro e w' ⟨hb, v, rfl, hq⟩
    obtain ⟨b, vw, vm, rfl, h2⟩ := hq
    exact ⟨b, rfl, ⟨b, vw, vm, rfl, h2⟩, hb⟩
theorem QueryOk.off3 {w w' : World} {lo lo' p q : Nat} {v : Value} {x : QueryX} (h : QueryOk w lo v x) (hk : Off2 p q w w') (hp : p < lo) (hq : q < lo) (hl : lo' ≤ lo) : QueryOk w' lo' v x := by
  have hks : Keeps qT lo w w' := fun k cs t hlo hk2 _ => hk.block k (lt_of_heap hk2) (by omega) (by omega)
  obtain ⟨b, vw, vm, h1, h2, h3, h4, h5⟩ := h
  exact ⟨b, vw, vm, h1, Nat.le_trans hl h2, (hk.block b (lt_of_heap h3) (by omega) (by omega)).trans h3, h4.keep hl hks, h5.keep hl hks.sel⟩
theorem QueryOk.off2 {w w' : World} {lo p q : Nat} {v : Value} {x : QueryX} (h : QueryOk w lo v x) (hk : Off2 p q w w') (hp : p < lo) (hq : q < lo) : QueryOk w' lo v x := h.off3 hk hp hq (Nat.le_refl _)
theorem owns_mapB {P : Program} {k : TypeId} {R : Value → Option (DataW Value × List MemPlace)} {b n : Nat} {D : DataW Value} {w w' : World} (h : w.ownsMap P k R b n D) (hb : Below w.heap.size w w') : w'.ownsMap P k R b n D := by
  have hlt := h.lt
  obtain ⟨es, clock, h1, h2, h3, h4⟩ := h
  exact ⟨es, clock, (hb.block b hlt).trans h1, h2, h3, h4⟩
/-- the quarry's block and map, in a later world. -/
structure Qy (w0 : World) (tv : Value) (qb mb : Nat) (x y m : Int) (n : Nat) (D : DataW Value) (W : World) : Prop where
  blk : W.heap[qb]? = some (.cells (qCells tv x y mb m) 140 (0, 0))
  map : W.ownsMap Tryz.prog 9 RvM mb n D
  off : Off2 qb mb w0 W
theorem Qy.below {w0 W W' : World} {tv : Value} {qb mb n : Nat} {x y m : Int} {D : DataW Value} (h : Qy w0 tv qb mb x y m n D W) (hb : Below W.heap.size W W') : Qy w0 tv qb mb x y m n D W' :=
  ⟨(hb.block qb (lt_of_heap h.blk)).trans h.blk, owns_mapB h.map hb, h.off.trans (Below.off2 hb)⟩
theorem Qy.set {w0 W : World} {tv : Value} {qb mb n : Nat} {x y m : Int} {D : DataW Value} (h : Qy w0 tv qb mb x y m n D W) {c o : Nat} (h1 : w0.heap.size ≤ c) (h2 : c ≠ qb) (h3 : c ≠ mb) (u : Value) : Qy w0 tv qb mb x y m n D (W.setCell ⟨c, o, none⟩ u) :=
  ⟨by rw [Below.heap_setCell _ _ _ _ (by show qb ≠ c; omega)]; exact h.blk, h.map.setCell (a := ⟨c, o, none⟩) (by show mb ≠ c; omega) u, ⟨h.off.os, h.off.tape, h.off.output, by simpa [World.setCell] using h.off.size, fun k hk e1 e2 => by rw [Below.heap_setCell _ _ _ _ (by show k ≠ c; omega)]; exact h.off.block k hk e1 e2⟩⟩
set_option maxRecDepth 100000 in
set_option maxHeartbeats 4000000 in
theorem parts_new (a : Nat → Addr) (B : Nat) (w : World) (hE : EnvX a B w) (qb mb n : Nat) (hBq : B ≤ qb) (hBm : B ≤ mb) (D : DataW Value) (s : ByteArray) (hs : s.size ≤ 1000) (X : QueryX) (hX : readP s = .ok X) (tv : Value) (y m : Int) (hm : 0 ≤ m ∧ m < 1000000000) (hn : n < 1000000000) (hne : mb ≠ qb)
    (hq : w.heap[qb]? = some (.cells (qCells tv 0 y mb m) 140 (0, 0))) (hown : w.ownsMap Tryz.prog 9 RvM mb n D) (hnew : Maps.has D (.string s.data.toList) = false) (hat : ∀ z, D.atKey (.string s.data.toList) z = z) :
    Calls Tryz.prog 50 #[.pointer (some ⟨qb, 1, none⟩), .string s] w fun e w' => ∃ b, e = .returned (.tuple #[.pointer (some ⟨b, 0, none⟩), .nilIface]) ∧ QueryOk w' w.heap.size (.pointer (some ⟨b, 0, none⟩)) X ∧ w'.heap[qb]? = some (.cells (qCells tv 0 y mb (m + 1)) 140 (0, 0)) ∧ w'.ownsMap Tryz.prog 9 RvM mb (n + 1) (D.put (.string s.data.toList) (.held (.agg #[.pointer (some ⟨b, 0, none⟩), .nilIface]))) ∧ Off2 qb mb w w' := by
  have hkey := keyOf_string_mk (P := Tryz.prog) Tryz.underlying9 (s := s) (by unfold maxLen; omega)
  obtain ⟨kq, fq⟩ := blk hq
  have zq := lt_of_heap hq
  have zm := hown.lt
  have k1 : w.cell? ⟨qb, 1, none⟩ = some (.int .i32 0) := kq 1
  have f1 : w.frozen? ⟨qb, 1, none⟩ = false := fq 1
  have k3 : w.cell? ⟨qb, 3, none⟩ = some (.map (some mb)) := kq 3
  have HQ := hide hq
  have HO := hide hown
  have HE := hide hE
  have HX := hide hX
  have HN := hide hnew
  have HA := hide hat
  have HO1 := hide (hown.setCell (a := ⟨qb, 1, none⟩) hne (.int .i32 1))
  have hq1 := heap_set (off := 1) hq (.int .i32 1)
  have HQ1 : Hid ((w.setCell ⟨qb, 1, none⟩ (.int .i32 1)).heap[qb]? = some (.cells (qCells tv 1 y mb m) 140 (0, 0))) := hq1
  have HF1 : Hid (Off2 qb mb w (w.setCell ⟨qb, 1, none⟩ (.int .i32 1))) := Off2.setCell qb mb w 1 _
  have hlook : (Instr.lookup 136 (.map (some mb)) (.string s) true).run Tryz.prog (w.setCell ⟨qb, 1, none⟩ (.int .i32 1)) = .ok (.tuple #[.agg #[.pointer none, .nilIface], .bool false]) (w.setCell ⟨qb, 1, none⟩ (.int .i32 1)) := by
    obtain ⟨v, ps, hrun, hv⟩ := (unhide HO1).look_ok readsLaw (t := 136) (e := 209) Tryz.underlying136 (Tryz.zeroValue209 _) rfl hkey
    rw [hat] at hv
    injection hv with hv
    injection hv with hv _
    injection hv with hv
    rw [hrun, hnew, hv]
  clear hq hown hE hX hnew hat kq fq hq1
  go_enter_defers Tryz.func50, Tryz.ntmps50
  go_wp2_with (go_at_call 76; refine (lock_free muLib ⟨qb, 1, none⟩ _ k1 f1).mono ?_; rintro e w' ⟨rfl, rfl⟩)
  have HY1 : Hid (Qy w tv qb mb 1 y m n D ((w.setCell ⟨qb, 1, none⟩ (.int .i32 1)).alloc (.cells #[.pointer none, .nilIface] 209))) := Qy.below ⟨unhide HQ1, unhide HO1, unhide HF1⟩ ((Below.refl _ _).alloc (Nat.le_refl _) _)
  have hx1 : ((w.setCell ⟨qb, 1, none⟩ (.int .i32 1)).alloc (.cells #[.pointer none, .nilIface] 209)).heap[w.heap.size]? = some (.cells #[.pointer none, .nilIface] 209 (0, 0)) := heap_last (by simp [World.setCell])
  generalize (w.setCell ⟨qb, 1, none⟩ (.int .i32 1)).alloc (.cells #[.pointer none, .nilIface] 209) = W1 at *
  have hzB : B ≤ w.heap.size := (unhide HE).env.size
  have HX1 := hide hx1
  clear hlook hx1 k1 f1 k3 HQ HO HO1 HQ1 HF1
  refine (clone_1000 s _ hs).mono ?_
  rintro e w2 ⟨rfl, hb2⟩
  have HY2 := hide ((unhide HY1).below hb2)
  have HX2 := hide ((hb2.block _ (lt_of_heap (unhide HX1))).trans (unhide HX1))
  clear hb2 HY1 HX1
  go_wp2_with fail
  refine (read_good s a B _ (by exact ((unhide HE).keep ((unhide HY2).off.below hzB hBq hBm)).env) hs X (unhide HX)).mono ?_
  rintro e w3 ⟨b, rfl, hq3, hb3⟩
  have HY3 := hide ((unhide HY2).below hb3)
  have hx3 := (hb3.block _ (lt_of_heap (unhide HX2))).trans (unhide HX2)
  have HX3 := hide hx3
  have HQ3 := hide hq3
  have hlo : w.heap.size < w2.heap.size := lt_of_heap (unhide HX2)
  obtain ⟨kx, fx⟩ := blk hx3
  have kx0 : w3.cell? ⟨w.heap.size, 0, none⟩ = some (.pointer none) := kx 0
  have kx1 : w3.cell? ⟨w.heap.size, 1, none⟩ = some .nilIface := kx 1
  have zx := lt_of_heap hx3
  have hnq : w.heap.size ≠ qb := by omega
  have hnm : w.heap.size ≠ mb := by omega
  clear hb3 hq3 hx3 HY2 HX2 kx
  go_wp2_with fail
  have HY4 := hide (((unhide HY3).set (o := 0) (Nat.le_refl _) hnq hnm (.pointer (some ⟨b, 0, none⟩))).set (o := 1) (Nat.le_refl _) hnq hnm .nilIface)
  have HX4 : Hid (((w3.setCell ⟨w.heap.size, 0, none⟩ (.pointer (some ⟨b, 0, none⟩))).setCell ⟨w.heap.size, 1, none⟩ .nilIface).heap[w.heap.size]? = some (.cells #[.pointer (some ⟨b, 0, none⟩), .nilIface] 209 (0, 0))) := by
    unfold Hid
    rw [heap_set (heap_set (unhide HX3) _)]
    rfl
  have HQ4 : Hid (QueryOk ((w3.setCell ⟨w.heap.size, 0, none⟩ (.pointer (some ⟨b, 0, none⟩))).setCell ⟨w.heap.size, 1, none⟩ .nilIface) w2.heap.size (.pointer (some ⟨b, 0, none⟩)) X) := ((unhide HQ3).off2 (Off2.setCell w.heap.size w.heap.size w3 0 _) hlo hlo).off2 (Off2.setCell w.heap.size w.heap.size _ 1 _) hlo hlo
  generalize (w3.setCell ⟨w.heap.size, 0, none⟩ (.pointer (some ⟨b, 0, none⟩))).setCell ⟨w.heap.size, 1, none⟩ .nilIface = W4 at *
  clear HY3 HX3 HQ3 kx0 kx1 zx fx
  refine (keep_ok a B _ (by exact (unhide HE).keep ((unhide HY4).off.below hzB hBq hBm)) qb mb n D s hs _ tv 1 y m hm hn hne (by exact (unhide HY4).blk) (by exact (unhide HY4).map)).mono ?_
  rintro e w5 ⟨rfl, hm5, hq5, ho5⟩
  have HY5 : Hid (Qy w tv qb mb 1 y (m + 1) (n + 1) (D.put (.string s.data.toList) (.held (.agg #[.pointer (some ⟨b, 0, none⟩), .nilIface]))) w5) := ⟨hq5, hm5, (unhide HY4).off.trans ho5⟩
  have hx5 := (ho5.block _ (lt_of_heap (unhide HX4)) hnq hnm).trans (unhide HX4)
  have HQ5 := hide ((unhide HQ4).off2 ho5 (by omega) (by omega))
  obtain ⟨kx, fx⟩ := blk hx5
  have kx0 : w5.cell? ⟨w.heap.size, 0, none⟩ = some (.pointer (some ⟨b, 0, none⟩)) := kx 0
  have kx1 : w5.cell? ⟨w.heap.size, 1, none⟩ = some .nilIface := kx 1
  have zx := lt_of_heap hx5
  clear hm5 hq5 ho5 hx5 HY4 HX4 HQ4 kx
  go_wp2_with fail
  go_region_held3 (fun w' => w'.cell? ⟨w.heap.size, 0, none⟩ = some (.pointer (some ⟨b, 0, none⟩)) ∧ w'.cell? ⟨w.heap.size, 1, none⟩ = some .nilIface) (go_keep) (first | (go_at_call 80; refine (ownNil_any _).mono ?_; rintro e w6 ⟨rfl, hb6⟩; have j0 := (hb6.cell (p := ⟨w.heap.size, 0, none⟩) (by simpa using zx)).trans kx0; have j1 := (hb6.cell (p := ⟨w.heap.size, 1, none⟩) (by simpa using zx)).trans kx1; have HB6 : Hid (Below w5.heap.size w5 w6) := (Below.refl _ _).drew.trans hb6; clear hb6))
  all_goals go_wp2
  have hy6 := (unhide HY5).below (unhide HB6)
  have HY6 := hide hy6
  obtain ⟨kq, fq⟩ := blk hy6.blk
  have k1 : w6.cell? ⟨qb, 1, none⟩ = some (.int .i32 1) := kq 1
  have f1 : w6.frozen? ⟨qb, 1, none⟩ = false := fq 1
  clear hy6 kq fq
  refine leaves_cons (f := 77) (args := #[.pointer (some ⟨qb, 1, none⟩)]) (by simp) (by simp [go_sem]) ?_
  refine (unlock_deferred muLib ⟨qb, 1, none⟩ .returning _ k1 f1).mono ?_
  rintro e u' w'' ⟨rfl, rfl, rfl⟩
  refine ⟨_, results_tmp2 rfl _ _ _, b, rfl, ?_, ?_, (unhide HY6).map.setCell (a := ⟨qb, 1, none⟩) hne _, (unhide HY6).off.trans (Off2.setCell qb mb w6 1 _)⟩
  · exact ((unhide HQ5).keepB (unhide HB6)).off3 (Off2.setCell qb mb w6 1 _) (by omega) (by omega) (by omega)
  · rw [heap_set (unhide HY6).blk]
    rfl
end Go.Proofs.YtfkeddkfegaeiaaGreatDoor
namespace Go.Proofs.YtfkeddkfegaeiaaGreatDoor
open Go.RowKit Go.MuLone Go.Maps Go.WideMaps
def eoV (T : List Tb) (x : ItemA) (ss : List Sr) : Option (Nat × Nat) := exErr T ss x.val
def foV (T : List Tb) (x : ItemA) (ss : List Sr) (rows : List (List Int)) : List Int := rows.map (evE (colAt T ss) x.val)
end Go.Proofs.YtfkeddkfegaeiaaGreatDoor
