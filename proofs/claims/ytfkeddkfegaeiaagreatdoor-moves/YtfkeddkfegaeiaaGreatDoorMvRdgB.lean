/-
  Part 44.
-/
import Derived.Test.YtfkeddkfegaeiaaGreatDoorMvPlBj
import Derived.Test.YtfkeddkfegaeiaaGreatDoorMvTli
import Derived.Defers
import Derived.Test.YtfkeddkfegaeiaaGreatDoorMvStR
namespace Go.Proofs.YtfkeddkfegaeiaaGreatDoor
open Go.RowKit Go.MuLone Go.Maps Go.WideMaps
set_option maxHeartbeats 400000 in
theorem clone_1000 (s : ByteArray) (w : World) (hs : s.size ≤ 1000) : Calls Tryz.prog 78 #[.string s] w fun e w' => e = .returned (.string s) ∧ Below w.heap.size w w' := by
  go_enter Tryz.func78, Tryz.ntmps78
  go_wp2_with fail
  refine (Tryz.stringslite_Clone s _ (by omega)).mono ?_
  rintro e w1 ⟨rfl, hb⟩
  have HB := hide hb
  clear hb
  go_wp2
  go_ret
  exact ⟨rfl, unhide HB⟩
theorem read_good (s : ByteArray) (a : Nat → Addr) (B : Nat) (w : World) (hE : Env a B w) (hs : s.size ≤ 1000) (X : QueryX) (h : readP s = .ok X) :
    Calls Tryz.prog 36 #[.string s] w fun e w' => ∃ b, e = .returned (.tuple #[.pointer (some ⟨b, 0, none⟩), .nilIface]) ∧ QueryOk w' w.heap.size (.pointer (some ⟨b, 0, none⟩)) X ∧ Below w.heap.size w w' := by
  unfold readP at h
  cases hsc : scanP s with
  | error x => rw [hsc] at h; cases h
  | ok ts =>
    rw [hsc] at h
    obtain ⟨l, hl⟩ := scanP_shape hsc
    refine (read_ok s a B w hE hs ts l hsc hl (.ok X) h.symm).mono ?_
    rintro e w' ⟨hb, v, rfl, hq⟩
    obtain ⟨b, vw, vm, rfl, h2⟩ := hq
    exact ⟨b, rfl, ⟨b, vw, vm, rfl, h2⟩, hb⟩
theorem QueryOk.off3 {w w' : World} {lo lo' p q : Nat} {v : Value} {x : QueryX} (h : QueryOk w lo v x) (hk : Off2 p q w w') (hp : p < lo) (hq : q < lo) (hl : lo' ≤ lo) : QueryOk w' lo' v x := by
  have hks : Keeps qT lo w w' := fun k cs t hlo hk2 _ => hk.block k (lt_of_heap hk2) (by omega) (by omega)
  obtain ⟨b, vw, vm, h1, h2, h3, h4, h5⟩ := h
  exact ⟨b, vw, vm, h1, Nat.le_trans hl h2, (hk.block b (lt_of_heap h3) (by omega) (by omega)).trans h3, h4.keep hl hks, h5.keep hl hks.sel⟩
theorem QueryOk.off2 {w w' : World} {lo p q : Nat} {v : Value} {x : QueryX} (h : QueryOk w lo v x) (hk : Off2 p q w w') (hp : p < lo) (hq : q < lo) : QueryOk w' lo v x := h.off3 hk hp hq (Nat.le_refl _)
theorem owns_mapB {P : Program} {k : TypeId} {R : Value → Option (DataW Value × List MemPlace)} {b n : Nat} {D : DataW Value} {w w' : World} (h : w.ownsMap P k R b n D) (hb : Below w.heap.size w w') : w'.ownsMap P k R b n D := by
  have hlt := h.lt
  obtain ⟨es, clock, h1, h2, h3, h4⟩ := h
  exact ⟨es, clock, (hb.block b hlt).trans h1, h2, h3, h4⟩
/-- the quarry's block and map, in a later world. -/
structure Qy (w0 : World) (tv : Value) (qb mb : Nat) (x y m : Int) (n : Nat) (D : DataW Value) (W : World) : Prop where
  blk : W.heap[qb]? = some (.cells (qCells tv x y mb m) 140 (0, 0))
  map : W.ownsMap Tryz.prog 9 RvM mb n D
  off : Off2 qb mb w0 W
theorem Qy.below {w0 W W' : World} {tv : Value} {qb mb n : Nat} {x y m : Int} {D : DataW Value} (h : Qy w0 tv qb mb x y m n D W) (hb : Below W.heap.size W W') : Qy w0 tv qb mb x y m n D W' :=
  ⟨(hb.block qb (lt_of_heap h.blk)).trans h.blk, owns_mapB h.map hb, h.off.trans (Below.off2 hb)⟩
theorem Qy.set {w0 W : World} {tv : Value} {qb mb n : Nat} {x y m : Int} {D : DataW Value} (h : Qy w0 tv qb mb x y m n D W) {c o : Nat} (h1 : w0.heap.size ≤ c) (h2 : c ≠ qb) (h3 : c ≠ mb) (u : Value) : Qy w0 tv qb mb x y m n D (W.setCell ⟨c, o, none⟩ u) :=
  ⟨by rw [Below.heap_setCell _ _ _ _ (by show qb ≠ c; omega)]; exact h.blk, h.map.setCell (a := ⟨c, o, none⟩) (by show mb ≠ c; omega) u, ⟨h.off.os, h.off.tape, h.off.output, by simpa [World.setCell] using h.off.size, fun k hk e1 e2 => by rw [Below.heap_setCell _ _ _ _ (by show k ≠ c; omega)]; exact h.off.block k hk e1 e2⟩⟩
set_option maxRecDepth 100000 in
set_option maxHeartbeats 4000000 in
theorem parts_new (a : Nat → Addr) (B : Nat) (w : World) (hE : EnvX a B w) (qb mb n : Nat) (hBq : B ≤ qb) (hBm : B ≤ mb) (D : DataW Value) (s : ByteArray) (hs : s.size ≤ 1000) (X : QueryX) (hX : readP s = .ok X) (tv : Value) (y m : Int) (hm : 0 ≤ m ∧ m < 1000000000) (hn : n < 1000000000) (hne : mb ≠ qb)
    (hq : w.heap[qb]? = some (.cells (qCells tv 0 y mb m) 140 (0, 0))) (hown : w.ownsMap Tryz.prog 9 RvM mb n D) (hnew : Maps.has D (.string s.data.toList) = false) (hat : ∀ z, D.atKey (.string s.data.toList) z = z) :
    Calls Tryz.prog 50 #[.pointer (some ⟨qb, 1, none⟩), .string s] w fun e w' => ∃ b, e = .returned (.tuple #[.pointer (some ⟨b, 0, none⟩), .nilIface]) ∧ QueryOk w' w.heap.size (.pointer (some ⟨b, 0, none⟩)) X ∧ w'.heap[qb]? = some (.cells (qCells tv 0 y mb (m + 1)) 140 (0, 0)) ∧ w'.ownsMap Tryz.prog 9 RvM mb (n + 1) (D.put (.string s.data.toList) (.held (.agg #[.pointer (some ⟨b, 0, none⟩), .nilIface]))) ∧ Off2 qb mb w w' := by
  have hkey := keyOf_string_mk (P := Tryz.prog) Tryz.underlying9 (s := s) (by unfold maxLen; omega)
  obtain ⟨kq, fq⟩ := blk hq
  have zq := lt_of_heap hq
  have zm := hown.lt
  have k1 : w.cell? ⟨qb, 1, none⟩ = some (.int .i32 0) := kq 1
  have f1 : w.frozen? ⟨qb, 1, none⟩ = false := fq 1
  have k3 : w.cell? ⟨qb, 3, none⟩ = some (.map (some mb)) := kq 3
  have HQ := hide hq
  have HO := hide hown
  have HE := hide hE
  have HX := hide hX
  have HN := hide hnew
  have HA := hide hat
  have HO1 := hide (hown.setCell (a := ⟨qb, 1, none⟩) hne (.int .i32 1))
  have hq1 := heap_set (off := 1) hq (.int .i32 1)
  have HQ1 : Hid ((w.setCell ⟨qb, 1, none⟩ (.int .i32 1)).heap[qb]? = some (.cells (qCells tv 1 y mb m) 140 (0, 0))) := hq1
  have HF1 : Hid (Off2 qb mb w (w.setCell ⟨qb, 1, none⟩ (.int .i32 1))) := Off2.setCell qb mb w 1 _
  have hlook : (Instr.lookup 136 (.map (some mb)) (.string s) true).run Tryz.prog (w.setCell ⟨qb, 1, none⟩ (.int .i32 1)) = .ok (.tuple #[.agg #[.pointer none, .nilIface], .bool false]) (w.setCell ⟨qb, 1, none⟩ (.int .i32 1)) := by
    obtain ⟨v, ps, hrun, hv⟩ := (unhide HO1).look_ok readsLaw (t := 136) (e := 209) Tryz.underlying136 (Tryz.zeroValue209 _) rfl hkey
    rw [hat] at hv
    injection hv with hv
    injection hv with hv _
    injection hv with hv
    rw [hrun, hnew, hv]
  clear hq hown hE hX hnew hat kq fq hq1
  go_enter_defers Tryz.func50, Tryz.ntmps50
  go_wp2_with (go_at_call 76; refine (lock_free muLib ⟨qb, 1, none⟩ _ k1 f1).mono ?_; rintro e w' ⟨rfl, rfl⟩)
  have HY1 : Hid (Qy w tv qb mb 1 y m n D ((w.setCell ⟨qb, 1, none⟩ (.int .i32 1)).alloc (.cells #[.pointer none, .nilIface] 209))) := Qy.below ⟨unhide HQ1, unhide HO1, unhide HF1⟩ ((Below.refl _ _).alloc (Nat.le_refl _) _)
  have hx1 : ((w.setCell ⟨qb, 1, none⟩ (.int .i32 1)).alloc (.cells #[.pointer none, .nilIface] 209)).heap[w.heap.size]? = some (.cells #[.pointer none, .nilIface] 209 (0, 0)) := heap_last (by simp [World.setCell])
  generalize (w.setCell ⟨qb, 1, none⟩ (.int .i32 1)).alloc (.cells #[.pointer none, .nilIface] 209) = W1 at *
  have hzB : B ≤ w.heap.size := (unhide HE).env.size
  have HX1 := hide hx1
  clear hlook hx1 k1 f1 k3 HQ HO HO1 HQ1 HF1
  refine (clone_1000 s _ hs).mono ?_
  rintro e w2 ⟨rfl, hb2⟩
  have HY2 := hide ((unhide HY1).below hb2)
  have HX2 := hide ((hb2.block _ (lt_of_heap (unhide HX1))).trans (unhide HX1))
  clear hb2 HY1 HX1
  go_wp2_with fail
  refine (read_good s a B _ (by exact ((unhide HE).keep ((unhide HY2).off.below hzB hBq hBm)).env) hs X (unhide HX)).mono ?_
  rintro e w3 ⟨b, rfl, hq3, hb3⟩
  have HY3 := hide ((unhide HY2).below hb3)
  have hx3 := (hb3.block _ (lt_of_heap (unhide HX2))).trans (unhide HX2)
  have HX3 := hide hx3
  have HQ3 := hide hq3
  have hlo : w.heap.size < w2.heap.size := lt_of_heap (unhide HX2)
  obtain ⟨kx, fx⟩ := blk hx3
  have kx0 : w3.cell? ⟨w.heap.size, 0, none⟩ = some (.pointer none) := kx 0
  have kx1 : w3.cell? ⟨w.heap.size, 1, none⟩ = some .nilIface := kx 1
  have zx := lt_of_heap hx3
  have hnq : w.heap.size ≠ qb := by omega
  have hnm : w.heap.size ≠ mb := by omega
  clear hb3 hq3 hx3 HY2 HX2 kx
  go_wp2_with fail
  have HY4 := hide (((unhide HY3).set (o := 0) (Nat.le_refl _) hnq hnm (.pointer (some ⟨b, 0, none⟩))).set (o := 1) (Nat.le_refl _) hnq hnm .nilIface)
  have HX4 : Hid (((w3.setCell ⟨w.heap.size, 0, none⟩ (.pointer (some ⟨b, 0, none⟩))).setCell ⟨w.heap.size, 1, none⟩ .nilIface).heap[w.heap.size]? = some (.cells #[.pointer (some ⟨b, 0, none⟩), .nilIface] 209 (0, 0))) := by
    unfold Hid
    rw [heap_set (heap_set (unhide HX3) _)]
    rfl
  have HQ4 : Hid (QueryOk ((w3.setCell ⟨w.heap.size, 0, none⟩ (.pointer (some ⟨b, 0, none⟩))).setCell ⟨w.heap.size, 1, none⟩ .nilIface) w2.heap.size (.pointer (some ⟨b, 0, none⟩)) X) := ((unhide HQ3).off2 (Off2.setCell w.heap.size w.heap.size w3 0 _) hlo hlo).off2 (Off2.setCell w.heap.size w.heap.size _ 1 _) hlo hlo
  generalize (w3.setCell ⟨w.heap.size, 0, none⟩ (.pointer (some ⟨b, 0, none⟩))).setCell ⟨w.heap.size, 1, none⟩ .nilIface = W4 at *
  clear HY3 HX3 HQ3 kx0 kx1 zx fx
  refine (keep_ok a B _ (by exact (unhide HE).keep ((unhide HY4).off.below hzB hBq hBm)) qb mb n D s hs _ tv 1 y m hm hn hne (by exact (unhide HY4).blk) (by exact (unhide HY4).map)).mono ?_
  rintro e w5 ⟨rfl, hm5, hq5, ho5⟩
  have HY5 : Hid (Qy w tv qb mb 1 y (m + 1) (n + 1) (D.put (.string s.data.toList) (.held (.agg #[.pointer (some ⟨b, 0, none⟩), .nilIface]))) w5) := ⟨hq5, hm5, (unhide HY4).off.trans ho5⟩
  have hx5 := (ho5.block _ (lt_of_heap (unhide HX4)) hnq hnm).trans (unhide HX4)
  have HQ5 := hide ((unhide HQ4).off2 ho5 (by omega) (by omega))
  obtain ⟨kx, fx⟩ := blk hx5
  have kx0 : w5.cell? ⟨w.heap.size, 0, none⟩ = some (.pointer (some ⟨b, 0, none⟩)) := kx 0
  have kx1 : w5.cell? ⟨w.heap.size, 1, none⟩ = some .nilIface := kx 1
  have zx := lt_of_heap hx5
  clear hm5 hq5 ho5 hx5 HY4 HX4 HQ4 kx
  go_wp2_with fail
  go_region_held3 (fun w' => w'.cell? ⟨w.heap.size, 0, none⟩ = some (.pointer (some ⟨b, 0, none⟩)) ∧ w'.cell? ⟨w.heap.size, 1, none⟩ = some .nilIface) (go_keep) (first | (go_at_call 80; refine (ownNil_any _).mono ?_; rintro e w6 ⟨rfl, hb6⟩; have j0 := (hb6.cell (p := ⟨w.heap.size, 0, none⟩) (by simpa using zx)).trans kx0; have j1 := (hb6.cell (p := ⟨w.heap.size, 1, none⟩) (by simpa using zx)).trans kx1; have HB6 : Hid (Below w5.heap.size w5 w6) := (Below.refl _ _).drew.trans hb6; clear hb6))
  all_goals go_wp2
  have hy6 := (unhide HY5).below (unhide HB6)
  have HY6 := hide hy6
  obtain ⟨kq, fq⟩ := blk hy6.blk
  have k1 : w6.cell? ⟨qb, 1, none⟩ = some (.int .i32 1) := kq 1
  have f1 : w6.frozen? ⟨qb, 1, none⟩ = false := fq 1
  clear hy6 kq fq
  refine leaves_cons (f := 77) (args := #[.pointer (some ⟨qb, 1, none⟩)]) (by simp) (by simp [go_sem]) ?_
  refine (unlock_deferred muLib ⟨qb, 1, none⟩ .returning _ k1 f1).mono ?_
  rintro e u' w'' ⟨rfl, rfl, rfl⟩
  refine ⟨_, results_tmp2 rfl _ _ _, b, rfl, ?_, ?_, (unhide HY6).map.setCell (a := ⟨qb, 1, none⟩) hne _, (unhide HY6).off.trans (Off2.setCell qb mb w6 1 _)⟩
  · exact ((unhide HQ5).keepB (unhide HB6)).off3 (Off2.setCell qb mb w6 1 _) (by omega) (by omega) (by omega)
  · rw [heap_set (unhide HY6).blk]
    rfl
end Go.Proofs.YtfkeddkfegaeiaaGreatDoor
namespace Go.Proofs.YtfkeddkfegaeiaaGreatDoor
open Go.RowKit Go.MuLone Go.Maps Go.WideMaps
def foV (T : List Tb) (x : ItemA) (ss : List Sr) (rows : List (List Int)) : List Int := rows.map (evE (colAt T ss) x.val)
/-- what Ask leaves. -/
def AskDone (a : Nat → Addr) (w : World) (qb mb : Nat) (N : Nat) (l : List (List Int)) (its : List ItemA) (R : Option (Nat × Nat)) (e : Ending) (w' : World) : Prop := Off2 qb mb w w' ∧
  (∀ p k, R = some (p, k) → ∃ b, e = .returned (.tuple #[.agg #[.slice none 0 0, .slice none 0 0], .iface 110 (.pointer (some ⟨b, 0, none⟩))]) ∧ w.heap.size ≤ b ∧ w'.heap[b]? = some (.cells #[.int .i64 (p : Nat), errV a k] 113 (0, 0))) ∧
  (R = none → 4000 < N → e = .returned (.tuple #[.agg #[.slice none 0 0, .slice none 0 0], errV a eMany])) ∧
  (R = none → N ≤ 4000 → ∃ gc gr es, es.map (·.1) = its ∧ e = .returned (.tuple #[.agg #[.slice (some ⟨gc, 0, none⟩) es.length es.length, .slice (some ⟨gr, 0, none⟩) l.length l.length], .nilIface]) ∧ w.heap.size ≤ gc ∧ w.heap.size ≤ gr ∧ w'.heap[gc]? = some (.cells (namesV es).toArray 9 (0, 0)) ∧ RowsB w' gr 32 l.length (sortL l))
end Go.Proofs.YtfkeddkfegaeiaaGreatDoor
namespace Go.Proofs.YtfkeddkfegaeiaaGreatDoor
open Go.RowKit Go.MuLone Go.Maps Go.WideMaps
set_option maxRecDepth 100000 in
set_option maxHeartbeats 1000000 in
theorem pNew_fine (a : Nat → Addr) (lv : Value) (l : List Tb) (w : World) (hS : Sents a w) (hl : TabsAt w lv l) (h6 : p6all l = 0) :
    Calls Tryz.prog 35 #[lv] w fun e w' => ∃ q m g F D, e = .returned (.tuple #[.pointer (some ⟨q, 0, none⟩), .nilIface]) ∧ Tabs F g l D ∧ (∀ b o, F b = some o → w.heap.size ≤ b ∧ b < m ∧ w'.heap[b]? = some o) ∧ w.heap.size ≤ m ∧ m < q ∧ w'.heap[m]? = some (.map #[] 0) ∧ w'.heap[q]? = some (.cells (qCells (.slice (some ⟨g, 0, none⟩) l.length l.length) 0 0 m 0) 140 (0, 0)) ∧ Below w.heap.size w w' := by
  have HS := hide hS
  have HL := hide hl
  clear hS hl
  have HE : Hid (errOf a (p6all l) = .nilIface) := by unfold Hid errOf; rw [if_pos h6]
  go_enter Tryz.func35, Tryz.ntmps35
  go_wp2_with fail
  refine (check_any a lv l _ (by exact unhide HS) (by exact unhide HL)).mono ?_
  rintro e w1 ⟨rfl, hb1⟩
  rw [unhide HE]
  have HB := hide hb1
  clear hb1
  go_wp2_with fail
  refine (copied_any lv l _ (by exact (unhide HL).keep (unhide HB)) h6).mono ?_
  rintro e w2 ⟨g, F, D, rfl, ht, hF, hb2⟩
  have HT := hide ht
  have HF := hide hF
  have HB2 := hide hb2
  clear ht hF hb2
  have hmm := @run_makeMap Tryz.prog
  go_wp2
  have hz1 := (unhide HB).size
  have hz2 := (unhide HB2).size
  refine bodyPost_ret (v := .tuple #[.pointer (some ⟨w2.heap.size + 1, 0, none⟩), .nilIface]) (by simp [results, Tryz.results35, go_sem]) rfl ⟨w2.heap.size + 1, w2.heap.size, g, F, D, rfl, unhide HT, fun b o e => ?_, by omega, by omega, ?_, ?_, ?_⟩
  · obtain ⟨h1, h2⟩ := (unhide HF) b o e
    exact ⟨by omega, lt_size h2, heap_prev (heap_prev h2)⟩
  · exact heap_prev (heap_last rfl)
  · exact heap_last (by simp)
  · exact (((unhide HB).trans ((unhide HB2).mono (by omega))).alloc (by omega) _).alloc (by simp; omega) _
theorem map_empty {w : World} {m : Nat} (h : w.heap[m]? = some (.map #[] 0)) : w.ownsMap Tryz.prog 9 RvM m 0 (.map []) := by
  obtain ⟨es, clock, h1, h2, h3, h4⟩ := World.ownsMap_made w Tryz.prog 9 RvM
  rw [World.alloc_heap_new] at h1
  injection h1 with h1
  injection h1 with h1 h5
  subst h1 h5
  exact ⟨#[], 0, h, h2, h3, h4⟩
theorem tabs_one {W : World} {b : Nat} {t : Tb} {cv rv : Value} (hb : W.heap[b]? = some (.cells #[.string t.name, cv, rv] 44 (0, 0))) (hc : RowAt W cv (textsV t.cols)) (hcap : t.cols.length ≤ scap cv) (hr : RowsAt W rv t.rows) : TabsAt W (.slice (some ⟨b, 0, none⟩) 1 1) [t] := by
  refine ⟨_, _, rfl, by simp [maxLen], Nat.le_refl _, fun _ => ⟨b, 0, rfl, lt_of_heap hb, fun j t' e => ?_⟩⟩
  match j, e with
  | 0, e =>
    simp at e
    subst e
    exact ⟨cv, rv, ⟨cv, rv, rfl, hc, hcap, hr⟩, (blk hb).1 0, (blk hb).1 1, (blk hb).1 2⟩
  | j + 1, e => simp at e
end Go.Proofs.YtfkeddkfegaeiaaGreatDoor
namespace Go.Proofs.YtfkeddkfegaeiaaGreatDoor
open Go.RowKit Go.MuLone Go.Maps Go.WideMaps
theorem errX_or (T : List Tb) (ss : List Sr) : ∀ (ls : List (List Nd)) (a b : Option (Nat × Nat)), errX T ss (orE a b) ls = orE a (errX T ss b ls)
  | [], _, _ => rfl
  | l :: ls, a, b => by
    show errX T ss (orE (orE a b) (exErr T ss l)) ls = orE a (errX T ss (orE b (exErr T ss l)) ls)
    rw [orE_assoc, errX_or T ss ls]
theorem winE_or (T : List Tb) (ss : List Sr) (er : Option (Nat × Nat)) (x : WinA) : winE T ss er x = orE er (winE T ss none x) := by
  unfold winE
  cases x.of with
  | none =>
    show errX T ss (errX T ss er x.part) x.ord = orE er (errX T ss (errX T ss none x.part) x.ord)
    rw [← errX_or, ← errX_or, orE_none]
  | some l =>
    show errX T ss (errX T ss (orE er (exErr T ss l)) x.part) x.ord = orE er (errX T ss (errX T ss (orE none (exErr T ss l)) x.part) x.ord)
    rw [← errX_or, ← errX_or]; rfl
/-- the bounds of a window. -/
structure WinB (q : WinA) : Prop where
  part : q.part.length ≤ 100
  ord : q.ord.length ≤ 100
  rows : ∀ t, q.rows = some t → 0 ≤ t.value ∧ t.value ≤ 9223372036854775807
theorem owns_row {w : World} {lo : Nat} {T : TypeId} {v : Value} {vs : List Value} (h : w.ownsRow lo T 1 v vs.length vs) (hm : vs.length ≤ maxLen) : RowAt w v vs := by
  rcases h.2 with ⟨hv, hn⟩ | ⟨g, cap, cur, hv, -, hh, -, -, -, c4⟩
  · have : vs = [] := List.length_eq_zero_iff.1 hn
    subst this
    exact ⟨none, 0, hv, by simp, fun h0 => absurd h0 (by simp)⟩
  · refine ⟨some ⟨g, 0, none⟩, cap, hv, hm, fun _ => ⟨g, 0, rfl, lt_of_heap hh, fun j hj => ?_⟩⟩
    rw [Nat.zero_add, (blk hh).1, ← c4, ← Array.getElem?_toList, List.getElem?_take_of_lt (by omega)]
theorem xsP_of {w w' : World} {lo : Nat} {v : Value} {l : List (List Nd)} (h : XsOk w lo v l) (hl : l.length ≤ 100) (hb : Below w.heap.size w w') : XsP w' v l := by
  obtain ⟨vs, h1, h2, h3⟩ := h
  rw [← h2] at h1
  refine ⟨vs, (owns_row h1 (by unfold maxLen; omega)).keep hb, h2, fun i u k hu hk => ?_⟩
  obtain ⟨n, h4⟩ := h3 i u k hu hk
  exact ⟨n, (ExP.keep (fun _ _ => trivial) (fun _ _ _ _ _ _ => rfl) n _ _ h4 : ExP w (fun _ => True) n u k).keepB hb⟩
theorem winP_of {w w' : World} {lo : Nat} {v : Value} {q : WinA} (h : WinOk w lo v q) (hB : WinB q) (hb : Below w.heap.size w w') : ∃ b o a d r, v = .pointer (some ⟨b, 0, none⟩) ∧ WinP w' b q o a d r := by
  obtain ⟨b, o, a, d, r, hv, -, hh, ho, ha, hd, hr⟩ := h
  refine ⟨b, o, a, d, r, hv, (hb.block _ (lt_of_heap hh)).trans hh, ?_, ⟨xsP_of ha hB.part hb, hB.part⟩, ⟨xsP_of hd hB.ord hb, hB.ord⟩, ?_⟩
  · cases hx : q.of with
    | none => rw [hx] at ho; exact ho
    | some l =>
      rw [hx] at ho
      obtain ⟨n, h4⟩ := ho
      exact ⟨n, (ExP.keep (fun _ _ => trivial) (fun _ _ _ _ _ _ => rfl) n _ _ h4 : ExP w (fun _ => True) n o l).keepB hb⟩
  · cases hx : q.rows with
    | none => rw [hx] at hr; exact hr
    | some t =>
      rw [hx] at hr
      obtain ⟨bn, e, -, h4⟩ := hr
      exact ⟨bn, e, (hb.block _ (lt_of_heap h4)).trans h4, hB.rows t hx⟩
def eoW (T : List Tb) (x : ItemA) (ss : List Sr) : Option (Nat × Nat) := match x.win with
  | none => exErr T ss x.val
  | some q => winE T ss none q
noncomputable def foW (T : List Tb) (x : ItemA) (ss : List Sr) (rows : List (List Int)) : List Int := match x.win with
  | none => rows.map (evE (colAt T ss) x.val)
  | some q => winF (q.part.map fun l => evE (colAt T ss) l) (q.ord.map fun l => evE (colAt T ss) l) (ofOf T ss q) (callF q.call) (ahOf q) rows
set_option maxRecDepth 100000 in
set_option maxHeartbeats 1000000 in
theorem item_win (c : Fc) (hiw : c.iw = false) (p : Int) (ap : Int) (an : ByteArray) (b : Nat) (q : WinA) (o a d r : Value) (hw : WinP c.w0 b q o a d r) :
    ItemSpec c p .nilIface (.pointer (some ⟨b, 0, none⟩)) ap an (fun ss => winE c.T ss none q) (fun ss rows => winF (q.part.map fun l => evE (colAt c.T ss) l) (q.ord.map fun l => evE (colAt c.T ss) l) (ofOf c.T ss q) (callF q.call) (ahOf q) rows) := by
  intro F W sv iv tv ev wd ss er en h hen
  have HC := hide (fwindow_any c hiw b q o a d r hw)
  have HH := hide h
  have HEN : Hid (en = winE c.T ss er q) := by unfold Hid; rw [winE_or]; exact unhide hen
  clear h hw
  go_enter Tryz.func197, Tryz.ntmps197
  go_wp2_with fail
  refine ((unhide HC) F _ sv iv tv ev wd ss er en (by exact (unhide HH).alloc _) (by exact HEN)).mono ?_
  rintro e w1 ⟨wb, rfl, F1, hfa, hfn⟩
  have HFA := hide (hfa.from ((Below.refl W.heap.size W).alloc (Nat.le_refl _) _))
  have HFN := hide hfn
  clear hfa hfn
  go_wp2
  go_ret
  exact ⟨_, _, _, rfl, F1, unhide HFA, unhide HFN⟩
/-- what a select gives, plain. -/
structure PnW (T : List Tb) (x : SelX) (fs : Fs) (N : Nat) (ch l : List (List Int)) (R : Option (Nat × Nat)) : Prop where
  efs : fs = foldS T x.srcs
  eN : N = mulN (rowsOf T fs.ss)
  ech : ch = chosenN T fs.ss (x.tests.map fun u => tsHolds (colAt T fs.ss) u) N
  el : l = turned ch.length ((x.items.map fun e => foW T e fs.ss).map fun f => f ch)
  eR : R = x.tests.foldl (fun a u => orE a (tsErr T fs.ss u)) (x.items.foldl (fun a e => orE a (eoW T e fs.ss)) fs.er)
set_option maxRecDepth 100000 in
set_option maxHeartbeats 1000000 in
theorem answer_selW (a : Nat → Addr) (w : World) (B : Nat) (hE : EnvX a B w) (lo q : Nat) (X : QueryX) (hq : QueryOk w lo (.pointer (some ⟨q, 0, none⟩)) X) (hwt : X.wth = none) (hwin : ∀ i ∈ X.main.items, ∀ q, i.win = some q → WinB q) (hi0 : 0 < X.main.items.length) (hi6 : X.main.items.length ≤ 6) (hs0 : 0 < X.main.srcs.length) (hs3 : X.main.srcs.length ≤ 3) (hu9 : X.main.tests.length ≤ 1000)
    (tb tof tc : Nat) (T : List Tb) (hT : TabsAt w (.slice (some ⟨tb, tof, none⟩) T.length tc) T) (hc6 : ∀ t ∈ T, t.cols.length ≤ 6) (h200 : ∀ t ∈ T, t.rows.length ≤ 200) (hsh : ∀ t ∈ T, ∀ r ∈ t.rows, r.length = t.cols.length)
    (fs : Fs) (N : Nat) (ch l : List (List Int)) (R : Option (Nat × Nat)) (hp : PnW T X.main fs N ch l R) :
    ∃ es : List (ItemA × Value × Option Addr), es.map (·.1) = X.main.items ∧ Calls Tryz.prog 51 #[.pointer (some ⟨q, 0, none⟩), .slice (some ⟨tb, tof, none⟩) T.length tc] w fun e w' => AnsDone a w N l es R e w' := by
  obtain ⟨q', vw, vm, e0, -, hqb, hvw, hsel⟩ := hq
  injection e0 with e0
  injection e0 with e0
  injection e0 with e0
  subst e0
  rw [hwt] at hvw
  obtain rfl : vw = .pointer none := hvw
  obtain ⟨b, vi, vs, vt, es, us, rfl, -, hb, ⟨hi, hie, hiv⟩, hs, ⟨ht, hte, hto⟩⟩ := hsel
  have hlen : es.length = X.main.items.length := by rw [← hie, List.length_map]
  have hlen2 : us.length = X.main.tests.length := by rw [← hte, List.length_map]
  have hnb : ∀ e ∈ es, ∀ q, e.1.win = some q → WinB q := fun e he => hwin _ (by rw [← hie]; exact List.mem_map_of_mem he)
  refine ⟨es, hie, answer_plain a w B hE q lo _ b hqb tb tof tc T hT hc6 h200 hsh _ vi vs vt X.main.srcs hb hs hs0 hs3 es hi (by omega) (by omega) (eoW T) (foW T) (fun c hc hcT hiw e he => ?_) (fun e he => ?_) us ht (by omega) (fun u hu => ?_) fs hp.efs N hp.eN ch ?_ l ?_ R ?_⟩
  · have h1 := hiv e he
    have h5 := hnb e he
    cases hx : e.1.win with
    | none =>
      rw [hx] at h1
      obtain ⟨h2, n, h3⟩ := h1
      injection h2 with h2
      rw [h2]
      have h6 : ExP w (fun _ => True) n e.2.1 e.1.val := ExP.keep (fun _ _ => trivial) (fun _ _ _ _ _ _ => rfl) n _ _ h3
      have h4 := item_val c n e.1.place e.2.1 e.1.asP e.1.asT e.1.val (h6.keepB hc)
      rw [hcT] at h4
      have e1 : eoW T e.1 = fun ss => exErr T ss e.1.val := by funext ss; unfold eoW; rw [hx]
      have e2 : foW T e.1 = fun ss rows => rows.map (evE (colAt T ss) e.1.val) := by funext ss rows; unfold foW; rw [hx]
      rw [e1, e2]
      exact h4
    | some q =>
      rw [hx] at h1
      obtain ⟨h2, h3⟩ := h1
      obtain ⟨bw, o, a', d, r, hv, hp'⟩ := winP_of h3 (h5 q hx) hc
      rw [h2, hv]
      have h4 := item_win c hiw e.1.place e.1.asP e.1.asT bw q o a' d r hp'
      rw [hcT] at h4
      have e1 : eoW T e.1 = fun ss => winE T ss none q := by funext ss; unfold eoW; rw [hx]
      have e2 : foW T e.1 = fun ss rows => winF (q.part.map fun l => evE (colAt T ss) l) (q.ord.map fun l => evE (colAt T ss) l) (ofOf T ss q) (callF q.call) (ahOf q) rows := by funext ss rows; unfold foW; rw [hx]
      rw [e1, e2]
      exact h4
  · have h1 := hiv e he
    cases hx : e.1.win with
    | none =>
      rw [hx] at h1
      obtain ⟨-, n, h2⟩ := h1
      obtain ⟨u, x, h3⟩ := ExP.isI _ _ _ h2
      exact Or.inr ⟨u, x, h3⟩
    | some q =>
      rw [hx] at h1
      exact Or.inl h1.1
  · obtain ⟨⟨n1, h1⟩, n2, h2⟩ := hto u hu
    refine ⟨max n1 n2, ExP.up n1 _ _ _ (by omega) (ExP.keep (fun _ _ => trivial) (fun _ _ _ _ _ _ => rfl) _ _ _ h1), ExP.up n2 _ _ _ (by omega) (ExP.keep (fun _ _ => trivial) (fun _ _ _ _ _ _ => rfl) _ _ _ h2)⟩
  · rw [hp.ech, ← hte, List.map_map]; rfl
  · rw [hp.el, ← hie, List.map_map, List.map_map, List.map_map]; rfl
  · rw [hp.eR, ← hie, ← hte, List.foldl_map, List.foldl_map]; rfl
end Go.Proofs.YtfkeddkfegaeiaaGreatDoor
