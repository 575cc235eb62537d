/-
  Part 41.
-/
import Derived.Test.YtfkeddkfegaeiaaGreatDoorMPlH
import Derived.Test.YtfkeddkfegaeiaaGreatDoorMPlA
import Derived.Deep.RegionHeld3
import Derived.OwnWalk
namespace Go.Proofs.YtfkeddkfegaeiaaGreatDoor
open Go.RowKit

theorem ExP.isI {w : World} {P : Nat → Prop} : ∀ (n : Nat) (v : Value) (l : List Nd), ExP w P n v l → ∃ u x, v = .iface u x
  | 0, _, _, h => h.elim
  | n + 1, v, l, h => by
    rcases h with ⟨b, t, h1, _⟩ | ⟨b, p, x, k, h1, _⟩ | ⟨b, t, u, h1, _⟩ | ⟨b, p, x, k, h1, _⟩ | ⟨b, p, x, sg, y, k, m, h1, _⟩ <;> exact ⟨_, _, h1⟩

set_option maxRecDepth 100000 in
set_option maxHeartbeats 1000000 in
theorem value_pair (c : Fc) (n : Nat) (IH : Hid (ValSpec c n)) (F : Fx) (W : World) (sv iv tv ev : Value) (wd : Nat) (ss : List Sr) (er e1 en : Option (Nat × Nat)) (h : FS c F W sv iv tv ev wd ss er) (b : Nat) (p : Int) (sg : ByteArray) (x y : Value) (k m : List Nd) (hb : c.w0.heap[b]? = some (.cells #[.int .i64 p, x, .string sg, y] 263 (0, 0))) (hx : ExP c.w0 (fun _ => True) n x k) (hy : ExP c.w0 (fun _ => True) n y m) (he1 : Hid (e1 = orE er (exErr c.T ss k))) (hen : Hid (en = orE e1 (exErr c.T ss m))) :
    Calls Tryz.prog 247 #[.pointer (some ⟨c.fb, 0, none⟩), .iface 265 (.pointer (some ⟨b, 0, none⟩))] W fun e W' => ∃ g cb, e = .returned (.func (.func g) #[] cb) ∧ ∃ F', FA c F W sv iv tv wd ss en W' F' ∧ (en = none → FnG c.w0 (F'.off c.X) wd g cb (fun r => opOf sg (evE (colAt c.T ss) k r) (evE (colAt c.T ss) m r))) := by
  have HH := hide h
  have HB := hide hb
  have HX := hide hx
  have HY := hide hy
  have y1 := no_Pair_Number
  have y2 := no_Pair_Minus
  have y3 := no_Pair_Column
  have y4 := no_Pair_Bracket
  have y5 := yes_Pair
  clear h hb hx hy
  go_enter Tryz.func247, Tryz.ntmps247
  go_wp2_with fail
  refine (fpair_any c n IH F _ sv iv tv ev wd ss er e1 en (by exact unhide HH) b p sg x y k m (unhide HB) (unhide HX) (unhide HY) (ExP.isI _ _ _ (unhide HX)) (ExP.isI _ _ _ (unhide HY)) he1 hen).mono ?_
  rintro e w1 ⟨g, cb, rfl, F1, hfa, hfn⟩
  have HFA := hide hfa
  have HFN := hide hfn
  clear hfa hfn
  go_wp2
  go_ret
  exact ⟨_, _, rfl, _, unhide HFA, unhide HFN⟩

/-- an expr's function value, whatever it is. -/
theorem value_spec (c : Fc) : ∀ n, ValSpec c n
  | 0 => fun _ _ _ _ _ _ _ _ _ _ _ _ h _ _ => h.elim
  | n + 1 => fun v l F W sv iv tv ev wd ss er en h hf he => by
    have IH : Hid (ValSpec c n) := value_spec c n
    rcases h with ⟨b, t, rfl, _, hb, rfl⟩ | ⟨b, p, x, k, rfl, _, hb, hx, rfl⟩ | ⟨b, t, u, rfl, _, hb, rfl⟩ | ⟨b, p, x, k, rfl, _, hb, hx, rfl⟩ | ⟨b, p, x, sg, y, k, m, rfl, _, hb, hx, hy, rfl⟩
    · refine (value_num c F W sv iv tv ev wd ss er hf b t hb).mono ?_
      rintro e W' ⟨g, cb, rfl, F', h1, h2⟩
      have e0 : en = er := (unhide he).trans (orE_none er)
      rw [(ev_num (colAt c.T ss) t).2, e0]
      exact ⟨g, cb, rfl, F', h1, fun _ => h2⟩
    · have e0 : en = orE er (exErr c.T ss k) := by rw [unhide he, exErr_cons]; rfl
      refine (value_minus c n IH F W sv iv tv ev wd ss er en hf b p x k hb hx (Or.inr (ExP.isI _ _ _ hx)) e0).mono ?_
      rw [(ev_minus (ExP.wfv (colAt c.T ss) _ _ _ hx) p).2]
      exact fun _ _ h => h
    · have e0 : en = orE er (ndErr c.T ss (ndCol t u)) := by rw [unhide he, exErr_cons]; exact congrArg _ (orE_none _)
      refine (value_col c F W sv iv tv ev wd ss er en hf b _ t u hb e0 _ rfl).mono ?_
      rw [(ev_col (colAt c.T ss) t u).2]
      exact fun _ _ h => h
    · have e0 : en = orE er (exErr c.T ss k) := by rw [unhide he, exErr_cons]; rfl
      refine (value_br c n IH F W sv iv tv ev wd ss er en hf b p x k hb hx (Or.inr (ExP.isI _ _ _ hx)) e0).mono ?_
      rw [(ev_br (ExP.wfv (colAt c.T ss) _ _ _ hx) p).2]
      exact fun _ _ h => h
    · have e0 : en = orE (orE er (exErr c.T ss k)) (exErr c.T ss m) := by rw [unhide he, exErr_cons, exErr_append, orE_assoc]; rfl
      refine (value_pair c n IH F W sv iv tv ev wd ss er _ en hf b p sg x y k m hb hx hy rfl e0).mono ?_
      rw [(ev_pair (ExP.wfv (colAt c.T ss) _ _ _ hx) (ExP.wfv (colAt c.T ss) _ _ _ hy) p sg).2]
      exact fun _ _ h => h
end Go.Proofs.YtfkeddkfegaeiaaGreatDoor
namespace Go.Proofs.YtfkeddkfegaeiaaGreatDoor
open Go.RowKit

/-- which function compares by a sign. -/
def cmpF (sg : ByteArray) : Nat :=
  if sg.toList == [61] then 291 else if sg.toList == [60, 62] then 292 else if sg.toList == [60] then 293 else if sg.toList == [60, 61] then 294 else if sg.toList == [62] then 295 else 296

set_option maxRecDepth 100000 in
set_option maxHeartbeats 1000000 in
theorem comparison_any (sg : ByteArray) (w : World) : Calls Tryz.prog 249 #[.string sg] w fun e w' => e = .returned (.func (.func (cmpF sg)) #[] #[]) ∧ w' = w := by
  cases h1 : (sg.toList == [61]) with
  | true =>
    have e : cmpF sg = 291 := by unfold cmpF; rw [if_pos h1]
    rw [e]; clear e
    go_enter Tryz.func249, Tryz.ntmps249
    go_wp2
    go_ret
    exact ⟨rfl, rfl⟩
  | false =>
  cases h2 : (sg.toList == [60, 62]) with
  | true =>
    have e : cmpF sg = 292 := by unfold cmpF; rw [if_neg (by rw [h1]; decide), if_pos h2]
    rw [e]; clear e
    go_enter Tryz.func249, Tryz.ntmps249
    go_wp2
    go_ret
    exact ⟨rfl, rfl⟩
  | false =>
  cases h3 : (sg.toList == [60]) with
  | true =>
    have e : cmpF sg = 293 := by unfold cmpF; rw [if_neg (by rw [h1]; decide), if_neg (by rw [h2]; decide), if_pos h3]
    rw [e]; clear e
    go_enter Tryz.func249, Tryz.ntmps249
    go_wp2
    go_ret
    exact ⟨rfl, rfl⟩
  | false =>
  cases h4 : (sg.toList == [60, 61]) with
  | true =>
    have e : cmpF sg = 294 := by unfold cmpF; rw [if_neg (by rw [h1]; decide), if_neg (by rw [h2]; decide), if_neg (by rw [h3]; decide), if_pos h4]
    rw [e]; clear e
    go_enter Tryz.func249, Tryz.ntmps249
    go_wp2
    go_ret
    exact ⟨rfl, rfl⟩
  | false =>
  cases h5 : (sg.toList == [62]) with
  | true =>
    have e : cmpF sg = 295 := by unfold cmpF; rw [if_neg (by rw [h1]; decide), if_neg (by rw [h2]; decide), if_neg (by rw [h3]; decide), if_neg (by rw [h4]; decide), if_pos h5]
    rw [e]; clear e
    go_enter Tryz.func249, Tryz.ntmps249
    go_wp2
    go_ret
    exact ⟨rfl, rfl⟩
  | false =>
    have e : cmpF sg = 296 := by unfold cmpF; rw [if_neg (by rw [h1]; decide), if_neg (by rw [h2]; decide), if_neg (by rw [h3]; decide), if_neg (by rw [h4]; decide), if_neg (by rw [h5]; decide)]
    rw [e]; clear e
    go_enter Tryz.func249, Tryz.ntmps249
    go_wp2
    go_ret
    exact ⟨rfl, rfl⟩

/-- function g compares two numbers by p. -/
def CmG (g : Nat) (p : Int → Int → Bool) : Prop := Enters g ∧ ∀ (a b : Int) (w : World), Calls Tryz.prog g #[.int .i64 a, .int .i64 b] w fun e w' => e = .returned (.bool (p a b)) ∧ w' = w
set_option maxRecDepth 100000 in
set_option maxHeartbeats 1000000 in
theorem cm1 : CmG 291 (fun a b => a == b) := ⟨enters_of Tryz.func291 (by kernel_rfl) rfl, fun a b w => by go_enter Tryz.func291, Tryz.ntmps291; go_wp2; go_ret; exact ⟨rfl, rfl⟩⟩
set_option maxRecDepth 100000 in
set_option maxHeartbeats 1000000 in
theorem cm2 : CmG 292 (fun a b => a != b) := ⟨enters_of Tryz.func292 (by kernel_rfl) rfl, fun a b w => by go_enter Tryz.func292, Tryz.ntmps292; go_wp2; go_ret; exact ⟨rfl, rfl⟩⟩
set_option maxRecDepth 100000 in
set_option maxHeartbeats 1000000 in
theorem cm3 : CmG 293 (fun a b => decide (a < b)) := ⟨enters_of Tryz.func293 (by kernel_rfl) rfl, fun a b w => by go_enter Tryz.func293, Tryz.ntmps293; go_wp2; go_ret; exact ⟨rfl, rfl⟩⟩
set_option maxRecDepth 100000 in
set_option maxHeartbeats 1000000 in
theorem cm4 : CmG 294 (fun a b => decide (a ≤ b)) := ⟨enters_of Tryz.func294 (by kernel_rfl) rfl, fun a b w => by go_enter Tryz.func294, Tryz.ntmps294; go_wp2; go_ret; exact ⟨rfl, rfl⟩⟩
set_option maxRecDepth 100000 in
set_option maxHeartbeats 1000000 in
theorem cm5 : CmG 295 (fun a b => decide (b < a)) := ⟨enters_of Tryz.func295 (by kernel_rfl) rfl, fun a b w => by go_enter Tryz.func295, Tryz.ntmps295; go_wp2; go_ret; exact ⟨rfl, rfl⟩⟩
set_option maxRecDepth 100000 in
set_option maxHeartbeats 1000000 in
theorem cm6 : CmG 296 (fun a b => decide (b ≤ a)) := ⟨enters_of Tryz.func296 (by kernel_rfl) rfl, fun a b w => by go_enter Tryz.func296, Tryz.ntmps296; go_wp2; go_ret; exact ⟨rfl, rfl⟩⟩
theorem cm_any (sg : ByteArray) : CmG (cmpF sg) (cmpOf sg) := by
  unfold cmpF
  split
  · rename_i h1
    have e : cmpOf sg = fun a b => a == b := by funext a b; unfold cmpOf; rw [if_pos h1]
    rw [e]; exact cm1
  · rename_i h1
    split
    · rename_i h2
      have e : cmpOf sg = fun a b => a != b := by funext a b; unfold cmpOf; rw [if_neg h1, if_pos h2]
      rw [e]; exact cm2
    · rename_i h2
      split
      · rename_i h3
        have e : cmpOf sg = fun a b => decide (a < b) := by funext a b; unfold cmpOf; rw [if_neg h1, if_neg h2, if_pos h3]
        rw [e]; exact cm3
      · rename_i h3
        split
        · rename_i h4
          have e : cmpOf sg = fun a b => decide (a ≤ b) := by funext a b; unfold cmpOf; rw [if_neg h1, if_neg h2, if_neg h3, if_pos h4]
          rw [e]; exact cm4
        · rename_i h4
          split
          · rename_i h5
            have e : cmpOf sg = fun a b => decide (b < a) := by funext a b; unfold cmpOf; rw [if_neg h1, if_neg h2, if_neg h3, if_neg h4, if_pos h5]
            rw [e]; exact cm5
          · rename_i h5
            have e : cmpOf sg = fun a b => decide (b ≤ a) := by funext a b; unfold cmpOf; rw [if_neg h1, if_neg h2, if_neg h3, if_neg h4, if_neg h5]
            rw [e]; exact cm6

/-- function g, bound to cb, tells p of a row of n numbers. -/
def TsG (w0 : World) (F : Fx) (n g : Nat) (cb : Array Value) (p : List Int → Bool) : Prop := Enters g ∧ ∀ (W : World) (rv : Value) (row : List Int), Fits w0 F W → row.length = n → RowAt W rv (intsV row) → Calls Tryz.prog g (#[rv] ++ cb) W fun e W' => e = .returned (.bool (p row)) ∧ Below W.heap.size W W'
theorem TsG.mono {w0 : World} {F F' : Fx} {n g : Nat} {cb : Array Value} {p : List Int → Bool} (h : TsG w0 F n g cb p) (hF : F.le F') : TsG w0 F' n g cb p := ⟨h.1, fun W rv row hW => h.2 W rv row (hW.mono hF)⟩

set_option maxRecDepth 100000 in
set_option maxHeartbeats 1000000 in
theorem ts_fn (w0 : World) (F : Fx) (n bx by' bc g g' gc : Nat) (cb cb' : Array Value) (f f' : List Int → Int) (p : Int → Int → Bool) (T Tc : TypeId) (hx : F bx = some (.cells #[.func (.func g) #[] cb] T (0, 0))) (hy : F by' = some (.cells #[.func (.func g') #[] cb'] T (0, 0))) (hc : F bc = some (.cells #[.func (.func gc) #[] #[]] Tc (0, 0))) (hf : FnG w0 F n g cb f) (hf' : FnG w0 F n g' cb' f') (hp : CmG gc p) :
    TsG w0 F n 250 #[.pointer (some ⟨bc, 0, none⟩), .pointer (some ⟨bx, 0, none⟩), .pointer (some ⟨by', 0, none⟩)] (fun r => p (f r) (f' r)) := by
  refine ⟨enters_of Tryz.func250 (by kernel_rfl) rfl, fun W rv row hW hl hr => ?_⟩
  obtain ⟨kx, fx⟩ := blk (hW.new _ _ hx)
  obtain ⟨ky, fy⟩ := blk (hW.new _ _ hy)
  obtain ⟨kc, fc⟩ := blk (hW.new _ _ hc)
  have zx := lt_of_heap (hW.new _ _ hx)
  have zy := lt_of_heap (hW.new _ _ hy)
  have zc := lt_of_heap (hW.new _ _ hc)
  have eg := hf.1
  have eg' := hf'.1
  have egc := hp.1
  have HC := hide (fun W1 hb => fn_two hf hW (W1 := W1) hb hl hr)
  have HC' := hide (fun W1 hb => fn_two hf' hW (W1 := W1) hb hl hr)
  have HP := hide hp.2
  have HKS : Hid (∀ W1, Below W.heap.size W W1 → W1.cell? ⟨bc, 0, none⟩ = some (.func (.func gc) #[] #[]) ∧ W1.cell? ⟨bx, 0, none⟩ = some (.func (.func g) #[] cb) ∧ W1.cell? ⟨by', 0, none⟩ = some (.func (.func g') #[] cb')) := fun W1 hb => ⟨by rw [hb.cell (p := ⟨bc, 0, none⟩) zc, kc]; rfl, by rw [hb.cell (p := ⟨bx, 0, none⟩) zx, kx]; rfl, by rw [hb.cell (p := ⟨by', 0, none⟩) zy, ky]; rfl⟩
  obtain ⟨s1, s2, s3⟩ := (unhide HKS) W (Below.refl _ _)
  obtain ⟨ad, cap, rfl, _, _⟩ := hr
  clear hx hy hc hf hf' hW hl hp kx ky kc fx fy fc
  rw [List.length_map] at HC HC' ⊢
  show Calls Tryz.prog 250 #[_, _, _, _] W _
  go_enter Tryz.func250, Tryz.ntmps250
  go_upto_region 1 with (fail)
  go_cut [5] (fun v W1 => v = .bool (p (f row) (f' row)) ∧ Below W.heap.size W W1)
  case first =>
    go_region_held3 (fun w' => w'.cell? ⟨bc, 0, none⟩ = some (.func (.func gc) #[] #[]) ∧ w'.cell? ⟨bx, 0, none⟩ = some (.func (.func g) #[] cb) ∧ w'.cell? ⟨by', 0, none⟩ = some (.func (.func g') #[] cb')) (go_keep) (first
      | (refine ((unhide HC) _ (by exact (Below.refl _ _).drew)).mono ?_; clear HC; rintro e w1 ⟨rfl, hb1⟩; have HB1 := hide hb1; obtain ⟨q1, q2, q3⟩ := (unhide HKS) _ hb1; clear hb1)
      | (refine ((unhide HC') _ (by exact unhide HB1)).mono ?_; clear HC'; rintro e w2 ⟨rfl, hb2⟩; have HB2 := hide hb2; obtain ⟨r1, r2, r3⟩ := (unhide HKS) _ hb2; clear hb2)
      | (refine ((unhide HP) _ _ _).mono ?_; rintro e w3 ⟨rfl, hw3⟩; obtain rfl := hw3.symm))
    all_goals
      go_wp2_with fail
      go_meet
      case rel => exact ⟨rfl, unhide HB2⟩
  case rest =>
    obtain ⟨rfl, hbw⟩ := hcut
    have HB := hide hbw
    clear hbw
    go_wp2
    go_ret
    exact ⟨rfl, unhide HB⟩
end Go.Proofs.YtfkeddkfegaeiaaGreatDoor
namespace Go.Proofs.YtfkeddkfegaeiaaGreatDoor
open Go.RowKit

set_option maxRecDepth 100000 in
set_option maxHeartbeats 2000000 in
theorem ftest_any (c : Fc) (n : Nat) (F : Fx) (W0 : World) (sv iv tv ev : Value) (wd : Nat) (ss : List Sr) (er e1 en : Option (Nat × Nat)) (h : FS c F W0 sv iv tv ev wd ss er) (p : Int) (sg : ByteArray) (x y : Value) (k m : List Nd) (hx : ExP c.w0 (fun _ => True) n x k) (hy : ExP c.w0 (fun _ => True) n y m) (he1 : Hid (e1 = orE er (exErr c.T ss k))) (hen : Hid (en = orE e1 (exErr c.T ss m))) :
    Calls Tryz.prog 198 #[.pointer (some ⟨c.fb, 0, none⟩), .agg #[.int .i64 p, x, .string sg, y]] W0 fun e W' => ∃ g cb, e = .returned (.func (.func g) #[] cb) ∧ ∃ F', FA c F W0 sv iv tv wd ss en W' F' ∧ (en = none → TsG c.w0 (F'.off c.X) wd g cb (fun r => cmpOf sg (evE (colAt c.T ss) k r) (evE (colAt c.T ss) m r))) := by
  have IH : Hid (ValSpec c n) := value_spec c n
  have HH0 := hide h
  have HX := hide hx
  have HY := hide hy
  have hsf := store_func
  have hmf : ∀ (fn : Fn) (first cap : Array Value) (w : World), (Instr.makeFunc fn first cap).run Tryz.prog w = .ok (.func fn first cap) w := fun _ _ _ _ => rfl
  obtain ⟨ui, vi, rfl⟩ := ExP.isI _ _ _ hx
  obtain ⟨uj, vj, rfl⟩ := ExP.isI _ _ _ hy
  clear h hx hy
  go_enter Tryz.func198, Tryz.ntmps198
  go_upto_region 1 with (fail)
  have HB0 : Hid (Below W0.heap.size W0 (W0.alloc (.cells #[.int .i64 p, .iface ui vi, .string sg, .iface uj vj] 263))) := (Below.refl _ _).alloc (Nat.le_refl _) _
  have HH : Hid (FS c F (W0.alloc (.cells #[.int .i64 p, .iface ui vi, .string sg, .iface uj vj] 263)) sv iv tv ev wd ss er) := (unhide HH0).alloc _
  have HBL : Hid ((W0.alloc (.cells #[.int .i64 p, .iface ui vi, .string sg, .iface uj vj] 263)).heap[W0.heap.size]? = some (.cells #[.int .i64 p, .iface ui vi, .string sg, .iface uj vj] 263 (0, 0))) := heap_last rfl
  have hbf : W0.heap.size ≠ c.fb := by have := (unhide HH0).grow.ltp; omega
  generalize W0.alloc (.cells #[.int .i64 p, .iface ui vi, .string sg, .iface uj vj] 263) = W at *
  generalize hbe : W0.heap.size = b at *
  have HBE := hide hbe
  clear hbe
  have zb := lt_of_heap (unhide HBL)
  have HKB : Hid (∀ W1, Kp c.fb W W1 → (∀ o, W1.cell? ⟨b, o, none⟩ = #[.int .i64 p, .iface ui vi, .string sg, .iface uj vj][o]?) ∧ b < W1.heap.size) := fun W1 hk => ⟨fun o => by rw [hk.cell (p := ⟨b, o, none⟩) zb hbf]; exact (blk (unhide HBL)).1 o, Nat.lt_of_lt_of_le zb hk.size⟩
  obtain ⟨kb, zb0⟩ := (unhide HKB) _ (Kp.refl _ _)
  have zb0a : b < W.heap.size + 1 := by omega
  have na0 : b ≠ W.heap.size := by omega
  have na1 : b ≠ W.heap.size + 1 := by omega
  have na2 : W.heap.size ≠ b := by omega
  have na3 : W.heap.size + 1 ≠ b := by omega
  have kq1 : W.cell? ⟨b, 1, none⟩ = some (.iface ui vi) := kb 1
  have kq3 : W.cell? ⟨b, 3, none⟩ = some (.iface uj vj) := kb 3
  go_cut [5, 6] (fun v5 v6 W1 => ∃ bx bz g g' cb cb' F1 F', v5 = .pointer (some ⟨bx, 0, none⟩) ∧ v6 = .pointer (some ⟨bz, 0, none⟩) ∧ FA c F W sv iv tv wd ss en W1 F' ∧ F'.off c.X bx = some (.cells #[.func (.func g) #[] cb] 426 (0, 0)) ∧ F'.off c.X bz = some (.cells #[.func (.func g') #[] cb'] 426 (0, 0)) ∧ F1.le (F'.off c.X) ∧ (en = none → FnG c.w0 F1 wd g cb (evE (colAt c.T ss) k) ∧ FnG c.w0 F1 wd g' cb' (evE (colAt c.T ss) m)))
  case first =>
    go_region_held3 (fun w' => w'.cell? ⟨b, 1, none⟩ = some (.iface ui vi) ∧ w'.cell? ⟨b, 3, none⟩ = some (.iface uj vj)) (go_keep) (first
      | (go_at_call 247; refine ((unhide IH) _ k F ((W.drew.alloc (.cells #[.nilFunc] 426)).alloc (.cells #[.nilFunc] 426)) sv iv tv ev wd ss er e1 (by exact unhide HX) (by exact ((unhide HH).drew.alloc _).alloc _) he1).mono ?_; clear HX; rintro e w1 ⟨g, cb, rfl, F1, hfa, hfn⟩; have HFN := hide hfn; have B0 := hide (Bx.call hfa ((Bx.new (unhide HH).drew (lo := W.heap.size) (Nat.le_refl _) (b := W.heap.size) rfl).alloc _)); have cB0 := (blk (unhide B0).at').1 0; have fB0 := (blk (unhide B0).at').2 0; have yB0 := lt_of_heap (unhide B0).at'; have B1 := hide (Bx.call hfa (Bx.new ((unhide HH).drew.alloc _) (lo := W.heap.size) (by simp) (b := W.heap.size + 1) (by simp))); have cB1 := (blk (unhide B1).at').1 0; have fB1 := (blk (unhide B1).at').2 0; have yB1 := lt_of_heap (unhide B1).at';  have HFA := hide (hfa.from (w := W) (by exact ((Below.refl _ _).drew.alloc (by simp) _).alloc (by simp) _)); obtain ⟨kb1, zb1⟩ := (unhide HKB) _ (unhide HFA).2.1; have zb1a : b < w1.heap.size + 1 := (by omega); have nb0 : b ≠ w1.heap.size := (by omega); have nb1 : b ≠ w1.heap.size + 1 := (by omega); have nb2 : w1.heap.size ≠ b := (by omega); have nb3 : w1.heap.size + 1 ≠ b := (by omega);  have kq1 : w1.cell? ⟨b, 1, none⟩ = some (.iface ui vi) := kb1 1; have kq3 : w1.cell? ⟨b, 3, none⟩ = some (.iface uj vj) := kb1 3; obtain ⟨ev1, hf1⟩ := hfa.2.2; have HF1 := hide hf1; have z1 : W.heap.size ≤ w1.heap.size := (unhide HFA).2.1.size; clear hfa hfn kb hf1)
      | (go_at_call 247; refine ((unhide IH) _ k F (W.drew.alloc (.cells #[.nilFunc] 426)) sv iv tv ev wd ss er e1 (by exact unhide HX) (by exact (unhide HH).drew.alloc _) he1).mono ?_; clear HX; rintro e w1 ⟨g, cb, rfl, F1, hfa, hfn⟩; have HFN := hide hfn; have B0 := hide (Bx.call hfa (Bx.new (unhide HH).drew (lo := W.heap.size) (Nat.le_refl _) (b := W.heap.size) rfl)); have cB0 := (blk (unhide B0).at').1 0; have fB0 := (blk (unhide B0).at').2 0; have yB0 := lt_of_heap (unhide B0).at';  have HFA := hide (hfa.from (w := W) (by exact (Below.refl _ _).drew.alloc (by simp) _)); obtain ⟨kb1, zb1⟩ := (unhide HKB) _ (unhide HFA).2.1; have zb1a : b < w1.heap.size + 1 := (by omega); have nb0 : b ≠ w1.heap.size := (by omega); have nb1 : b ≠ w1.heap.size + 1 := (by omega); have nb2 : w1.heap.size ≠ b := (by omega); have nb3 : w1.heap.size + 1 ≠ b := (by omega);  have kq1 : w1.cell? ⟨b, 1, none⟩ = some (.iface ui vi) := kb1 1; have kq3 : w1.cell? ⟨b, 3, none⟩ = some (.iface uj vj) := kb1 3; obtain ⟨ev1, hf1⟩ := hfa.2.2; have HF1 := hide hf1; have z1 : W.heap.size ≤ w1.heap.size := (unhide HFA).2.1.size; clear hfa hfn kb hf1)
      | (go_at_call 247; refine ((unhide IH) _ k F W.drew sv iv tv ev wd ss er e1 (by exact unhide HX) (by exact (unhide HH).drew) he1).mono ?_; clear HX; rintro e w1 ⟨g, cb, rfl, F1, hfa, hfn⟩; have HFN := hide hfn;  have HFA := hide (hfa.from (w := W) (by exact (Below.refl _ _).drew)); obtain ⟨kb1, zb1⟩ := (unhide HKB) _ (unhide HFA).2.1; have zb1a : b < w1.heap.size + 1 := (by omega); have nb0 : b ≠ w1.heap.size := (by omega); have nb1 : b ≠ w1.heap.size + 1 := (by omega); have nb2 : w1.heap.size ≠ b := (by omega); have nb3 : w1.heap.size + 1 ≠ b := (by omega);  have kq1 : w1.cell? ⟨b, 1, none⟩ = some (.iface ui vi) := kb1 1; have kq3 : w1.cell? ⟨b, 3, none⟩ = some (.iface uj vj) := kb1 3; obtain ⟨ev1, hf1⟩ := hfa.2.2; have HF1 := hide hf1; have z1 : W.heap.size ≤ w1.heap.size := (unhide HFA).2.1.size; clear hfa hfn kb hf1)
      | (go_at_call 247; refine ((unhide IH) _ m F1 ((w1.alloc (.cells #[.nilFunc] 426)).alloc (.cells #[.nilFunc] 426)) sv iv tv ev1 wd ss e1 en (by exact unhide HY) (by exact ((unhide HF1).alloc _).alloc _) hen).mono ?_; rintro e w2 ⟨g', cb', rfl, F2, hfa, hfn⟩; have HFN2 := hide hfn; (try (have B0q := hide (Bx.call hfa (((unhide B0).alloc _).alloc _)); have cB0q := (blk (unhide B0q).at').1 0; have fB0q := (blk (unhide B0q).at').2 0; have yB0q := lt_of_heap (unhide B0q).at'; clear cB0 fB0)); (try (have B1q := hide (Bx.call hfa (((unhide B1).alloc _).alloc _)); have cB1q := (blk (unhide B1q).at').1 0; have fB1q := (blk (unhide B1q).at').2 0; have yB1q := lt_of_heap (unhide B1q).at'; clear cB1 fB1)); have B2 := hide (Bx.call hfa ((Bx.new (unhide HF1) (lo := W.heap.size) z1 (b := w1.heap.size) rfl).alloc _)); have cB2 := (blk (unhide B2).at').1 0; have fB2 := (blk (unhide B2).at').2 0; have yB2 := lt_of_heap (unhide B2).at'; have B3 := hide (Bx.call hfa (Bx.new ((unhide HF1).alloc _) (lo := W.heap.size) (by simp; omega) (b := w1.heap.size + 1) (by simp))); have cB3 := (blk (unhide B3).at').1 0; have fB3 := (blk (unhide B3).at').2 0; have yB3 := lt_of_heap (unhide B3).at'; have HLE := hide hfa.1.le; have HFA2 := hide ((unhide HFA).trans (hfa.from (by exact ((Below.refl _ _).alloc (Nat.le_refl _) _).alloc (by simp) _))); obtain ⟨ev2, hf2⟩ := hfa.2.2; have HF2 := hide hf2; have z2 : W.heap.size ≤ w2.heap.size := (unhide HFA2).2.1.size; have kr1 : w2.cell? ⟨b, 1, none⟩ = some (.iface ui vi) := ((unhide HKB) _ (unhide HFA2).2.1).1 1; have kr3 : w2.cell? ⟨b, 3, none⟩ = some (.iface uj vj) := ((unhide HKB) _ (unhide HFA2).2.1).1 3; have zb2 : b < w2.heap.size := ((unhide HKB) _ (unhide HFA2).2.1).2; have zb2a : b < w2.heap.size + 1 := (by omega); have nc0 : b ≠ w2.heap.size := (by omega); have nc1 : b ≠ w2.heap.size + 1 := (by omega); have nc2 : w2.heap.size ≠ b := (by omega); have nc3 : w2.heap.size + 1 ≠ b := (by omega);  clear hfa hfn hf2)
      | (go_at_call 247; refine ((unhide IH) _ m F1 (w1.alloc (.cells #[.nilFunc] 426)) sv iv tv ev1 wd ss e1 en (by exact unhide HY) (by exact (unhide HF1).alloc _) hen).mono ?_; rintro e w2 ⟨g', cb', rfl, F2, hfa, hfn⟩; have HFN2 := hide hfn; (try (have B0q := hide (Bx.call hfa ((unhide B0).alloc _)); have cB0q := (blk (unhide B0q).at').1 0; have fB0q := (blk (unhide B0q).at').2 0; have yB0q := lt_of_heap (unhide B0q).at'; clear cB0 fB0)); (try (have B1q := hide (Bx.call hfa ((unhide B1).alloc _)); have cB1q := (blk (unhide B1q).at').1 0; have fB1q := (blk (unhide B1q).at').2 0; have yB1q := lt_of_heap (unhide B1q).at'; clear cB1 fB1)); have B2 := hide (Bx.call hfa (Bx.new (unhide HF1) (lo := W.heap.size) z1 (b := w1.heap.size) rfl)); have cB2 := (blk (unhide B2).at').1 0; have fB2 := (blk (unhide B2).at').2 0; have yB2 := lt_of_heap (unhide B2).at'; have HLE := hide hfa.1.le; have HFA2 := hide ((unhide HFA).trans (hfa.from (by exact (Below.refl _ _).alloc (Nat.le_refl _) _))); obtain ⟨ev2, hf2⟩ := hfa.2.2; have HF2 := hide hf2; have z2 : W.heap.size ≤ w2.heap.size := (unhide HFA2).2.1.size; have kr1 : w2.cell? ⟨b, 1, none⟩ = some (.iface ui vi) := ((unhide HKB) _ (unhide HFA2).2.1).1 1; have kr3 : w2.cell? ⟨b, 3, none⟩ = some (.iface uj vj) := ((unhide HKB) _ (unhide HFA2).2.1).1 3; have zb2 : b < w2.heap.size := ((unhide HKB) _ (unhide HFA2).2.1).2; have zb2a : b < w2.heap.size + 1 := (by omega); have nc0 : b ≠ w2.heap.size := (by omega); have nc1 : b ≠ w2.heap.size + 1 := (by omega); have nc2 : w2.heap.size ≠ b := (by omega); have nc3 : w2.heap.size + 1 ≠ b := (by omega);  clear hfa hfn hf2)
      | (go_at_call 247; refine ((unhide IH) _ m F1 w1 sv iv tv ev1 wd ss e1 en (by exact unhide HY) (by exact unhide HF1) hen).mono ?_; rintro e w2 ⟨g', cb', rfl, F2, hfa, hfn⟩; have HFN2 := hide hfn; (try (have B0q := hide (Bx.call hfa (unhide B0)); have cB0q := (blk (unhide B0q).at').1 0; have fB0q := (blk (unhide B0q).at').2 0; have yB0q := lt_of_heap (unhide B0q).at'; clear cB0 fB0)); (try (have B1q := hide (Bx.call hfa (unhide B1)); have cB1q := (blk (unhide B1q).at').1 0; have fB1q := (blk (unhide B1q).at').2 0; have yB1q := lt_of_heap (unhide B1q).at'; clear cB1 fB1)); have HLE := hide hfa.1.le; have HFA2 := hide ((unhide HFA).trans (hfa.from (by exact Below.refl _ _))); obtain ⟨ev2, hf2⟩ := hfa.2.2; have HF2 := hide hf2; have z2 : W.heap.size ≤ w2.heap.size := (unhide HFA2).2.1.size; have kr1 : w2.cell? ⟨b, 1, none⟩ = some (.iface ui vi) := ((unhide HKB) _ (unhide HFA2).2.1).1 1; have kr3 : w2.cell? ⟨b, 3, none⟩ = some (.iface uj vj) := ((unhide HKB) _ (unhide HFA2).2.1).1 3; have zb2 : b < w2.heap.size := ((unhide HKB) _ (unhide HFA2).2.1).2; have zb2a : b < w2.heap.size + 1 := (by omega); have nc0 : b ≠ w2.heap.size := (by omega); have nc1 : b ≠ w2.heap.size + 1 := (by omega); have nc2 : w2.heap.size ≠ b := (by omega); have nc3 : w2.heap.size + 1 ≠ b := (by omega);  clear hfa hfn hf2))
    all_goals
      go_wp2_with fail
      go_meet
      case rel =>
        have HQ : Hid (en = none → FnG c.w0 (F2.off c.X) wd g cb (evE (colAt c.T ss) k) ∧ FnG c.w0 (F2.off c.X) wd g' cb' (evE (colAt c.T ss) m)) := fun he => by
          have h1 := orE_eq_none ((unhide hen).symm.trans he)
          exact ⟨((unhide HFN) h1.1).mono (Fx.off_mono (unhide HLE) c.X), (unhide HFN2) he⟩
        first
          | exact ⟨_, _, g, g', cb, cb', F2.off c.X, _, rfl, rfl, fin_nn (unhide HFA2) rfl rfl (unhide HQ)⟩
          | exact ⟨_, _, g, g', cb, cb', F2.off c.X, _, rfl, rfl, fin_nm (unhide HFA2) rfl rfl (unhide HQ)⟩
          | exact ⟨_, _, g, g', cb, cb', F2.off c.X, _, rfl, rfl, fin_on (unhide HH) (unhide HFA2) (unhide B0q) rfl (unhide HQ)⟩
          | exact ⟨_, _, g, g', cb, cb', F2.off c.X, _, rfl, rfl, fin_no (unhide HH) (unhide HFA2) (unhide B0q) rfl (unhide HQ)⟩
          | exact ⟨_, _, g, g', cb, cb', F2.off c.X, _, rfl, rfl, fin_om (unhide HH) (unhide HFA2) (unhide B0q) rfl (unhide HQ)⟩
          | exact ⟨_, _, g, g', cb, cb', F2.off c.X, _, rfl, rfl, fin_mo (unhide HH) (unhide HFA2) (unhide B0q) rfl (unhide HQ)⟩
          | exact ⟨_, _, g, g', cb, cb', F2.off c.X, _, rfl, rfl, fin_on (unhide HH) (unhide HFA2) (unhide B1q) rfl (unhide HQ)⟩
          | exact ⟨_, _, g, g', cb, cb', F2.off c.X, _, rfl, rfl, fin_no (unhide HH) (unhide HFA2) (unhide B1q) rfl (unhide HQ)⟩
          | exact ⟨_, _, g, g', cb, cb', F2.off c.X, _, rfl, rfl, fin_om (unhide HH) (unhide HFA2) (unhide B1q) rfl (unhide HQ)⟩
          | exact ⟨_, _, g, g', cb, cb', F2.off c.X, _, rfl, rfl, fin_mo (unhide HH) (unhide HFA2) (unhide B1q) rfl (unhide HQ)⟩
          | exact ⟨_, _, g, g', cb, cb', F2.off c.X, _, rfl, rfl, fin_on (unhide HH) (unhide HFA2) (unhide B2) rfl (unhide HQ)⟩
          | exact ⟨_, _, g, g', cb, cb', F2.off c.X, _, rfl, rfl, fin_no (unhide HH) (unhide HFA2) (unhide B2) rfl (unhide HQ)⟩
          | exact ⟨_, _, g, g', cb, cb', F2.off c.X, _, rfl, rfl, fin_om (unhide HH) (unhide HFA2) (unhide B2) rfl (unhide HQ)⟩
          | exact ⟨_, _, g, g', cb, cb', F2.off c.X, _, rfl, rfl, fin_mo (unhide HH) (unhide HFA2) (unhide B2) rfl (unhide HQ)⟩
          | exact ⟨_, _, g, g', cb, cb', F2.off c.X, _, rfl, rfl, fin_on (unhide HH) (unhide HFA2) (unhide B3) rfl (unhide HQ)⟩
          | exact ⟨_, _, g, g', cb, cb', F2.off c.X, _, rfl, rfl, fin_no (unhide HH) (unhide HFA2) (unhide B3) rfl (unhide HQ)⟩
          | exact ⟨_, _, g, g', cb, cb', F2.off c.X, _, rfl, rfl, fin_om (unhide HH) (unhide HFA2) (unhide B3) rfl (unhide HQ)⟩
          | exact ⟨_, _, g, g', cb, cb', F2.off c.X, _, rfl, rfl, fin_mo (unhide HH) (unhide HFA2) (unhide B3) rfl (unhide HQ)⟩
          | exact ⟨_, _, g, g', cb, cb', F2.off c.X, _, rfl, rfl, FA.write2 (unhide HH) (unhide HFA2) (unhide B0q) (unhide B1q) (by omega) _ _ (unhide HQ)⟩
          | exact ⟨_, _, g, g', cb, cb', F2.off c.X, _, rfl, rfl, FA.write2 (unhide HH) (unhide HFA2) (unhide B0q) (unhide B2) (by omega) _ _ (unhide HQ)⟩
          | exact ⟨_, _, g, g', cb, cb', F2.off c.X, _, rfl, rfl, FA.write2 (unhide HH) (unhide HFA2) (unhide B0q) (unhide B3) (by omega) _ _ (unhide HQ)⟩
          | exact ⟨_, _, g, g', cb, cb', F2.off c.X, _, rfl, rfl, FA.write2 (unhide HH) (unhide HFA2) (unhide B1q) (unhide B0q) (by omega) _ _ (unhide HQ)⟩
          | exact ⟨_, _, g, g', cb, cb', F2.off c.X, _, rfl, rfl, FA.write2 (unhide HH) (unhide HFA2) (unhide B1q) (unhide B2) (by omega) _ _ (unhide HQ)⟩
          | exact ⟨_, _, g, g', cb, cb', F2.off c.X, _, rfl, rfl, FA.write2 (unhide HH) (unhide HFA2) (unhide B1q) (unhide B3) (by omega) _ _ (unhide HQ)⟩
          | exact ⟨_, _, g, g', cb, cb', F2.off c.X, _, rfl, rfl, FA.write2 (unhide HH) (unhide HFA2) (unhide B2) (unhide B0q) (by omega) _ _ (unhide HQ)⟩
          | exact ⟨_, _, g, g', cb, cb', F2.off c.X, _, rfl, rfl, FA.write2 (unhide HH) (unhide HFA2) (unhide B2) (unhide B1q) (by omega) _ _ (unhide HQ)⟩
          | exact ⟨_, _, g, g', cb, cb', F2.off c.X, _, rfl, rfl, FA.write2 (unhide HH) (unhide HFA2) (unhide B2) (unhide B3) (by omega) _ _ (unhide HQ)⟩
          | exact ⟨_, _, g, g', cb, cb', F2.off c.X, _, rfl, rfl, FA.write2 (unhide HH) (unhide HFA2) (unhide B3) (unhide B0q) (by omega) _ _ (unhide HQ)⟩
          | exact ⟨_, _, g, g', cb, cb', F2.off c.X, _, rfl, rfl, FA.write2 (unhide HH) (unhide HFA2) (unhide B3) (unhide B1q) (by omega) _ _ (unhide HQ)⟩
          | exact ⟨_, _, g, g', cb, cb', F2.off c.X, _, rfl, rfl, FA.write2 (unhide HH) (unhide HFA2) (unhide B3) (unhide B2) (by omega) _ _ (unhide HQ)⟩
  case rest =>
    obtain ⟨bx, bz, g, g', cb, cb', F1, F', rfl, rfl, hfa, hx1, hz1, hle, hfn⟩ := hcut
    have HFA := hide hfa
    have HX1 := hide hx1
    have HZ1 := hide hz1
    have HLE := hide hle
    have HFN := hide hfn
    obtain ⟨kb1, zb1⟩ := (unhide HKB) _ hfa.2.1
    clear hfa hx1 hz1 hle hfn kb kq1 kq3
    go_wp2_with fail
    refine (comparison_any sg _).mono ?_
    rintro e w3 ⟨rfl, hw3⟩
    obtain rfl := hw3.symm
    go_wp2
    go_ret
    obtain ⟨a1, a2, a3⟩ := FA.fix (unhide HFA) (o := .cells #[.func (.func (cmpF sg)) #[] #[]] 428) rfl
    exact ⟨_, _, rfl, _, a1.from (w := W0) (by rw [unhide HBE]; exact unhide HB0), fun he => ts_fn _ _ _ _ _ _ _ _ _ _ _ _ _ _ _ _ (a3 _ _ (unhide HX1)) (a3 _ _ (unhide HZ1)) a2 (((unhide HFN) he).1.mono ((unhide HLE).trans a3)) (((unhide HFN) he).2.mono ((unhide HLE).trans a3)) (cm_any sg)⟩
end Go.Proofs.YtfkeddkfegaeiaaGreatDoor
namespace Go.Proofs.YtfkeddkfegaeiaaGreatDoor
open Go.RowKit

/-- a list that lies in a block that was not there yet. -/
def NewAt (W : World) (u : Value) : Prop := ∀ b o n c, u = .slice (some ⟨b, o, none⟩) n c → W.heap.size ≤ b
/-- function g, bound to fs and cb, gives f of rows of n numbers each. -/
def ItG (w0 : World) (F : Fx) (n g : Nat) (fs cb : Array Value) (f : List (List Int) → List Int) : Prop := Enters g ∧ ∀ (W : World) (rv : Value) (rows : List (List Int)), Fits w0 F W → (∀ r ∈ rows, r.length = n) → rows.length ≤ 4000 → RowsAt W rv rows → Calls Tryz.prog g (fs ++ #[rv] ++ cb) W fun e W' => ∃ u, e = .returned u ∧ RowAt W' u (intsV (f rows)) ∧ NewAt W u ∧ (f rows).length = rows.length ∧ Below W.heap.size W W'
theorem ItG.mono {w0 : World} {F F' : Fx} {n g : Nat} {fs cb : Array Value} {f : List (List Int) → List Int} (h : ItG w0 F n g fs cb f) (hF : F.le F') : ItG w0 F' n g fs cb f := ⟨h.1, fun W rv rows hW => h.2 W rv rows (hW.mono hF)⟩

theorem row_full {W : World} {g : Nat} {T : TypeId} {xs : List Value} (h : W.heap[g]? = some (.cells xs.toArray T (0, 0))) (hm : xs.length ≤ maxLen) (cap : Nat) : RowAt W (.slice (some ⟨g, 0, none⟩) xs.length cap) xs :=
  ⟨_, cap, rfl, hm, fun _ => ⟨g, 0, rfl, lt_of_heap h, fun j _ => by rw [Nat.zero_add, (blk h).1]; simp⟩⟩
set_option maxRecDepth 100000 in
set_option maxHeartbeats 1000000 in
theorem it_val (w0 : World) (F : Fx) (n bx g : Nat) (cb : Array Value) (f : List Int → Int) (T : TypeId) (hx : F bx = some (.cells #[.func (.func g) #[] cb] T (0, 0))) (hf : FnG w0 F n g cb f) :
    ItG w0 F n 248 #[] #[.pointer (some ⟨bx, 0, none⟩)] (fun rows => rows.map f) := by
  refine ⟨enters_of Tryz.func248 (by kernel_rfl) rfl, fun w rv rows hW hl hsz hr => ?_⟩
  obtain ⟨i0, hi, hinf⟩ := Option.map_eq_some_iff.1 infoInt
  simp only [Prod.mk.injEq] at hinf
  obtain ⟨hz0, hz1, hz2⟩ := hinf
  have HI := hide hi
  have HZ0 := hide hz0
  have HZ1 := hide hz1
  have HZ2 := hide hz2
  clear hi hz0 hz1 hz2
  have eg := hf.1
  have HF := hide hf.2
  have HW := hide hW
  have HLEN := hide hl
  have HX := hide (hW.new _ _ hx)
  obtain ⟨vs, ⟨adr, capr, rfl, mr, cr⟩, lr, rr⟩ := hr
  rw [lr] at mr cr
  have HCR := hide cr
  have HRR := hide rr
  have HLR := hide lr
  rw [lr]
  clear hx hf hW hl cr rr lr mr
  show Calls Tryz.prog 248 #[_, _] w _
  go_enter Tryz.func248, Tryz.ntmps248
  go_wp2_with (at_make; refine wpList_make_full _ rfl _ _ 32 rfl w.heap.size 3 i0 (.int .i64 0) 1 Tryz.underlying32 (unhide HI) (unhide HZ0) (unhide HZ1) .i64 .i64 _ _ rows.length rfl rfl ?c1 ?c2 ?c3 ?c4 ?c5 ?_)
  case c1 => simp
  case c2 => simp
  case c3 => rw [unhide HZ2]; omega
  case c4 => unfold maxLen; omega
  case c5 => exact Nat.le_refl _
  intro w1 ho hg
  rcases ho.2 with ⟨hv, _⟩ | ⟨g1, cap, cur, hv, hge, hh, c1, c2, c3, c4⟩
  · cases hv
  injection hv with hv1 hv2 hv3
  injection hv1 with hv1
  injection hv1 with hv1
  subst hv1
  have hcl : cur.toList.length = rows.length := by rw [Array.length_toList, c3]; omega
  have HH1 : Hid (w1.heap[w.heap.size]? = some (.cells cur.toList.toArray 3 (0, 0))) := by unfold Hid; rw [hh]
  have HB1 : Hid (Below w.heap.size w w1) := (Below.refl _ _).grown hg (Nat.le_refl _) (fun k e => by cases e)
  clear ho hg hh c1 c2 c3 c4 hv2 hv3 hge
  generalize cur.toList = L at *
  go_wp2_with fail
  go_loopg [5, 6, 12] rows.length (fun q _ _ i W => ∃ pre suf, rows = pre ++ suf ∧ q = suf.length ∧ i = .int .i64 (pre.length : Nat) ∧ W.heap[w.heap.size]? = some (.cells (intsV (pre.map f) ++ L.drop pre.length).toArray 3 (0, 0)) ∧ Below w.heap.size w W)
  case atStart => exact ⟨[], rows, rfl, rfl, rfl, by simpa using unhide HH1, unhide HB1⟩
  case round =>
    obtain ⟨pre, suf, h1, rfl, rfl, hh, hbw⟩ := hrel
    have l1 : pre.length + suf.length = rows.length := by rw [h1, List.length_append]
    have HZ := hide h1
    have HHW := hide hh
    have HBW := hide hbw
    have zw := lt_of_heap hh
    obtain ⟨kc, kf⟩ := blk hh
    clear h1 hh hbw
    cases suf with
    | nil =>
      have hlt : decide (pre.length < rows.length) = false := by simp at l1 ⊢; omega
      go_wp2
      go_ret
      refine ⟨_, rfl, ?_, fun b o n c e => by injection e with e _ _; injection e with e; injection e with e; omega, by simp, unhide HBW⟩
      have e : pre = rows := by rw [unhide HZ]; simp
      have h9 := unhide HHW
      rw [e, List.drop_eq_nil_of_le (by omega), List.append_nil] at h9
      have h8 := row_full h9 (by simp; unfold maxLen; omega) rows.length
      rw [show (intsV (rows.map f)).length = rows.length from by simp] at h8
      exact h8
    | cons r suf =>
      rw [List.length_cons] at l1
      have hlt : decide (pre.length < rows.length) = true := by simp; omega
      have HZ2 : Hid (rows = (pre ++ [r]) ++ suf) := by unfold Hid; rw [unhide HZ]; simp
      obtain ⟨b1, o1, rfl, z1, cc1⟩ := (unhide HCR) (by omega)
      obtain ⟨u, hu⟩ : ∃ u, vs[pre.length]? = some u := ⟨vs[pre.length]'(by rw [unhide HLR]; omega), List.getElem?_eq_getElem _⟩
      have hru := (unhide HRR) pre.length r u (by rw [unhide HZ]; simp) hu
      have k1 : wr.cell? ⟨b1, o1 + pre.length, none⟩ = some u := by
        rw [(unhide HBW).cell (p := ⟨b1, _, none⟩) z1, cc1 _ (by omega), hu]
      have HRU := hide (hru.keep (unhide HBW))
      have HRL : Hid (r.length = n) := (unhide HLEN) r (by rw [unhide HZ]; simp)
      obtain ⟨adu, capu, rfl, _, _⟩ := hru
      rw [List.length_map] at k1 HRU
      have kx : wr.cell? ⟨bx, 0, none⟩ = some (.func (.func g) #[] cb) := by
        rw [(unhide HBW).cell (p := ⟨bx, 0, none⟩) (lt_of_heap (unhide HX)), (blk (unhide HX)).1]; rfl
      clear hu cc1 kc
      go_wp2_with fail
      refine ((unhide HF) _ _ r (by exact (unhide HW).below (unhide HBW)) (unhide HRL) (by exact unhide HRU)).mono ?_
      rintro e w2 ⟨rfl, hb2⟩
      have hh2 := (hb2.block _ zw).trans (unhide HHW)
      have HH2 := hide hh2
      have HB2 : Hid (Below w.heap.size w w2) := (unhide HBW).trans (hb2.mono (unhide HBW).size)
      have zw2 := lt_of_heap hh2
      obtain ⟨kc, kf2⟩ := blk hh2
      have hlp : (intsV (pre.map f)).length = pre.length := by simp
      obtain ⟨t, L', hL⟩ : ∃ t L', L.drop pre.length = t :: L' := by
        cases e : L.drop pre.length with
        | nil => exfalso; have := congrArg List.length e; rw [List.length_drop] at this; simp at this; omega
        | cons t L' => exact ⟨t, L', rfl⟩
      have k2 : w2.cell? ⟨w.heap.size, pre.length, none⟩ = some t := by
        rw [kc, hL]
        simp
      have HNX : Hid ((intsV (pre.map f) ++ L.drop pre.length).toArray.setIfInBounds pre.length (.int .i64 (f r)) = (intsV ((pre ++ [r]).map f) ++ L.drop (pre.length + 1)).toArray) := by
        unfold Hid
        have hd1 : L.drop (pre.length + 1) = L' := by rw [← List.drop_drop, hL]; rfl
        rw [hL, hd1, List.setIfInBounds_toArray, List.set_append_right _ _ (by omega), hlp, Nat.sub_self, List.set_cons_zero]
        simp
      clear hb2 hh2 kc hL k1 kx
      go_wp2
      go_roundg suf.length
      case measure => simp
      case rel =>
        refine ⟨pre ++ [r], suf, unhide HZ2, rfl, ?_, ?_, (unhide HB2).setCell (by exact Nat.le_refl _) _⟩
        · rw [List.length_append]; go_num
        · rw [heap_set (unhide HH2), unhide HNX, List.length_append]; rfl
end Go.Proofs.YtfkeddkfegaeiaaGreatDoor
namespace Go.Proofs.YtfkeddkfegaeiaaGreatDoor
open Go.RowKit

/-- what finding an item does: it is found as a function value that gives f. -/
def ItemSpec (c : Fc) (p : Int) (v wv : Value) (ap : Int) (an : ByteArray) (eo : List Sr → Option (Nat × Nat)) (f : List Sr → List (List Int) → List Int) : Prop := ∀ (F : Fx) (W : World) (sv iv tv ev : Value) (wd : Nat) (ss : List Sr) (er en : Option (Nat × Nat)), FS c F W sv iv tv ev wd ss er → Hid (en = orE er (eo ss)) →
  Calls Tryz.prog 197 #[.pointer (some ⟨c.fb, 0, none⟩), .agg #[.int .i64 p, v, wv, .int .i64 ap, .string an]] W fun e W' => ∃ g fs cb, e = .returned (.func (.func g) fs cb) ∧ ∃ F', FA c F W sv iv tv wd ss en W' F' ∧ (en = none → ItG c.w0 (F'.off c.X) wd g fs cb (f ss))

set_option maxRecDepth 100000 in
set_option maxHeartbeats 1000000 in
theorem item_val (c : Fc) (n : Nat) (p : Int) (v : Value) (ap : Int) (an : ByteArray) (l : List Nd) (hx : ExP c.w0 (fun _ => True) n v l) :
    ItemSpec c p v (.pointer none) ap an (fun ss => exErr c.T ss l) (fun ss rows => rows.map (evE (colAt c.T ss) l)) := by
  intro F W sv iv tv ev wd ss er en h hen
  have IH : Hid (ValSpec c n) := value_spec c n
  have HH := hide h
  have HX := hide hx
  have hsf := store_func
  have hmf : ∀ (fn : Fn) (first cap : Array Value) (w : World), (Instr.makeFunc fn first cap).run Tryz.prog w = .ok (.func fn first cap) w := fun _ _ _ _ => rfl
  obtain ⟨ui, vi, rfl⟩ := ExP.isI _ _ _ hx
  clear h hx
  go_enter Tryz.func197, Tryz.ntmps197
  go_wp2_with fail
  refine ((unhide IH) _ l F _ sv iv tv ev wd ss er en (by exact unhide HX) (by exact (unhide HH).alloc _) hen).mono ?_
  rintro e w1 ⟨g, cb, rfl, F1, hfa, hfn⟩
  have HFA := hide (hfa.from ((Below.refl W.heap.size W).alloc (Nat.le_refl _) _))
  have HFN := hide hfn
  clear hfa hfn
  go_wp2
  go_ret
  obtain ⟨a1, a2, a3⟩ := FA.fix (unhide HFA) (o := .cells #[.func (.func g) #[] cb] 426) rfl
  exact ⟨_, _, _, rfl, _, a1, fun he => it_val _ _ _ _ _ _ _ _ a2 (((unhide HFN) he).mono a3)⟩
end Go.Proofs.YtfkeddkfegaeiaaGreatDoor
