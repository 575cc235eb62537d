/-
  Part 23.
-/
import Derived.Test.YtfkeddkfegaeiaaGreatDoorMvPlH
import Derived.Test.YtfkeddkfegaeiaaGreatDoorMvNwG
import Derived.Test.YtfkeddkfegaeiaaGreatDoorMvWth
namespace Go.Proofs.YtfkeddkfegaeiaaGreatDoor
open Go.RowKit
theorem ExP.isI {w : World} {P : Nat → Prop} : ∀ (n : Nat) (v : Value) (l : List Nd), ExP w P n v l → ∃ u x, v = .iface u x
  | 0, _, _, h => h.elim
  | n + 1, v, l, h => by
    rcases h with ⟨b, t, h1, _⟩ | ⟨b, p, x, k, h1, _⟩ | ⟨b, t, u, h1, _⟩ | ⟨b, p, x, k, h1, _⟩ | ⟨b, p, x, sg, y, k, m, h1, _⟩ <;> exact ⟨_, _, h1⟩
set_option maxRecDepth 100000 in
set_option maxHeartbeats 1000000 in
theorem value_pair (c : Fc) (n : Nat) (IH : Hid (ValSpec c n)) (F : Fx) (W : World) (sv iv tv ev : Value) (wd : Nat) (ss : List Sr) (er e1 en : Option (Nat × Nat)) (h : FS c F W sv iv tv ev wd ss er) (b : Nat) (p : Int) (sg : ByteArray) (x y : Value) (k m : List Nd) (hb : c.w0.heap[b]? = some (.cells #[.int .i64 p, x, .string sg, y] 263 (0, 0))) (hx : ExP c.w0 (fun _ => True) n x k) (hy : ExP c.w0 (fun _ => True) n y m) (he1 : Hid (e1 = orE er (exErr c.T ss k))) (hen : Hid (en = orE e1 (exErr c.T ss m))) :
    Calls Tryz.prog 247 #[.pointer (some ⟨c.fb, 0, none⟩), .iface 265 (.pointer (some ⟨b, 0, none⟩))] W fun e W' => ∃ g cb, e = .returned (.func (.func g) #[] cb) ∧ ∃ F', FA c F W sv iv tv wd ss en W' F' ∧ (en = none → FnG c.w0 (F'.off c.X) wd g cb (fun r => opOf sg (evE (colAt c.T ss) k r) (evE (colAt c.T ss) m r))) := by
  have HH := hide h
  have HB := hide hb
  have HX := hide hx
  have HY := hide hy
  have y1 := no_Pair_Number
  have y2 := no_Pair_Minus
  have y3 := no_Pair_Column
  have y4 := no_Pair_Bracket
  have y5 := yes_Pair
  clear h hb hx hy
  go_enter Tryz.func247, Tryz.ntmps247
  go_wp2_with fail
  refine (fpair_any c n IH F _ sv iv tv ev wd ss er e1 en (by exact unhide HH) b p sg x y k m (unhide HB) (unhide HX) (unhide HY) (ExP.isI _ _ _ (unhide HX)) (ExP.isI _ _ _ (unhide HY)) he1 hen).mono ?_
  rintro e w1 ⟨g, cb, rfl, F1, hfa, hfn⟩
  have HFA := hide hfa
  have HFN := hide hfn
  clear hfa hfn
  go_wp2
  go_ret
  exact ⟨_, _, rfl, _, unhide HFA, unhide HFN⟩
/-- an expr's function value, whatever it is. -/
theorem value_spec (c : Fc) : ∀ n, ValSpec c n
  | 0 => fun _ _ _ _ _ _ _ _ _ _ _ _ h _ _ => h.elim
  | n + 1 => fun v l F W sv iv tv ev wd ss er en h hf he => by
    have IH : Hid (ValSpec c n) := value_spec c n
    rcases h with ⟨b, t, rfl, _, hb, rfl⟩ | ⟨b, p, x, k, rfl, _, hb, hx, rfl⟩ | ⟨b, t, u, rfl, _, hb, rfl⟩ | ⟨b, p, x, k, rfl, _, hb, hx, rfl⟩ | ⟨b, p, x, sg, y, k, m, rfl, _, hb, hx, hy, rfl⟩
    · refine (value_num c F W sv iv tv ev wd ss er hf b t hb).mono ?_
      rintro e W' ⟨g, cb, rfl, F', h1, h2⟩
      have e0 : en = er := (unhide he).trans (orE_none er)
      rw [(ev_num (colAt c.T ss) t).2, e0]
      exact ⟨g, cb, rfl, F', h1, fun _ => h2⟩
    · have e0 : en = orE er (exErr c.T ss k) := by rw [unhide he, exErr_cons]; rfl
      refine (value_minus c n IH F W sv iv tv ev wd ss er en hf b p x k hb hx (Or.inr (ExP.isI _ _ _ hx)) e0).mono ?_
      rw [(ev_minus (ExP.wfv (colAt c.T ss) _ _ _ hx) p).2]
      exact fun _ _ h => h
    · have e0 : en = orE er (ndErr c.T ss (ndCol t u)) := by rw [unhide he, exErr_cons]; exact congrArg _ (orE_none _)
      refine (value_col c F W sv iv tv ev wd ss er en hf b _ t u hb e0 _ rfl).mono ?_
      rw [(ev_col (colAt c.T ss) t u).2]
      exact fun _ _ h => h
    · have e0 : en = orE er (exErr c.T ss k) := by rw [unhide he, exErr_cons]; rfl
      refine (value_br c n IH F W sv iv tv ev wd ss er en hf b p x k hb hx (Or.inr (ExP.isI _ _ _ hx)) e0).mono ?_
      rw [(ev_br (ExP.wfv (colAt c.T ss) _ _ _ hx) p).2]
      exact fun _ _ h => h
    · have e0 : en = orE (orE er (exErr c.T ss k)) (exErr c.T ss m) := by rw [unhide he, exErr_cons, exErr_append, orE_assoc]; rfl
      refine (value_pair c n IH F W sv iv tv ev wd ss er _ en hf b p sg x y k m hb hx hy rfl e0).mono ?_
      rw [(ev_pair (ExP.wfv (colAt c.T ss) _ _ _ hx) (ExP.wfv (colAt c.T ss) _ _ _ hy) p sg).2]
      exact fun _ _ h => h
end Go.Proofs.YtfkeddkfegaeiaaGreatDoor
namespace Go.Proofs.YtfkeddkfegaeiaaGreatDoor
open Go.RowKit
abbrev Er := Option (Nat × Nat)
/-- the sources found so far, how wide their rows are, the first error. -/
structure Fs where
  ss : List Sr
  wd : Nat
  er : Er
def srcStep (T : List Tb) (f : Fs) (x : Tk × Tk) : Fs := match tabNo T x.1.text with
  | none => { f with er := orE f.er (some (x.1.place, eTable)) }
  | some j => ⟨f.ss ++ [⟨x.2.text, j, f.wd⟩], f.wd + (T.getD j tb0).cols.length, orE f.er (if (spoken f.ss x.2.text).isSome then some (x.2.place, eTwice) else none)⟩
def tsErr (T : List Tb) (ss : List Sr) (x : TestA) : Er := orE (exErr T ss x.l) (exErr T ss x.r)
def cmpOf (sg : ByteArray) (a b : Int) : Bool :=
  if sg.toList == [61] then a == b else if sg.toList == [60, 62] then a != b else if sg.toList == [60] then decide (a < b) else if sg.toList == [60, 61] then decide (a ≤ b) else if sg.toList == [62] then decide (b < a) else decide (b ≤ a)
def tsHolds (at' : ByteArray → ByteArray → Int) (x : TestA) (r : List Int) : Bool := cmpOf x.sg (evE at' x.l r) (evE at' x.r r)
/-- how many rows can be put together. -/
def madeN (rs : List (List (List Int))) : Nat := (rs.map List.length).foldl (· * ·) 1
/-- the row of this number. -/
def togR : List (List (List Int)) → Nat → List Int
  | [], _ => []
  | l :: ls, n => (l.getD (n / madeN ls % l.length) []) ++ togR ls n
def rowsOf (T : List Tb) (ss : List Sr) : List (List (List Int)) := ss.map fun s => (T.getD s.tab tb0).rows
/-- each row's numbers, of the columns of numbers. -/
def turned (n : Nat) (cs : List (List Int)) : List (List Int) := (List.range n).map fun i => cs.map fun c => c.getD i 0
end Go.Proofs.YtfkeddkfegaeiaaGreatDoor
namespace Go.Proofs.YtfkeddkfegaeiaaGreatDoor
open Go.RowKit
/-- which function compares by a sign. -/
def cmpF (sg : ByteArray) : Nat :=
  if sg.toList == [61] then 291 else if sg.toList == [60, 62] then 292 else if sg.toList == [60] then 293 else if sg.toList == [60, 61] then 294 else if sg.toList == [62] then 295 else 296
set_option maxRecDepth 100000 in
set_option maxHeartbeats 1000000 in
theorem comparison_any (sg : ByteArray) (w : World) : Calls Tryz.prog 249 #[.string sg] w fun e w' => e = .returned (.func (.func (cmpF sg)) #[] #[]) ∧ w' = w := by
  cases h1 : (sg.toList == [61]) with
  | true =>
    have e : cmpF sg = 291 := by unfold cmpF; rw [if_pos h1]
    rw [e]; clear e
    go_enter Tryz.func249, Tryz.ntmps249
    go_wp2
    go_ret
    exact ⟨rfl, rfl⟩
  | false =>
  cases h2 : (sg.toList == [60, 62]) with
  | true =>
    have e : cmpF sg = 292 := by unfold cmpF; rw [if_neg (by rw [h1]; decide), if_pos h2]
    rw [e]; clear e
    go_enter Tryz.func249, Tryz.ntmps249
    go_wp2
    go_ret
    exact ⟨rfl, rfl⟩
  | false =>
  cases h3 : (sg.toList == [60]) with
  | true =>
    have e : cmpF sg = 293 := by unfold cmpF; rw [if_neg (by rw [h1]; decide), if_neg (by rw [h2]; decide), if_pos h3]
    rw [e]; clear e
    go_enter Tryz.func249, Tryz.ntmps249
    go_wp2
    go_ret
    exact ⟨rfl, rfl⟩
  | false =>
  cases h4 : (sg.toList == [60, 61]) with
  | true =>
    have e : cmpF sg = 294 := by unfold cmpF; rw [if_neg (by rw [h1]; decide), if_neg (by rw [h2]; decide), if_neg (by rw [h3]; decide), if_pos h4]
    rw [e]; clear e
    go_enter Tryz.func249, Tryz.ntmps249
    go_wp2
    go_ret
    exact ⟨rfl, rfl⟩
  | false =>
  cases h5 : (sg.toList == [62]) with
  | true =>
    have e : cmpF sg = 295 := by unfold cmpF; rw [if_neg (by rw [h1]; decide), if_neg (by rw [h2]; decide), if_neg (by rw [h3]; decide), if_neg (by rw [h4]; decide), if_pos h5]
    rw [e]; clear e
    go_enter Tryz.func249, Tryz.ntmps249
    go_wp2
    go_ret
    exact ⟨rfl, rfl⟩
  | false =>
    have e : cmpF sg = 296 := by unfold cmpF; rw [if_neg (by rw [h1]; decide), if_neg (by rw [h2]; decide), if_neg (by rw [h3]; decide), if_neg (by rw [h4]; decide), if_neg (by rw [h5]; decide)]
    rw [e]; clear e
    go_enter Tryz.func249, Tryz.ntmps249
    go_wp2
    go_ret
    exact ⟨rfl, rfl⟩
/-- function g compares two numbers by p. -/
def CmG (g : Nat) (p : Int → Int → Bool) : Prop := Enters g ∧ ∀ (a b : Int) (w : World), Calls Tryz.prog g #[.int .i64 a, .int .i64 b] w fun e w' => e = .returned (.bool (p a b)) ∧ w' = w
set_option maxRecDepth 100000 in
set_option maxHeartbeats 1000000 in
theorem cm1 : CmG 291 (fun a b => a == b) := ⟨enters_of Tryz.func291 (by kernel_rfl) rfl, fun a b w => by go_enter Tryz.func291, Tryz.ntmps291; go_wp2; go_ret; exact ⟨rfl, rfl⟩⟩
set_option maxRecDepth 100000 in
set_option maxHeartbeats 1000000 in
theorem cm2 : CmG 292 (fun a b => a != b) := ⟨enters_of Tryz.func292 (by kernel_rfl) rfl, fun a b w => by go_enter Tryz.func292, Tryz.ntmps292; go_wp2; go_ret; exact ⟨rfl, rfl⟩⟩
set_option maxRecDepth 100000 in
set_option maxHeartbeats 1000000 in
theorem cm3 : CmG 293 (fun a b => decide (a < b)) := ⟨enters_of Tryz.func293 (by kernel_rfl) rfl, fun a b w => by go_enter Tryz.func293, Tryz.ntmps293; go_wp2; go_ret; exact ⟨rfl, rfl⟩⟩
set_option maxRecDepth 100000 in
set_option maxHeartbeats 1000000 in
theorem cm4 : CmG 294 (fun a b => decide (a ≤ b)) := ⟨enters_of Tryz.func294 (by kernel_rfl) rfl, fun a b w => by go_enter Tryz.func294, Tryz.ntmps294; go_wp2; go_ret; exact ⟨rfl, rfl⟩⟩
set_option maxRecDepth 100000 in
set_option maxHeartbeats 1000000 in
theorem cm5 : CmG 295 (fun a b => decide (b < a)) := ⟨enters_of Tryz.func295 (by kernel_rfl) rfl, fun a b w => by go_enter Tryz.func295, Tryz.ntmps295; go_wp2; go_ret; exact ⟨rfl, rfl⟩⟩
set_option maxRecDepth 100000 in
set_option maxHeartbeats 1000000 in
theorem cm6 : CmG 296 (fun a b => decide (b ≤ a)) := ⟨enters_of Tryz.func296 (by kernel_rfl) rfl, fun a b w => by go_enter Tryz.func296, Tryz.ntmps296; go_wp2; go_ret; exact ⟨rfl, rfl⟩⟩
theorem cm_any (sg : ByteArray) : CmG (cmpF sg) (cmpOf sg) := by
  unfold cmpF
  split
  · rename_i h1
    have e : cmpOf sg = fun a b => a == b := by funext a b; unfold cmpOf; rw [if_pos h1]
    rw [e]; exact cm1
  · rename_i h1
    split
    · rename_i h2
      have e : cmpOf sg = fun a b => a != b := by funext a b; unfold cmpOf; rw [if_neg h1, if_pos h2]
      rw [e]; exact cm2
    · rename_i h2
      split
      · rename_i h3
        have e : cmpOf sg = fun a b => decide (a < b) := by funext a b; unfold cmpOf; rw [if_neg h1, if_neg h2, if_pos h3]
        rw [e]; exact cm3
      · rename_i h3
        split
        · rename_i h4
          have e : cmpOf sg = fun a b => decide (a ≤ b) := by funext a b; unfold cmpOf; rw [if_neg h1, if_neg h2, if_neg h3, if_pos h4]
          rw [e]; exact cm4
        · rename_i h4
          split
          · rename_i h5
            have e : cmpOf sg = fun a b => decide (b < a) := by funext a b; unfold cmpOf; rw [if_neg h1, if_neg h2, if_neg h3, if_neg h4, if_pos h5]
            rw [e]; exact cm5
          · rename_i h5
            have e : cmpOf sg = fun a b => decide (b ≤ a) := by funext a b; unfold cmpOf; rw [if_neg h1, if_neg h2, if_neg h3, if_neg h4, if_neg h5]
            rw [e]; exact cm6
/-- function g, bound to cb, tells p of a row of n numbers. -/
def TsG (w0 : World) (F : Fx) (n g : Nat) (cb : Array Value) (p : List Int → Bool) : Prop := Enters g ∧ ∀ (W : World) (rv : Value) (row : List Int), Fits w0 F W → row.length = n → RowAt W rv (intsV row) → Calls Tryz.prog g (#[rv] ++ cb) W fun e W' => e = .returned (.bool (p row)) ∧ Below W.heap.size W W'
theorem TsG.mono {w0 : World} {F F' : Fx} {n g : Nat} {cb : Array Value} {p : List Int → Bool} (h : TsG w0 F n g cb p) (hF : F.le F') : TsG w0 F' n g cb p := ⟨h.1, fun W rv row hW => h.2 W rv row (hW.mono hF)⟩
set_option maxRecDepth 100000 in
set_option maxHeartbeats 1000000 in
theorem ts_fn (w0 : World) (F : Fx) (n bx by' bc g g' gc : Nat) (cb cb' : Array Value) (f f' : List Int → Int) (p : Int → Int → Bool) (T Tc : TypeId) (hx : F bx = some (.cells #[.func (.func g) #[] cb] T (0, 0))) (hy : F by' = some (.cells #[.func (.func g') #[] cb'] T (0, 0))) (hc : F bc = some (.cells #[.func (.func gc) #[] #[]] Tc (0, 0))) (hf : FnG w0 F n g cb f) (hf' : FnG w0 F n g' cb' f') (hp : CmG gc p) :
    TsG w0 F n 250 #[.pointer (some ⟨bc, 0, none⟩), .pointer (some ⟨bx, 0, none⟩), .pointer (some ⟨by', 0, none⟩)] (fun r => p (f r) (f' r)) := by
  refine ⟨enters_of Tryz.func250 (by kernel_rfl) rfl, fun W rv row hW hl hr => ?_⟩
  obtain ⟨kx, fx⟩ := blk (hW.new _ _ hx)
  obtain ⟨ky, fy⟩ := blk (hW.new _ _ hy)
  obtain ⟨kc, fc⟩ := blk (hW.new _ _ hc)
  have zx := lt_of_heap (hW.new _ _ hx)
  have zy := lt_of_heap (hW.new _ _ hy)
  have zc := lt_of_heap (hW.new _ _ hc)
  have eg := hf.1
  have eg' := hf'.1
  have egc := hp.1
  have HC := hide (fun W1 hb => fn_two hf hW (W1 := W1) hb hl hr)
  have HC' := hide (fun W1 hb => fn_two hf' hW (W1 := W1) hb hl hr)
  have HP := hide hp.2
  have HKS : Hid (∀ W1, Below W.heap.size W W1 → W1.cell? ⟨bc, 0, none⟩ = some (.func (.func gc) #[] #[]) ∧ W1.cell? ⟨bx, 0, none⟩ = some (.func (.func g) #[] cb) ∧ W1.cell? ⟨by', 0, none⟩ = some (.func (.func g') #[] cb')) := fun W1 hb => ⟨by rw [hb.cell (p := ⟨bc, 0, none⟩) zc, kc]; rfl, by rw [hb.cell (p := ⟨bx, 0, none⟩) zx, kx]; rfl, by rw [hb.cell (p := ⟨by', 0, none⟩) zy, ky]; rfl⟩
  obtain ⟨s1, s2, s3⟩ := (unhide HKS) W (Below.refl _ _)
  obtain ⟨ad, cap, rfl, _, _⟩ := hr
  clear hx hy hc hf hf' hW hl hp kx ky kc fx fy fc
  rw [List.length_map] at HC HC' ⊢
  show Calls Tryz.prog 250 #[_, _, _, _] W _
  go_enter Tryz.func250, Tryz.ntmps250
  go_upto_region 1 with (fail)
  go_cut [5] (fun v W1 => v = .bool (p (f row) (f' row)) ∧ Below W.heap.size W W1)
  case first =>
    go_region_held3 (fun w' => w'.cell? ⟨bc, 0, none⟩ = some (.func (.func gc) #[] #[]) ∧ w'.cell? ⟨bx, 0, none⟩ = some (.func (.func g) #[] cb) ∧ w'.cell? ⟨by', 0, none⟩ = some (.func (.func g') #[] cb')) (go_keep) (first
      | (refine ((unhide HC) _ (by exact (Below.refl _ _).drew)).mono ?_; clear HC; rintro e w1 ⟨rfl, hb1⟩; have HB1 := hide hb1; obtain ⟨q1, q2, q3⟩ := (unhide HKS) _ hb1; clear hb1)
      | (refine ((unhide HC') _ (by exact unhide HB1)).mono ?_; clear HC'; rintro e w2 ⟨rfl, hb2⟩; have HB2 := hide hb2; obtain ⟨r1, r2, r3⟩ := (unhide HKS) _ hb2; clear hb2)
      | (refine ((unhide HP) _ _ _).mono ?_; rintro e w3 ⟨rfl, hw3⟩; obtain rfl := hw3.symm))
    all_goals
      go_wp2_with fail
      go_meet
      case rel => exact ⟨rfl, unhide HB2⟩
  case rest =>
    obtain ⟨rfl, hbw⟩ := hcut
    have HB := hide hbw
    clear hbw
    go_wp2
    go_ret
    exact ⟨rfl, unhide HB⟩
end Go.Proofs.YtfkeddkfegaeiaaGreatDoor
