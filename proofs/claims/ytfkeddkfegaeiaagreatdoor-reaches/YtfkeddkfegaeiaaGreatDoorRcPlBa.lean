/-
  Part 33.
-/
import Derived.RangeFuncNested
import Derived.RangeFuncBound
import Derived.RangeFuncCalls
import Derived.RangeFuncLeaves
import Derived.Shelf.Abstract
import Derived.Shelf.RegionOpen
import Derived.WalkKit
import Derived.OwnWalkIn
import Derived.TacticsInMore
import Derived.LoopNIn
import Derived.LoopIn
import Derived.Test.YtfkeddkfegaeiaaGreatDoorRcPlCc
import Derived.Laws.CopyOwn
namespace Go.Proofs.YtfkeddkfegaeiaaGreatDoor
open Go.RowKit Go.Shelf
attribute [local go_sem] Oper.semAt_some
/-- the places of a row, from the last one on. -/
def downs (len : Nat) : List (Fin len) := (List.finRange len).reverse
theorem downs_length (len : Nat) : (downs len).length = len := by simp [downs]
theorem downs_succ {len k m : Nat} (hm : m + k + 1 = len) (h : m < len) : (downs len).take (k + 1) = (downs len).take k ++ [⟨m, h⟩] := by
  rw [List.take_succ_eq_append_getElem (by rw [downs_length]; omega)]
  congr 1
  simp only [downs, List.getElem_reverse, List.getElem_finRange, List.length_finRange]
  congr 1
  simp
  omega
/-- some blocks lie as they lay. -/
def KpX (X : Nat → Prop) (W W' : World) : Prop := W.heap.size ≤ W'.heap.size ∧ ∀ k, X k → k < W.heap.size → W'.heap[k]? = W.heap[k]?
theorem KpX.refl (X : Nat → Prop) (W : World) : KpX X W W := ⟨Nat.le_refl _, fun _ _ _ => rfl⟩
theorem KpX.trans {X : Nat → Prop} {A B C : World} (h : KpX X A B) (k : KpX X B C) : KpX X A C :=
  ⟨Nat.le_trans h.1 k.1, fun j hj hl => (k.2 j hj (Nat.lt_of_lt_of_le hl h.1)).trans (h.2 j hj hl)⟩
theorem KpX.cell {X : Nat → Prop} {A B : World} (h : KpX X A B) {p : Addr} (hp : X p.block) (hl : p.block < A.heap.size) : B.cell? p = A.cell? p := by
  simp only [World.cell?, h.2 _ hp hl]
set_option maxRecDepth 100000 in
set_option maxHeartbeats 2000000 in
theorem back_in (F : Fence) (n : Nat) (hF : F.fn 323) (hro : F.round = none) (hn : 1 ≤ n) (l Bs b len cap : Nat) (X : Nat → Prop) (hXb : X b) (hXs : X Bs) (A B C : Fin len → Value) (hlen : len ≤ 3) (J Jx : List (Fin len) → World → Prop)
    (hY : ∀ pre x W, J pre W → pre.length < len → YieldAt F (n - 1) Tryz.prog l #[.int .i64 (x.1 : Nat), .agg #[A x, B x, C x]] W fun e W' =>
      (e = .returned (.bool true) ∧ J (pre ++ [x]) W' ∧ KpX X W W') ∨ (e = .returned (.bool false) ∧ Jx (pre ++ [x]) W'))
    (W : World) (hBs : W.cell? ⟨Bs, 0, none⟩ = some (.slice (some ⟨b, 0, none⟩) len cap)) (hbz : b < W.heap.size) (hBz : Bs < W.heap.size) (hc : ∀ j : Fin len, W.cell? ⟨b, j.1 * 3, none⟩ = some (A j) ∧ W.cell? ⟨b, j.1 * 3 + 1, none⟩ = some (B j) ∧ W.cell? ⟨b, j.1 * 3 + 2, none⟩ = some (C j)) (h0 : J [] W) :
    CallsIn F n Tryz.prog 323 #[.func (.yield l) #[] #[], .pointer (some ⟨Bs, 0, none⟩)] W fun e W' => (∃ v, e = .returned v) ∧
      ((∃ ys, ys = downs len ∧ J ys W') ∨ (∃ pre, True ∧ Jx pre W')) := by
  refine callsIn_of_wp Tryz.func323 rfl hF ?_ hro
  simp only [Tryz.ntmps323, List.size_toArray, List.length_cons, List.length_nil, Nat.reduceAdd, Nat.reduceSub, Array.replicate_succ, Array.replicate_zero, List.push_toArray, List.append_toArray, List.nil_append, List.cons_append]
  gi_wp2
  gi_loopw [3] (fun i wr => ∃ k : Nat, k ≤ len ∧ i = .int .i64 ((len : Int) - 1 - k) ∧ J ((downs len).take k) wr ∧ KpX X W wr)
    (fun i _ => (intOf i + 1).toNat)
  case atStart => exact ⟨0, Nat.zero_le _, by simp, h0, KpX.refl _ _⟩
  case round =>
    obtain ⟨k, hk, rfl, hJs, hnx⟩ := hrel
    by_cases hlt : k < len
    · obtain ⟨m, hm⟩ : ∃ m, m + k + 1 = len := ⟨len - 1 - k, by omega⟩
      have hml : m < len := by omega
      rw [show (len : Int) - 1 - k = m by omega]
      obtain ⟨c0, c1, c2⟩ := hc ⟨m, hml⟩
      have k0 := (hnx.cell (p := ⟨b, m * 3, none⟩) hXb hbz).trans c0
      have k1 := (hnx.cell (p := ⟨b, m * 3 + 1, none⟩) hXb hbz).trans c1
      have k2 := (hnx.cell (p := ⟨b, m * 3 + 2, none⟩) hXb hbz).trans c2
      have ks := (hnx.cell (p := ⟨Bs, 0, none⟩) hXs hBz).trans hBs
      obtain ⟨fn, tmps, assign, body, hy, hR⟩ := hY _ ⟨m, hml⟩ wr hJs (by rw [List.length_take, downs_length]; omega)
      dsimp only at hy
      clear c0 c1 c2 hBs hc
      gi_wp2
      refine hR.mono ?_
      rintro e W3 (⟨rfl, hJ3, hk3⟩ | ⟨rfl, hJx3⟩)
      · gi_wp2
        go_roundw
        case rel => exact ⟨k + 1, by omega, by congr 1; omega, by rw [downs_succ hm hml]; exact hJ3, hnx.trans hk3⟩
        case measure => simp [intOf] <;> omega
      · gi_wp2
        refine bodyPost_ret (results_none rfl _ _ _) rfl ?_
        exact ⟨⟨_, rfl⟩, .inr ⟨_, trivial, hJx3⟩⟩
    · obtain rfl : k = len := by omega
      rw [show (k : Int) - 1 - k = -1 by omega]
      gi_wp2
      go_end0
      rw [List.take_of_length_le (by rw [downs_length]; exact Nat.le_refl _)] at hJs
      exact ⟨⟨_, rfl⟩, .inl ⟨_, rfl, hJs⟩⟩
set_option maxHeartbeats 1000000 in
/-- slices.Backward: the row is boxed; the function value holds the box. -/
theorem backward_in (F : Fence) (n : Nat) (hF : F.fn 297) (hro : F.round = none) (a : Option Addr) (len cap : Nat) (w : World) :
    CallsIn F n Tryz.prog 297 #[.slice a len cap] w fun e w' => e = .returned (.func (.func 323) #[] #[.pointer (some ⟨w.heap.size, 0, none⟩)]) ∧ w' = w.alloc (.cells #[.slice a len cap] 293) := by
  refine callsIn_of_wp Tryz.func297 rfl hF ?_ hro
  simp only [Tryz.ntmps297, List.size_toArray, List.length_cons, List.length_nil, Nat.reduceAdd, Nat.reduceSub, Array.replicate_succ, Array.replicate_zero, List.push_toArray, List.append_toArray, List.nil_append, List.cons_append]
  gi_wp2
  go_ret
  exact ⟨rfl, rfl⟩
/-- what it gives: all places from the last one on. -/
theorem back_stops (F : Fence) (n : Nat) (hF : F.fn 323) (hro : F.round = none) (hn : 1 ≤ n) (Bs b len cap : Nat) (X : Nat → Prop) (hXb : X b) (hXs : X Bs) (A B C : Fin len → Value) (hlen : len ≤ 3) (w : World)
    (hBs : w.cell? ⟨Bs, 0, none⟩ = some (.slice (some ⟨b, 0, none⟩) len cap)) (hbz : b < w.heap.size) (hBz : Bs < w.heap.size) (hc : ∀ j : Fin len, w.cell? ⟨b, j.1 * 3, none⟩ = some (A j) ∧ w.cell? ⟨b, j.1 * 3 + 1, none⟩ = some (B j) ∧ w.cell? ⟨b, j.1 * 3 + 2, none⟩ = some (C j)) :
    SeqStopsK F n Tryz.prog 323 #[.pointer (some ⟨Bs, 0, none⟩)] (fun x : Fin len => #[Value.int .i64 (x.1 : Nat), .agg #[A x, B x, C x]]) (KpX X) (fun ys => ys = downs len) (fun _ => True) len w := fun l J Jx W hW _ _ hY h0 =>
  back_in F n hF hro hn l Bs b len cap X hXb hXs A B C hlen J Jx hY W ((hW.cell (p := ⟨Bs, 0, none⟩) hBz).trans hBs) (Nat.lt_of_lt_of_le hbz hW.size) (Nat.lt_of_lt_of_le hBz hW.size)
    (fun j => ⟨(hW.cell (p := ⟨b, j.1 * 3, none⟩) hbz).trans (hc j).1, (hW.cell (p := ⟨b, j.1 * 3 + 1, none⟩) hbz).trans (hc j).2.1, (hW.cell (p := ⟨b, j.1 * 3 + 2, none⟩) hbz).trans (hc j).2.2⟩) h0
end Go.Proofs.YtfkeddkfegaeiaaGreatDoor
namespace Go.Proofs.YtfkeddkfegaeiaaGreatDoor
open Go.RowKit Go.Shelf
theorem wpListIn_make_full {F : Fence} {n : Nat} {P : Program} (w : World) {ops : Array Oper} {rest : List Oper} {o : Oper} {a : Act} {Q : Exit → Act → World → Prop}
    (hg : o.guard = none) (l c : Operand) (t : TypeId) (hop : o.op = Op.makeSlice t l c)
    (base : Nat) (e : TypeId) (i : TypeInfo) (z : Value) (size : Nat) (h1 : P.underlying t = some (.slice e)) (h2 : P.info? e = some i) (h3 : i.zero = some z) (h4 : i.size = size)
    (kl kc : IntKind) (L C : Int) (m : Nat) (hl : a.eval l = .int kl L) (hc : a.eval c = .int kc C) (hL : L = (m : Int)) (hC : C = (m : Int)) (b2 : i.bytes * m ≤ 281474976710656) (b3 : m ≤ maxLen) (b4 : base ≤ w.heap.size)
    (hK : ∀ w', w'.ownsRow base e size (.slice (some ⟨w.heap.size, 0, none⟩) m m) m (madeCells z.cells (m * size)).toList → w.grownBy w' none → wpListIn F n P ops Q rest (a.put o.dst (.slice (some ⟨w.heap.size, 0, none⟩) m m)) w') :
    wpListIn F n P ops Q (o :: rest) a w := by
  refine wpListIn_plain hg fun K hK' => ?_
  obtain ⟨w', hrun, r1, r2⟩ := run_make_full (P := P) w base t e i z size h1 h2 h3 h4 kl kc m b2 b3 b4
  subst hL
  subst hC
  unfold Oper.wpIn
  refine ⟨?_, ?_⟩
  · simp [Oper.about, hop]
  · rw [Oper.semAt_plain F _ _ (by rw [hop]; intro c hc'; cases hc')]
    simp [execOp, hop, hl, hc, hrun, Result.andThen]
    exact hK' _ _ (hK w' r1 r2)
/-- the blocks but one lie as they lay. -/
theorem grownBy_setRow (w : World) (g : Nat) (cs : Array Value) : w.grownBy (w.setRow g cs) (some g) :=
  ⟨rfl, rfl, rfl, by simp [World.setRow], fun k _ hne => setRow_other w g k cs (fun e => hne (by rw [e]))⟩
end Go.Proofs.YtfkeddkfegaeiaaGreatDoor
namespace Go.Proofs.YtfkeddkfegaeiaaGreatDoor
open Go.RowKit Go.Shelf
theorem rowsIn_of_rows {n l : Nat} {P : Program} {row : String} {args : Array Value} {w : World} {R : Value → World → Prop} (h : Rows P row args w R) : RowsIn (Fence.wide.inRound l) n P row args w R := by
  have h2 : RowsIn Fence.wide n P row args w R := by
    intro c cs _
    obtain ⟨v, w', h1, h2⟩ := h c cs
    exact ⟨v, w', h1, stepsIn_wide.2 h2⟩
  exact h2
theorem operIn_of_plain {n l : Nat} {P : Program} {o : Oper} {a : Act} {w : World} {K : Act → World → Prop} {Q : Exit → Act → World → Prop} (hd : ∀ c, o.op ≠ .defer c) (h : o.wp P a w K Q) : o.wpIn (Fence.wide.inRound l) n P a w K Q := by
  refine ⟨fun _ _ => trivial, ?_⟩
  rw [Oper.semAt_plain _ _ _ hd]
  unfold Oper.wp at h
  generalize (execOp a.eval o).run P w = r at h
  cases r with
  | ok x w' =>
    cases x with
    | value v => exact h
    | skip => exact h
    | defer d => exact h
    | enter f args => exact ⟨fun e => (by cases e), CallsIn.inRound l (callsIn_wide.2 h)⟩
    | row row args => exact ⟨fun e => (by cases e), rowsIn_of_rows h⟩
    | _ => exact h.elim
  | halt x w' =>
    cases x with
    | panic v => exact h
    | _ => exact h.elim
theorem anyIn_of_any {n l : Nat} {P : Program} {md : Region.Mode} {ops : Array Oper} {Q : Exit → Act → World → Prop} (hd : ∀ (i : Nat) o c, ops[i]? = some o → o.op ≠ .defer c) (hL : ¬ LetsOut Q) :
    ∀ (fuel : Nat) (listed : Array Bool) (a : Act) (w : World), wpAny P md ops Q fuel listed a w → wpAnyIn (Fence.wide.inRound l) n P md ops Q fuel listed a w
  | 0, _, _, _, h => h
  | fuel + 1, listed, a, w, h => by
    refine ⟨h.1, fun i hi => ?_⟩
    have h2 := h.2 i hi
    unfold wpOp at h2
    unfold wpOpIn
    cases ho : ops[i]? with
    | none =>
      simp only [ho] at h2
      exact anyIn_of_any hd hL fuel _ _ _ h2
    | some o =>
      simp only [ho] at h2
      simp only
      split
      · rename_i hw
        rw [if_pos hw] at h2
        rcases h2 with h2 | h2
        · exact operIn_of_plain (fun c => hd i o c ho) (Oper.wp_mono (fun a w => anyIn_of_any hd hL fuel _ a w) h2)
        · exact absurd h2.2 hL
      · rename_i hw
        rw [if_neg hw] at h2
        exact ⟨fun _ _ => trivial, anyIn_of_any hd hL fuel _ _ _ h2⟩
end Go.Proofs.YtfkeddkfegaeiaaGreatDoor
