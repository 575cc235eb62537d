/-
  Part 39.
-/
import Derived.Test.YtfkeddkfegaeiaaGreatDoorMvPlY
import Derived.RangeFuncNested
import Derived.RangeFuncBound
import Derived.RangeFuncCalls
import Derived.RangeFuncLeaves
import Derived.Shelf.Abstract
import Derived.Shelf.RegionOpen
import Derived.WalkKit
import Derived.OwnWalkIn
import Derived.TacticsInMore
import Derived.LoopNIn
import Derived.LoopIn
import Derived.Laws.CopyOwn
namespace Go.Proofs.YtfkeddkfegaeiaaGreatDoor
open Go.RowKit
/-- the name that a column gets. -/
def nameC (s : ByteArray) : ByteArray := if s.toList.isEmpty then ⟨#[95]⟩ else s
def namesV (es : List (ItemA × Value × Option Addr)) : List Value := es.map fun e => .string (nameC e.1.asT)
set_option maxRecDepth 100000 in
set_option maxHeartbeats 2000000 in
theorem columns_any (w : World) (b lo : Nat) (pl : Int) (vi vs vt : Value) (hb : w.heap[b]? = some (.cells #[.int .i64 pl, vi, vs, vt] 256 (0, 0)))
    (es : List (ItemA × Value × Option Addr)) (hi : w.ownsRow lo 251 5 vi es.length (itCells es)) (hi0 : 0 < es.length) (hi6 : es.length ≤ 6) (hone : ∀ e ∈ es, IsI e.2.1) :
    Calls Tryz.prog 84 #[.pointer (some ⟨b, 0, none⟩)] w fun e w' => ∃ g, e = .returned (.slice (some ⟨g, 0, none⟩) es.length es.length) ∧ Below w.heap.size w w' ∧ w.heap.size ≤ g ∧ w'.heap[g]? = some (.cells (namesV es).toArray 9 (0, 0)) := by
  obtain ⟨i0, hi9, hinf⟩ := Option.map_eq_some_iff.1 infoStr
  simp only [Prod.mk.injEq] at hinf
  obtain ⟨hz0, hz1, hz2⟩ := hinf
  have HI0 := hide hi9
  have HZ0 := hide hz0
  have HZ1 := hide hz1
  have HZ2 := hide hz2
  clear hi9 hz0 hz1 hz2
  obtain ⟨gi, ci, rfl, _, zi⟩ := hi.form hi0
  have HI := hide hi
  have HONE := hide hone
  clear hone
  have HB := hide hb
  have zb := lt_of_heap hb
  obtain ⟨kb, fb⟩ := blk hb
  have k1 : w.cell? ⟨b, 1, none⟩ = some (.slice (some ⟨gi, 0, none⟩) es.length ci) := kb 1
  clear hi hb kb
  go_enter Tryz.func84, Tryz.ntmps84
  go_wp2_with (at_make; refine wpList_make_full _ rfl _ _ 39 rfl w.heap.size 9 i0 (.string ⟨#[]⟩) 1 Tryz.underlying39 (unhide HI0) (unhide HZ0) (unhide HZ1) .i64 .i64 _ _ es.length rfl rfl ?c1 ?c2 ?c3 ?c4 ?c5 ?_)
  case c1 => simp
  case c2 => simp
  case c3 => rw [unhide HZ2]; omega
  case c4 => unfold maxLen; omega
  case c5 => exact Nat.le_refl _
  intro w1 ho hg
  rcases ho.2 with ⟨hv, _⟩ | ⟨g, cap, cur, hv, hge, hh, c1, c2, c3, c4⟩
  · cases hv
  injection hv with hv1 hv2 hv3
  injection hv1 with hv1
  injection hv1 with hv1
  subst hv1
  have hcl : cur.toList.length = es.length := by rw [Array.length_toList, c3]; omega
  have HH1 : Hid (w1.heap[w.heap.size]? = some (.cells cur.toList.toArray 9 (0, 0))) := by unfold Hid; rw [hh]
  have HB1 : Hid (Below w.heap.size w w1) := (Below.refl _ _).grown hg (Nat.le_refl _) (fun k e => by cases e)
  clear ho hg hh c1 c2 c3 c4 hv2 hv3 hge k1 fb
  generalize cur.toList = L at *
  have HCL := hide hcl
  clear hcl
  have hbW := ((unhide HB1).block b zb).trans (unhide HB)
  have zbW := lt_of_heap hbW
  obtain ⟨kb, fb⟩ := blk hbW
  have k1 : w1.cell? ⟨b, 1, none⟩ = some (.slice (some ⟨gi, 0, none⟩) es.length ci) := kb 1
  clear hbW kb
  go_wp2_with fail
  clear k1 zbW fb
  go_loopg [5, 17] es.length (fun f _ i W => ∃ pre suf T, es = pre ++ suf ∧ f = suf.length ∧ T.length = suf.length ∧ i = .int .i64 (pre.length : Nat) ∧ W.heap[w.heap.size]? = some (.cells (namesV pre ++ T).toArray 9 (0, 0)) ∧ Below w.heap.size w W)
  case atStart => exact ⟨[], es, L, rfl, rfl, unhide HCL, rfl, unhide HH1, unhide HB1⟩
  case round =>
    obtain ⟨pre, suf, T, h1, rfl, hT, rfl, hh, hbw⟩ := hrel
    have l1 : pre.length + suf.length = es.length := by rw [h1, List.length_append]
    have HZ := hide h1
    have HHW := hide hh
    have HBW := hide hbw
    have zw := lt_of_heap hh
    obtain ⟨kc, kf⟩ := blk hh
    clear h1 hh hbw
    cases suf with
    | nil =>
      have hlt : decide (pre.length < es.length) = false := by simp at l1 ⊢; omega
      obtain rfl : pre = es := by rw [unhide HZ, List.append_nil]
      obtain rfl : T = [] := List.eq_nil_of_length_eq_zero hT
      clear kc
      go_wp2
      go_ret
      refine ⟨w.heap.size, rfl, unhide HBW, Nat.le_refl _, ?_⟩
      have := unhide HHW
      rw [List.append_nil] at this
      exact this
    | cons y suf =>
      rw [List.length_cons] at l1
      cases T with
      | nil => cases hT
      | cons t T =>
      have hlt : decide (pre.length < es.length) = true := by simp; omega
      have HZ2 : Hid (es = (pre ++ [y]) ++ suf) := by unfold Hid; rw [unhide HZ]; simp
      have HC : Hid (∀ j, j < 5 → wr.cell? ⟨gi, pre.length * 5 + j, none⟩ = [Value.int .i64 y.1.place, y.2.1, .pointer y.2.2, .int .i64 y.1.asP, .string y.1.asT][j]?) := fun j hj => by
        rw [(unhide HBW).cell (p := ⟨gi, pre.length * 5 + j, none⟩) zi, (unhide HI).cellAt _ (by omega), unhide HZ, itCells_at pre suf y j hj]
      have hiy := (unhide HONE) y (by rw [unhide HZ]; simp)
      obtain ⟨x, v, wa⟩ := y
      have k0 : wr.cell? ⟨gi, pre.length * 5, none⟩ = some (.int .i64 x.place) := (unhide HC) 0 (by omega)
      have k1 : wr.cell? ⟨gi, pre.length * 5 + 1, none⟩ = some v := (unhide HC) 1 (by omega)
      have k2 : wr.cell? ⟨gi, pre.length * 5 + 2, none⟩ = some (.pointer wa) := (unhide HC) 2 (by omega)
      have k3 : wr.cell? ⟨gi, pre.length * 5 + 3, none⟩ = some (.int .i64 x.asP) := (unhide HC) 3 (by omega)
      have k4 : wr.cell? ⟨gi, pre.length * 5 + 4, none⟩ = some (.string x.asT) := (unhide HC) 4 (by omega)
      have hal : (namesV pre).length = pre.length := by simp [namesV]
      have kt : wr.cell? ⟨w.heap.size, pre.length, none⟩ = some t := by
        rw [kc, ← hal]
        simp
      have hT2 : T.length = suf.length := by simpa using hT
      have zgi : gi < wr.heap.size := Nat.lt_of_lt_of_le zi (unhide HBW).size
      have HNX : Hid (∀ u, (namesV pre ++ t :: T).toArray.setIfInBounds pre.length u = (namesV pre ++ u :: T).toArray) := fun u => by
        rw [← hal, List.setIfInBounds_toArray, List.set_append_right _ _ (Nat.le_refl _), Nat.sub_self, List.set_cons_zero]
      have HNY : Hid (∀ u u', (namesV pre ++ u' :: T).toArray.setIfInBounds pre.length u = (namesV pre ++ u :: T).toArray) := fun u u' => by
        rw [← hal, List.setIfInBounds_toArray, List.set_append_right _ _ (Nat.le_refl _), Nat.sub_self, List.set_cons_zero]
      have HNZ : Hid (∀ z : Value, namesV (pre ++ [(x, z, wa)]) ++ T = namesV pre ++ .string (nameC x.asT) :: T) := fun z => by simp [namesV]
      clear HC kc hal hT
      rcases hiy with rfl | ⟨ui, vi, rfl⟩
      all_goals (
        cases he : x.asT.toList.isEmpty
        · have HN : Hid (nameC x.asT = x.asT) := by unfold Hid nameC; rw [he]; rfl
          go_wp2_with fail
          go_roundg suf.length
          case measure => simp
          case rel =>
            refine ⟨pre ++ [(x, _, wa)], suf, T, unhide HZ2, rfl, hT2, ?_, ?_, ?_⟩
            · rw [List.length_append]; go_num
            · rw [Below.heap_alloc _ _ _ (by simpa using zw), heap_set (unhide HHW), unhide HNX, unhide HNZ, unhide HN]
            · exact ((unhide HBW).setCell (by exact Nat.le_refl _) _).alloc (by simpa using Nat.le_of_lt zw) _
        · have HN : Hid (nameC x.asT = ⟨#[95]⟩) := by unfold Hid nameC; rw [he]; rfl
          go_wp2_with fail
          go_roundg suf.length
          case measure => simp
          case rel =>
            refine ⟨pre ++ [(x, _, wa)], suf, T, unhide HZ2, rfl, hT2, ?_, ?_, ?_⟩
            · rw [List.length_append]; go_num
            · rw [Below.heap_alloc _ _ _ (by simpa using zw), heap_set (heap_set (unhide HHW) _), unhide HNX, unhide HNY, unhide HNZ, unhide HN]
            · exact (((unhide HBW).setCell (by exact Nat.le_refl _) _).setCell (by exact Nat.le_refl _) _).alloc (by simpa using Nat.le_of_lt zw) _)
end Go.Proofs.YtfkeddkfegaeiaaGreatDoor
namespace Go.Proofs.YtfkeddkfegaeiaaGreatDoor
open Go.RowKit Go.Shelf
attribute [local go_sem] Oper.semAt_some
/-- the places of a row, from the last one on. -/
def downs (len : Nat) : List (Fin len) := (List.finRange len).reverse
theorem downs_length (len : Nat) : (downs len).length = len := by simp [downs]
theorem downs_succ {len k m : Nat} (hm : m + k + 1 = len) (h : m < len) : (downs len).take (k + 1) = (downs len).take k ++ [⟨m, h⟩] := by
  rw [List.take_succ_eq_append_getElem (by rw [downs_length]; omega)]
  congr 1
  simp only [downs, List.getElem_reverse, List.getElem_finRange, List.length_finRange]
  congr 1
  simp
  omega
/-- some blocks lie as they lay. -/
def KpX (X : Nat → Prop) (W W' : World) : Prop := W.heap.size ≤ W'.heap.size ∧ ∀ k, X k → k < W.heap.size → W'.heap[k]? = W.heap[k]?
theorem KpX.refl (X : Nat → Prop) (W : World) : KpX X W W := ⟨Nat.le_refl _, fun _ _ _ => rfl⟩
theorem KpX.trans {X : Nat → Prop} {A B C : World} (h : KpX X A B) (k : KpX X B C) : KpX X A C :=
  ⟨Nat.le_trans h.1 k.1, fun j hj hl => (k.2 j hj (Nat.lt_of_lt_of_le hl h.1)).trans (h.2 j hj hl)⟩
theorem KpX.cell {X : Nat → Prop} {A B : World} (h : KpX X A B) {p : Addr} (hp : X p.block) (hl : p.block < A.heap.size) : B.cell? p = A.cell? p := by
  simp only [World.cell?, h.2 _ hp hl]
set_option maxRecDepth 100000 in
set_option maxHeartbeats 2000000 in
theorem back_in (F : Fence) (n : Nat) (hF : F.fn 323) (hro : F.round = none) (hn : 1 ≤ n) (l Bs b len cap : Nat) (X : Nat → Prop) (hXb : X b) (hXs : X Bs) (A B C : Fin len → Value) (hlen : len ≤ 3) (J Jx : List (Fin len) → World → Prop)
    (hY : ∀ pre x W, J pre W → pre.length < len → YieldAt F (n - 1) Tryz.prog l #[.int .i64 (x.1 : Nat), .agg #[A x, B x, C x]] W fun e W' =>
      (e = .returned (.bool true) ∧ J (pre ++ [x]) W' ∧ KpX X W W') ∨ (e = .returned (.bool false) ∧ Jx (pre ++ [x]) W'))
    (W : World) (hBs : W.cell? ⟨Bs, 0, none⟩ = some (.slice (some ⟨b, 0, none⟩) len cap)) (hbz : b < W.heap.size) (hBz : Bs < W.heap.size) (hc : ∀ j : Fin len, W.cell? ⟨b, j.1 * 3, none⟩ = some (A j) ∧ W.cell? ⟨b, j.1 * 3 + 1, none⟩ = some (B j) ∧ W.cell? ⟨b, j.1 * 3 + 2, none⟩ = some (C j)) (h0 : J [] W) :
    CallsIn F n Tryz.prog 323 #[.func (.yield l) #[] #[], .pointer (some ⟨Bs, 0, none⟩)] W fun e W' => (∃ v, e = .returned v) ∧
      ((∃ ys, ys = downs len ∧ J ys W') ∨ (∃ pre, True ∧ Jx pre W')) := by
  refine callsIn_of_wp Tryz.func323 rfl hF ?_ hro
  simp only [Tryz.ntmps323, List.size_toArray, List.length_cons, List.length_nil, Nat.reduceAdd, Nat.reduceSub, Array.replicate_succ, Array.replicate_zero, List.push_toArray, List.append_toArray, List.nil_append, List.cons_append]
  gi_wp2
  gi_loopw [3] (fun i wr => ∃ k : Nat, k ≤ len ∧ i = .int .i64 ((len : Int) - 1 - k) ∧ J ((downs len).take k) wr ∧ KpX X W wr)
    (fun i _ => (intOf i + 1).toNat)
  case atStart => exact ⟨0, Nat.zero_le _, by simp, h0, KpX.refl _ _⟩
  case round =>
    obtain ⟨k, hk, rfl, hJs, hnx⟩ := hrel
    by_cases hlt : k < len
    · obtain ⟨m, hm⟩ : ∃ m, m + k + 1 = len := ⟨len - 1 - k, by omega⟩
      have hml : m < len := by omega
      rw [show (len : Int) - 1 - k = m by omega]
      obtain ⟨c0, c1, c2⟩ := hc ⟨m, hml⟩
      have k0 := (hnx.cell (p := ⟨b, m * 3, none⟩) hXb hbz).trans c0
      have k1 := (hnx.cell (p := ⟨b, m * 3 + 1, none⟩) hXb hbz).trans c1
      have k2 := (hnx.cell (p := ⟨b, m * 3 + 2, none⟩) hXb hbz).trans c2
      have ks := (hnx.cell (p := ⟨Bs, 0, none⟩) hXs hBz).trans hBs
      obtain ⟨fn, tmps, assign, body, hy, hR⟩ := hY _ ⟨m, hml⟩ wr hJs (by rw [List.length_take, downs_length]; omega)
      dsimp only at hy
      clear c0 c1 c2 hBs hc
      gi_wp2
      refine hR.mono ?_
      rintro e W3 (⟨rfl, hJ3, hk3⟩ | ⟨rfl, hJx3⟩)
      · gi_wp2
        go_roundw
        case rel => exact ⟨k + 1, by omega, by congr 1; omega, by rw [downs_succ hm hml]; exact hJ3, hnx.trans hk3⟩
        case measure => simp [intOf] <;> omega
      · gi_wp2
        refine bodyPost_ret (results_none rfl _ _ _) rfl ?_
        exact ⟨⟨_, rfl⟩, .inr ⟨_, trivial, hJx3⟩⟩
    · obtain rfl : k = len := by omega
      rw [show (k : Int) - 1 - k = -1 by omega]
      gi_wp2
      go_end0
      rw [List.take_of_length_le (by rw [downs_length]; exact Nat.le_refl _)] at hJs
      exact ⟨⟨_, rfl⟩, .inl ⟨_, rfl, hJs⟩⟩
set_option maxHeartbeats 1000000 in
/-- slices.Backward: the row is boxed; the function value holds the box. -/
theorem backward_in (F : Fence) (n : Nat) (hF : F.fn 297) (hro : F.round = none) (a : Option Addr) (len cap : Nat) (w : World) :
    CallsIn F n Tryz.prog 297 #[.slice a len cap] w fun e w' => e = .returned (.func (.func 323) #[] #[.pointer (some ⟨w.heap.size, 0, none⟩)]) ∧ w' = w.alloc (.cells #[.slice a len cap] 293) := by
  refine callsIn_of_wp Tryz.func297 rfl hF ?_ hro
  simp only [Tryz.ntmps297, List.size_toArray, List.length_cons, List.length_nil, Nat.reduceAdd, Nat.reduceSub, Array.replicate_succ, Array.replicate_zero, List.push_toArray, List.append_toArray, List.nil_append, List.cons_append]
  gi_wp2
  go_ret
  exact ⟨rfl, rfl⟩
/-- what it gives: all places from the last one on. -/
theorem back_stops (F : Fence) (n : Nat) (hF : F.fn 323) (hro : F.round = none) (hn : 1 ≤ n) (Bs b len cap : Nat) (X : Nat → Prop) (hXb : X b) (hXs : X Bs) (A B C : Fin len → Value) (hlen : len ≤ 3) (w : World)
    (hBs : w.cell? ⟨Bs, 0, none⟩ = some (.slice (some ⟨b, 0, none⟩) len cap)) (hbz : b < w.heap.size) (hBz : Bs < w.heap.size) (hc : ∀ j : Fin len, w.cell? ⟨b, j.1 * 3, none⟩ = some (A j) ∧ w.cell? ⟨b, j.1 * 3 + 1, none⟩ = some (B j) ∧ w.cell? ⟨b, j.1 * 3 + 2, none⟩ = some (C j)) :
    SeqStopsK F n Tryz.prog 323 #[.pointer (some ⟨Bs, 0, none⟩)] (fun x : Fin len => #[Value.int .i64 (x.1 : Nat), .agg #[A x, B x, C x]]) (KpX X) (fun ys => ys = downs len) (fun _ => True) len w := fun l J Jx W hW _ _ hY h0 =>
  back_in F n hF hro hn l Bs b len cap X hXb hXs A B C hlen J Jx hY W ((hW.cell (p := ⟨Bs, 0, none⟩) hBz).trans hBs) (Nat.lt_of_lt_of_le hbz hW.size) (Nat.lt_of_lt_of_le hBz hW.size)
    (fun j => ⟨(hW.cell (p := ⟨b, j.1 * 3, none⟩) hbz).trans (hc j).1, (hW.cell (p := ⟨b, j.1 * 3 + 1, none⟩) hbz).trans (hc j).2.1, (hW.cell (p := ⟨b, j.1 * 3 + 2, none⟩) hbz).trans (hc j).2.2⟩) h0
end Go.Proofs.YtfkeddkfegaeiaaGreatDoor
namespace Go.Proofs.YtfkeddkfegaeiaaGreatDoor
open Go.RowKit Go.Shelf
theorem wpListIn_make_full {F : Fence} {n : Nat} {P : Program} (w : World) {ops : Array Oper} {rest : List Oper} {o : Oper} {a : Act} {Q : Exit → Act → World → Prop}
    (hg : o.guard = none) (l c : Operand) (t : TypeId) (hop : o.op = Op.makeSlice t l c)
    (base : Nat) (e : TypeId) (i : TypeInfo) (z : Value) (size : Nat) (h1 : P.underlying t = some (.slice e)) (h2 : P.info? e = some i) (h3 : i.zero = some z) (h4 : i.size = size)
    (kl kc : IntKind) (L C : Int) (m : Nat) (hl : a.eval l = .int kl L) (hc : a.eval c = .int kc C) (hL : L = (m : Int)) (hC : C = (m : Int)) (b2 : i.bytes * m ≤ 281474976710656) (b3 : m ≤ maxLen) (b4 : base ≤ w.heap.size)
    (hK : ∀ w', w'.ownsRow base e size (.slice (some ⟨w.heap.size, 0, none⟩) m m) m (madeCells z.cells (m * size)).toList → w.grownBy w' none → wpListIn F n P ops Q rest (a.put o.dst (.slice (some ⟨w.heap.size, 0, none⟩) m m)) w') :
    wpListIn F n P ops Q (o :: rest) a w := by
  refine wpListIn_plain hg fun K hK' => ?_
  obtain ⟨w', hrun, r1, r2⟩ := run_make_full (P := P) w base t e i z size h1 h2 h3 h4 kl kc m b2 b3 b4
  subst hL
  subst hC
  unfold Oper.wpIn
  refine ⟨?_, ?_⟩
  · simp [Oper.about, hop]
  · rw [Oper.semAt_plain F _ _ (by rw [hop]; intro c hc'; cases hc')]
    simp [execOp, hop, hl, hc, hrun, Result.andThen]
    exact hK' _ _ (hK w' r1 r2)
/-- the blocks but one lie as they lay. -/
theorem grownBy_setRow (w : World) (g : Nat) (cs : Array Value) : w.grownBy (w.setRow g cs) (some g) :=
  ⟨rfl, rfl, rfl, by simp [World.setRow], fun k _ hne => setRow_other w g k cs (fun e => hne (by rw [e]))⟩
end Go.Proofs.YtfkeddkfegaeiaaGreatDoor
namespace Go.Proofs.YtfkeddkfegaeiaaGreatDoor
open Go.RowKit Go.Shelf
theorem rowsIn_of_rows {n l : Nat} {P : Program} {row : String} {args : Array Value} {w : World} {R : Value → World → Prop} (h : Rows P row args w R) : RowsIn (Fence.wide.inRound l) n P row args w R := by
  have h2 : RowsIn Fence.wide n P row args w R := by
    intro c cs _
    obtain ⟨v, w', h1, h2⟩ := h c cs
    exact ⟨v, w', h1, stepsIn_wide.2 h2⟩
  exact h2
theorem operIn_of_plain {n l : Nat} {P : Program} {o : Oper} {a : Act} {w : World} {K : Act → World → Prop} {Q : Exit → Act → World → Prop} (hd : ∀ c, o.op ≠ .defer c) (h : o.wp P a w K Q) : o.wpIn (Fence.wide.inRound l) n P a w K Q := by
  refine ⟨fun _ _ => trivial, ?_⟩
  rw [Oper.semAt_plain _ _ _ hd]
  unfold Oper.wp at h
  generalize (execOp a.eval o).run P w = r at h
  cases r with
  | ok x w' =>
    cases x with
    | value v => exact h
    | skip => exact h
    | defer d => exact h
    | enter f args => exact ⟨fun e => (by cases e), CallsIn.inRound l (callsIn_wide.2 h)⟩
    | row row args => exact ⟨fun e => (by cases e), rowsIn_of_rows h⟩
    | _ => exact h.elim
  | halt x w' =>
    cases x with
    | panic v => exact h
    | _ => exact h.elim
theorem anyIn_of_any {n l : Nat} {P : Program} {md : Region.Mode} {ops : Array Oper} {Q : Exit → Act → World → Prop} (hd : ∀ (i : Nat) o c, ops[i]? = some o → o.op ≠ .defer c) (hL : ¬ LetsOut Q) :
    ∀ (fuel : Nat) (listed : Array Bool) (a : Act) (w : World), wpAny P md ops Q fuel listed a w → wpAnyIn (Fence.wide.inRound l) n P md ops Q fuel listed a w
  | 0, _, _, _, h => h
  | fuel + 1, listed, a, w, h => by
    refine ⟨h.1, fun i hi => ?_⟩
    have h2 := h.2 i hi
    unfold wpOp at h2
    unfold wpOpIn
    cases ho : ops[i]? with
    | none =>
      simp only [ho] at h2
      exact anyIn_of_any hd hL fuel _ _ _ h2
    | some o =>
      simp only [ho] at h2
      simp only
      split
      · rename_i hw
        rw [if_pos hw] at h2
        rcases h2 with h2 | h2
        · exact operIn_of_plain (fun c => hd i o c ho) (Oper.wp_mono (fun a w => anyIn_of_any hd hL fuel _ a w) h2)
        · exact absurd h2.2 hL
      · rename_i hw
        rw [if_neg hw] at h2
        exact ⟨fun _ _ => trivial, anyIn_of_any hd hL fuel _ _ _ h2⟩
end Go.Proofs.YtfkeddkfegaeiaaGreatDoor
