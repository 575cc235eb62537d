/-
  Part 44.
-/
import Derived.Test.YtfkeddkfegaeiaaGreatDoorMPlS
import Derived.Ground.SlsfProg
import Derived.Shelf.SlSortCmp.Whole1
import Derived.Test.YtfkeddkfegaeiaaGreatDoorProg
namespace Go.Proofs.YtfkeddkfegaeiaaGreatDoor
open Go.RowKit

def cmpI (a b : Int) : Int := if a < b then -1 else if b < a then 1 else 0
/-- two lists of numbers, by the first one that parts. -/
def cmpL : List Int → List Int → Int
  | [], [] => 0
  | [], _ :: _ => -1
  | _ :: _, [] => 1
  | a :: r, b :: s => if cmpI a b = 0 then cmpL r s else cmpI a b

set_option maxRecDepth 100000 in
set_option maxHeartbeats 1000000 in
theorem isNaN_any (x : Int) (w : World) : Calls Tryz.prog 266 #[.int .i64 x] w fun e w' => e = .returned (.bool false) ∧ w' = w := by
  have hx : (x != x) = false := by simp
  go_enter Tryz.func266, Tryz.ntmps266
  go_wp2
  go_ret
  exact ⟨rfl, rfl⟩
set_option maxRecDepth 100000 in
set_option maxHeartbeats 1000000 in
theorem cmpI_any (a b : Int) (w : World) : Calls Tryz.prog 204 #[.int .i64 a, .int .i64 b] w fun e w' => e = .returned (.int .i64 (cmpI a b)) ∧ w' = w := by
  obtain ⟨q, HQ⟩ : ∃ q, Hid (q = cmpI a b) := ⟨_, rfl⟩
  rw [← unhide HQ]
  go_enter Tryz.func204, Tryz.ntmps204
  go_wp2_with fail
  refine (isNaN_any a _).mono ?_
  rintro e w1 ⟨rfl, hw1⟩
  obtain rfl := hw1.symm
  go_wp2_with fail
  refine (isNaN_any b _).mono ?_
  rintro e w2 ⟨rfl, hw2⟩
  obtain rfl := hw2.symm
  by_cases h1 : a < b
  · have hd : decide (a < b) = true := by simpa using h1
    have HE : Hid (q = -1) := by unfold Hid; rw [unhide HQ]; unfold cmpI; rw [if_pos h1]
    clear h1
    go_wp2
    go_ret
    exact ⟨by rw [unhide HE]; rfl, rfl⟩
  · have hd : decide (a < b) = false := by simpa using h1
    by_cases h2 : b < a
    · have hd2 : decide (b < a) = true := by simpa using h2
      have HE : Hid (q = 1) := by unfold Hid; rw [unhide HQ]; unfold cmpI; rw [if_neg h1, if_pos h2]
      clear h1 h2
      go_wp2
      go_ret
      exact ⟨by rw [unhide HE]; rfl, rfl⟩
    · have hd2 : decide (b < a) = false := by simpa using h2
      have HE : Hid (q = 0) := by unfold Hid; rw [unhide HQ]; unfold cmpI; rw [if_neg h1, if_neg h2]
      clear h1 h2
      go_wp2
      go_ret
      exact ⟨by rw [unhide HE]; rfl, rfl⟩

theorem cmpI_self (a : Int) : cmpI a a = 0 := by simp [cmpI]
theorem cmpI_zero {a b : Int} (h : cmpI a b = 0) : a = b := by
  unfold cmpI at h
  split at h
  · omega
  · split at h
    · omega
    · omega
theorem cmpL_pre (pre r s : List Int) : cmpL (pre ++ r) (pre ++ s) = cmpL r s := by
  induction pre with
  | nil => rfl
  | cons a p ih => simp only [List.cons_append, cmpL, cmpI_self, if_true]; exact ih

set_option maxRecDepth 100000 in
set_option maxHeartbeats 1000000 in
theorem sCompare_any (a b : Value) (zs ys : List Int) (w : World) (ha : RowAt w a (intsV zs)) (hb : RowAt w b (intsV ys)) :
    Calls Tryz.prog 128 #[a, b] w fun e w' => e = .returned (.int .i64 (cmpL zs ys)) ∧ w' = w := by
  obtain ⟨ada, capa, rfl, ma, ca⟩ := ha
  obtain ⟨adb, capb, rfl, mb, cb⟩ := hb
  rw [List.length_map] at ma mb ca cb
  unfold maxLen at ma mb
  simp only [List.length_map]
  obtain ⟨q, HQ⟩ : ∃ q, Hid (q = cmpL zs ys) := ⟨_, rfl⟩
  rw [← unhide HQ]
  have HCA := hide ca
  have HCB := hide cb
  clear ca cb
  go_enter Tryz.func128, Tryz.ntmps128
  go_wp2_with fail
  go_loopg [5, 6, 7, 8, 11] zs.length (fun f _ _ _ _ i W => ∃ pre s1 s2, zs = pre ++ s1 ∧ ys = pre ++ s2 ∧ f = s1.length ∧ i = .int .i64 (pre.length : Nat) ∧ W = w)
  case atStart => exact ⟨[], zs, ys, rfl, rfl, rfl, rfl, rfl⟩
  case round =>
    obtain ⟨pre, s1, s2, h1, h2, rfl, rfl, hw⟩ := hrel
    obtain rfl := hw.symm
    have HZ := hide h1
    have HY := hide h2
    have l1 : pre.length + s1.length = zs.length := by rw [h1, List.length_append]
    have l2 : pre.length + s2.length = ys.length := by rw [h2, List.length_append]
    have HC : Hid (q = cmpL s1 s2) := by unfold Hid; rw [unhide HQ, h1, h2, cmpL_pre]
    clear h1 h2
    cases s1 with
    | nil =>
      have hlt : decide (pre.length < zs.length) = false := by simp at l1 ⊢; omega
      cases s2 with
      | nil =>
        have hlt2 : decide (zs.length < ys.length) = false := by simp at l1 l2 ⊢; omega
        go_wp2
        go_ret
        exact ⟨by rw [unhide HC]; rfl, rfl⟩
      | cons y s2 =>
        have hlt2 : decide (zs.length < ys.length) = true := by simp at l1 l2 ⊢; omega
        go_wp2
        go_ret
        exact ⟨by rw [unhide HC]; rfl, rfl⟩
    | cons z s1 =>
      rw [List.length_cons] at l1
      have hlt : decide (pre.length < zs.length) = true := by simp; omega
      obtain ⟨b1, o1, rfl, z1, c1⟩ := (unhide HCA) (by omega)
      have k1 : w.cell? ⟨b1, o1 + pre.length, none⟩ = some (.int .i64 z) := by
        rw [c1 _ (by omega), unhide HZ]
        simp
      clear c1
      cases s2 with
      | nil =>
        have hge : decide (ys.length ≤ pre.length) = true := by simp at l2 ⊢; omega
        go_wp2
        go_ret
        exact ⟨by rw [unhide HC]; rfl, rfl⟩
      | cons y s2 =>
        rw [List.length_cons] at l2
        have hge : decide (ys.length ≤ pre.length) = false := by simp; omega
        obtain ⟨b2, o2, rfl, z2, c2⟩ := (unhide HCB) (by omega)
        have k2 : w.cell? ⟨b2, o2 + pre.length, none⟩ = some (.int .i64 y) := by
          rw [c2 _ (by omega), unhide HY]
          simp
        clear c2
        go_wp2_with fail
        refine (cmpI_any z y _).mono ?_
        rintro e w2 ⟨rfl, hw2⟩
        obtain rfl := hw2.symm
        by_cases h0 : cmpI z y = 0
        · have hd : (cmpI z y != 0) = false := by rw [h0]; rfl
          have hzy := cmpI_zero h0
          have HZ2 : Hid (zs = (pre ++ [z]) ++ s1) := by unfold Hid; rw [unhide HZ]; simp
          have HY2 : Hid (ys = (pre ++ [z]) ++ s2) := by unfold Hid; rw [unhide HY, hzy]; simp
          clear h0 hzy
          generalize cmpI z y = cc at *
          go_wp2
          go_roundg s1.length
          case measure => simp
          case rel =>
            refine ⟨pre ++ [z], s1, s2, unhide HZ2, unhide HY2, rfl, ?_, rfl⟩
            rw [List.length_append]; go_num
        · have hd : (cmpI z y != 0) = true := by simpa using h0
          have HE : Hid (q = cmpI z y) := by unfold Hid; rw [unhide HC]; simp only [cmpL]; rw [if_neg h0]
          clear h0
          generalize cmpI z y = cc at *
          go_wp2
          go_ret
          exact ⟨by rw [unhide HE]; rfl, rfl⟩
end Go.Proofs.YtfkeddkfegaeiaaGreatDoor
namespace Go.Proofs
open Go.Shelf
def Tryz.laysSlF6_f127_ren : Go.Shelf.Ren := ⟨fun | 6 => 127 | 15 => 203 | 14 => 202 | 28 => 264 | 29 => 265 | 20 => 256 | 21 => 257 | 22 => 258 | 23 => 259 | 24 => 260 | 25 => 261 | 26 => 262 | 27 => 263 | 46 => 298 | 47 => 299 | 48 => 300 | 49 => 301 | 50 => 302 | 57 => 324 | n => n, fun | 22 => 42 | 24 => 32 | 25 => 303 | 3 => 3 | 39 => 334 | 0 => 0 | 53 => 131 | 55 => 276 | 4 => 4 | 46 => 434 | 45 => 433 | 50 => 438 | 5 => 5 | 9 => 9 | 66 => 463 | 70 => 466 | 76 => 481 | 77 => 482 | n => n, fun | n => n⟩
theorem Tryz.laysSlF6_f127 : Go.Proofs.SlLaysF.n6 Tryz.prog Tryz.laysSlF6_f127_ren := {
  mixed := by kernel_rfl
  f6 := ⟨Tryz.f127.name, by decide, Tryz.func127.trans (congrArg some (by kernel_rfl))⟩
  f14 := ⟨Tryz.f202.name, by decide, Tryz.func202.trans (congrArg some (by kernel_rfl))⟩
  f15 := Tryz.func203.trans (congrArg some (by kernel_rfl))
  f20 := ⟨Tryz.f256.name, by decide, Tryz.func256.trans (congrArg some (by kernel_rfl))⟩
  f21 := ⟨Tryz.f257.name, by decide, Tryz.func257.trans (congrArg some (by kernel_rfl))⟩
  f22 := ⟨Tryz.f258.name, by decide, Tryz.func258.trans (congrArg some (by kernel_rfl))⟩
  f23 := ⟨Tryz.f259.name, by decide, Tryz.func259.trans (congrArg some (by kernel_rfl))⟩
  f24 := ⟨Tryz.f260.name, by decide, Tryz.func260.trans (congrArg some (by kernel_rfl))⟩
  f25 := ⟨Tryz.f261.name, by decide, Tryz.func261.trans (congrArg some (by kernel_rfl))⟩
  f26 := ⟨Tryz.f262.name, by decide, Tryz.func262.trans (congrArg some (by kernel_rfl))⟩
  f27 := ⟨Tryz.f263.name, by decide, Tryz.func263.trans (congrArg some (by kernel_rfl))⟩
  f28 := Tryz.func264.trans (congrArg some (by kernel_rfl))
  f29 := Tryz.func265.trans (congrArg some (by kernel_rfl))
  f46 := ⟨Tryz.f298.name, by decide, Tryz.func298.trans (congrArg some (by kernel_rfl))⟩
  f47 := Tryz.func299.trans (congrArg some (by kernel_rfl))
  f48 := Tryz.func300.trans (congrArg some (by kernel_rfl))
  f49 := ⟨Tryz.f301.name, by decide, Tryz.func301.trans (congrArg some (by kernel_rfl))⟩
  f50 := ⟨Tryz.f302.name, by decide, Tryz.func302.trans (congrArg some (by kernel_rfl))⟩
  f57 := ⟨Tryz.f324.name, by decide, Tryz.func324.trans (congrArg some (by kernel_rfl))⟩
  t0 := Tryz.underlying0
  a0 := Tryz.isAgg0
  z0 := Tryz.sizeOf0
  v0 := Tryz.zeroValue0
  t3 := Tryz.underlying3
  a3 := Tryz.isAgg3
  z3 := Tryz.sizeOf3
  v3 := Tryz.zeroValue3
  t4 := Tryz.underlying4
  a4 := Tryz.isAgg4
  z4 := Tryz.sizeOf4
  v4 := Tryz.zeroValue4
  t5 := Tryz.underlying5
  a5 := Tryz.isAgg5
  z5 := Tryz.sizeOf5
  v5 := Tryz.zeroValue5
  t9 := Tryz.underlying9
  a9 := Tryz.isAgg9
  z9 := Tryz.sizeOf9
  v9 := Tryz.zeroValue9
  t22 := Tryz.underlying42
  a22 := Tryz.isAgg42
  z22 := Tryz.sizeOf42
  v22 := Tryz.zeroValue42
  a24 := Tryz.isAgg32
  z24 := Tryz.sizeOf32
  t25 := Tryz.underlying303
  a25 := Tryz.isAgg303
  z25 := Tryz.sizeOf303
  v25 := Tryz.zeroValue303
  t39 := Tryz.underlying334
  a39 := Tryz.isAgg334
  z39 := Tryz.sizeOf334
  v39 := Tryz.zeroValue334
  t45 := Tryz.underlying433
  a45 := Tryz.isAgg433
  z45 := Tryz.sizeOf433
  v45 := Tryz.zeroValue433
  t46 := Tryz.underlying434
  a46 := Tryz.isAgg434
  z46 := Tryz.sizeOf434
  v46 := Tryz.zeroValue434
  t50 := Tryz.underlying438
  a50 := Tryz.isAgg438
  z50 := Tryz.sizeOf438
  v50 := Tryz.zeroValue438
  t53 := Tryz.underlying131
  a53 := Tryz.isAgg131
  z53 := Tryz.sizeOf131
  v53 := Tryz.zeroValue131
  t55 := Tryz.underlying276
  a55 := Tryz.isAgg276
  z55 := Tryz.sizeOf276
  v55 := Tryz.zeroValue276
  t66 := Tryz.underlying463
  a66 := Tryz.isAgg463
  z66 := Tryz.sizeOf463
  v66 := Tryz.zeroValue463
  t70 := Tryz.underlying466
  a70 := Tryz.isAgg466
  z70 := Tryz.sizeOf466
  v70 := Tryz.zeroValue466
  t76 := Tryz.underlying481
  a76 := Tryz.isAgg481
  z76 := Tryz.sizeOf481
  v76 := Tryz.zeroValue481
  t77 := Tryz.underlying482
  a77 := Tryz.isAgg482
  z77 := Tryz.sizeOf482
  v77 := Tryz.zeroValue482 }
open Go.RowKit Go.Lib Go.Sort in
/-- **slices.SortFunc: WHAT THE ROW HOLDS, TO THE ELEMENT.** (LAID AT THE INSTANCE 'slices.SortFunc[[][]int,[]int]': no walk: one application.) -/
theorem Tryz.slices_SortFunc_eq {α : Type} [Inhabited α] (enc : α → Value) (h1 : OneCell enc) (cf : α → α → Int) (hO : SWO (ltOf cf)) (g : Nat) (cb : Array Value) (blk off cap : Nat) (d : Array α) (w : World) (eg : ∀ args w, (callFunc g args).run Tryz.prog w = .ok (.enter g args) w) (hcmp : CmpLays1 Tryz.prog g cb enc cf blk off d.size w) (hH : Holds enc w blk off d) (hblk : blk < w.heap.size) (hsz : d.size < 4611686018427387904) :
    Calls Tryz.prog 127 #[.slice (some ⟨blk, off, none⟩) d.size cap, .func (.func g) #[] cb] w fun e w' =>
      e = .returned (.tuple #[]) ∧ ∃ n os, w' = sortWorld enc w blk off n (pdq (ltOf cf) d 0 d.size (Lib.bitLen d.size) true true) os := Any.slices_SortFunc_eq Tryz.laysSlF6_f127 enc h1 cf hO g cb blk off cap d w eg hcmp hH hblk hsz
open Go.RowKit Go.Lib Go.Sort in
/-- **slices.SortFunc, IN THE DOCUMENTATION's OWN TERMS: A PERMUTATION OF WHAT THE ROW HELD, SORTED BY 'cmp(a, b) < 0'.** Which of two equals comes first is left open ("The sort is not guaranteed to be stable"). (LAID AT THE INSTANCE 'slices.SortFunc[[][]int,[]int]': no walk: one application.) -/
theorem Tryz.slices_SortFunc {α : Type} [Inhabited α] (enc : α → Value) (h1 : OneCell enc) (cf : α → α → Int) (hO : SWO (ltOf cf)) (g : Nat) (cb : Array Value) (blk off cap : Nat) (d : Array α) (w : World) (eg : ∀ args w, (callFunc g args).run Tryz.prog w = .ok (.enter g args) w) (hcmp : CmpLays1 Tryz.prog g cb enc cf blk off d.size w) (hH : Holds enc w blk off d) (hblk : blk < w.heap.size) (hsz : d.size < 4611686018427387904) :
    Calls Tryz.prog 127 #[.slice (some ⟨blk, off, none⟩) d.size cap, .func (.func g) #[] cb] w fun e w' =>
      e = .returned (.tuple #[]) ∧ ∃ d' n os, PermIn 0 d.size d d' ∧ SortedIn (ltOf cf) 0 d.size d' ∧ w' = sortWorld enc w blk off n d' os := Any.slices_SortFunc Tryz.laysSlF6_f127 enc h1 cf hO g cb blk off cap d w eg hcmp hH hblk hsz
end Go.Proofs
namespace Go.Proofs.YtfkeddkfegaeiaaGreatDoor
open Go.RowKit Go.Sort

theorem cmpI_swap (a b : Int) : cmpI b a = - cmpI a b := by
  unfold cmpI
  split <;> split <;> (try split) <;> omega
theorem cmpI_le {a b : Int} : cmpI a b ≤ 0 ↔ a ≤ b := by
  unfold cmpI
  split <;> (try split) <;> omega
theorem cmpI_lt {a b : Int} : cmpI a b < 0 ↔ a < b := by
  unfold cmpI
  split <;> (try split) <;> omega

theorem cmpL_self (a : List Int) : cmpL a a = 0 := by
  induction a with
  | nil => rfl
  | cons x r ih => simp only [cmpL, cmpI_self, if_true]; exact ih
theorem cmpL_zero : ∀ {a b : List Int}, cmpL a b = 0 → a = b
  | [], [], _ => rfl
  | [], _ :: _, h => by simp [cmpL] at h
  | _ :: _, [], h => by simp [cmpL] at h
  | x :: r, y :: s, h => by
    unfold cmpL at h
    split at h
    · rename_i h1
      rw [cmpI_zero h1, cmpL_zero h]
    · contradiction
theorem cmpL_swap : ∀ (a b : List Int), cmpL b a = - cmpL a b
  | [], [] => rfl
  | [], _ :: _ => rfl
  | _ :: _, [] => rfl
  | x :: r, y :: s => by
    have h := cmpI_swap x y
    unfold cmpL
    split
    · rename_i h1
      rw [if_pos (by omega), cmpL_swap r s]
    · rename_i h1
      rw [if_neg (by omega), h]
theorem cmpL_le : ∀ (a b c : List Int), cmpL a b ≤ 0 → cmpL b c ≤ 0 → cmpL a c ≤ 0
  | [], _, [], _, _ => by simp [cmpL]
  | [], _, _ :: _, _, _ => by simp [cmpL]
  | _ :: _, [], _, h, _ => by simp [cmpL] at h
  | _ :: _, _ :: _, [], _, h => by simp [cmpL] at h
  | x :: r, y :: s, z :: t, h1, h2 => by
    unfold cmpL at h1 h2 ⊢
    by_cases e1 : cmpI x y = 0
    · rw [if_pos e1] at h1
      obtain rfl := cmpI_zero e1
      by_cases e2 : cmpI x z = 0
      · rw [if_pos e2] at h2 ⊢
        exact cmpL_le r s t h1 h2
      · rw [if_neg e2] at h2 ⊢
        exact h2
    · rw [if_neg e1] at h1
      have l1 : x < y := cmpI_lt.1 (by omega)
      have l2 : y ≤ z := by
        by_cases e2 : cmpI y z = 0
        · exact Int.le_of_eq (cmpI_zero e2)
        · rw [if_neg e2] at h2
          exact cmpI_le.1 h2
      have l3 : cmpI x z < 0 := cmpI_lt.2 (by omega)
      rw [if_neg (by omega)]
      omega
theorem cmpL_lt (a b c : List Int) (h1 : cmpL a b < 0) (h2 : cmpL b c < 0) : cmpL a c < 0 := by
  have h3 := cmpL_le a b c (by omega) (by omega)
  by_cases h : cmpL a c = 0
  · obtain rfl := cmpL_zero h
    have := cmpL_swap a b
    omega
  · omega

/-- by a list of numbers that each one bears. -/
theorem swo_by {α : Type} (f : α → List Int) : SWO (ltOf fun x y : α => cmpL (f x) (f y)) where
  irrefl x := by simp [ltOf, cmpL_self]
  trans x y z h1 h2 := by
    simp only [ltOf, decide_eq_true_eq] at h1 h2 ⊢
    exact cmpL_lt _ _ _ h1 h2
  ntrans x y z h1 h2 := by
    simp only [ltOf, decide_eq_false_iff_not, Int.not_lt] at h1 h2 ⊢
    have a1 := cmpL_swap (f x) (f y)
    have a2 := cmpL_swap (f y) (f z)
    have a3 := cmpL_swap (f x) (f z)
    have := cmpL_le (f z) (f y) (f x) (by omega) (by omega)
    omega

/-- lists of numbers in order. -/
def sortL (l : List (List Int)) : List (List Int) := l.mergeSort (fun x y => decide (cmpL x y ≤ 0))
end Go.Proofs.YtfkeddkfegaeiaaGreatDoor
namespace Go.Proofs.YtfkeddkfegaeiaaGreatDoor
open Go.RowKit Go.Sort

/-- numbers that lie off one block. -/
def OffAt (g : Nat) (w : World) (v : Value) (zs : List Int) : Prop := ∃ ad cap, v = .slice ad zs.length cap ∧ zs.length ≤ maxLen ∧ (0 < zs.length → ∃ b o, ad = some ⟨b, o, none⟩ ∧ b ≠ g ∧ b < w.heap.size ∧ ∀ j, j < zs.length → w.cell? ⟨b, o + j, none⟩ = (intsV zs)[j]?)
theorem OffAt.row {g : Nat} {w : World} {v : Value} {zs : List Int} (h : OffAt g w v zs) : RowAt w v (intsV zs) := by
  obtain ⟨ad, cap, rfl, hm, hc⟩ := h
  refine ⟨ad, cap, by rw [List.length_map], by rw [List.length_map]; exact hm, fun h0 => ?_⟩
  rw [List.length_map] at h0
  obtain ⟨b, o, e, -, hb, hj⟩ := hc h0
  refine ⟨b, o, e, hb, fun j h1 => hj j ?_⟩
  rw [List.length_map] at h1
  exact h1
theorem OffAt.keep {g : Nat} {w w' : World} {v : Value} {zs : List Int} (h : OffAt g w v zs) (hs : w.heap.size ≤ w'.heap.size) (hk : ∀ k, k < w.heap.size → k ≠ g → w'.heap[k]? = w.heap[k]?) : OffAt g w' v zs := by
  obtain ⟨ad, cap, rfl, hm, hc⟩ := h
  refine ⟨ad, cap, rfl, hm, fun h0 => ?_⟩
  obtain ⟨b, o, e, hn, hb, hj⟩ := hc h0
  refine ⟨b, o, e, hn, Nat.lt_of_lt_of_le hb hs, fun j h1 => ?_⟩
  rw [← hj j h1]
  simp only [World.cell?, hk b hb hn]

theorem sorted_size {α : Type} [Inhabited α] (enc : α → Value) (w : World) (g off m : Nat) (d : Array α) (os : Array Obj) : w.heap.size ≤ (sortWorld enc w g off m d os).heap.size := by
  unfold sortWorld
  rw [Go.Sort.size_grow, size_putRow]
  exact Nat.le_add_right _ _
theorem sorted_keeps {α : Type} [Inhabited α] (enc : α → Value) (w : World) (g off m : Nat) (d : Array α) (os : Array Obj) (k : Nat) (hk : k < w.heap.size) (hne : k ≠ g) : (sortWorld enc w g off m d os).heap[k]? = w.heap[k]? := by
  unfold sortWorld
  rw [Go.Sort.heap_grow_old _ _ (by simpa using hk)]
  have : g ≠ k := fun e => hne e.symm
  simp [putRow, mapBlock, Sort.ahead, Array.getElem?_modify, this]
theorem sorted_block {α : Type} [Inhabited α] (enc : α → Value) (w : World) (g m : Nat) (d : Array α) (os : Array Obj) {cur : Array Value} {e : TypeId} {fr : Nat × Nat} (hb : w.heap[g]? = some (.cells cur e fr)) : (sortWorld enc w g 0 m d os).heap[g]? = some (.cells (putCells enc 0 d cur) e fr) := by
  have hg : g < w.heap.size := (Array.getElem?_eq_some_iff.1 hb).1
  unfold sortWorld
  rw [Go.Sort.heap_grow_old _ _ (by simpa using hg)]
  simp [putRow, mapBlock, Sort.ahead, Array.getElem?_modify, hb, onCells]
theorem take_cells {α : Type} [Inhabited α] (enc : α → Value) (cur : Array Value) (d : Array α) (h : d.size ≤ cur.size) : (putCells enc 0 d cur).toList.take d.size = d.toList.map enc := by
  apply List.ext_getElem?
  intro j
  by_cases hj : j < d.size
  · rw [List.getElem?_take_of_lt hj, Array.getElem?_toList]
    simp [putCells, hj, show j < cur.size by omega]
  · rw [List.getElem?_take_eq_none (by omega), List.getElem?_eq_none (by simp; omega)]

/-- rows of numbers off one block, with what they hold. -/
abbrev Rws (w : World) (g : Nat) : Type := { x : Value × List Int // OffAt g w x.1 x.2 }
instance (w : World) (g : Nat) : Inhabited (Rws w g) := ⟨⟨(.slice none 0 0, []), none, 0, rfl, Nat.zero_le _, fun h => absurd h (by decide)⟩⟩
def rwE {w : World} {g : Nat} (x : Rws w g) : Value := x.1.1
def rwL {w : World} {g : Nat} (x : Rws w g) : List Int := x.1.2

theorem cmp_lays (w : World) (g n : Nat) : CmpLays1 Tryz.prog 128 #[] (rwE (w := w) (g := g)) (fun x y => cmpL (rwL x) (rwL y)) g 0 n w := by
  intro m os dk hs x y
  have kp : ∀ z : Rws w g, RowAt (sortWorld (rwE (w := w) (g := g)) w g 0 m dk os) z.1.1 (intsV z.1.2) := fun z => (z.2.keep (sorted_size _ _ _ _ _ _ _) (sorted_keeps _ _ _ _ _ _ _)).row
  refine (sCompare_any x.1.1 y.1.1 x.1.2 y.1.2 _ (kp x) (kp y)).mono ?_
  rintro e w' ⟨he, hw⟩
  exact ⟨he, 0, #[], by rw [hw, grow_empty]; rfl⟩

/-- one sorted list there is. -/
theorem sortL_of {l l' : List (List Int)} (hp : l'.Perm l) (hs : l'.Pairwise fun x y => cmpL x y ≤ 0) : l' = sortL l := by
  refine List.Perm.eq_of_pairwise (le := fun x y => decide (cmpL x y ≤ 0) = true) ?_ ?_ ?_ (hp.trans (List.mergeSort_perm _ _).symm)
  · intro a b _ _ h1 h2
    simp only [decide_eq_true_eq] at h1 h2
    have := cmpL_swap a b
    exact cmpL_zero (by omega)
  · exact hs.imp fun h => by simpa using h
  · exact List.pairwise_mergeSort (fun a b c h1 h2 => by
      simp only [decide_eq_true_eq] at h1 h2 ⊢
      exact cmpL_le a b c h1 h2) (fun a b => by
      have := cmpL_swap a b
      simp only [Bool.or_eq_true, decide_eq_true_eq]
      omega) l

/-- rows that lie in one block, each off it. -/
def RowsB (w : World) (g : Nat) (t : TypeId) (cap : Nat) (l : List (List Int)) : Prop := ∃ cur : Array Value, w.heap[g]? = some (.cells cur t (0, 0)) ∧ cur.size = cap ∧ l.length ≤ cap ∧ ∀ (i : Nat) zs, l[i]? = some zs → ∃ v, cur[i]? = some v ∧ OffAt g w v zs

theorem pick_rows {w : World} {g : Nat} {cur : Array Value} : ∀ (l : List (List Int)) (k : Nat), (∀ (i : Nat) zs, l[i]? = some zs → ∃ v, cur[k + i]? = some v ∧ OffAt g w v zs) → ∃ d : List (Rws w g), d.map rwL = l ∧ ∀ (i : Nat) x, d[i]? = some x → cur[k + i]? = some (rwE x)
  | [], _, _ => ⟨[], rfl, fun i x h => by simp at h⟩
  | zs :: l, k, h => by
    obtain ⟨v, hv, ho⟩ := h 0 zs rfl
    obtain ⟨d, h1, h2⟩ := pick_rows l (k + 1) fun i ys e => by
      have := h (i + 1) ys (by simpa using e)
      rwa [show k + 1 + i = k + (i + 1) by omega]
    refine ⟨⟨(v, zs), ho⟩ :: d, by rw [List.map_cons, h1]; rfl, fun i x e => ?_⟩
    match i with
    | 0 =>
      simp only [List.getElem?_cons_zero, Option.some.injEq] at e
      subst e
      exact hv
    | i + 1 =>
      rw [show k + (i + 1) = k + 1 + i by omega]
      exact h2 i x (by simpa using e)

set_option maxRecDepth 100000 in
set_option maxHeartbeats 1000000 in
theorem sortRows_any (w : World) (g cap : Nat) (t : TypeId) (l : List (List Int)) (h : RowsB w g t cap l) (hlen : l.length < 4611686018427387904) :
    Calls Tryz.prog 83 #[.slice (some ⟨g, 0, none⟩) l.length cap] w fun e w' => e = .returned (.tuple #[]) ∧ w.grownBy w' (some g) ∧ RowsB w' g t cap (sortL l) := by
  obtain ⟨cur, hb, hcs, hlc, hr⟩ := h
  obtain ⟨d, hd, hc⟩ := pick_rows l 0 (fun i zs e => by rw [Nat.zero_add]; exact hr i zs e)
  have hdl : d.length = l.length := by rw [← hd, List.length_map]
  have eg : ∀ args w, (callFunc 128 args).run Tryz.prog w = .ok (.enter 128 args) w := enters_of Tryz.func128 (by kernel_rfl) rfl
  have hH : Holds (rwE (w := w) (g := g)) w g 0 d.toArray := by
    intro j hj
    have hj' : j < d.length := by simpa using hj
    refine ⟨?_, by simp [World.frozen?, hb]⟩
    have h1 := hc j d[j] (List.getElem?_eq_getElem hj')
    simp only [World.cell?, hb, Option.isSome_none, Bool.false_eq_true, if_false]
    rw [h1]
    simp [hj']
  have hcon := Tryz.slices_SortFunc (rwE (w := w) (g := g)) (fun x => by obtain ⟨ad, c, h0, -⟩ := x.2; show Value.oneCell' x.1.1 = true; rw [h0]; rfl) (fun x y => cmpL (rwL x) (rwL y)) (swo_by rwL) 128 #[] g 0 cap d.toArray w eg (cmp_lays w g _) hH (Array.getElem?_eq_some_iff.1 hb).1 (by simpa [hdl] using hlen)
  rw [show d.toArray.size = l.length by simpa using hdl] at hcon
  have HD := hide hd
  have HL := hide hdl
  have HB := hide hb
  have HC := hide hcs
  have HLC := hide hlc
  clear hd hdl hb hcs hlc hc hr hH hlen
  go_enter Tryz.func83, Tryz.ntmps83
  go_wp2_with (go_at_call 127; refine hcon.mono ?_; rintro e w' ⟨rfl, d', n, os, hp, hs, rfl⟩)
  go_end0
  have hdl := unhide HL
  have hb := unhide HB
  have hcs := unhide HC
  have hlc := unhide HLC
  have hsz : d'.size = l.length := by rw [hp.1]; simpa using hdl
  have hpm : d'.toList.Perm d := by
    have h2 := hp.2.2
    rw [show l.length = d'.size from hsz.symm, Array.extract_size, hsz, ← hdl] at h2
    simpa using h2
  have hl' : d'.toList.map rwL = sortL l := by
    refine sortL_of (by rw [← unhide HD]; exact hpm.map _) ?_
    rw [List.pairwise_map, List.pairwise_iff_getElem]
    intro i j hi hj hij
    have hi' : i < d'.size := by simpa using hi
    have hj' : j < d'.size := by simpa using hj
    have h3 := hs i j (Nat.zero_le _) hij (by omega)
    rw [getElem!_pos d' j hj', getElem!_pos d' i hi'] at h3
    simp only [ltOf, decide_eq_false_iff_not, Int.not_lt] at h3
    have := cmpL_swap (rwL d'[i]) (rwL d'[j])
    simp only [Array.getElem_toList]
    omega
  refine ⟨rfl, ⟨rfl, rfl, rfl, sorted_size _ _ _ _ _ _ _, fun k hk hne => sorted_keeps _ _ _ _ _ _ _ _ hk (fun e => hne (by rw [e]))⟩, _, sorted_block _ _ _ _ _ _ hb, by simp [putCells, hcs], ?_, ?_⟩
  · rw [← hl', List.length_map]
    simpa [hsz] using hlc
  · intro i zs e
    rw [← hl', List.getElem?_map] at e
    cases hx : d'.toList[i]? with
    | none => rw [hx] at e; cases e
    | some x =>
      rw [hx] at e
      have hi : i < d'.size := by simpa using (List.getElem?_eq_some_iff.1 hx).1
      have ez : rwL x = zs := by simpa using e
      subst ez
      refine ⟨rwE x, ?_, x.2.keep (sorted_size _ _ _ _ _ _ _) (sorted_keeps _ _ _ _ _ _ _)⟩
      have h4 : (putCells (rwE (w := w) (g := g)) 0 d' cur).toList[i]? = some (rwE x) := by
        rw [← List.getElem?_take_of_lt hi, take_cells _ _ _ (by omega), List.getElem?_map, hx]
        rfl
      simpa using h4
end Go.Proofs.YtfkeddkfegaeiaaGreatDoor
namespace Go.Proofs.YtfkeddkfegaeiaaGreatDoor
open Go.RowKit

/-- the name that a column gets. -/
def nameC (s : ByteArray) : ByteArray := if s.toList.isEmpty then ⟨#[95]⟩ else s
def namesV (es : List (ItemA × Value × Option Addr)) : List Value := es.map fun e => .string (nameC e.1.asT)

set_option maxRecDepth 100000 in
set_option maxHeartbeats 2000000 in
theorem columns_any (w : World) (b lo : Nat) (pl : Int) (vi vs vt : Value) (hb : w.heap[b]? = some (.cells #[.int .i64 pl, vi, vs, vt] 256 (0, 0)))
    (es : List (ItemA × Value × Option Addr)) (hi : w.ownsRow lo 251 5 vi es.length (itCells es)) (hi0 : 0 < es.length) (hi6 : es.length ≤ 6) (hone : ∀ e ∈ es, IsI e.2.1) :
    Calls Tryz.prog 84 #[.pointer (some ⟨b, 0, none⟩)] w fun e w' => ∃ g, e = .returned (.slice (some ⟨g, 0, none⟩) es.length es.length) ∧ Below w.heap.size w w' ∧ w.heap.size ≤ g ∧ w'.heap[g]? = some (.cells (namesV es).toArray 9 (0, 0)) := by
  obtain ⟨i0, hi9, hinf⟩ := Option.map_eq_some_iff.1 infoStr
  simp only [Prod.mk.injEq] at hinf
  obtain ⟨hz0, hz1, hz2⟩ := hinf
  have HI0 := hide hi9
  have HZ0 := hide hz0
  have HZ1 := hide hz1
  have HZ2 := hide hz2
  clear hi9 hz0 hz1 hz2
  obtain ⟨gi, ci, rfl, _, zi⟩ := hi.form hi0
  have HI := hide hi
  have HONE := hide hone
  clear hone
  have HB := hide hb
  have zb := lt_of_heap hb
  obtain ⟨kb, fb⟩ := blk hb
  have k1 : w.cell? ⟨b, 1, none⟩ = some (.slice (some ⟨gi, 0, none⟩) es.length ci) := kb 1
  clear hi hb kb
  go_enter Tryz.func84, Tryz.ntmps84
  go_wp2_with (at_make; refine wpList_make_full _ rfl _ _ 39 rfl w.heap.size 9 i0 (.string ⟨#[]⟩) 1 Tryz.underlying39 (unhide HI0) (unhide HZ0) (unhide HZ1) .i64 .i64 _ _ es.length rfl rfl ?c1 ?c2 ?c3 ?c4 ?c5 ?_)
  case c1 => simp
  case c2 => simp
  case c3 => rw [unhide HZ2]; omega
  case c4 => unfold maxLen; omega
  case c5 => exact Nat.le_refl _
  intro w1 ho hg
  rcases ho.2 with ⟨hv, _⟩ | ⟨g, cap, cur, hv, hge, hh, c1, c2, c3, c4⟩
  · cases hv
  injection hv with hv1 hv2 hv3
  injection hv1 with hv1
  injection hv1 with hv1
  subst hv1
  have hcl : cur.toList.length = es.length := by rw [Array.length_toList, c3]; omega
  have HH1 : Hid (w1.heap[w.heap.size]? = some (.cells cur.toList.toArray 9 (0, 0))) := by unfold Hid; rw [hh]
  have HB1 : Hid (Below w.heap.size w w1) := (Below.refl _ _).grown hg (Nat.le_refl _) (fun k e => by cases e)
  clear ho hg hh c1 c2 c3 c4 hv2 hv3 hge k1 fb
  generalize cur.toList = L at *
  have HCL := hide hcl
  clear hcl
  have hbW := ((unhide HB1).block b zb).trans (unhide HB)
  have zbW := lt_of_heap hbW
  obtain ⟨kb, fb⟩ := blk hbW
  have k1 : w1.cell? ⟨b, 1, none⟩ = some (.slice (some ⟨gi, 0, none⟩) es.length ci) := kb 1
  clear hbW kb
  go_wp2_with fail
  clear k1 zbW fb
  go_loopg [5, 17] es.length (fun f _ i W => ∃ pre suf T, es = pre ++ suf ∧ f = suf.length ∧ T.length = suf.length ∧ i = .int .i64 (pre.length : Nat) ∧ W.heap[w.heap.size]? = some (.cells (namesV pre ++ T).toArray 9 (0, 0)) ∧ Below w.heap.size w W)
  case atStart => exact ⟨[], es, L, rfl, rfl, unhide HCL, rfl, unhide HH1, unhide HB1⟩
  case round =>
    obtain ⟨pre, suf, T, h1, rfl, hT, rfl, hh, hbw⟩ := hrel
    have l1 : pre.length + suf.length = es.length := by rw [h1, List.length_append]
    have HZ := hide h1
    have HHW := hide hh
    have HBW := hide hbw
    have zw := lt_of_heap hh
    obtain ⟨kc, kf⟩ := blk hh
    clear h1 hh hbw
    cases suf with
    | nil =>
      have hlt : decide (pre.length < es.length) = false := by simp at l1 ⊢; omega
      obtain rfl : pre = es := by rw [unhide HZ, List.append_nil]
      obtain rfl : T = [] := List.eq_nil_of_length_eq_zero hT
      clear kc
      go_wp2
      go_ret
      refine ⟨w.heap.size, rfl, unhide HBW, Nat.le_refl _, ?_⟩
      have := unhide HHW
      rw [List.append_nil] at this
      exact this
    | cons y suf =>
      rw [List.length_cons] at l1
      cases T with
      | nil => cases hT
      | cons t T =>
      have hlt : decide (pre.length < es.length) = true := by simp; omega
      have HZ2 : Hid (es = (pre ++ [y]) ++ suf) := by unfold Hid; rw [unhide HZ]; simp
      have HC : Hid (∀ j, j < 5 → wr.cell? ⟨gi, pre.length * 5 + j, none⟩ = [Value.int .i64 y.1.place, y.2.1, .pointer y.2.2, .int .i64 y.1.asP, .string y.1.asT][j]?) := fun j hj => by
        rw [(unhide HBW).cell (p := ⟨gi, pre.length * 5 + j, none⟩) zi, (unhide HI).cellAt _ (by omega), unhide HZ, itCells_at pre suf y j hj]
      have hiy := (unhide HONE) y (by rw [unhide HZ]; simp)
      obtain ⟨x, v, wa⟩ := y
      have k0 : wr.cell? ⟨gi, pre.length * 5, none⟩ = some (.int .i64 x.place) := (unhide HC) 0 (by omega)
      have k1 : wr.cell? ⟨gi, pre.length * 5 + 1, none⟩ = some v := (unhide HC) 1 (by omega)
      have k2 : wr.cell? ⟨gi, pre.length * 5 + 2, none⟩ = some (.pointer wa) := (unhide HC) 2 (by omega)
      have k3 : wr.cell? ⟨gi, pre.length * 5 + 3, none⟩ = some (.int .i64 x.asP) := (unhide HC) 3 (by omega)
      have k4 : wr.cell? ⟨gi, pre.length * 5 + 4, none⟩ = some (.string x.asT) := (unhide HC) 4 (by omega)
      have hal : (namesV pre).length = pre.length := by simp [namesV]
      have kt : wr.cell? ⟨w.heap.size, pre.length, none⟩ = some t := by
        rw [kc, ← hal]
        simp
      have hT2 : T.length = suf.length := by simpa using hT
      have zgi : gi < wr.heap.size := Nat.lt_of_lt_of_le zi (unhide HBW).size
      have HNX : Hid (∀ u, (namesV pre ++ t :: T).toArray.setIfInBounds pre.length u = (namesV pre ++ u :: T).toArray) := fun u => by
        rw [← hal, List.setIfInBounds_toArray, List.set_append_right _ _ (Nat.le_refl _), Nat.sub_self, List.set_cons_zero]
      have HNY : Hid (∀ u u', (namesV pre ++ u' :: T).toArray.setIfInBounds pre.length u = (namesV pre ++ u :: T).toArray) := fun u u' => by
        rw [← hal, List.setIfInBounds_toArray, List.set_append_right _ _ (Nat.le_refl _), Nat.sub_self, List.set_cons_zero]
      have HNZ : Hid (∀ z : Value, namesV (pre ++ [(x, z, wa)]) ++ T = namesV pre ++ .string (nameC x.asT) :: T) := fun z => by simp [namesV]
      clear HC kc hal hT
      rcases hiy with rfl | ⟨ui, vi, rfl⟩
      all_goals (
        cases he : x.asT.toList.isEmpty
        · have HN : Hid (nameC x.asT = x.asT) := by unfold Hid nameC; rw [he]; rfl
          go_wp2_with fail
          go_roundg suf.length
          case measure => simp
          case rel =>
            refine ⟨pre ++ [(x, _, wa)], suf, T, unhide HZ2, rfl, hT2, ?_, ?_, ?_⟩
            · rw [List.length_append]; go_num
            · rw [Below.heap_alloc _ _ _ (by simpa using zw), heap_set (unhide HHW), unhide HNX, unhide HNZ, unhide HN]
            · exact ((unhide HBW).setCell (by exact Nat.le_refl _) _).alloc (by simpa using Nat.le_of_lt zw) _
        · have HN : Hid (nameC x.asT = ⟨#[95]⟩) := by unfold Hid nameC; rw [he]; rfl
          go_wp2_with fail
          go_roundg suf.length
          case measure => simp
          case rel =>
            refine ⟨pre ++ [(x, _, wa)], suf, T, unhide HZ2, rfl, hT2, ?_, ?_, ?_⟩
            · rw [List.length_append]; go_num
            · rw [Below.heap_alloc _ _ _ (by simpa using zw), heap_set (heap_set (unhide HHW) _), unhide HNX, unhide HNY, unhide HNZ, unhide HN]
            · exact (((unhide HBW).setCell (by exact Nat.le_refl _) _).setCell (by exact Nat.le_refl _) _).alloc (by simpa using Nat.le_of_lt zw) _)
end Go.Proofs.YtfkeddkfegaeiaaGreatDoor
