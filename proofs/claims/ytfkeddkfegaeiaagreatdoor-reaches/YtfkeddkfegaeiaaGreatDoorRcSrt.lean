/-
  Part 31.
-/
import Derived.Ground.SlsfProg
import Derived.Shelf.SlSortCmp.Whole1
import Derived.Test.YtfkeddkfegaeiaaGreatDoorProg
import Derived.Test.YtfkeddkfegaeiaaGreatDoorRcPlU
namespace Go.Proofs
open Go.Shelf
def Tryz.laysSlF6_f127_ren : Go.Shelf.Ren := ⟨fun | 6 => 127 | 15 => 203 | 14 => 202 | 28 => 264 | 29 => 265 | 20 => 256 | 21 => 257 | 22 => 258 | 23 => 259 | 24 => 260 | 25 => 261 | 26 => 262 | 27 => 263 | 46 => 298 | 47 => 299 | 48 => 300 | 49 => 301 | 50 => 302 | 57 => 324 | n => n, fun | 22 => 42 | 24 => 32 | 25 => 303 | 3 => 3 | 39 => 334 | 0 => 0 | 53 => 131 | 55 => 276 | 4 => 4 | 46 => 434 | 45 => 433 | 50 => 438 | 5 => 5 | 9 => 9 | 66 => 463 | 70 => 466 | 76 => 481 | 77 => 482 | n => n, fun | n => n⟩
theorem Tryz.laysSlF6_f127 : Go.Proofs.SlLaysF.n6 Tryz.prog Tryz.laysSlF6_f127_ren := {
  mixed := by kernel_rfl
  f6 := ⟨Tryz.f127.name, by decide, Tryz.func127.trans (congrArg some (by kernel_rfl))⟩
  f14 := ⟨Tryz.f202.name, by decide, Tryz.func202.trans (congrArg some (by kernel_rfl))⟩
  f15 := Tryz.func203.trans (congrArg some (by kernel_rfl))
  f20 := ⟨Tryz.f256.name, by decide, Tryz.func256.trans (congrArg some (by kernel_rfl))⟩
  f21 := ⟨Tryz.f257.name, by decide, Tryz.func257.trans (congrArg some (by kernel_rfl))⟩
  f22 := ⟨Tryz.f258.name, by decide, Tryz.func258.trans (congrArg some (by kernel_rfl))⟩
  f23 := ⟨Tryz.f259.name, by decide, Tryz.func259.trans (congrArg some (by kernel_rfl))⟩
  f24 := ⟨Tryz.f260.name, by decide, Tryz.func260.trans (congrArg some (by kernel_rfl))⟩
  f25 := ⟨Tryz.f261.name, by decide, Tryz.func261.trans (congrArg some (by kernel_rfl))⟩
  f26 := ⟨Tryz.f262.name, by decide, Tryz.func262.trans (congrArg some (by kernel_rfl))⟩
  f27 := ⟨Tryz.f263.name, by decide, Tryz.func263.trans (congrArg some (by kernel_rfl))⟩
  f28 := Tryz.func264.trans (congrArg some (by kernel_rfl))
  f29 := Tryz.func265.trans (congrArg some (by kernel_rfl))
  f46 := ⟨Tryz.f298.name, by decide, Tryz.func298.trans (congrArg some (by kernel_rfl))⟩
  f47 := Tryz.func299.trans (congrArg some (by kernel_rfl))
  f48 := Tryz.func300.trans (congrArg some (by kernel_rfl))
  f49 := ⟨Tryz.f301.name, by decide, Tryz.func301.trans (congrArg some (by kernel_rfl))⟩
  f50 := ⟨Tryz.f302.name, by decide, Tryz.func302.trans (congrArg some (by kernel_rfl))⟩
  f57 := ⟨Tryz.f324.name, by decide, Tryz.func324.trans (congrArg some (by kernel_rfl))⟩
  t0 := Tryz.underlying0
  a0 := Tryz.isAgg0
  z0 := Tryz.sizeOf0
  v0 := Tryz.zeroValue0
  t3 := Tryz.underlying3
  a3 := Tryz.isAgg3
  z3 := Tryz.sizeOf3
  v3 := Tryz.zeroValue3
  t4 := Tryz.underlying4
  a4 := Tryz.isAgg4
  z4 := Tryz.sizeOf4
  v4 := Tryz.zeroValue4
  t5 := Tryz.underlying5
  a5 := Tryz.isAgg5
  z5 := Tryz.sizeOf5
  v5 := Tryz.zeroValue5
  t9 := Tryz.underlying9
  a9 := Tryz.isAgg9
  z9 := Tryz.sizeOf9
  v9 := Tryz.zeroValue9
  t22 := Tryz.underlying42
  a22 := Tryz.isAgg42
  z22 := Tryz.sizeOf42
  v22 := Tryz.zeroValue42
  a24 := Tryz.isAgg32
  z24 := Tryz.sizeOf32
  t25 := Tryz.underlying303
  a25 := Tryz.isAgg303
  z25 := Tryz.sizeOf303
  v25 := Tryz.zeroValue303
  t39 := Tryz.underlying334
  a39 := Tryz.isAgg334
  z39 := Tryz.sizeOf334
  v39 := Tryz.zeroValue334
  t45 := Tryz.underlying433
  a45 := Tryz.isAgg433
  z45 := Tryz.sizeOf433
  v45 := Tryz.zeroValue433
  t46 := Tryz.underlying434
  a46 := Tryz.isAgg434
  z46 := Tryz.sizeOf434
  v46 := Tryz.zeroValue434
  t50 := Tryz.underlying438
  a50 := Tryz.isAgg438
  z50 := Tryz.sizeOf438
  v50 := Tryz.zeroValue438
  t53 := Tryz.underlying131
  a53 := Tryz.isAgg131
  z53 := Tryz.sizeOf131
  v53 := Tryz.zeroValue131
  t55 := Tryz.underlying276
  a55 := Tryz.isAgg276
  z55 := Tryz.sizeOf276
  v55 := Tryz.zeroValue276
  t66 := Tryz.underlying463
  a66 := Tryz.isAgg463
  z66 := Tryz.sizeOf463
  v66 := Tryz.zeroValue463
  t70 := Tryz.underlying466
  a70 := Tryz.isAgg466
  z70 := Tryz.sizeOf466
  v70 := Tryz.zeroValue466
  t76 := Tryz.underlying481
  a76 := Tryz.isAgg481
  z76 := Tryz.sizeOf481
  v76 := Tryz.zeroValue481
  t77 := Tryz.underlying482
  a77 := Tryz.isAgg482
  z77 := Tryz.sizeOf482
  v77 := Tryz.zeroValue482 }
open Go.RowKit Go.Lib Go.Sort in
/-- **slices.SortFunc, IN THE DOCUMENTATION's OWN TERMS: A PERMUTATION OF WHAT THE ROW HELD, SORTED BY 'cmp(a, b) < 0'.** Which of two equals comes first is left open ("The sort is not guaranteed to be stable"). (LAID AT THE INSTANCE 'slices.SortFunc[[][]int,[]int]': no walk: one application.) -/
theorem Tryz.slices_SortFunc {α : Type} [Inhabited α] (enc : α → Value) (h1 : OneCell enc) (cf : α → α → Int) (hO : SWO (ltOf cf)) (g : Nat) (cb : Array Value) (blk off cap : Nat) (d : Array α) (w : World) (eg : ∀ args w, (callFunc g args).run Tryz.prog w = .ok (.enter g args) w) (hcmp : CmpLays1 Tryz.prog g cb enc cf blk off d.size w) (hH : Holds enc w blk off d) (hblk : blk < w.heap.size) (hsz : d.size < 4611686018427387904) :
    Calls Tryz.prog 127 #[.slice (some ⟨blk, off, none⟩) d.size cap, .func (.func g) #[] cb] w fun e w' =>
      e = .returned (.tuple #[]) ∧ ∃ d' n os, PermIn 0 d.size d d' ∧ SortedIn (ltOf cf) 0 d.size d' ∧ w' = sortWorld enc w blk off n d' os := Any.slices_SortFunc Tryz.laysSlF6_f127 enc h1 cf hO g cb blk off cap d w eg hcmp hH hblk hsz
end Go.Proofs
namespace Go.Proofs.YtfkeddkfegaeiaaGreatDoor
open Go.RowKit Go.Sort
theorem cmpI_swap (a b : Int) : cmpI b a = - cmpI a b := by
  unfold cmpI
  split <;> split <;> (try split) <;> omega
theorem cmpI_le {a b : Int} : cmpI a b ≤ 0 ↔ a ≤ b := by
  unfold cmpI
  split <;> (try split) <;> omega
theorem cmpI_lt {a b : Int} : cmpI a b < 0 ↔ a < b := by
  unfold cmpI
  split <;> (try split) <;> omega
theorem cmpL_self (a : List Int) : cmpL a a = 0 := by
  induction a with
  | nil => rfl
  | cons x r ih => simp only [cmpL, cmpI_self, if_true]; exact ih
theorem cmpL_zero : ∀ {a b : List Int}, cmpL a b = 0 → a = b
  | [], [], _ => rfl
  | [], _ :: _, h => by simp [cmpL] at h
  | _ :: _, [], h => by simp [cmpL] at h
  | x :: r, y :: s, h => by
    unfold cmpL at h
    split at h
    · rename_i h1
      rw [cmpI_zero h1, cmpL_zero h]
    · contradiction
theorem cmpL_swap : ∀ (a b : List Int), cmpL b a = - cmpL a b
  | [], [] => rfl
  | [], _ :: _ => rfl
  | _ :: _, [] => rfl
  | x :: r, y :: s => by
    have h := cmpI_swap x y
    unfold cmpL
    split
    · rename_i h1
      rw [if_pos (by omega), cmpL_swap r s]
    · rename_i h1
      rw [if_neg (by omega), h]
theorem cmpL_le : ∀ (a b c : List Int), cmpL a b ≤ 0 → cmpL b c ≤ 0 → cmpL a c ≤ 0
  | [], _, [], _, _ => by simp [cmpL]
  | [], _, _ :: _, _, _ => by simp [cmpL]
  | _ :: _, [], _, h, _ => by simp [cmpL] at h
  | _ :: _, _ :: _, [], _, h => by simp [cmpL] at h
  | x :: r, y :: s, z :: t, h1, h2 => by
    unfold cmpL at h1 h2 ⊢
    by_cases e1 : cmpI x y = 0
    · rw [if_pos e1] at h1
      obtain rfl := cmpI_zero e1
      by_cases e2 : cmpI x z = 0
      · rw [if_pos e2] at h2 ⊢
        exact cmpL_le r s t h1 h2
      · rw [if_neg e2] at h2 ⊢
        exact h2
    · rw [if_neg e1] at h1
      have l1 : x < y := cmpI_lt.1 (by omega)
      have l2 : y ≤ z := by
        by_cases e2 : cmpI y z = 0
        · exact Int.le_of_eq (cmpI_zero e2)
        · rw [if_neg e2] at h2
          exact cmpI_le.1 h2
      have l3 : cmpI x z < 0 := cmpI_lt.2 (by omega)
      rw [if_neg (by omega)]
      omega
theorem cmpL_lt (a b c : List Int) (h1 : cmpL a b < 0) (h2 : cmpL b c < 0) : cmpL a c < 0 := by
  have h3 := cmpL_le a b c (by omega) (by omega)
  by_cases h : cmpL a c = 0
  · obtain rfl := cmpL_zero h
    have := cmpL_swap a b
    omega
  · omega
/-- by a list of numbers that each one bears. -/
theorem swo_by {α : Type} (f : α → List Int) : SWO (ltOf fun x y : α => cmpL (f x) (f y)) where
  irrefl x := by simp [ltOf, cmpL_self]
  trans x y z h1 h2 := by
    simp only [ltOf, decide_eq_true_eq] at h1 h2 ⊢
    exact cmpL_lt _ _ _ h1 h2
  ntrans x y z h1 h2 := by
    simp only [ltOf, decide_eq_false_iff_not, Int.not_lt] at h1 h2 ⊢
    have a1 := cmpL_swap (f x) (f y)
    have a2 := cmpL_swap (f y) (f z)
    have a3 := cmpL_swap (f x) (f z)
    have := cmpL_le (f z) (f y) (f x) (by omega) (by omega)
    omega
/-- lists of numbers in order. -/
def sortL (l : List (List Int)) : List (List Int) := l.mergeSort (fun x y => decide (cmpL x y ≤ 0))
end Go.Proofs.YtfkeddkfegaeiaaGreatDoor
namespace Go.Proofs.YtfkeddkfegaeiaaGreatDoor
open Go.RowKit Go.Sort
/-- numbers that lie off one block. -/
def OffAt (g : Nat) (w : World) (v : Value) (zs : List Int) : Prop := ∃ ad cap, v = .slice ad zs.length cap ∧ zs.length ≤ maxLen ∧ (0 < zs.length → ∃ b o, ad = some ⟨b, o, none⟩ ∧ b ≠ g ∧ b < w.heap.size ∧ ∀ j, j < zs.length → w.cell? ⟨b, o + j, none⟩ = (intsV zs)[j]?)
theorem OffAt.row {g : Nat} {w : World} {v : Value} {zs : List Int} (h : OffAt g w v zs) : RowAt w v (intsV zs) := by
  obtain ⟨ad, cap, rfl, hm, hc⟩ := h
  refine ⟨ad, cap, by rw [List.length_map], by rw [List.length_map]; exact hm, fun h0 => ?_⟩
  rw [List.length_map] at h0
  obtain ⟨b, o, e, -, hb, hj⟩ := hc h0
  refine ⟨b, o, e, hb, fun j h1 => hj j ?_⟩
  rw [List.length_map] at h1
  exact h1
theorem OffAt.keep {g : Nat} {w w' : World} {v : Value} {zs : List Int} (h : OffAt g w v zs) (hs : w.heap.size ≤ w'.heap.size) (hk : ∀ k, k < w.heap.size → k ≠ g → w'.heap[k]? = w.heap[k]?) : OffAt g w' v zs := by
  obtain ⟨ad, cap, rfl, hm, hc⟩ := h
  refine ⟨ad, cap, rfl, hm, fun h0 => ?_⟩
  obtain ⟨b, o, e, hn, hb, hj⟩ := hc h0
  refine ⟨b, o, e, hn, Nat.lt_of_lt_of_le hb hs, fun j h1 => ?_⟩
  rw [← hj j h1]
  simp only [World.cell?, hk b hb hn]
theorem sorted_size {α : Type} [Inhabited α] (enc : α → Value) (w : World) (g off m : Nat) (d : Array α) (os : Array Obj) : w.heap.size ≤ (sortWorld enc w g off m d os).heap.size := by
  unfold sortWorld
  rw [Go.Sort.size_grow, size_putRow]
  exact Nat.le_add_right _ _
theorem sorted_keeps {α : Type} [Inhabited α] (enc : α → Value) (w : World) (g off m : Nat) (d : Array α) (os : Array Obj) (k : Nat) (hk : k < w.heap.size) (hne : k ≠ g) : (sortWorld enc w g off m d os).heap[k]? = w.heap[k]? := by
  unfold sortWorld
  rw [Go.Sort.heap_grow_old _ _ (by simpa using hk)]
  have : g ≠ k := fun e => hne e.symm
  simp [putRow, mapBlock, Sort.ahead, Array.getElem?_modify, this]
theorem sorted_block {α : Type} [Inhabited α] (enc : α → Value) (w : World) (g m : Nat) (d : Array α) (os : Array Obj) {cur : Array Value} {e : TypeId} {fr : Nat × Nat} (hb : w.heap[g]? = some (.cells cur e fr)) : (sortWorld enc w g 0 m d os).heap[g]? = some (.cells (putCells enc 0 d cur) e fr) := by
  have hg : g < w.heap.size := (Array.getElem?_eq_some_iff.1 hb).1
  unfold sortWorld
  rw [Go.Sort.heap_grow_old _ _ (by simpa using hg)]
  simp [putRow, mapBlock, Sort.ahead, Array.getElem?_modify, hb, onCells]
theorem take_cells {α : Type} [Inhabited α] (enc : α → Value) (cur : Array Value) (d : Array α) (h : d.size ≤ cur.size) : (putCells enc 0 d cur).toList.take d.size = d.toList.map enc := by
  apply List.ext_getElem?
  intro j
  by_cases hj : j < d.size
  · rw [List.getElem?_take_of_lt hj, Array.getElem?_toList]
    simp [putCells, hj, show j < cur.size by omega]
  · rw [List.getElem?_take_eq_none (by omega), List.getElem?_eq_none (by simp; omega)]
/-- rows of numbers off one block, with what they hold. -/
abbrev Rws (w : World) (g : Nat) : Type := { x : Value × List Int // OffAt g w x.1 x.2 }
instance (w : World) (g : Nat) : Inhabited (Rws w g) := ⟨⟨(.slice none 0 0, []), none, 0, rfl, Nat.zero_le _, fun h => absurd h (by decide)⟩⟩
def rwE {w : World} {g : Nat} (x : Rws w g) : Value := x.1.1
def rwL {w : World} {g : Nat} (x : Rws w g) : List Int := x.1.2
theorem cmp_lays (w : World) (g n : Nat) : CmpLays1 Tryz.prog 128 #[] (rwE (w := w) (g := g)) (fun x y => cmpL (rwL x) (rwL y)) g 0 n w := by
  intro m os dk hs x y
  have kp : ∀ z : Rws w g, RowAt (sortWorld (rwE (w := w) (g := g)) w g 0 m dk os) z.1.1 (intsV z.1.2) := fun z => (z.2.keep (sorted_size _ _ _ _ _ _ _) (sorted_keeps _ _ _ _ _ _ _)).row
  refine (sCompare_any x.1.1 y.1.1 x.1.2 y.1.2 _ (kp x) (kp y)).mono ?_
  rintro e w' ⟨he, hw⟩
  exact ⟨he, 0, #[], by rw [hw, grow_empty]; rfl⟩
/-- one sorted list there is. -/
theorem sortL_of {l l' : List (List Int)} (hp : l'.Perm l) (hs : l'.Pairwise fun x y => cmpL x y ≤ 0) : l' = sortL l := by
  refine List.Perm.eq_of_pairwise (le := fun x y => decide (cmpL x y ≤ 0) = true) ?_ ?_ ?_ (hp.trans (List.mergeSort_perm _ _).symm)
  · intro a b _ _ h1 h2
    simp only [decide_eq_true_eq] at h1 h2
    have := cmpL_swap a b
    exact cmpL_zero (by omega)
  · exact hs.imp fun h => by simpa using h
  · exact List.pairwise_mergeSort (fun a b c h1 h2 => by
      simp only [decide_eq_true_eq] at h1 h2 ⊢
      exact cmpL_le a b c h1 h2) (fun a b => by
      have := cmpL_swap a b
      simp only [Bool.or_eq_true, decide_eq_true_eq]
      omega) l
/-- rows that lie in one block, each off it. -/
def RowsB (w : World) (g : Nat) (t : TypeId) (cap : Nat) (l : List (List Int)) : Prop := ∃ cur : Array Value, w.heap[g]? = some (.cells cur t (0, 0)) ∧ cur.size = cap ∧ l.length ≤ cap ∧ ∀ (i : Nat) zs, l[i]? = some zs → ∃ v, cur[i]? = some v ∧ OffAt g w v zs
theorem pick_rows {w : World} {g : Nat} {cur : Array Value} : ∀ (l : List (List Int)) (k : Nat), (∀ (i : Nat) zs, l[i]? = some zs → ∃ v, cur[k + i]? = some v ∧ OffAt g w v zs) → ∃ d : List (Rws w g), d.map rwL = l ∧ ∀ (i : Nat) x, d[i]? = some x → cur[k + i]? = some (rwE x)
  | [], _, _ => ⟨[], rfl, fun i x h => by simp at h⟩
  | zs :: l, k, h => by
    obtain ⟨v, hv, ho⟩ := h 0 zs rfl
    obtain ⟨d, h1, h2⟩ := pick_rows l (k + 1) fun i ys e => by
      have := h (i + 1) ys (by simpa using e)
      rwa [show k + 1 + i = k + (i + 1) by omega]
    refine ⟨⟨(v, zs), ho⟩ :: d, by rw [List.map_cons, h1]; rfl, fun i x e => ?_⟩
    match i with
    | 0 =>
      simp only [List.getElem?_cons_zero, Option.some.injEq] at e
      subst e
      exact hv
    | i + 1 =>
      rw [show k + (i + 1) = k + 1 + i by omega]
      exact h2 i x (by simpa using e)
set_option maxRecDepth 100000 in
set_option maxHeartbeats 1000000 in
theorem sortRows_any (w : World) (g cap : Nat) (t : TypeId) (l : List (List Int)) (h : RowsB w g t cap l) (hlen : l.length < 4611686018427387904) :
    Calls Tryz.prog 83 #[.slice (some ⟨g, 0, none⟩) l.length cap] w fun e w' => e = .returned (.tuple #[]) ∧ w.grownBy w' (some g) ∧ RowsB w' g t cap (sortL l) := by
  obtain ⟨cur, hb, hcs, hlc, hr⟩ := h
  obtain ⟨d, hd, hc⟩ := pick_rows l 0 (fun i zs e => by rw [Nat.zero_add]; exact hr i zs e)
  have hdl : d.length = l.length := by rw [← hd, List.length_map]
  have eg : ∀ args w, (callFunc 128 args).run Tryz.prog w = .ok (.enter 128 args) w := enters_of Tryz.func128 (by kernel_rfl) rfl
  have hH : Holds (rwE (w := w) (g := g)) w g 0 d.toArray := by
    intro j hj
    have hj' : j < d.length := by simpa using hj
    refine ⟨?_, by simp [World.frozen?, hb]⟩
    have h1 := hc j d[j] (List.getElem?_eq_getElem hj')
    simp only [World.cell?, hb, Option.isSome_none, Bool.false_eq_true, if_false]
    rw [h1]
    simp [hj']
  have hcon := Tryz.slices_SortFunc (rwE (w := w) (g := g)) (fun x => by obtain ⟨ad, c, h0, -⟩ := x.2; show Value.oneCell' x.1.1 = true; rw [h0]; rfl) (fun x y => cmpL (rwL x) (rwL y)) (swo_by rwL) 128 #[] g 0 cap d.toArray w eg (cmp_lays w g _) hH (Array.getElem?_eq_some_iff.1 hb).1 (by simpa [hdl] using hlen)
  rw [show d.toArray.size = l.length by simpa using hdl] at hcon
  have HD := hide hd
  have HL := hide hdl
  have HB := hide hb
  have HC := hide hcs
  have HLC := hide hlc
  clear hd hdl hb hcs hlc hc hr hH hlen
  go_enter Tryz.func83, Tryz.ntmps83
  go_wp2_with (go_at_call 127; refine hcon.mono ?_; rintro e w' ⟨rfl, d', n, os, hp, hs, rfl⟩)
  go_end0
  have hdl := unhide HL
  have hb := unhide HB
  have hcs := unhide HC
  have hlc := unhide HLC
  have hsz : d'.size = l.length := by rw [hp.1]; simpa using hdl
  have hpm : d'.toList.Perm d := by
    have h2 := hp.2.2
    rw [show l.length = d'.size from hsz.symm, Array.extract_size, hsz, ← hdl] at h2
    simpa using h2
  have hl' : d'.toList.map rwL = sortL l := by
    refine sortL_of (by rw [← unhide HD]; exact hpm.map _) ?_
    rw [List.pairwise_map, List.pairwise_iff_getElem]
    intro i j hi hj hij
    have hi' : i < d'.size := by simpa using hi
    have hj' : j < d'.size := by simpa using hj
    have h3 := hs i j (Nat.zero_le _) hij (by omega)
    rw [getElem!_pos d' j hj', getElem!_pos d' i hi'] at h3
    simp only [ltOf, decide_eq_false_iff_not, Int.not_lt] at h3
    have := cmpL_swap (rwL d'[i]) (rwL d'[j])
    simp only [Array.getElem_toList]
    omega
  refine ⟨rfl, ⟨rfl, rfl, rfl, sorted_size _ _ _ _ _ _ _, fun k hk hne => sorted_keeps _ _ _ _ _ _ _ _ hk (fun e => hne (by rw [e]))⟩, _, sorted_block _ _ _ _ _ _ hb, by simp [putCells, hcs], ?_, ?_⟩
  · rw [← hl', List.length_map]
    simpa [hsz] using hlc
  · intro i zs e
    rw [← hl', List.getElem?_map] at e
    cases hx : d'.toList[i]? with
    | none => rw [hx] at e; cases e
    | some x =>
      rw [hx] at e
      have hi : i < d'.size := by simpa using (List.getElem?_eq_some_iff.1 hx).1
      have ez : rwL x = zs := by simpa using e
      subst ez
      refine ⟨rwE x, ?_, x.2.keep (sorted_size _ _ _ _ _ _ _) (sorted_keeps _ _ _ _ _ _ _)⟩
      have h4 : (putCells (rwE (w := w) (g := g)) 0 d' cur).toList[i]? = some (rwE x) := by
        rw [← List.getElem?_take_of_lt hi, take_cells _ _ _ (by omega), List.getElem?_map, hx]
        rfl
      simpa using h4
end Go.Proofs.YtfkeddkfegaeiaaGreatDoor
