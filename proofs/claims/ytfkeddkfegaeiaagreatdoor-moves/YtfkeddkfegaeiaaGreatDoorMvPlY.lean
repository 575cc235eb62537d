/-
  Part 29.
-/
import Derived.Test.YtfkeddkfegaeiaaGreatDoorMvPlV
import Derived.Test.YtfkeddkfegaeiaaGreatDoorMvPure
import Derived.BigRegion
namespace Go.Proofs.YtfkeddkfegaeiaaGreatDoor
open Go.RowKit Go.Sort
/-- numbers that lie off one block. -/
def OffAt (g : Nat) (w : World) (v : Value) (zs : List Int) : Prop := ∃ ad cap, v = .slice ad zs.length cap ∧ zs.length ≤ maxLen ∧ (0 < zs.length → ∃ b o, ad = some ⟨b, o, none⟩ ∧ b ≠ g ∧ b < w.heap.size ∧ ∀ j, j < zs.length → w.cell? ⟨b, o + j, none⟩ = (intsV zs)[j]?)
theorem OffAt.row {g : Nat} {w : World} {v : Value} {zs : List Int} (h : OffAt g w v zs) : RowAt w v (intsV zs) := by
  obtain ⟨ad, cap, rfl, hm, hc⟩ := h
  refine ⟨ad, cap, by rw [List.length_map], by rw [List.length_map]; exact hm, fun h0 => ?_⟩
  rw [List.length_map] at h0
  obtain ⟨b, o, e, -, hb, hj⟩ := hc h0
  refine ⟨b, o, e, hb, fun j h1 => hj j ?_⟩
  rw [List.length_map] at h1
  exact h1
theorem OffAt.keep {g : Nat} {w w' : World} {v : Value} {zs : List Int} (h : OffAt g w v zs) (hs : w.heap.size ≤ w'.heap.size) (hk : ∀ k, k < w.heap.size → k ≠ g → w'.heap[k]? = w.heap[k]?) : OffAt g w' v zs := by
  obtain ⟨ad, cap, rfl, hm, hc⟩ := h
  refine ⟨ad, cap, rfl, hm, fun h0 => ?_⟩
  obtain ⟨b, o, e, hn, hb, hj⟩ := hc h0
  refine ⟨b, o, e, hn, Nat.lt_of_lt_of_le hb hs, fun j h1 => ?_⟩
  rw [← hj j h1]
  simp only [World.cell?, hk b hb hn]
theorem sorted_size {α : Type} [Inhabited α] (enc : α → Value) (w : World) (g off m : Nat) (d : Array α) (os : Array Obj) : w.heap.size ≤ (sortWorld enc w g off m d os).heap.size := by
  unfold sortWorld
  rw [Go.Sort.size_grow, size_putRow]
  exact Nat.le_add_right _ _
theorem sorted_keeps {α : Type} [Inhabited α] (enc : α → Value) (w : World) (g off m : Nat) (d : Array α) (os : Array Obj) (k : Nat) (hk : k < w.heap.size) (hne : k ≠ g) : (sortWorld enc w g off m d os).heap[k]? = w.heap[k]? := by
  unfold sortWorld
  rw [Go.Sort.heap_grow_old _ _ (by simpa using hk)]
  have : g ≠ k := fun e => hne e.symm
  simp [putRow, mapBlock, Sort.ahead, Array.getElem?_modify, this]
theorem sorted_block {α : Type} [Inhabited α] (enc : α → Value) (w : World) (g m : Nat) (d : Array α) (os : Array Obj) {cur : Array Value} {e : TypeId} {fr : Nat × Nat} (hb : w.heap[g]? = some (.cells cur e fr)) : (sortWorld enc w g 0 m d os).heap[g]? = some (.cells (putCells enc 0 d cur) e fr) := by
  have hg : g < w.heap.size := (Array.getElem?_eq_some_iff.1 hb).1
  unfold sortWorld
  rw [Go.Sort.heap_grow_old _ _ (by simpa using hg)]
  simp [putRow, mapBlock, Sort.ahead, Array.getElem?_modify, hb, onCells]
theorem take_cells {α : Type} [Inhabited α] (enc : α → Value) (cur : Array Value) (d : Array α) (h : d.size ≤ cur.size) : (putCells enc 0 d cur).toList.take d.size = d.toList.map enc := by
  apply List.ext_getElem?
  intro j
  by_cases hj : j < d.size
  · rw [List.getElem?_take_of_lt hj, Array.getElem?_toList]
    simp [putCells, hj, show j < cur.size by omega]
  · rw [List.getElem?_take_eq_none (by omega), List.getElem?_eq_none (by simp; omega)]
/-- rows of numbers off one block, with what they hold. -/
abbrev Rws (w : World) (g : Nat) : Type := { x : Value × List Int // OffAt g w x.1 x.2 }
instance (w : World) (g : Nat) : Inhabited (Rws w g) := ⟨⟨(.slice none 0 0, []), none, 0, rfl, Nat.zero_le _, fun h => absurd h (by decide)⟩⟩
def rwE {w : World} {g : Nat} (x : Rws w g) : Value := x.1.1
def rwL {w : World} {g : Nat} (x : Rws w g) : List Int := x.1.2
theorem cmp_lays (w : World) (g n : Nat) : CmpLays1 Tryz.prog 128 #[] (rwE (w := w) (g := g)) (fun x y => cmpL (rwL x) (rwL y)) g 0 n w := by
  intro m os dk hs x y
  have kp : ∀ z : Rws w g, RowAt (sortWorld (rwE (w := w) (g := g)) w g 0 m dk os) z.1.1 (intsV z.1.2) := fun z => (z.2.keep (sorted_size _ _ _ _ _ _ _) (sorted_keeps _ _ _ _ _ _ _)).row
  refine (sCompare_any x.1.1 y.1.1 x.1.2 y.1.2 _ (kp x) (kp y)).mono ?_
  rintro e w' ⟨he, hw⟩
  exact ⟨he, 0, #[], by rw [hw, grow_empty]; rfl⟩
/-- one sorted list there is. -/
theorem sortL_of {l l' : List (List Int)} (hp : l'.Perm l) (hs : l'.Pairwise fun x y => cmpL x y ≤ 0) : l' = sortL l := by
  refine List.Perm.eq_of_pairwise (le := fun x y => decide (cmpL x y ≤ 0) = true) ?_ ?_ ?_ (hp.trans (List.mergeSort_perm _ _).symm)
  · intro a b _ _ h1 h2
    simp only [decide_eq_true_eq] at h1 h2
    have := cmpL_swap a b
    exact cmpL_zero (by omega)
  · exact hs.imp fun h => by simpa using h
  · exact List.pairwise_mergeSort (fun a b c h1 h2 => by
      simp only [decide_eq_true_eq] at h1 h2 ⊢
      exact cmpL_le a b c h1 h2) (fun a b => by
      have := cmpL_swap a b
      simp only [Bool.or_eq_true, decide_eq_true_eq]
      omega) l
/-- rows that lie in one block, each off it. -/
def RowsB (w : World) (g : Nat) (t : TypeId) (cap : Nat) (l : List (List Int)) : Prop := ∃ cur : Array Value, w.heap[g]? = some (.cells cur t (0, 0)) ∧ cur.size = cap ∧ l.length ≤ cap ∧ ∀ (i : Nat) zs, l[i]? = some zs → ∃ v, cur[i]? = some v ∧ OffAt g w v zs
theorem pick_rows {w : World} {g : Nat} {cur : Array Value} : ∀ (l : List (List Int)) (k : Nat), (∀ (i : Nat) zs, l[i]? = some zs → ∃ v, cur[k + i]? = some v ∧ OffAt g w v zs) → ∃ d : List (Rws w g), d.map rwL = l ∧ ∀ (i : Nat) x, d[i]? = some x → cur[k + i]? = some (rwE x)
  | [], _, _ => ⟨[], rfl, fun i x h => by simp at h⟩
  | zs :: l, k, h => by
    obtain ⟨v, hv, ho⟩ := h 0 zs rfl
    obtain ⟨d, h1, h2⟩ := pick_rows l (k + 1) fun i ys e => by
      have := h (i + 1) ys (by simpa using e)
      rwa [show k + 1 + i = k + (i + 1) by omega]
    refine ⟨⟨(v, zs), ho⟩ :: d, by rw [List.map_cons, h1]; rfl, fun i x e => ?_⟩
    match i with
    | 0 =>
      simp only [List.getElem?_cons_zero, Option.some.injEq] at e
      subst e
      exact hv
    | i + 1 =>
      rw [show k + (i + 1) = k + 1 + i by omega]
      exact h2 i x (by simpa using e)
set_option maxRecDepth 100000 in
set_option maxHeartbeats 1000000 in
theorem sortRows_any (w : World) (g cap : Nat) (t : TypeId) (l : List (List Int)) (h : RowsB w g t cap l) (hlen : l.length < 4611686018427387904) :
    Calls Tryz.prog 83 #[.slice (some ⟨g, 0, none⟩) l.length cap] w fun e w' => e = .returned (.tuple #[]) ∧ w.grownBy w' (some g) ∧ RowsB w' g t cap (sortL l) := by
  obtain ⟨cur, hb, hcs, hlc, hr⟩ := h
  obtain ⟨d, hd, hc⟩ := pick_rows l 0 (fun i zs e => by rw [Nat.zero_add]; exact hr i zs e)
  have hdl : d.length = l.length := by rw [← hd, List.length_map]
  have eg : ∀ args w, (callFunc 128 args).run Tryz.prog w = .ok (.enter 128 args) w := enters_of Tryz.func128 (by kernel_rfl) rfl
  have hH : Holds (rwE (w := w) (g := g)) w g 0 d.toArray := by
    intro j hj
    have hj' : j < d.length := by simpa using hj
    refine ⟨?_, by simp [World.frozen?, hb]⟩
    have h1 := hc j d[j] (List.getElem?_eq_getElem hj')
    simp only [World.cell?, hb, Option.isSome_none, Bool.false_eq_true, if_false]
    rw [h1]
    simp [hj']
  have hcon := Tryz.slices_SortFunc (rwE (w := w) (g := g)) (fun x => by obtain ⟨ad, c, h0, -⟩ := x.2; show Value.oneCell' x.1.1 = true; rw [h0]; rfl) (fun x y => cmpL (rwL x) (rwL y)) (swo_by rwL) 128 #[] g 0 cap d.toArray w eg (cmp_lays w g _) hH (Array.getElem?_eq_some_iff.1 hb).1 (by simpa [hdl] using hlen)
  rw [show d.toArray.size = l.length by simpa using hdl] at hcon
  have HD := hide hd
  have HL := hide hdl
  have HB := hide hb
  have HC := hide hcs
  have HLC := hide hlc
  clear hd hdl hb hcs hlc hc hr hH hlen
  go_enter Tryz.func83, Tryz.ntmps83
  go_wp2_with (go_at_call 127; refine hcon.mono ?_; rintro e w' ⟨rfl, d', n, os, hp, hs, rfl⟩)
  go_end0
  have hdl := unhide HL
  have hb := unhide HB
  have hcs := unhide HC
  have hlc := unhide HLC
  have hsz : d'.size = l.length := by rw [hp.1]; simpa using hdl
  have hpm : d'.toList.Perm d := by
    have h2 := hp.2.2
    rw [show l.length = d'.size from hsz.symm, Array.extract_size, hsz, ← hdl] at h2
    simpa using h2
  have hl' : d'.toList.map rwL = sortL l := by
    refine sortL_of (by rw [← unhide HD]; exact hpm.map _) ?_
    rw [List.pairwise_map, List.pairwise_iff_getElem]
    intro i j hi hj hij
    have hi' : i < d'.size := by simpa using hi
    have hj' : j < d'.size := by simpa using hj
    have h3 := hs i j (Nat.zero_le _) hij (by omega)
    rw [getElem!_pos d' j hj', getElem!_pos d' i hi'] at h3
    simp only [ltOf, decide_eq_false_iff_not, Int.not_lt] at h3
    have := cmpL_swap (rwL d'[i]) (rwL d'[j])
    simp only [Array.getElem_toList]
    omega
  refine ⟨rfl, ⟨rfl, rfl, rfl, sorted_size _ _ _ _ _ _ _, fun k hk hne => sorted_keeps _ _ _ _ _ _ _ _ hk (fun e => hne (by rw [e]))⟩, _, sorted_block _ _ _ _ _ _ hb, by simp [putCells, hcs], ?_, ?_⟩
  · rw [← hl', List.length_map]
    simpa [hsz] using hlc
  · intro i zs e
    rw [← hl', List.getElem?_map] at e
    cases hx : d'.toList[i]? with
    | none => rw [hx] at e; cases e
    | some x =>
      rw [hx] at e
      have hi : i < d'.size := by simpa using (List.getElem?_eq_some_iff.1 hx).1
      have ez : rwL x = zs := by simpa using e
      subst ez
      refine ⟨rwE x, ?_, x.2.keep (sorted_size _ _ _ _ _ _ _) (sorted_keeps _ _ _ _ _ _ _)⟩
      have h4 : (putCells (rwE (w := w) (g := g)) 0 d' cur).toList[i]? = some (rwE x) := by
        rw [← List.getElem?_take_of_lt hi, take_cells _ _ _ (by omega), List.getElem?_map, hx]
        rfl
      simpa using h4
end Go.Proofs.YtfkeddkfegaeiaaGreatDoor
namespace Go.Proofs.YtfkeddkfegaeiaaGreatDoor
open Go.RowKit
/-- a seat: its row's number; its part's and its order's numbers, and where they lie. -/
structure Seat where
  row : Nat
  pa : Option Addr
  pl : Nat
  pc : Nat
  oa : Option Addr
  ol : Nat
  oc : Nat
  part : List Int
  ord : List Int
def Sts (W : World) (g n : Nat) (d : Nat → Seat) : Prop := ∃ cur : Array Value, W.heap[g]? = some (.cells cur 479 (0, 0)) ∧ cur.size = n * 3 ∧ ∀ k, k < n → cur[k * 3]? = some (.int .i64 ((d k).row : Nat)) ∧ cur[k * 3 + 1]? = some (.slice (d k).pa (d k).pl (d k).pc) ∧ cur[k * 3 + 2]? = some (.slice (d k).oa (d k).ol (d k).oc)
theorem Sts.at {W : World} {g n : Nat} {d : Nat → Seat} (h : Sts W g n d) {k : Nat} (hk : k < n) : g < W.heap.size ∧ W.cell? ⟨g, k * 3, none⟩ = some (.int .i64 ((d k).row : Nat)) ∧ W.cell? ⟨g, k * 3 + 1, none⟩ = some (.slice (d k).pa (d k).pl (d k).pc) ∧ W.cell? ⟨g, k * 3 + 2, none⟩ = some (.slice (d k).oa (d k).ol (d k).oc) := by
  obtain ⟨cur, h1, -, h3⟩ := h
  obtain ⟨q1, q2, q3⟩ := h3 k hk
  exact ⟨lt_of_heap h1, ((blk h1).1 _).trans q1, ((blk h1).1 _).trans q2, ((blk h1).1 _).trans q3⟩
theorem Sts.free {W : World} {g n : Nat} {d : Nat → Seat} (h : Sts W g n d) (o : Nat) : W.frozen? ⟨g, o, none⟩ = false := by
  obtain ⟨cur, h1, -⟩ := h
  exact (blk h1).2 o
theorem Sts.drew {W : World} {g n : Nat} {d : Nat → Seat} (h : Sts W g n d) : Sts W.drew g n d := h
theorem Sts.congr {W : World} {g n : Nat} {d d' : Nat → Seat} (h : Sts W g n d) (e : ∀ k, k < n → d' k = d k) : Sts W g n d' := by
  obtain ⟨cur, h1, h2, h3⟩ := h
  exact ⟨cur, h1, h2, fun k hk => by rw [e k hk]; exact h3 k hk⟩
/-- a seat is put. -/
theorem Sts.put {W : World} {g n : Nat} {d : Nat → Seat} (h : Sts W g n d) {i : Nat} (hi : i < n) (s : Seat) : Sts (((W.setCell ⟨g, i * 3, none⟩ (.int .i64 (s.row : Nat))).setCell ⟨g, i * 3 + 1, none⟩ (.slice s.pa s.pl s.pc)).setCell ⟨g, i * 3 + 2, none⟩ (.slice s.oa s.ol s.oc)) g n (fun k => if k = i then s else d k) := by
  obtain ⟨cur, h1, h2, h3⟩ := h
  refine ⟨_, heap_set (heap_set (heap_set h1 _) _) _, by simpa using h2, fun k hk => ?_⟩
  obtain ⟨q1, q2, q3⟩ := h3 k hk
  have hz : i * 3 + 2 < cur.size := by omega
  by_cases e : k = i
  · subst e
    simp only [if_true]
    refine ⟨?_, ?_, ?_⟩
    · rw [Array.getElem?_setIfInBounds_ne (by omega), Array.getElem?_setIfInBounds_ne (by omega), Array.getElem?_setIfInBounds_self_of_lt (by omega)]
    · rw [Array.getElem?_setIfInBounds_ne (by omega), Array.getElem?_setIfInBounds_self_of_lt (by simp; omega)]
    · rw [Array.getElem?_setIfInBounds_self_of_lt (by simp; omega)]
  · simp only [if_neg e]
    refine ⟨?_, ?_, ?_⟩
    · rw [Array.getElem?_setIfInBounds_ne (by omega), Array.getElem?_setIfInBounds_ne (by omega), Array.getElem?_setIfInBounds_ne (by omega)]; exact q1
    · rw [Array.getElem?_setIfInBounds_ne (by omega), Array.getElem?_setIfInBounds_ne (by omega), Array.getElem?_setIfInBounds_ne (by omega)]; exact q2
    · rw [Array.getElem?_setIfInBounds_ne (by omega), Array.getElem?_setIfInBounds_ne (by omega), Array.getElem?_setIfInBounds_ne (by omega)]; exact q3
/-- the world in which two seats are exchanged. -/
def swpW (W : World) (g i j : Nat) (sa sb : Seat) : World := ((((((W.setCell ⟨g, i * 3, none⟩ (.int .i64 (sb.row : Nat))).setCell ⟨g, i * 3 + 1, none⟩ (.slice sb.pa sb.pl sb.pc)).setCell ⟨g, i * 3 + 2, none⟩ (.slice sb.oa sb.ol sb.oc)).setCell ⟨g, j * 3, none⟩ (.int .i64 (sa.row : Nat))).setCell ⟨g, j * 3 + 1, none⟩ (.slice sa.pa sa.pl sa.pc)).setCell ⟨g, j * 3 + 2, none⟩ (.slice sa.oa sa.ol sa.oc)).drew
theorem Sts.swap {W : World} {g n : Nat} {d : Nat → Seat} (h : Sts W g n d) {i j : Nat} (hi : i < n) (hj : j < n) {sa sb : Seat} (ha : d i = sa) (hb : d j = sb) : Sts (swpW W g i j sa sb) g n (swp d i j) := by
  subst ha hb
  refine (Sts.drew ((h.put hi (d j)).put hj (d i))).congr fun k _ => ?_
  unfold swp
  by_cases e : k = j
  · subst e
    by_cases e2 : k = i <;> simp [e2]
  · simp [e]
theorem swpW_kp {W W' : World} {g i j : Nat} {sa sb : Seat} (h : Kp g W W') : Kp g W (swpW W' g i j sa sb) := ((((((h.setCell _ _).setCell _ _).setCell _ _).setCell _ _).setCell _ _).setCell _ _).drew
/-- two ranges of m are exchanged. -/
def swr {α : Type} (d : Nat → α) (a b m : Nat) : Nat → α := fun k => if a ≤ k ∧ k < a + m then d (k - a + b) else if b ≤ k ∧ k < b + m then d (k - b + a) else d k
theorem swr_zero {α : Type} (d : Nat → α) (a b : Nat) : swr d a b 0 = d := by
  funext k
  unfold swr
  rw [if_neg (by omega), if_neg (by omega)]
theorem swr_succ {α : Type} (d : Nat → α) {a b m : Nat} (h : a + m + 1 ≤ b) : swr d a b (m + 1) = swp (swr d a b m) (a + m) (b + m) := by
  have e1 : swr d a b m (a + m) = d (a + m) := by unfold swr; rw [if_neg (by omega), if_neg (by omega)]
  have e2 : swr d a b m (b + m) = d (b + m) := by unfold swr; rw [if_neg (by omega), if_neg (by omega)]
  funext k
  unfold swp
  rw [e1, e2]
  by_cases h1 : k = a + m
  · rw [if_pos h1]; unfold swr; rw [if_pos (by omega)]; congr 1; omega
  · rw [if_neg h1]
    by_cases h2 : k = b + m
    · rw [if_pos h2]; unfold swr; rw [if_neg (by omega), if_pos (by omega)]; congr 1; omega
    · rw [if_neg h2]
      unfold swr
      by_cases h3 : a ≤ k ∧ k < a + m
      · rw [if_pos (by omega), if_pos h3]
      · rw [if_neg (by omega), if_neg h3]
        by_cases h4 : b ≤ k ∧ k < b + m
        · rw [if_pos (by omega), if_pos h4]
        · rw [if_neg (by omega), if_neg h4]
set_option maxRecDepth 100000 in
set_option maxHeartbeats 2000000 in
theorem swapRange_any (g n cap : Nat) (hn : n ≤ 4000) (a b m : Nat) (ha : a + m ≤ b) (hb : b + m ≤ n) (fv : Value) (W : World) (d : Nat → Seat) (h : Sts W g n d) :
    Calls Tryz.prog 350 #[.slice (some ⟨g, 0, none⟩) n cap, .int .i64 (a : Nat), .int .i64 (b : Nat), .int .i64 (m : Nat), fv] W fun e W' => e = .returned (.tuple #[]) ∧ Sts W' g n (swr d a b m) ∧ Kp g W W' := by
  have HD := hide h
  clear h
  go_enter Tryz.func350, Tryz.ntmps350
  go_wp2_with fail
  go_loopg [10] m (fun f i W' => ∃ k, k + f = m ∧ i = .int .i64 (k : Nat) ∧ Sts W' g n (swr d a b k) ∧ Kp g W W')
  case atStart => exact ⟨0, by omega, rfl, by rw [swr_zero]; exact unhide HD, Kp.refl _ _⟩
  case round =>
    obtain ⟨k, hkf, rfl, hs, hk⟩ := hrel
    have HS := hide hs
    have HK := hide hk
    cases gk with
    | zero =>
      have hlt : decide ((k : Int) < (m : Int)) = false := by simp; omega
      obtain rfl : k = m := by omega
      clear hs hk
      go_wp2
      go_end0
      exact ⟨rfl, unhide HS, unhide HK⟩
    | succ gm =>
      have hlt : decide ((k : Int) < (m : Int)) = true := by simp; omega
      have e1 : IntKind.i64.wrap ((a : Int) + (k : Int)) = ((a + k : Nat) : Int) := by unfold IntKind.wrap; simp [IntKind.bits, IntKind.signed]; omega
      have e2 : IntKind.i64.wrap ((b : Int) + (k : Int)) = ((b + k : Nat) : Int) := by unfold IntKind.wrap; simp [IntKind.bits, IntKind.signed]; omega
      obtain ⟨zg, x0, x1, x2⟩ := hs.at (k := a + k) (by omega)
      obtain ⟨-, y0, y1, y2⟩ := hs.at (k := b + k) (by omega)
      have fr := hs.free
      have hi1 : (0 : Int) ≤ ((a + k : Nat) : Int) := by omega
      have hi2 : ((a + k : Nat) : Int) < (n : Int) := by omega
      have hi3 : (0 : Int) ≤ ((b + k : Nat) : Int) := by omega
      have hi4 : ((b + k : Nat) : Int) < (n : Int) := by omega
      have hne : a + k ≠ b + k := by omega
      obtain ⟨sa, hsa⟩ : ∃ s, swr d a b k (a + k) = s := ⟨_, rfl⟩
      obtain ⟨sb, hsb⟩ : ∃ s, swr d a b k (b + k) = s := ⟨_, rfl⟩
      rw [hsa] at x0 x1 x2
      rw [hsb] at y0 y1 y2
      have HSW : Hid (Sts (swpW wr g (a + k) (b + k) sa sb) g n (swr d a b (k + 1))) := by
        show Sts _ g n _
        rw [swr_succ d (by omega)]
        exact hs.swap (by omega) (by omega) hsa hsb
      clear hs hk hsa hsb
      go_wp2_with fail
      go_region
      go_wp2
      go_roundg gm
      case measure => simp
      case rel =>
        refine ⟨k + 1, by omega, ?_, unhide HSW, swpW_kp (unhide HK)⟩
        go_num
end Go.Proofs.YtfkeddkfegaeiaaGreatDoor
namespace Go.Proofs.YtfkeddkfegaeiaaGreatDoor
open Go.RowKit
theorem rot_gt {α : Type} (d : Nat → α) {m i j : Nat} (h1 : j < i) (h2 : i ≤ m) : rot (swr d (m - i) m j) (m - (i - j)) m (m + j) = rot d (m - i) m (m + j) := by
  funext k
  unfold rot swr
  repeat' split
  all_goals first | rfl | (exfalso; omega) | (congr 1; omega)
theorem rot_lt {α : Type} (d : Nat → α) {m i j : Nat} (h1 : i < j) (h2 : i ≤ m) : rot (swr d (m - i) (m + j - i) i) (m - i) m (m + (j - i)) = rot d (m - i) m (m + j) := by
  funext k
  unfold rot swr
  repeat' split
  all_goals first | rfl | (exfalso; omega) | (congr 1; omega)
theorem rot_eq {α : Type} (d : Nat → α) {m i : Nat} (h2 : i ≤ m) : swr d (m - i) m i = rot d (m - i) m (m + i) := by
  funext k
  unfold rot swr
  repeat' split
  all_goals first | rfl | (exfalso; omega) | (congr 1; omega)
set_option maxRecDepth 100000 in
set_option maxHeartbeats 2000000 in
theorem rotate_any (g n cap : Nat) (hn : n ≤ 4000) (a m b : Nat) (ha : a < m) (hm : m < b) (hb : b ≤ n) (fv : Value) (W : World) (d : Nat → Seat) (h : Sts W g n d) :
    Calls Tryz.prog 345 #[.slice (some ⟨g, 0, none⟩) n cap, .int .i64 (a : Nat), .int .i64 (m : Nat), .int .i64 (b : Nat), fv] W fun e W' => e = .returned (.tuple #[]) ∧ Sts W' g n (rot d a m b) ∧ Kp g W W' := by
  have HSR : Hid (∀ (a b m : Nat) (W : World) (d : Nat → Seat), a + m ≤ b → b + m ≤ n → Sts W g n d → Calls Tryz.prog 350 #[.slice (some ⟨g, 0, none⟩) n cap, .int .i64 (a : Nat), .int .i64 (b : Nat), .int .i64 (m : Nat), fv] W fun e W' => e = .returned (.tuple #[]) ∧ Sts W' g n (swr d a b m) ∧ Kp g W W') := fun a b m W d h1 h2 h => swapRange_any g n cap hn a b m h1 h2 fv W d h
  have HD := hide h
  obtain ⟨D, hDD⟩ : ∃ D, D = rot d a m b := ⟨_, rfl⟩
  rw [← hDD]
  have HDD := hide hDD
  have e1 : IntKind.i64.wrap ((m : Int) - (a : Int)) = ((m - a : Nat) : Int) := by unfold IntKind.wrap; simp [IntKind.bits, IntKind.signed]; omega
  have e2 : IntKind.i64.wrap ((b : Int) - (m : Int)) = ((b - m : Nat) : Int) := by unfold IntKind.wrap; simp [IntKind.bits, IntKind.signed]; omega
  clear h hDD
  go_enter Tryz.func345, Tryz.ntmps345
  go_wp2_with fail
  go_loopg [10, 11] (m - a + (b - m)) (fun f iv jv W' => ∃ i j d', iv = .int .i64 (i : Nat) ∧ jv = .int .i64 (j : Nat) ∧ f = i + j ∧ 0 < i ∧ 0 < j ∧ i ≤ m - a ∧ j ≤ b - m ∧ Sts W' g n d' ∧ rot d' (m - i) m (m + j) = D ∧ Kp g W W')
  case atStart => exact ⟨m - a, b - m, d, rfl, rfl, rfl, by omega, by omega, Nat.le_refl _, Nat.le_refl _, unhide HD, by rw [unhide HDD, show m - (m - a) = a by omega, show m + (b - m) = b by omega], Kp.refl _ _⟩
  case round =>
    obtain ⟨i, j, d', rfl, rfl, rfl, hi0, hj0, hia, hjb, hs, hrd, hk⟩ := hrel
    have HS := hide hs
    have HRD := hide hrd
    have HK := hide hk
    have w1 : IntKind.i64.wrap ((m : Int) - (i : Int)) = ((m - i : Nat) : Int) := by unfold IntKind.wrap; simp [IntKind.bits, IntKind.signed]; omega
    clear hs hrd hk
    by_cases hij : i = j
    · subst hij
      have hne : ((i : Int) != (i : Int)) = false := by simp
      go_wp2_with fail
      refine ((unhide HSR) (m - i) m i _ d' (by omega) (by omega) (by exact unhide HS)).mono ?_
      rintro e W2 ⟨rfl, hs2, hk2⟩
      have HS2 := hide hs2
      have HK2 := hide ((unhide HK).trans hk2)
      clear hs2 hk2
      go_wp2
      go_end0
      refine ⟨rfl, ?_, unhide HK2⟩
      rw [← unhide HRD, ← rot_eq d' (by omega)]
      exact unhide HS2
    · have hne : ((i : Int) != (j : Int)) = true := by simp; omega
      by_cases hgt : j < i
      · have hlt : decide ((j : Int) < (i : Int)) = true := by simp; omega
        have w2 : IntKind.i64.wrap ((i : Int) - (j : Int)) = ((i - j : Nat) : Int) := by unfold IntKind.wrap; simp [IntKind.bits, IntKind.signed]; omega
        go_wp2_with fail
        refine ((unhide HSR) (m - i) m j _ d' (by omega) (by omega) (by exact unhide HS)).mono ?_
        rintro e W2 ⟨rfl, hs2, hk2⟩
        have HS2 := hide hs2
        have HK2 := hide ((unhide HK).trans hk2)
        clear hs2 hk2
        go_wp2
        go_roundg (i - j + j)
        case measure => omega
        case rel => exact ⟨i - j, j, _, rfl, rfl, rfl, by omega, hj0, by omega, hjb, unhide HS2, by rw [rot_gt d' hgt (by omega)]; exact unhide HRD, unhide HK2⟩
      · have hlt : decide ((j : Int) < (i : Int)) = false := by simp; omega
        have w2 : IntKind.i64.wrap ((j : Int) - (i : Int)) = ((j - i : Nat) : Int) := by unfold IntKind.wrap; simp [IntKind.bits, IntKind.signed]; omega
        have w4 : IntKind.i64.wrap ((m : Int) + (j : Int) - (i : Int)) = ((m + j - i : Nat) : Int) := by unfold IntKind.wrap; simp [IntKind.bits, IntKind.signed]; omega
        go_wp2_with fail
        show Calls Tryz.prog 350 #[.slice (some ⟨g, 0, none⟩) n cap, .int .i64 ((m - i : Nat) : Int), .int .i64 ((m + j - i : Nat) : Int), .int .i64 (i : Nat), fv] _ _
        refine ((unhide HSR) (m - i) (m + j - i) i _ d' (by omega) (by omega) (by exact unhide HS)).mono ?_
        rintro e W2 ⟨rfl, hs2, hk2⟩
        have HS2 := hide hs2
        have HK2 := hide ((unhide HK).trans hk2)
        clear hs2 hk2
        go_wp2
        go_roundg (i + (j - i))
        case measure => omega
        case rel => exact ⟨i, j - i, _, rfl, rfl, rfl, hi0, by omega, hia, by omega, unhide HS2, by rw [rot_lt d' (by omega) (by omega)]; exact unhide HRD, unhide HK2⟩
end Go.Proofs.YtfkeddkfegaeiaaGreatDoor
