/-
  Part 42.
-/
import Derived.Test.YtfkeddkfegaeiaaGreatDoorRcPlCs
import Derived.Test.YtfkeddkfegaeiaaGreatDoorRcPlC
import Derived.Lib.AppendZeros
import Derived.Test.YtfkeddkfegaeiaaGreatDoorProg
import Derived.Conc.MuLone
import Derived.KernelRfl
namespace Go.Proofs.YtfkeddkfegaeiaaGreatDoor
open Go.RowKit
theorem own_ne {W : World} {lo : Nat} {T : TypeId} {k : Nat} {v : Value} {n : Nat} {xs : List Value} {b : Nat} (h : W.ownsRow lo T k v n xs) (hb : b < lo) : v.ownBlock ≠ some b := fun e => by
  have := (h.lt b e).1
  omega
theorem nmCells_at (pre : List Tk) (c : Tk) (suf : List Tk) : (nmCells (pre ++ c :: suf))[pre.length * 2]? = some (.int .i64 c.place) ∧ (nmCells (pre ++ c :: suf))[pre.length * 2 + 1]? = some (.string c.text) := by
  have hl : ∀ l : List Tk, (nmCells l).length = l.length * 2 := fun l => by
    induction l with
    | nil => rfl
    | cons a l ih => simp only [nmCells, List.flatMap_cons, List.length_append, List.length_cons, List.length_nil] at ih ⊢; omega
  have e : nmCells (pre ++ c :: suf) = nmCells pre ++ (.int .i64 c.place :: .string c.text :: nmCells suf) := by simp [nmCells]
  rw [e, List.getElem?_append_right (by rw [hl]; omega), List.getElem?_append_right (by rw [hl]; omega), hl]
  simp
theorem names_cells {w : World} {lo : Nat} {ad : Option Addr} {cap : Nat} {cols pre : List Tk} {c : Tk} {suf : List Tk} (h : w.ownsRow lo 240 2 (.slice ad cols.length cap) cols.length (nmCells cols)) (e : cols = pre ++ c :: suf) : ∃ g, ad = some ⟨g, 0, none⟩ ∧ g < w.heap.size ∧ w.cell? ⟨g, pre.length * 2, none⟩ = some (.int .i64 c.place) ∧ w.cell? ⟨g, pre.length * 2 + 1, none⟩ = some (.string c.text) := by
  have hl : cols.length = pre.length + (suf.length + 1) := by rw [e, List.length_append, List.length_cons]
  rcases h.2 with ⟨_, h2⟩ | ⟨g, cap', cur, h1, _, hb, _⟩
  · omega
  · injection h1 with e1 e2 e3
    subst e1 e3
    obtain ⟨q1, q2⟩ := nmCells_at pre c suf
    refine ⟨g, rfl, lt_of_heap hb, ?_, ?_⟩
    · rw [h.cellAt _ (by omega), e]; exact q1
    · rw [h.cellAt _ (by omega), e]; exact q2
set_option maxRecDepth 100000 in
set_option maxHeartbeats 2000000 in
theorem heading_ok (w : World) (b lo : Nat) (X : WithX) (vc vf vg : Value) (hb : w.heap[b]? = some (.cells #[.int .i64 X.place, .int .i64 X.name.place, .string X.name.text, vc, vf, .int .i64 X.union, vg, .int .i64 X.endp] 243 (0, 0))) (hc : w.ownsRow lo 240 2 vc X.cols.length (nmCells X.cols)) (hc9 : X.cols.length ≤ 6)
    (tb tof tc : Nat) (T : List Tb) (hT : TabsAt w (.slice (some ⟨tb, tof, none⟩) T.length tc) T) (hno : tabNo T X.name.text = none) (hnd : ∀ pre c suf, X.cols = pre ++ c :: suf → Lib.containsS (pre.map (·.text)) c.text = false) :
    Calls Tryz.prog 193 #[.pointer (some ⟨b, 0, none⟩), .slice (some ⟨tb, tof, none⟩) T.length tc] w fun e w' => Below w.heap.size w w' ∧ ∃ cv, e = .returned (.tuple #[.agg #[.string X.name.text, cv, .slice none 0 0], .nilIface]) ∧ w'.ownsRow w.heap.size 9 1 cv X.cols.length (textsV (X.cols.map (·.text))) := by
  obtain ⟨kb, -⟩ := blk hb
  have k2 : w.cell? ⟨b, 2, none⟩ = some (.string X.name.text) := kb 2
  have k3 : w.cell? ⟨b, 3, none⟩ = some vc := kb 3
  have zb := lt_of_heap hb
  obtain ⟨W1, hW1⟩ : ∃ W1, W1 = (w.alloc (.cells #[.string ⟨#[]⟩, .slice none 0 0, .slice none 0 0] 44)).alloc (.cells #[.string X.name.text, .slice none 0 0, .slice none 0 0] 44) := ⟨_, rfl⟩
  have hbw1 : Below w.heap.size w W1 := by
    rw [hW1]
    exact ((Below.refl _ _).alloc (Nat.le_refl _) _).alloc (by simp) _
  have hx0 : W1.heap[w.heap.size]? = some (.cells #[.string ⟨#[]⟩, .slice none 0 0, .slice none 0 0] 44 (0, 0)) := by
    rw [hW1]
    exact heap_prev (heap_last rfl)
  have hx1 : W1.heap[w.heap.size + 1]? = some (.cells #[.string X.name.text, .slice none 0 0, .slice none 0 0] 44 (0, 0)) := by
    rw [hW1]
    exact heap_last (by simp)
  have HTN := hide (tableNamed_any tb tof tc T X.name.text W1 (hT.keep hbw1))
  rw [hno] at HTN
  change Hid (Calls _ _ _ _ fun e w' => e = .returned (.pointer none) ∧ w' = W1) at HTN
  obtain ⟨ad, cap, rfl⟩ := owns_shape hc
  have HC := hide hc
  have HND := hide hnd
  have HW := hide hW1
  have HBW1 := hide hbw1
  have HX0 := hide hx0
  have HX1 := hide hx1
  clear hb kb hT hno hc hnd hW1 hbw1 hx0 hx1
  go_enter Tryz.func193, Tryz.ntmps193
  go_wp2_with fail
  rw [← unhide HW]
  refine (unhide HTN).mono ?_
  rintro e w1 ⟨rfl, hw1⟩
  obtain rfl := hw1.symm
  have k3' : W1.cell? ⟨b, 3, none⟩ = some (.slice ad X.cols.length cap) := ((unhide HBW1).cell (p := ⟨b, 3, none⟩) zb).trans k3
  have zb1 := Nat.lt_of_lt_of_le zb (unhide HBW1).size
  clear HTN k2 k3
  obtain ⟨i0, hi, hinf⟩ := Option.map_eq_some_iff.1 infoStr
  simp only [Prod.mk.injEq] at hinf
  obtain ⟨hz0, hz1, hz2⟩ := hinf
  have HI := hide hi
  have HZ0 := hide hz0
  have HZ1 := hide hz1
  have HZ2 := hide hz2
  clear hi hz0 hz1 hz2
  go_wp2_with fail
  clear k3' zb1
  go_loopg [8, 33] X.cols.length (fun f _ i W => ∃ pre suf cv, X.cols = pre ++ suf ∧ f = suf.length ∧ i = .int .i64 (pre.length : Nat) ∧ W.heap[w.heap.size]? = some (.cells #[.string ⟨#[]⟩, .slice none 0 0, .slice none 0 0] 44 (0, 0)) ∧ W.heap[w.heap.size + 1]? = some (.cells #[.string X.name.text, cv, .slice none 0 0] 44 (0, 0)) ∧ W.ownsRow (w.heap.size + 2) 9 1 cv pre.length (textsV (pre.map (·.text))) ∧ Below w.heap.size w W ∧ w.heap.size + 2 ≤ W.heap.size)
  case atStart => exact ⟨[], X.cols, _, rfl, rfl, rfl, unhide HX0, unhide HX1, World.ownsRow_nil _ _ _ _, unhide HBW1, lt_of_heap (unhide HX1)⟩
  case round =>
    obtain ⟨pre, suf, cv, h1, rfl, rfl, hx0, hx1, hcv, hbw, hz⟩ := hrel
    have l1 : pre.length + suf.length = X.cols.length := by rw [h1, List.length_append]
    have HZ := hide h1
    have HX0' := hide hx0
    have HX1' := hide hx1
    have HCV := hide hcv
    have HBW := hide hbw
    obtain ⟨adc, capc, rfl⟩ := owns_shape hcv
    obtain ⟨kx, fx⟩ := blk hx1
    have x1 : wr.cell? ⟨w.heap.size + 1, 1, none⟩ = some (.slice adc pre.length capc) := kx 1
    have x0 : wr.cell? ⟨w.heap.size + 1, 0, none⟩ = some (.string X.name.text) := kx 0
    have x2 : wr.cell? ⟨w.heap.size + 1, 2, none⟩ = some (.slice none 0 0) := kx 2
    have xf1 : wr.frozen? ⟨w.heap.size + 1, 1, none⟩ = false := fx 1
    clear h1 hx0 hcv hbw kx fx hx1
    cases suf with
    | nil =>
      have hlt : decide (pre.length < X.cols.length) = false := by simp at l1 ⊢; omega
      obtain ⟨kx, fx⟩ := blk (unhide HX0')
      have y0 : wr.cell? ⟨w.heap.size, 0, none⟩ = some (.string ⟨#[]⟩) := kx 0
      have y1 : wr.cell? ⟨w.heap.size, 1, none⟩ = some (.slice none 0 0) := kx 1
      have y2 : wr.cell? ⟨w.heap.size, 2, none⟩ = some (.slice none 0 0) := kx 2
      have yf0 : wr.frozen? ⟨w.heap.size, 0, none⟩ = false := fx 0
      have yf1 : wr.frozen? ⟨w.heap.size, 1, none⟩ = false := fx 1
      have yf2 : wr.frozen? ⟨w.heap.size, 2, none⟩ = false := fx 2
      clear kx fx
      go_wp2
      refine bodyPost_ret (v := .tuple #[.agg #[.string X.name.text, .slice adc pre.length capc, .slice none 0 0], .nilIface]) (by simp [results, Tryz.results193, go_sem, *]) rfl ?_
      refine ⟨(((unhide HBW).setCell (Nat.le_refl _) _).setCell (Nat.le_refl _) _).setCell (Nat.le_refl _) _, _, rfl, ?_⟩
      have e1 : X.cols = pre := by rw [unhide HZ, List.append_nil]
      rw [e1]
      exact owns_mono (owns_set (owns_set (owns_set (unhide HCV) (own_ne (unhide HCV) (by omega))) (own_ne (unhide HCV) (by omega))) (own_ne (unhide HCV) (by omega))) (by omega)
    | cons c suf =>
      rw [List.length_cons] at l1
      have hlt : decide (pre.length < X.cols.length) = true := by simp; omega
      have hz1 : w.heap.size + 1 < wr.heap.size := by omega
      have hz2 : w.heap.size < wr.heap.size := by omega
      obtain ⟨gc, rfl, zc, c0, c1⟩ := names_cells (unhide HC) (unhide HZ)
      have d0 : wr.cell? ⟨gc, pre.length * 2, none⟩ = some (.int .i64 c.place) := ((unhide HBW).cell (p := ⟨gc, pre.length * 2, none⟩) zc).trans c0
      have d1 : wr.cell? ⟨gc, pre.length * 2 + 1, none⟩ = some (.string c.text) := ((unhide HBW).cell (p := ⟨gc, pre.length * 2 + 1, none⟩) zc).trans c1
      have zc2 : gc < wr.heap.size := by omega
      have HCT := hide ((unhide HND) pre c suf (unhide HZ))
      clear c0 c1
      go_wp2_with fail
      refine (sContains_any _ (pre.map (·.text)) c.text _ (by exact (owns_rowAt (unhide HCV)).keep ((Below.refl _ _).alloc (Nat.le_refl _) _))).mono ?_
      rintro e w2 ⟨rfl, hw2⟩
      obtain rfl := hw2.symm
      rw [unhide HCT]
      go_wp2_with (at_builtin; refine wpList_append_lies _ rfl _ _ 39 rfl (w.heap.size + 2) 9 i0 (.string ⟨#[]⟩) 1 16 Tryz.underlying39 (unhide HI) (unhide HZ0) (unhide HZ1) (unhide HZ2) rfl (by decide) _ _ _ rfl (((unhide HCV).alloc _).alloc _) ⟨wr.heap.size + 1, 0, none⟩ 1 1 [.string c.text] ?c0 rfl ?c1 ?c2 (by decide) ?c3 ?c4 ?c5 _ rfl ?_)
      case c0 => simp [Act.eval]
      case c1 => exact news1 (heap_last (by simp))
      case c2 => exact one1s _
      case c3 => unfold maxLen; omega
      case c4 => omega
      case c5 => simp; omega
      intro g cap' w3 ho hg hat _
      have hb2 : Below wr.heap.size wr ((wr.alloc (.cells #[.int .i64 c.place, .string c.text] 240)).alloc (.cells #[.string c.text] 9)) := ((Below.refl _ _).alloc (Nat.le_refl _) _).alloc (by simp) _
      have hown := ((unhide HCV).alloc (.cells #[.int .i64 c.place, .string c.text] 240)).alloc (.cells #[.string c.text] 9)
      have hx0 : w3.heap[w.heap.size]? = some (.cells #[.string ⟨#[]⟩, .slice none 0 0, .slice none 0 0] 44 (0, 0)) := (hg.block _ (by simp; omega) (own_ne hown (by omega)).symm).trans ((hb2.block _ hz2).trans (unhide HX0'))
      have hx1 : w3.heap[w.heap.size + 1]? = some (.cells #[.string X.name.text, .slice adc pre.length capc, .slice none 0 0] 44 (0, 0)) := (hg.block _ (by simp; omega) (own_ne hown (by omega)).symm).trans ((hb2.block _ hz1).trans (unhide HX1'))
      have HBW3 : Hid (Below w.heap.size w w3) := (((unhide HBW).alloc (unhide HBW).size _).alloc (by simp; omega) _).grown hg (by simp; omega) (fun b e => by have := (hown.lt b e).1; omega)
      have HO3 := hide ho
      have HX03 := hide hx0
      have HX13 := hide hx1
      have hz3 : w.heap.size + 2 ≤ w3.heap.size := by have := hg.size; simp at this; omega
      obtain ⟨kx, fx⟩ := blk hx1
      have x13 : w3.cell? ⟨w.heap.size + 1, 1, none⟩ = some (.slice adc pre.length capc) := kx 1
      have xf3 : w3.frozen? ⟨w.heap.size + 1, 1, none⟩ = false := fx 1
      clear ho hg hat hb2 hown hx0 hx1 kx fx x0 x1 x2 xf1 d0 d1
      go_wp2
      go_roundg suf.length
      case measure => simp
      case rel =>
        refine ⟨pre ++ [c], suf, .slice (some ⟨g, 0, none⟩) (pre.length + 1) cap', by rw [unhide HZ]; simp, rfl, ?_, ?_, ?_, ?_, (unhide HBW3).setCell (by show w.heap.size ≤ w.heap.size + 1; omega) _, ?_⟩
        · rw [List.length_append]; go_num
        · rw [Below.heap_setCell _ _ _ _ (by show w.heap.size ≠ w.heap.size + 1; omega)]
          exact unhide HX03
        · rw [heap_set (unhide HX13)]
          rfl
        · rw [show textsV ((pre ++ [c]).map (·.text)) = textsV (pre.map (·.text)) ++ [.string c.text] by simp [textsV], List.length_append, List.length_singleton, show textsV (pre.map (·.text)) = pre.map (Value.string ∘ (·.text)) by simp [textsV]]
          exact owns_set (unhide HO3) (own_ne (unhide HO3) (by omega))
        · simpa [World.setCell] using hz3
end Go.Proofs.YtfkeddkfegaeiaaGreatDoor
namespace Go.Proofs.YtfkeddkfegaeiaaGreatDoor
open Go.RowKit
/-- tables' cells in a block of one's own: the first n are these, and none is a number. -/
structure TbRow (W : World) (lo g n cap : Nat) (cs : List Value) : Prop where
  low : lo ≤ g
  lies : ∃ cur : Array Value, W.heap[g]? = some (.cells cur 44 (0, 0)) ∧ cur.size = cap * 3 ∧ cur.toList.take (n * 3) = cs ∧ ∀ v ∈ cur.toList, ∀ z, v ≠ .int .i64 z
  fits : n ≤ cap
  max : cap ≤ maxLen
theorem TbRow.below {W W' : World} {lo g n cap : Nat} {cs : List Value} (h : TbRow W lo g n cap cs) (hb : Below W.heap.size W W') : TbRow W' lo g n cap cs := by
  obtain ⟨cur, h1, h2⟩ := h.lies
  exact ⟨h.low, ⟨cur, (hb.block g (lt_of_heap h1)).trans h1, h2⟩, h.fits, h.max⟩
theorem zero_noint (n : Nat) : ∀ v ∈ (Builtin.zeroCells (Value.agg #[.string ⟨#[]⟩, .slice none 0 0, .slice none 0 0]).cells n).toList, ∀ z, v ≠ .int .i64 z := by
  intro v hv z e
  simp only [Builtin.zeroCells, Array.toList_map, List.mem_map] at hv
  obtain ⟨i, -, rfl⟩ := hv
  have h3 : i % 3 < 3 := Nat.mod_lt _ (by decide)
  have hc : (Value.agg #[.string ⟨#[]⟩, .slice none 0 0, .slice none 0 0]).cells = #[.string ⟨#[]⟩, .slice none 0 0, .slice none 0 0] := rfl
  rw [hc] at e
  have : i % 3 = 0 ∨ i % 3 = 1 ∨ i % 3 = 2 := by omega
  rcases this with h | h | h <;> simp [h] at e
set_option maxRecDepth 100000 in
set_option maxHeartbeats 2000000 in
theorem sGrow_nil (n : Nat) (w : World) (hn0 : 0 < n) (hn : n ≤ 1000) :
    Calls Tryz.prog 243 #[.slice none 0 0, .int .i64 (n : Nat)] w fun e w' => ∃ cap, n ≤ cap ∧ e = .returned (.slice (some ⟨w.heap.size, 0, none⟩) 0 cap) ∧ TbRow w' w.heap.size w.heap.size 0 cap [] ∧ Below w.heap.size w w' := by
  have h1 : decide ((n : Int) < 0) = false := by simp
  have h2 : decide ((0 : Int) < (n : Int)) = true := by simp; omega
  obtain ⟨i0, hi, hinf⟩ := Option.map_eq_some_iff.1 infoTab
  simp only [Prod.mk.injEq] at hinf
  obtain ⟨hz0, hz1, hz2⟩ := hinf
  have hrun := fun ty => Lib.run_append_nil_zeros (P := Tryz.prog) w 84 3 ty 44 i0 _ .i64 .i64 Tryz.underlying84 Tryz.underlying3 hi hz0 n hn0 (by omega) (by omega) (by rw [hz2]; omega)
  have hge := grownCap_ge w n 0 44
  have hle := grownCap_le_maxLen w n 0 44 (by unfold maxLen; omega)
  generalize grownCap w n 0 44 = cap at *
  have HR := hide hrun
  have hi0 : (0 : Int) ≤ (cap : Int) := by omega
  clear hi hz0 hz1 hz2 hrun
  go_enter Tryz.func243, Tryz.ntmps243
  go_wp2_with (at_builtin; refine Lib.wpList_append_run _ rfl _ _ _ _ rfl _ _ rfl rfl _ _ ((unhide HR) _) ?_)
  go_wp2
  go_ret
  have hbl : Below w.heap.size w (w.drew.alloc (.cells (Builtin.zeroCells (Value.agg #[.string ⟨#[]⟩, .slice none 0 0, .slice none 0 0]).cells n ++ Builtin.zeroCells (Value.agg #[.string ⟨#[]⟩, .slice none 0 0, .slice none 0 0]).cells (cap - n)) 44)) := (Below.refl _ _).drew.alloc (Nat.le_refl _) _
  refine ⟨cap, hge, rfl, ⟨Nat.le_refl _, ⟨_, heap_last rfl, ?_, by simp, fun v hv => ?_⟩, Nat.zero_le _, hle⟩, hbl⟩
  · rw [Array.size_append]
    simp only [Builtin.zeroCells, Array.size_map, Array.size_range]
    rw [← Nat.add_mul]
    congr 1
    omega
  · rw [Array.toList_append, List.mem_append] at hv
    rcases hv with hv | hv
    · exact zero_noint _ v hv
    · exact zero_noint _ v hv
/-- a slice of tables, with its cells. -/
structure Pt where
  ad : Addr
  n : Nat
  c : Nat
  cs : List Value
def Pt.v (p : Pt) : Value := .slice (some p.ad) p.n p.c
structure Pt.Ok (w : World) (p : Pt) : Prop where
  pos : 0 < p.n
  len : p.cs.length = p.n * 3
  cells : ∀ j u, p.cs[j]? = some u → w.cell? (p.ad.add j) = some u
  one : ∀ u ∈ p.cs, u.oneCell' = true
  noint : ∀ u ∈ p.cs, ∀ z, u ≠ .int .i64 z
  low : p.ad.block < w.heap.size
def sumN (l : List Pt) : Nat := (l.map (·.n)).sum
theorem heap_setRow {w : World} {g : Nat} {cur cs : Array Value} {t : TypeId} {f : Nat × Nat} (h : w.heap[g]? = some (.cells cur t f)) : (w.setRow g cs).heap[g]? = some (.cells cs t f) := by
  simp only [World.setRow, Array.getElem?_modify, if_pos, h, Option.map_some]
theorem sumN_snoc (l : List Pt) (p : Pt) : sumN (l ++ [p]) = sumN l + p.n := by simp [sumN]
theorem TbRow.put {W : World} {lo g n cap : Nat} {cs : List Value} {p : Pt} (h : TbRow W lo g n cap cs) (hn : n + p.n ≤ cap) (hp : p.Ok W) (i0 : TypeInfo) (hi : Tryz.prog.info? 44 = some i0) (hs : i0.size = 3) (ty : TypeId) : ∃ W', (Builtin.append_ #[84, 84] ty #[.slice (some ⟨g, 0, none⟩) n cap, .slice (some p.ad) p.n p.c]).run Tryz.prog W = .ok (.slice (some ⟨g, 0, none⟩) (n + p.n) cap) W' ∧ TbRow W' lo g (n + p.n) cap (cs ++ p.cs) ∧ W.grownBy W' (some g) := by
  obtain ⟨cur, h1, h2, h3, h4⟩ := h.lies
  have hl := hp.len
  have hnc : n * 3 ≤ cap * 3 := Nat.mul_le_mul_right 3 h.fits
  have hnc2 : (n + p.n) * 3 ≤ cap * 3 := Nat.mul_le_mul_right 3 hn
  have hrun := run_append_room (P := Tryz.prog) (w := W) 84 ty 44 i0 Tryz.underlying84 hi g n cap cur h1 p.ad p.n p.c p.cs (by rw [hs]; exact hl) hp.cells hp.one hn (by rw [hs]; omega)
  rw [hs] at hrun
  have hcl : (cur.toList.take (n * 3)).length = n * 3 := by simp [List.length_take]; omega
  refine ⟨_, hrun, ⟨h.low, ⟨_, heap_setRow h1, ?_, ?_, fun v hv => ?_⟩, hn, h.max⟩, grownBy_setRow _ _ _⟩
  · simp only [List.size_toArray, List.length_append, hcl, List.length_drop, Array.length_toList, hl, h2]
    omega
  · show ((cur.toList.take (n * 3) ++ p.cs ++ cur.toList.drop (n * 3 + p.cs.length)).take ((n + p.n) * 3)) = _
    rw [List.take_append_of_le_length (by rw [List.length_append, hcl, hl]; omega), List.take_of_length_le (by rw [List.length_append, hcl, hl]; omega), h3]
  · have hv' : v ∈ cur.toList.take (n * 3) ++ p.cs ++ cur.toList.drop (n * 3 + p.cs.length) := hv
    rw [List.mem_append, List.mem_append] at hv'
    rcases hv' with (hv' | hv') | hv'
    · exact h4 v (List.mem_of_mem_take hv')
    · exact hp.noint v hv'
    · exact h4 v (List.mem_of_mem_drop hv')
theorem Pt.Ok.below {w w' : World} {p : Pt} (h : p.Ok w) (hb : Below w.heap.size w w') : p.Ok w' :=
  ⟨h.pos, h.len, fun j u e => by
    have hk : (p.ad.add j).block = p.ad.block := by unfold Addr.add; split <;> rfl
    have := hb.cell (p := p.ad.add j) (by rw [hk]; exact h.low)
    rw [this]; exact h.cells j u e, h.one, h.noint, Nat.lt_of_lt_of_le h.low hb.size⟩
set_option maxRecDepth 100000 in
set_option maxHeartbeats 2000000 in
theorem concat_any (w : World) (sb : Nat) (P : List Pt) (hsb : w.heap[sb]? = some (.cells (P.map Pt.v).toArray 84 (0, 0))) (hP : ∀ p ∈ P, p.Ok w) (hp0 : 0 < P.length) (hp9 : P.length ≤ 10) (hs : sumN P ≤ 1000) :
    Calls Tryz.prog 195 #[.slice (some ⟨sb, 0, none⟩) P.length P.length] w fun e w' => ∃ g cap, e = .returned (.slice (some ⟨g, 0, none⟩) (sumN P) cap) ∧ TbRow w' w.heap.size g (sumN P) cap (P.flatMap (·.cs)) ∧ Below w.heap.size w w' := by
  obtain ⟨kb, -⟩ := blk hsb
  have zs := lt_of_heap hsb
  have HK : Hid (∀ (pre : List Pt) p suf, P = pre ++ p :: suf → w.cell? ⟨sb, pre.length, none⟩ = some p.v) := fun pre p suf e => by
    rw [kb, e]
    simp
  have HP := hide hP
  clear hsb kb hP
  obtain ⟨i0, hi, hinf⟩ := Option.map_eq_some_iff.1 infoTab
  simp only [Prod.mk.injEq] at hinf
  obtain ⟨hz0, hz1, hz2⟩ := hinf
  have HI := hide hi
  have HZ1 := hide hz1
  clear hi hz0 hz1 hz2
  go_enter Tryz.func195, Tryz.ntmps195
  go_wp2_with fail
  go_loopg [3, 5, 11] P.length (fun f sz _ i W => ∃ pre suf, P = pre ++ suf ∧ f = suf.length ∧ i = .int .i64 (pre.length : Nat) ∧ sz = .int .i64 (sumN pre : Nat) ∧ W = w)
  case atStart => exact ⟨[], P, rfl, rfl, rfl, rfl, rfl⟩
  case round =>
    obtain ⟨pre, suf, h1, rfl, rfl, rfl, hw⟩ := hrel
    obtain rfl := hw.symm
    have l1 : pre.length + suf.length = P.length := by rw [h1, List.length_append]
    have HZ := hide h1
    clear h1
    cases suf with
    | nil =>
      have hlt : decide (pre.length < P.length) = false := by simp at l1 ⊢; omega
      have hlt2 : decide ((pre.length : Int) < (P.length : Int)) = false := by simp at l1 ⊢; omega
      have e1 : pre = P := by rw [unhide HZ, List.append_nil]
      subst e1
      have hpos : 0 < sumN pre := by
        cases pre with
        | nil => simp at hp0
        | cons p q =>
          have := ((unhide HP) p List.mem_cons_self).pos
          simp [sumN]
          omega
      have HGR := hide (sGrow_nil (sumN pre) w hpos hs)
      clear HZ l1
      go_wp2_with fail
      refine (unhide HGR).mono ?_
      rintro e w1 ⟨cap, hcap, rfl, hown, hb1⟩
      have HO1 := hide hown
      have HB1 := hide hb1
      clear hown hb1 HGR hlt hlt2
      go_wp2_with fail
      go_loopg [6, 8, 27] pre.length (fun f v _ i W => ∃ p1 suf g cap, pre = p1 ++ suf ∧ f = suf.length ∧ i = .int .i64 (p1.length : Nat) ∧ v = .slice (some ⟨g, 0, none⟩) (sumN p1) cap ∧ sumN pre ≤ cap ∧ TbRow W w.heap.size g (sumN p1) cap (p1.flatMap (·.cs)) ∧ Below w.heap.size w W)
      case atStart => exact ⟨[], pre, _, cap, rfl, rfl, rfl, rfl, hcap, unhide HO1, unhide HB1⟩
      case round =>
        obtain ⟨p1, suf, g, cp, h1, rfl, rfl, rfl, hcp, hown, hbw⟩ := hrel
        have l1 : p1.length + suf.length = pre.length := by rw [h1, List.length_append]
        have HZ := hide h1
        have HO := hide hown
        have HB := hide hbw
        clear h1 hown hbw
        cases suf with
        | nil =>
          have hlt : decide (p1.length < pre.length) = false := by simp at l1 ⊢; omega
          have hlt2 : decide ((p1.length : Int) < (pre.length : Int)) = false := by simp at l1 ⊢; omega
          have e1 : p1 = pre := by rw [unhide HZ, List.append_nil]
          subst e1
          go_wp2
          go_ret
          exact ⟨g, cp, rfl, unhide HO, unhide HB⟩
        | cons p suf =>
          rw [List.length_cons] at l1
          have hlt : decide (p1.length < pre.length) = true := by simp; omega
          have hlt2 : decide ((p1.length : Int) < (pre.length : Int)) = true := by simp; omega
          have k1 : wr.cell? ⟨sb, p1.length, none⟩ = some (.slice (some p.ad) p.n p.c) := ((unhide HB).cell (p := ⟨sb, p1.length, none⟩) zs).trans ((unhide HK) p1 p suf (unhide HZ))
          have zs2 : sb < wr.heap.size := Nat.lt_of_lt_of_le zs (unhide HB).size
          have hok := ((unhide HP) p (by rw [unhide HZ]; simp)).below (unhide HB)
          have HOK := hide hok
          have hsm : sumN p1 + p.n ≤ 1000 := by
            have : sumN pre = sumN p1 + (p.n + sumN suf) := by rw [unhide HZ]; simp [sumN]
            omega
          have hbd : sumN p1 + p.n ≤ cp := by
            have : sumN pre = sumN p1 + (p.n + sumN suf) := by rw [unhide HZ]; simp [sumN]
            omega
          obtain ⟨w3, HRUN, ho, hg⟩ : ∃ w3, Hid (∀ ty, (Builtin.append_ #[84, 84] ty #[.slice (some ⟨g, 0, none⟩) (sumN p1) cp, .slice (some p.ad) p.n p.c]).run Tryz.prog wr = .ok (.slice (some ⟨g, 0, none⟩) (sumN p1 + p.n) cp) w3) ∧ TbRow w3 w.heap.size g (sumN p1 + p.n) cp (p1.flatMap (·.cs) ++ p.cs) ∧ wr.grownBy w3 (some g) := by
            obtain ⟨w3, h1, h2, h3⟩ := (unhide HO).put hbd hok i0 (unhide HI) (unhide HZ1) 84
            exact ⟨w3, fun ty => h1, h2, h3⟩
          have HO3 := hide ho
          have HB3 : Hid (Below w.heap.size w w3) := (unhide HB).grown hg (unhide HB).size (fun b e => by injection e with e; rw [← e]; exact (unhide HO).low)
          clear ho hg hok
          go_wp2_with (at_builtin; refine Lib.wpList_append_run _ rfl _ _ _ _ rfl _ _ ?c0 ?c1 _ _ ((unhide HRUN) _) ?_)
          case c0 => simp [Act.eval]
          case c1 => simp [Act.eval]
          clear k1
          go_wp2
          go_roundg suf.length
          case measure => simp
          case rel =>
            refine ⟨p1 ++ [p], suf, g, cp, by rw [unhide HZ]; simp, rfl, ?_, by rw [sumN_snoc], hcp, ?_, unhide HB3⟩
            · rw [List.length_append]; go_num
            · rw [sumN_snoc, List.flatMap_append]
              simpa using unhide HO3
    | cons p suf =>
      rw [List.length_cons] at l1
      have hlt : decide (pre.length < P.length) = true := by simp; omega
      have hlt2 : decide ((pre.length : Int) < (P.length : Int)) = true := by simp; omega
      have k1 : w.cell? ⟨sb, pre.length, none⟩ = some (.slice (some p.ad) p.n p.c) := (unhide HK) pre p suf (unhide HZ)
      have hsm : sumN pre + p.n ≤ 1000 := by
        have : sumN P = sumN pre + (p.n + sumN suf) := by rw [unhide HZ]; simp [sumN]
        omega
      have hw1 : IntKind.i64.wrap ((sumN pre : Int) + (p.n : Int)) = ((sumN pre + p.n : Nat) : Int) := by unfold IntKind.wrap; simp [IntKind.bits, IntKind.signed]; omega
      have hneg : decide (((sumN pre + p.n : Nat) : Int) < 0) = false := by simp; omega
      go_wp2
      go_roundg suf.length
      case measure => simp
      case rel =>
        refine ⟨pre ++ [p], suf, by rw [unhide HZ]; simp, rfl, ?_, ?_, rfl⟩
        · rw [List.length_append]; go_num
        · rw [sumN_snoc]; go_num
end Go.Proofs.YtfkeddkfegaeiaaGreatDoor
namespace Go.Proofs.YtfkeddkfegaeiaaGreatDoor
open Go
abbrev muLink : Go.Conc.Locks.MuLink := { lock := 76, unlock := 77, ilock := 119, iunlock := 120, lockSlow := 185, unlockSlow := 188, disable := 174, enable := 176, acquire := 177, relMerge := 186, cas32 := 184, add32 := 187, tMutex := 135, tIMutex := 133, tPMutex := 282, tPIMutex := 342, tPI32 := 344, tUP := 336, tNoCopy := 130, tU32 := 131 }
theorem muLib : Go.Conc.Locks.MuLib Tryz.prog muLink :=
  ⟨Tryz.func76, Tryz.func77, Tryz.func119, Tryz.func120, Tryz.func174, Tryz.func176, Tryz.func177, Tryz.func186, Tryz.func184, Tryz.func187,
   Tryz.underlying133, Tryz.runUnderlying133, Tryz.sizeOf133, Tryz.isAgg133, Tryz.zeroValue133,
   Tryz.underlying135, Tryz.runUnderlying135, Tryz.sizeOf135, Tryz.isAgg135, Tryz.zeroValue135,
   Tryz.underlying282, Tryz.runUnderlying282, Tryz.sizeOf282, Tryz.isAgg282, Tryz.zeroValue282,
   Tryz.underlying342, Tryz.runUnderlying342, Tryz.sizeOf342, Tryz.isAgg342, Tryz.zeroValue342,
   Tryz.underlying344, Tryz.runUnderlying344, Tryz.sizeOf344, Tryz.isAgg344, Tryz.zeroValue344,
   Tryz.underlying336, Tryz.runUnderlying336, Tryz.sizeOf336, Tryz.isAgg336, Tryz.zeroValue336,
   Tryz.underlying130, Tryz.runUnderlying130, Tryz.sizeOf130, Tryz.isAgg130, Tryz.zeroValue130,
   Tryz.underlying21, Tryz.runUnderlying21, Tryz.sizeOf21, Tryz.isAgg21, Tryz.zeroValue21,
   (by kernel_rfl)⟩
end Go.Proofs.YtfkeddkfegaeiaaGreatDoor
