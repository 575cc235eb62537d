/-
  Part 27.
-/
import Derived.Test.YtfkeddkfegaeiaaDoorMNwW
import Derived.Test.YtfkeddkfegaeiaaDoorMNwR
namespace Go.Proofs.YtfkeddkfegaeiaaDoor
open Go.RowKit

theorem guard_wrong : Tryd.prog.eqGuardType Tryd.prog.depth 46 = false := by kernel_rfl
theorem eql_wrong (n p : Int) (w : World) : (Op.equalIn 10000 46 (.agg #[.int .i64 n, .int .i64 p]) (.agg #[.int .i64 n, .int .i64 p])).run Tryd.prog w = .ok true w := by
  have u3 := Tryd.underlying3
  have a3 := Tryd.isAgg3
  have z3 := Tryd.sizeOf3
  have hS : Tryd.prog.underlying 46 = some (.struct (Tryd.prog.fieldsOf 46)) := by kernel_rfl
  have hp : Tryd.prog.stoodInHeld 46 = false := by kernel_rfl
  rw [show (10000 : Nat) = 9999 + 1 from rfl, run_equalIn_agg w 9999 46 _ _ hS hp]
  simp only [Program.fieldsOf, Tryd.underlying46]
  go_simp

set_option maxRecDepth 100000 in
set_option maxHeartbeats 4000000 in
theorem made_bad (a : Nat → Addr) (qv : Value) (l : List Tb) (w : World) (hS : Sents a w) (hl : TabsAt w qv l) (hf : Fit l) (h6 : p6all l ≠ 0) :
    Calls Tryd.prog 6 #[qv] w fun e w' => ∃ x y : Option Addr, e = .returned (.tuple #[.agg #[.pointer x, .pointer y], .bool true]) ∧ Below w.heap.size w w' := by
  have HS := hide hS
  have HL := hide hl
  have HFT := hide hf
  clear hS hf
  obtain ⟨adl, capl, rfl, ml, mcap, q0⟩ := hl
  clear q0
  unfold maxLen at ml
  have HB0 : Hid (Below w.heap.size w (w.alloc (.cells #[.pointer none, .pointer none] 31))) := (Below.refl _ _).alloc (Nat.le_refl _) _
  go_enter Tryd.func6, Tryd.ntmps6
  go_wp2_with fail
  refine (lend_any _ l _ (by exact (unhide HL).keep (unhide HB0)) (unhide HFT)).mono ?_
  rintro e w1 ⟨p, F, tv, cv, rv, lv, ts, cs, rs, ls, rfl, hp, hlt, hln, hgr, hb1⟩
  have HB1 : Hid (Below w.heap.size w w1) := (unhide HB0).trans (hb1.mono (by simp))
  have HX1 : Hid (w1.heap[w.heap.size]? = some (.cells #[.pointer none, .pointer none] 31 (0, 0))) := by
    unfold Hid
    rw [hb1.block _ (by simp)]
    exact heap_last rfl
  have HLT := hide hlt
  have HGR := hide hgr
  obtain ⟨bt, ct, rfl, _, _⟩ := hln.tab.form (by omega)
  have HLN := hide hln
  clear hlt hgr hln hb1
  have HFX : Hid (∀ b o, F b = some o → w1.heap[b]? = some o) := fun b o e => ((unhide HGR).fits b o e).2
  have HTA := hide (lent_tabs (unhide HFX) (unhide HLT) (unhide HLN) (unhide HFT))
  have hct : l.length ≤ ct := by
    obtain ⟨_, _, e, _, h, _⟩ := unhide HTA
    injection e with _ _ e
    omega
  simp only [World.size_alloc] at hp
  have c0 : w1.cell? ⟨p, 0, none⟩ = some (.slice (some ⟨bt, 0, none⟩) (l.length + 8) ct) := by rw [(blk (unhide HLN).box).1]; rfl
  have zp := lt_of_heap (unhide HLN).box
  go_wp2_with fail
  refine (pNew_bad a _ l _ (by exact (unhide HS).keep (unhide HB1)) (by exact unhide HTA) h6).mono ?_
  rintro e w2 ⟨rfl, hb2⟩
  have HB2 : Hid (Below w.heap.size w w2) := (unhide HB1).trans (hb2.mono (unhide HB1).size)
  have HW2 := hide hb2
  clear hb2 c0
  go_wp2_with fail
  refine (rNew_any _ l _ (by exact (unhide HL).keep (unhide HB2))).mono ?_
  rintro e w3 ⟨gy, rfl, hgy, _, hb3⟩
  have HB3 : Hid (Below w.heap.size w w3) := (unhide HB2).trans (hb3.mono (unhide HB2).size)
  have HW3 : Hid (Below w1.heap.size w1 w3) := (unhide HW2).trans (hb3.mono (unhide HW2).size)
  rw [show rNewV l gy = .tuple #[.pointer none, .agg #[.int .i64 (p6all l), .int .i64 (-1)]] from by unfold rNewV; rw [if_neg h6]]
  have HWR := hide (fun w' hS' => wrong_p6 a l w' hS' h6)
  generalize p6all l = pn at *
  generalize errOf a pn = ev at *
  clear hb3 hgy
  have z01 := (unhide HB1).size
  have z13 := (unhide HW3).size
  have HB3' := hide ((unhide HB3).alloc (unhide HB3).size (.cells #[.int .i64 pn, .int .i64 (-1)] 46))
  have HW3' := hide ((unhide HW3).alloc z13 (.cells #[.int .i64 pn, .int .i64 (-1)] 46))
  go_wp2_with fail
  refine (unspoilt_any p _ F _ cv rv lv _ ts cs rs ls l _ (by exact (unhide HL).keep (unhide HB3')) (unhide HFT) (unhide HLT) (by exact (unhide HLN).below (unhide HW3')) (by intro b o e; have h := (unhide HFX) b o e; rw [(unhide HW3').block b (lt_of_heap h)]; exact h)).mono ?_
  rintro e w4 ⟨rfl, hb4⟩
  have HB4 : Hid (Below w.heap.size w w4) := (unhide HB3').trans (hb4.mono (by simp; omega))
  have HW4 : Hid (Below w1.heap.size w1 w4) := (unhide HW3').trans (hb4.mono (by simp; omega))
  have HXW : Hid (w4.heap[w3.heap.size]? = some (.cells #[.int .i64 pn, .int .i64 (-1)] 46 (0, 0))) := by
    unfold Hid
    rw [hb4.block _ (by simp)]
    exact heap_last rfl
  clear hb4
  have z14 := (unhide HW4).size
  have hrm := (unhide HLT).rooms (unhide HFT).cols (unhide HFT).rows (unhide HFT).row
  have hz := (unhide HFT).len
  have hnr := (unhide HFT).nrows
  have HSI : Hid (SI (w.heap.size + 1) w1.heap.size p w4 w4 (.slice (some ⟨bt, 0, none⟩) (l.length + 8) ct) cv rv lv (l.length + 8) l.length l.length (nrows l) cs rs ls F (ts ++ pads 8)) := by
    have hln := (unhide HLN).below (unhide HW4)
    have hg := (unhide HGR).below (unhide HW4)
    simp only [World.size_alloc] at hln hg
    exact ⟨hln, hg, hrm.1, hrm.2.1, hrm.2.2, fun b o e => (unhide HGR).ltF e, fun b e => ((unhide HGR).off _ (by simp) b e).2.2.2, Sp.refl _ _ _⟩
  clear hrm
  go_wp2_with fail
  refine (spoil_any (w.heap.size + 1) w1.heap.size p _ l.length (nrows l) _ _ cv rv lv cs rs ls F _ (by exact unhide HSI) (by omega) (by omega) (by omega) (by omega)).mono ?_
  rintro e w5 ⟨rfl, hsp⟩
  have HB5 : Hid (Below w.heap.size w w5) := (unhide HB4).trans ((hsp.below (by omega)).mono (by omega))
  have HXW5 : Hid (w5.heap[w3.heap.size]? = some (.cells #[.int .i64 pn, .int .i64 (-1)] 46 (0, 0))) := by
    unfold Hid
    rw [hsp.block _ (Or.inr z13) (lt_of_heap (unhide HXW))]
    exact unhide HXW
  have HX5 : Hid (w5.heap[w.heap.size]? = some (.cells #[.pointer none, .pointer none] 31 (0, 0))) := by
    unfold Hid
    have h1 := lt_of_heap (unhide HX1)
    rw [hsp.block _ (Or.inl (by omega)) (by omega), (unhide HW4).block _ h1]
    exact unhide HX1
  clear hsp
  go_wp2_with fail
  refine ((unhide HWR) _ (by exact (unhide HS).keep (unhide HB5))).mono ?_
  rintro e w6 ⟨rfl, hb6⟩
  have HB6 : Hid (Below w.heap.size w w6) := (unhide HB5).trans (hb6.mono (unhide HB5).size)
  have HXW6 : Hid (w6.heap[w3.heap.size]? = some (.cells #[.int .i64 pn, .int .i64 (-1)] 46 (0, 0))) := by
    unfold Hid
    rw [hb6.block _ (lt_of_heap (unhide HXW5))]
    exact unhide HXW5
  have HX6 : Hid (w6.heap[w.heap.size]? = some (.cells #[.pointer none, .pointer none] 31 (0, 0))) := by
    unfold Hid
    rw [hb6.block _ (lt_of_heap (unhide HX5))]
    exact unhide HX5
  clear hb6
  obtain ⟨kw, fw⟩ := blk (unhide HXW6)
  obtain ⟨kx, fx⟩ := blk (unhide HX6)
  have zw := lt_of_heap (unhide HXW6)
  have zx := lt_of_heap (unhide HX6)
  go_wp2_with fail
  have HF : Hid ((((w6.setCell ⟨w.heap.size, 0, none⟩ (.pointer none)).setCell ⟨w.heap.size, 1, none⟩ (.pointer none)).alloc (.cells #[.int .i64 pn, .int .i64 (-1)] 46)).heap[w.heap.size]? = some (.cells #[(.pointer none), (.pointer none)] 31 (0, 0))) := heap_prev (heap_set (heap_set (unhide HX6) _) _)
  have j := (blk (unhide HF)).1
  refine bodyPost_ret (v := .tuple #[.agg #[(.pointer none), (.pointer none)], .bool true]) (by simp [results, Tryd.results6, go_sem, j]) rfl ⟨_, _, rfl, ?_⟩
  exact (((unhide HB6).setCell (Nat.le_refl _) _).setCell (Nat.le_refl _) _).alloc (by have := (unhide HB6).size; simpa using this) _
set_option maxRecDepth 100000 in
set_option maxHeartbeats 4000000 in
theorem made_good (a : Nat → Addr) (qv : Value) (l : List Tb) (w : World) (hS : Sents a w) (hl : TabsAt w qv l) (hf : Fit l) (h6 : p6all l = 0) :
    Calls Tryd.prog 6 #[qv] w fun e w' => ∃ x y : Option Addr, e = .returned (.tuple #[.agg #[.pointer x, .pointer y], .bool true]) ∧ Below w.heap.size w w' := by
  have HS := hide hS
  have HL := hide hl
  have HFT := hide hf
  clear hS hf
  obtain ⟨adl, capl, rfl, ml, mcap, q0⟩ := hl
  clear q0
  unfold maxLen at ml
  have HB0 : Hid (Below w.heap.size w (w.alloc (.cells #[.pointer none, .pointer none] 31))) := (Below.refl _ _).alloc (Nat.le_refl _) _
  go_enter Tryd.func6, Tryd.ntmps6
  go_wp2_with fail
  refine (lend_any _ l _ (by exact (unhide HL).keep (unhide HB0)) (unhide HFT)).mono ?_
  rintro e w1 ⟨p, F, tv, cv, rv, lv, ts, cs, rs, ls, rfl, hp, hlt, hln, hgr, hb1⟩
  have HB1 : Hid (Below w.heap.size w w1) := (unhide HB0).trans (hb1.mono (by simp))
  have HX1 : Hid (w1.heap[w.heap.size]? = some (.cells #[.pointer none, .pointer none] 31 (0, 0))) := by
    unfold Hid
    rw [hb1.block _ (by simp)]
    exact heap_last rfl
  have HLT := hide hlt
  have HGR := hide hgr
  obtain ⟨bt, ct, rfl, _, _⟩ := hln.tab.form (by omega)
  have HLN := hide hln
  clear hlt hgr hln hb1
  have HFX : Hid (∀ b o, F b = some o → w1.heap[b]? = some o) := fun b o e => ((unhide HGR).fits b o e).2
  have HTA := hide (lent_tabs (unhide HFX) (unhide HLT) (unhide HLN) (unhide HFT))
  have hct : l.length ≤ ct := by
    obtain ⟨_, _, e, _, h, _⟩ := unhide HTA
    injection e with _ _ e
    omega
  simp only [World.size_alloc] at hp
  have c0 : w1.cell? ⟨p, 0, none⟩ = some (.slice (some ⟨bt, 0, none⟩) (l.length + 8) ct) := by rw [(blk (unhide HLN).box).1]; rfl
  have zp := lt_of_heap (unhide HLN).box
  go_wp2_with fail
  refine (pNew_good a _ l _ (by exact (unhide HS).keep (unhide HB1)) (by exact unhide HTA) h6).mono ?_
  rintro e w2 ⟨q, mm, gg, F', D, rfl, _, _, _, _, _, _, hb2⟩
  have HB2 : Hid (Below w.heap.size w w2) := (unhide HB1).trans (hb2.mono (unhide HB1).size)
  have HW2 := hide hb2
  clear hb2 c0
  go_wp2_with fail
  refine (rNew_any _ l _ (by exact (unhide HL).keep (unhide HB2))).mono ?_
  rintro e w3 ⟨gy, rfl, hgy, _, hb3⟩
  have HB3 : Hid (Below w.heap.size w w3) := (unhide HB2).trans (hb3.mono (unhide HB2).size)
  have HW3 : Hid (Below w1.heap.size w1 w3) := (unhide HW2).trans (hb3.mono (unhide HW2).size)
  rw [show rNewV l gy = .tuple #[.pointer (some ⟨gy, 0, none⟩), .agg #[.int .i64 0, .int .i64 0]] from by unfold rNewV; rw [if_pos h6]]
  clear hb3 hgy
  have z01 := (unhide HB1).size
  have z13 := (unhide HW3).size
  have HB3' := hide ((unhide HB3).alloc (unhide HB3).size (.cells #[.int .i64 0, .int .i64 0] 46))
  have HW3' := hide ((unhide HW3).alloc z13 (.cells #[.int .i64 0, .int .i64 0] 46))
  go_wp2_with fail
  refine (unspoilt_any p _ F _ cv rv lv _ ts cs rs ls l _ (by exact (unhide HL).keep (unhide HB3')) (unhide HFT) (unhide HLT) (by exact (unhide HLN).below (unhide HW3')) (by intro b o e; have h := (unhide HFX) b o e; rw [(unhide HW3').block b (lt_of_heap h)]; exact h)).mono ?_
  rintro e w4 ⟨rfl, hb4⟩
  have HB4 : Hid (Below w.heap.size w w4) := (unhide HB3').trans (hb4.mono (by simp; omega))
  have HW4 : Hid (Below w1.heap.size w1 w4) := (unhide HW3').trans (hb4.mono (by simp; omega))
  have HXW : Hid (w4.heap[w3.heap.size]? = some (.cells #[.int .i64 0, .int .i64 0] 46 (0, 0))) := by
    unfold Hid
    rw [hb4.block _ (by simp)]
    exact heap_last rfl
  clear hb4
  have z14 := (unhide HW4).size
  have hrm := (unhide HLT).rooms (unhide HFT).cols (unhide HFT).rows (unhide HFT).row
  have hz := (unhide HFT).len
  have hnr := (unhide HFT).nrows
  have HSI : Hid (SI (w.heap.size + 1) w1.heap.size p w4 w4 (.slice (some ⟨bt, 0, none⟩) (l.length + 8) ct) cv rv lv (l.length + 8) l.length l.length (nrows l) cs rs ls F (ts ++ pads 8)) := by
    have hln := (unhide HLN).below (unhide HW4)
    have hg := (unhide HGR).below (unhide HW4)
    simp only [World.size_alloc] at hln hg
    exact ⟨hln, hg, hrm.1, hrm.2.1, hrm.2.2, fun b o e => (unhide HGR).ltF e, fun b e => ((unhide HGR).off _ (by simp) b e).2.2.2, Sp.refl _ _ _⟩
  clear hrm
  go_wp2_with fail
  refine (spoil_any (w.heap.size + 1) w1.heap.size p _ l.length (nrows l) _ _ cv rv lv cs rs ls F _ (by exact unhide HSI) (by omega) (by omega) (by omega) (by omega)).mono ?_
  rintro e w5 ⟨rfl, hsp⟩
  have HB5 : Hid (Below w.heap.size w w5) := (unhide HB4).trans ((hsp.below (by omega)).mono (by omega))
  have HXW5 : Hid (w5.heap[w3.heap.size]? = some (.cells #[.int .i64 0, .int .i64 0] 46 (0, 0))) := by
    unfold Hid
    rw [hsp.block _ (Or.inr z13) (lt_of_heap (unhide HXW))]
    exact unhide HXW
  have HX5 : Hid (w5.heap[w.heap.size]? = some (.cells #[.pointer none, .pointer none] 31 (0, 0))) := by
    unfold Hid
    have h1 := lt_of_heap (unhide HX1)
    rw [hsp.block _ (Or.inl (by omega)) (by omega), (unhide HW4).block _ h1]
    exact unhide HX1
  clear hsp
  go_wp2_with fail
  refine (wrong_nil _).mono ?_
  rintro e w6 ⟨rfl, hb6⟩
  have HB6 : Hid (Below w.heap.size w w6) := (unhide HB5).trans (hb6.mono (unhide HB5).size)
  have HXW6 : Hid (w6.heap[w3.heap.size]? = some (.cells #[.int .i64 0, .int .i64 0] 46 (0, 0))) := by
    unfold Hid
    rw [hb6.block _ (lt_of_heap (unhide HXW5))]
    exact unhide HXW5
  have HX6 : Hid (w6.heap[w.heap.size]? = some (.cells #[.pointer none, .pointer none] 31 (0, 0))) := by
    unfold Hid
    rw [hb6.block _ (lt_of_heap (unhide HX5))]
    exact unhide HX5
  clear hb6
  obtain ⟨kw, fw⟩ := blk (unhide HXW6)
  obtain ⟨kx, fx⟩ := blk (unhide HX6)
  have zw := lt_of_heap (unhide HXW6)
  have zx := lt_of_heap (unhide HX6)
  go_wp2_with fail
  have HF : Hid ((((w6.setCell ⟨w.heap.size, 0, none⟩ (.pointer (some ⟨q, 0, none⟩))).setCell ⟨w.heap.size, 1, none⟩ (.pointer (some ⟨gy, 0, none⟩))).alloc (.cells #[.int .i64 0, .int .i64 0] 46)).heap[w.heap.size]? = some (.cells #[.pointer (some ⟨q, 0, none⟩), .pointer (some ⟨gy, 0, none⟩)] 31 (0, 0))) := heap_prev (heap_set (heap_set (unhide HX6) _) _)
  have j := (blk (unhide HF)).1
  refine bodyPost_ret (v := .tuple #[.agg #[.pointer (some ⟨q, 0, none⟩), .pointer (some ⟨gy, 0, none⟩)], .bool true]) (by simp [results, Tryd.results6, go_sem, j]) rfl ⟨_, _, rfl, ?_⟩
  exact (((unhide HB6).setCell (Nat.le_refl _) _).setCell (Nat.le_refl _) _).alloc (by have := (unhide HB6).size; simpa using this) _
set_option maxRecDepth 100000 in
set_option maxHeartbeats 1000000 in
theorem news_any (a : Nat → Addr) (qv : Value) (l : List Tb) (w : World) (hS : Sents a w) (hl : TabsAt w qv l) (hf : Fit l) :
    Calls Tryd.prog 4 #[qv] w fun e w' => e = .returned (.bool true) ∧ Below w.heap.size w w' := by
  have HM : Hid (Calls Tryd.prog 6 #[qv] w fun e w' => ∃ x y : Option Addr, e = .returned (.tuple #[.agg #[.pointer x, .pointer y], .bool true]) ∧ Below w.heap.size w w') := by
    by_cases h6 : p6all l = 0
    · exact made_good a qv l w hS hl hf h6
    · exact made_bad a qv l w hS hl hf h6
  clear hS hl hf
  go_enter Tryd.func4, Tryd.ntmps4
  go_wp2_with fail
  refine (unhide HM).mono ?_
  rintro e w1 ⟨x, y, rfl, hb⟩
  have HB := hide hb
  clear hb
  go_wp2
  go_ret
  exact ⟨rfl, ((unhide HB).alloc (unhide HB).size _)⟩
end Go.Proofs.YtfkeddkfegaeiaaDoor
