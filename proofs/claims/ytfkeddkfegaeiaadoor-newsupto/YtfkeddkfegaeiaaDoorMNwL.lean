/-
  Part 16.
-/
import Derived.Test.YtfkeddkfegaeiaaDoorMNwK
import Derived.Test.YtfkeddkfegaeiaaDoorMDWalks
namespace Go.Proofs.YtfkeddkfegaeiaaDoor
open Go.RowKit

theorem Sents.keep {a : Nat → Addr} {w w' : World} (h : Sents a w) (hb : Below w.heap.size w w') : Sents a w' := by
  refine ⟨fun j hj => ?_, fun j hj => ?_, h.ne⟩
  · have hc := h.cell j hj
    have hlt : j < w.heap.size := by
      rcases Nat.lt_or_ge j w.heap.size with h' | h'
      · exact h'
      · simp [World.cell?, Array.getElem?_eq_none h'] at hc
    rw [hb.cell (p := ⟨j, 0, none⟩) hlt]; exact hc
  · obtain ⟨c, t, hr⟩ := h.row j hj
    exact ⟨c, t, by rw [hb.block _ (lt_of_heap hr)]; exact hr⟩
/-- the program's error of the document's number. -/
def errOf (a : Nat → Addr) (n : Int) : Value := if n = 0 then .nilIface else .iface 100 (.pointer (some (a (n - 1).toNat)))

set_option maxRecDepth 100000 in
set_option maxHeartbeats 4000000 in
theorem checkOne_any (a : Nat → Addr) (t : Tb) (cv rv lv : Value) (ahead : List Tb) (w : World) (hS : Sents a w) (hc : RowAt w cv (textsV t.cols)) (hcap : t.cols.length ≤ scap cv) (hr : RowsAt w rv t.rows) (hl : TabsAt w lv ahead) :
    Calls Tryd.prog 20 #[.agg #[.string t.name, cv, rv], lv] w fun e w' => e = .returned (errOf a (p6 t ahead)) ∧ Below w.heap.size w w' := by
  have HS := hide hS
  have HC := hide hc
  have HR := hide hr
  have HL := hide hl
  have HCAP := hide hcap
  obtain ⟨adc, capc, rfl, mc, _⟩ := hc
  obtain ⟨vs, ⟨adr, capr, rfl, mr, _⟩, lr, _⟩ := hr
  rw [List.length_map] at mc
  simp only [List.length_map] at *
  rw [lr] at mr
  rw [lr] at HR
  rw [lr]
  unfold maxLen at mc mr
  clear hS hl hcap
  have g3 := (unhide HS).cell 3 (by decide)
  have g6 := (unhide HS).cell 6 (by decide)
  have g8 := (unhide HS).cell 8 (by decide)
  have g9 := (unhide HS).cell 9 (by decide)
  have z3 : 3 < w.heap.size := World.block_lt_of_cell? w _ g3
  have z6 : 6 < w.heap.size := World.block_lt_of_cell? w _ g6
  have z8 : 8 < w.heap.size := World.block_lt_of_cell? w _ g8
  have z9 : 9 < w.heap.size := World.block_lt_of_cell? w _ g9
  have HB0 : Hid (Below w.heap.size w (w.alloc (.cells #[.string t.name, .slice adc t.cols.length capc, .slice adr t.rows.length capr] 56))) := (Below.refl _ _).alloc (Nat.le_refl _) _
  go_enter Tryd.func20, Tryd.ntmps20
  go_wp2_with fail
  refine (isName_any t.name _).mono ?_
  rintro e w1 ⟨rfl, hw1⟩
  subst hw1
  cases hn : nameB t.name.data.toList with
  | false =>
    have HN := hide hn
    clear hn
    go_wp2
    go_ret
    refine ⟨?_, unhide HB0⟩
    have e : p6 t ahead = 4 := by unfold p6; rw [unhide HN]; rfl
    rw [e]
    rfl
  | true =>
    have HN := hide hn
    clear hn
    go_wp2_with fail
    refine (hasNoName_any _ t.cols _ (by exact (unhide HC).keep (unhide HB0))).mono ?_
    rintro e w1 ⟨rfl, hw1⟩
    subst hw1
    cases hna : t.cols.any (fun c => !nameB c.data.toList) with
    | true =>
      have HNA := hide hna
      clear hna
      go_wp2
      go_ret
      refine ⟨?_, unhide HB0⟩
      have e : p6 t ahead = 4 := by unfold p6; rw [unhide HN, unhide HNA]; rfl
      rw [e]
      rfl
    | false =>
      have HNA := hide hna
      clear hna
      by_cases hbad : t.cols.length < 1 ∨ 6 < t.cols.length ∨ 200 < t.rows.length
      · have HE : Hid (p6 t ahead = 9) := by
          unfold Hid p6
          rw [unhide HN, unhide HNA, if_neg (by simp), if_pos]
          simp only [Bool.or_eq_true, decide_eq_true_eq]
          omega
        by_cases d1 : t.cols.length < 1
        · have hd1 : ((t.cols.length : Int) == 0) = true := by rw [beq_iff_eq]; omega
          go_wp2
          go_ret
          exact ⟨by rw [unhide HE]; rfl, unhide HB0⟩
        · have hd1 : ((t.cols.length : Int) == 0) = false := by rw [beq_eq_false_iff_ne]; omega
          by_cases d2 : 6 < t.cols.length
          · have hd2 : decide ((6 : Int) < (t.cols.length : Int)) = true := by simp; omega
            go_wp2
            go_ret
            exact ⟨by rw [unhide HE]; rfl, unhide HB0⟩
          · have hd2 : decide ((6 : Int) < (t.cols.length : Int)) = false := by simp; omega
            have hd3 : decide ((200 : Int) < (t.rows.length : Int)) = true := by simp; omega
            go_wp2
            go_ret
            exact ⟨by rw [unhide HE]; rfl, unhide HB0⟩
      · have hd1 : ((t.cols.length : Int) == 0) = false := by rw [beq_eq_false_iff_ne]; omega
        have hd2 : decide ((6 : Int) < (t.cols.length : Int)) = false := by simp; omega
        have hd3 : decide ((200 : Int) < (t.rows.length : Int)) = false := by simp; omega
        have HE : Hid (p6 t ahead = if ahead.any (fun u => u.name.toList == t.name.toList) || dupF [] t.cols then 7 else if t.rows.any (fun r => decide (r.length ≠ t.cols.length)) then 10 else 0) := by
          unfold Hid p6
          rw [unhide HN, unhide HNA, if_neg (by simp), if_neg]
          simp only [Bool.or_eq_true, decide_eq_true_eq]
          omega
        go_wp2_with fail
        refine (hasTable_any lv ahead t.name _ (by exact (unhide HL).keep (unhide HB0))).mono ?_
        rintro e w1 ⟨rfl, hb1⟩
        have HB1 : Hid (Below w.heap.size w w1) := (unhide HB0).trans (hb1.mono (by simp))
        have HX1 : Hid (w1.heap[w.heap.size]? = some (.cells #[.string t.name, .slice adc t.cols.length capc, .slice adr t.rows.length capr] 56 (0, 0))) := by
          unfold Hid
          rw [hb1.block _ (by simp)]
          exact heap_last rfl
        have kx1 := (blk (unhide HX1)).1
        have zx1 := lt_of_heap (unhide HX1)
        rw [← (unhide HB1).cell (p := ⟨6, 0, none⟩) z6] at g6
        rw [← (unhide HB1).cell (p := ⟨9, 0, none⟩) z9] at g9
        clear hb1 g3 g8 hd1 hd2 hd3
        cases hht : ahead.any (fun u => u.name.toList == t.name.toList) with
        | true =>
          have HHT := hide hht
          clear hht
          go_wp2
          go_ret
          refine ⟨?_, unhide HB1⟩
          have e : p6 t ahead = 7 := by rw [unhide HE, unhide HHT]; rfl
          rw [e]
          rfl
        | false =>
          have HHT := hide hht
          clear hht
          go_wp2_with fail
          refine (hasTwice_any _ t.cols _ (by exact (unhide HC).keep (unhide HB1)) (unhide HCAP)).mono ?_
          rintro e w2 ⟨rfl, hw2⟩
          obtain rfl := hw2.symm
          cases hdp : dupF [] t.cols with
          | true =>
            have HDP := hide hdp
            clear hdp
            go_wp2
            go_ret
            refine ⟨?_, unhide HB1⟩
            have e : p6 t ahead = 7 := by rw [unhide HE, unhide HHT, unhide HDP]; rfl
            rw [e]
            rfl
          | false =>
            have HDP := hide hdp
            clear hdp
            go_wp2_with fail
            refine (hasWide_any _ t.rows t.name adc t.cols.length capc _ w.heap.size _ (by exact (unhide HR).keep (unhide HB1)) (by exact unhide HX1)).mono ?_
            rintro e w2 ⟨rfl, hb2⟩
            have HB2 : Hid (Below w.heap.size w w2) := (unhide HB1).trans (hb2.mono (unhide HB1).size)
            rw [← hb2.cell (p := ⟨9, 0, none⟩) (Nat.lt_of_lt_of_le z9 (unhide HB1).size)] at g9
            clear hb2 kx1 zx1 g6 HX1
            cases hwd : t.rows.any (fun r => decide (r.length ≠ t.cols.length)) with
            | true =>
              have HWD := hide hwd
              clear hwd
              go_wp2
              go_ret
              refine ⟨?_, unhide HB2⟩
              have e : p6 t ahead = 10 := by rw [unhide HE, unhide HHT, unhide HDP, unhide HWD]; rfl
              rw [e]
              rfl
            | false =>
              have HWD := hide hwd
              clear hwd
              go_wp2
              go_ret
              refine ⟨?_, unhide HB2⟩
              have e : p6 t ahead = 0 := by rw [unhide HE, unhide HHT, unhide HDP, unhide HWD]; rfl
              rw [e]
              rfl
end Go.Proofs.YtfkeddkfegaeiaaDoor
