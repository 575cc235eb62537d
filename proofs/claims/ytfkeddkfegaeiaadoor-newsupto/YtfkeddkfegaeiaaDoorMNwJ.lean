/-
  Part 14.
-/
import Derived.Test.YtfkeddkfegaeiaaDoorMNwI
namespace Go.Proofs.YtfkeddkfegaeiaaDoor
open Go.RowKit

set_option maxHeartbeats 400000 in
theorem isNoName_any (s : ByteArray) (w : World) : Calls Tryd.prog 27 #[.string s] w fun e w' => e = .returned (.bool (!nameB s.data.toList)) ∧ w' = w := by
  go_enter Tryd.func27, Tryd.ntmps27
  go_wp2_with fail
  refine (isName_any s _).mono ?_
  rintro e w1 ⟨rfl, hw1⟩
  obtain rfl := hw1.symm
  go_wp2
  go_ret
  exact ⟨rfl, rfl⟩
set_option maxRecDepth 100000 in
set_option maxHeartbeats 1000000 in
theorem indexNoName_any (a : Value) (ts : List ByteArray) (w : World) (ha : RowAt w a (textsV ts)) :
    Calls Tryd.prog 39 #[a, .func (.func 27) #[] #[]] w fun e w' => ∃ n : Int, e = .returned (.int .i64 n) ∧ decide (0 ≤ n) = ts.any (fun c => !nameB c.data.toList) ∧ w' = w := by
  obtain ⟨ada, capa, rfl, ma, ca⟩ := ha
  rw [List.length_map] at ma ca
  unfold maxLen at ma
  simp only [List.length_map]
  have HCA := hide ca
  clear ca
  go_enter Tryd.func39, Tryd.ntmps39
  go_wp2_with fail
  go_loopg [5, 8] ts.length (fun f j i W => ∃ pre suf, ts = pre ++ suf ∧ f = suf.length ∧ i = .int .i64 (pre.length : Nat) ∧ pre.any (fun c => !nameB c.data.toList) = false ∧ W = w)
  case atStart => exact ⟨[], ts, rfl, rfl, rfl, rfl, rfl⟩
  case round =>
    obtain ⟨pre, suf, h1, rfl, rfl, hal, hw⟩ := hrel
    obtain rfl := hw.symm
    have l1 : pre.length + suf.length = ts.length := by rw [h1, List.length_append]
    have HZ := hide h1
    have HAL := hide hal
    clear h1 hal
    cases suf with
    | nil =>
      have hlt : decide (pre.length < ts.length) = false := by simp at l1 ⊢; omega
      go_wp2
      go_ret
      refine ⟨-1, rfl, ?_, rfl⟩
      rw [unhide HZ, List.append_nil, unhide HAL]
      rfl
    | cons z suf =>
      rw [List.length_cons] at l1
      have hlt : decide (pre.length < ts.length) = true := by simp; omega
      obtain ⟨b1, o1, rfl, z1, c1⟩ := (unhide HCA) (by omega)
      have k1 : w.cell? ⟨b1, o1 + pre.length, none⟩ = some (.string z) := by
        rw [c1 _ (by omega), unhide HZ]
        simp
      have HZ2 : Hid (ts = (pre ++ [z]) ++ suf) := by unfold Hid; rw [unhide HZ]; simp
      clear c1
      go_wp2_with fail
      refine (isNoName_any z _).mono ?_
      rintro e w1 ⟨rfl, hw1⟩
      obtain rfl := hw1.symm
      cases hnz : nameB z.data.toList with
      | false =>
        have HNZ := hide hnz
        go_wp2
        go_ret
        refine ⟨(pre.length : Int), rfl, ?_, rfl⟩
        rw [unhide HZ, List.any_append, List.any_cons, unhide HNZ]
        simp
      | true =>
        have HNZ := hide hnz
        go_wp2
        go_roundg suf.length
        case measure => simp
        case rel =>
          refine ⟨pre ++ [z], suf, unhide HZ2, rfl, ?_, ?_, rfl⟩
          · rw [List.length_append]; go_num
          · rw [List.any_append, unhide HAL, List.any_cons, unhide HNZ]; rfl
set_option maxHeartbeats 1000000 in
theorem hasNoName_any (a : Value) (ts : List ByteArray) (w : World) (ha : RowAt w a (textsV ts)) :
    Calls Tryd.prog 26 #[a, .func (.func 27) #[] #[]] w fun e w' => e = .returned (.bool (ts.any (fun c => !nameB c.data.toList))) ∧ w' = w := by
  have HA := hide ha
  clear ha
  go_enter Tryd.func26, Tryd.ntmps26
  go_wp2_with fail
  refine (indexNoName_any a ts _ (by exact unhide HA)).mono ?_
  rintro e w1 ⟨n, rfl, hn, hw1⟩
  obtain rfl := hw1.symm
  have HN := hide hn
  clear hn
  go_wp2
  go_ret
  exact ⟨by rw [← unhide HN]; rfl, rfl⟩

/-! ### names of tables -/
set_option maxHeartbeats 400000 in
theorem named_any (nm : ByteArray) (cv rv : Value) (s : ByteArray) (g : Nat) (w : World) (hg : w.heap[g]? = some (.cells #[.string s] 9 (0, 0))) :
    Calls Tryd.prog 41 #[.agg #[.string nm, cv, rv], .pointer (some ⟨g, 0, none⟩)] w fun e w' => e = .returned (.bool (nm.toList == s.toList)) ∧ Below w.heap.size w w' := by
  have k1 := (blk hg).1 0
  have z1 := lt_of_heap hg
  clear hg
  go_enter Tryd.func41, Tryd.ntmps41
  go_wp2
  go_ret
  exact ⟨rfl, (Below.refl _ _).alloc (Nat.le_refl _) _⟩
set_option maxRecDepth 100000 in
set_option maxHeartbeats 1000000 in
theorem indexNamed_any (lv : Value) (l : List Tb) (s : ByteArray) (g : Nat) (w : World) (hl : TabsAt w lv l) (hg : w.heap[g]? = some (.cells #[.string s] 9 (0, 0))) :
    Calls Tryd.prog 44 #[lv, .func (.func 41) #[] #[.pointer (some ⟨g, 0, none⟩)]] w fun e w' => ∃ n : Int, e = .returned (.int .i64 n) ∧ decide (0 ≤ n) = l.any (fun u => u.name.toList == s.toList) ∧ Below w.heap.size w w' := by
  have HL := hide hl
  have HG := hide hg
  clear hg
  obtain ⟨adl, capl, rfl, ml, mcap, cl⟩ := hl
  unfold maxLen at ml
  have HCL := hide cl
  clear cl
  go_enter Tryd.func44, Tryd.ntmps44
  go_wp2_with fail
  go_loopg [5, 8] l.length (fun f j i W => ∃ pre suf, l = pre ++ suf ∧ f = suf.length ∧ i = .int .i64 (pre.length : Nat) ∧ pre.any (fun u => u.name.toList == s.toList) = false ∧ Below w.heap.size w W)
  case atStart => exact ⟨[], l, rfl, rfl, rfl, rfl, Below.refl _ _⟩
  case round =>
    obtain ⟨pre, suf, h1, rfl, rfl, hal, hbw⟩ := hrel
    have l1 : pre.length + suf.length = l.length := by rw [h1, List.length_append]
    have HZ := hide h1
    have HAL := hide hal
    have HB := hide hbw
    clear h1 hal hbw
    cases suf with
    | nil =>
      have hlt : decide (pre.length < l.length) = false := by simp at l1 ⊢; omega
      go_wp2
      go_ret
      refine ⟨-1, rfl, ?_, unhide HB⟩
      rw [unhide HZ, List.append_nil, unhide HAL]
      rfl
    | cons t suf =>
      rw [List.length_cons] at l1
      have hlt : decide (pre.length < l.length) = true := by simp; omega
      obtain ⟨b1, o1, rfl, z1, c1⟩ := (unhide HCL) (by omega)
      obtain ⟨cv, rv, _, k1, k2, k3⟩ := c1 pre.length t (by rw [unhide HZ]; simp)
      rw [← (unhide HB).cell (p := ⟨b1, o1 + pre.length * 3, none⟩) z1] at k1
      rw [← (unhide HB).cell (p := ⟨b1, o1 + pre.length * 3 + 1, none⟩) z1] at k2
      rw [← (unhide HB).cell (p := ⟨b1, o1 + pre.length * 3 + 2, none⟩) z1] at k3
      have HZ2 : Hid (l = (pre ++ [t]) ++ suf) := by unfold Hid; rw [unhide HZ]; simp
      clear c1
      go_wp2_with fail
      refine (named_any t.name cv rv s g _ (by rw [(unhide HB).block g (lt_of_heap (unhide HG))]; exact unhide HG)).mono ?_
      rintro e w1 ⟨rfl, hb1⟩
      have HB1 : Hid (Below w.heap.size w w1) := (unhide HB).trans (hb1.mono (unhide HB).size)
      clear hb1 k1 k2 k3
      cases hnz : (t.name.toList == s.toList) with
      | true =>
        have HNZ := hide hnz
        go_wp2
        go_ret
        refine ⟨(pre.length : Int), rfl, ?_, unhide HB1⟩
        rw [unhide HZ, List.any_append, List.any_cons, unhide HNZ]
        simp
      | false =>
        have HNZ := hide hnz
        go_wp2
        go_roundg suf.length
        case measure => simp
        case rel =>
          refine ⟨pre ++ [t], suf, unhide HZ2, rfl, ?_, ?_, unhide HB1⟩
          · rw [List.length_append]; go_num
          · rw [List.any_append, unhide HAL, List.any_cons, unhide HNZ]; rfl
set_option maxHeartbeats 1000000 in
theorem hasNamed_any (lv : Value) (l : List Tb) (s : ByteArray) (g : Nat) (w : World) (hl : TabsAt w lv l) (hg : w.heap[g]? = some (.cells #[.string s] 9 (0, 0))) :
    Calls Tryd.prog 40 #[lv, .func (.func 41) #[] #[.pointer (some ⟨g, 0, none⟩)]] w fun e w' => e = .returned (.bool (l.any (fun u => u.name.toList == s.toList))) ∧ Below w.heap.size w w' := by
  have HL := hide hl
  have HG := hide hg
  clear hl hg
  go_enter Tryd.func40, Tryd.ntmps40
  go_wp2_with fail
  refine (indexNamed_any lv l s g _ (by exact unhide HL) (by exact unhide HG)).mono ?_
  rintro e w1 ⟨n, rfl, hn, hb1⟩
  have HN := hide hn
  have HB := hide hb1
  clear hn hb1
  go_wp2
  go_ret
  exact ⟨by rw [← unhide HN]; rfl, unhide HB⟩
set_option maxHeartbeats 400000 in
theorem hasTable_any (lv : Value) (l : List Tb) (s : ByteArray) (w : World) (hl : TabsAt w lv l) :
    Calls Tryd.prog 28 #[lv, .string s] w fun e w' => e = .returned (.bool (l.any (fun u => u.name.toList == s.toList))) ∧ Below w.heap.size w w' := by
  have HL := hide hl
  clear hl
  go_enter Tryd.func28, Tryd.ntmps28
  go_wp2_with fail
  refine (hasNamed_any lv l s w.heap.size _ ((unhide HL).keep ((Below.refl _ _).alloc (Nat.le_refl _) _)) (heap_last rfl)).mono ?_
  rintro e w1 ⟨rfl, hb1⟩
  have HB : Hid (Below w.heap.size w w1) := ((Below.refl _ _).alloc (Nat.le_refl _) _).trans (hb1.mono (by simp))
  clear hb1
  go_wp2
  go_ret
  exact ⟨rfl, unhide HB⟩

/-! ### rows of another width -/
theorem bne_nat (n m : Nat) : ((n : Int) != (m : Int)) = decide (n ≠ m) := by
  rw [Bool.eq_iff_iff, bne_iff_ne, decide_eq_true_eq]
  omega
set_option maxHeartbeats 400000 in
theorem wide_any (ad : Option Addr) (n c : Nat) (nm : ByteArray) (adc : Option Addr) (m cc : Nat) (rv : Value) (g : Nat) (w : World) (hg : w.heap[g]? = some (.cells #[.string nm, .slice adc m cc, rv] 56 (0, 0))) :
    Calls Tryd.prog 31 #[.slice ad n c, .pointer (some ⟨g, 0, none⟩)] w fun e w' => e = .returned (.bool (decide (n ≠ m))) ∧ Below w.heap.size w w' := by
  have k1 := (blk hg).1
  have z1 := lt_of_heap hg
  clear hg
  go_enter Tryd.func31, Tryd.ntmps31
  go_wp2
  go_ret
  exact ⟨by simp [decide_not, bne_nat], Below.refl _ _⟩
set_option maxRecDepth 100000 in
set_option maxHeartbeats 1000000 in
theorem indexWide_any (rv : Value) (rows : List (List Int)) (nm : ByteArray) (adc : Option Addr) (m cc : Nat) (rv' : Value) (g : Nat) (w : World) (hr : RowsAt w rv rows) (hg : w.heap[g]? = some (.cells #[.string nm, .slice adc m cc, rv'] 56 (0, 0))) :
    Calls Tryd.prog 43 #[rv, .func (.func 31) #[] #[.pointer (some ⟨g, 0, none⟩)]] w fun e w' => ∃ n : Int, e = .returned (.int .i64 n) ∧ decide (0 ≤ n) = rows.any (fun r => decide (r.length ≠ m)) ∧ Below w.heap.size w w' := by
  have HG := hide hg
  clear hg
  obtain ⟨vs, ⟨adr, capr, rfl, mr, cr⟩, lr, rr⟩ := hr
  rw [lr] at mr cr
  rw [lr]
  unfold maxLen at mr
  have HCR := hide cr
  have HRR := hide rr
  clear cr rr
  go_enter Tryd.func43, Tryd.ntmps43
  go_wp2_with fail
  go_loopg [5, 8] rows.length (fun f j i W => ∃ pre suf, rows = pre ++ suf ∧ f = suf.length ∧ i = .int .i64 (pre.length : Nat) ∧ pre.any (fun r => decide (r.length ≠ m)) = false ∧ Below w.heap.size w W)
  case atStart => exact ⟨[], rows, rfl, rfl, rfl, rfl, Below.refl _ _⟩
  case round =>
    obtain ⟨pre, suf, h1, rfl, rfl, hal, hbw⟩ := hrel
    have l1 : pre.length + suf.length = rows.length := by rw [h1, List.length_append]
    have HZ := hide h1
    have HAL := hide hal
    have HB := hide hbw
    clear h1 hal hbw
    cases suf with
    | nil =>
      have hlt : decide (pre.length < rows.length) = false := by simp at l1 ⊢; omega
      go_wp2
      go_ret
      refine ⟨-1, rfl, ?_, unhide HB⟩
      rw [unhide HZ, List.append_nil, unhide HAL]
      rfl
    | cons r suf =>
      rw [List.length_cons] at l1
      have hlt : decide (pre.length < rows.length) = true := by simp; omega
      obtain ⟨b1, o1, rfl, z1, c1⟩ := (unhide HCR) (by omega)
      obtain ⟨u, hu⟩ : ∃ u, vs[pre.length]? = some u := ⟨vs[pre.length]'(by omega), List.getElem?_eq_getElem _⟩
      have k1 : wr.cell? ⟨b1, o1 + pre.length, none⟩ = some u := by
        rw [(unhide HB).cell (p := ⟨b1, o1 + pre.length, none⟩) z1, c1 _ (by omega), hu]
      obtain ⟨adu, capu, rfl, _, _⟩ := (unhide HRR) pre.length r u (by rw [unhide HZ]; simp) hu
      rw [List.length_map] at k1
      have HZ2 : Hid (rows = (pre ++ [r]) ++ suf) := by unfold Hid; rw [unhide HZ]; simp
      clear c1 hu
      go_wp2_with fail
      refine (wide_any adu r.length capu nm adc m cc rv' g _ (by rw [(unhide HB).block g (lt_of_heap (unhide HG))]; exact unhide HG)).mono ?_
      rintro e w1 ⟨rfl, hb1⟩
      have HB1 : Hid (Below w.heap.size w w1) := (unhide HB).trans (hb1.mono (unhide HB).size)
      clear hb1 k1
      cases hnz : decide (r.length ≠ m) with
      | true =>
        have HNZ := hide hnz
        go_wp2
        go_ret
        refine ⟨(pre.length : Int), rfl, ?_, unhide HB1⟩
        rw [unhide HZ, List.any_append, List.any_cons, unhide HNZ]
        simp
      | false =>
        have HNZ := hide hnz
        go_wp2
        go_roundg suf.length
        case measure => simp
        case rel =>
          refine ⟨pre ++ [r], suf, unhide HZ2, rfl, ?_, ?_, unhide HB1⟩
          · rw [List.length_append]; go_num
          · rw [List.any_append, unhide HAL, List.any_cons, unhide HNZ]; rfl
set_option maxHeartbeats 1000000 in
theorem hasWide_any (rv : Value) (rows : List (List Int)) (nm : ByteArray) (adc : Option Addr) (m cc : Nat) (rv' : Value) (g : Nat) (w : World) (hr : RowsAt w rv rows) (hg : w.heap[g]? = some (.cells #[.string nm, .slice adc m cc, rv'] 56 (0, 0))) :
    Calls Tryd.prog 30 #[rv, .func (.func 31) #[] #[.pointer (some ⟨g, 0, none⟩)]] w fun e w' => e = .returned (.bool (rows.any (fun r => decide (r.length ≠ m)))) ∧ Below w.heap.size w w' := by
  have HL := hide hr
  have HG := hide hg
  clear hr hg
  go_enter Tryd.func30, Tryd.ntmps30
  go_wp2_with fail
  refine (indexWide_any rv rows nm adc m cc rv' g _ (by exact unhide HL) (by exact unhide HG)).mono ?_
  rintro e w1 ⟨n, rfl, hn, hb1⟩
  have HN := hide hn
  have HB := hide hb1
  clear hn hb1
  go_wp2
  go_ret
  exact ⟨by rw [← unhide HN]; rfl, unhide HB⟩
end Go.Proofs.YtfkeddkfegaeiaaDoor
