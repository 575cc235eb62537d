/-
  Part 37.
-/
import Derived.Test.YtfkeddkfegaeiaaGreatDoorMNwH
import Derived.Test.YtfkeddkfegaeiaaGreatDoorJ29
namespace Go.Proofs.YtfkeddkfegaeiaaGreatDoor
open Go.RowKit

set_option maxHeartbeats 400000 in
theorem isNoName_any (s : ByteArray) (w : World) : Calls Tryz.prog 137 #[.string s] w fun e w' => e = .returned (.bool (!nameB s.data.toList)) ∧ w' = w := by
  go_enter Tryz.func137, Tryz.ntmps137
  go_wp2_with fail
  refine (isName_any s _).mono ?_
  rintro e w1 ⟨rfl, hw1⟩
  obtain rfl := hw1.symm
  go_wp2
  go_ret
  exact ⟨rfl, rfl⟩
set_option maxRecDepth 100000 in
set_option maxHeartbeats 1000000 in
theorem indexNoName_any (a : Value) (ts : List ByteArray) (w : World) (ha : RowAt w a (textsV ts)) :
    Calls Tryz.prog 209 #[a, .func (.func 137) #[] #[]] w fun e w' => ∃ n : Int, e = .returned (.int .i64 n) ∧ decide (0 ≤ n) = ts.any (fun c => !nameB c.data.toList) ∧ w' = w := by
  obtain ⟨ada, capa, rfl, ma, ca⟩ := ha
  rw [List.length_map] at ma ca
  unfold maxLen at ma
  simp only [List.length_map]
  have HCA := hide ca
  clear ca
  go_enter Tryz.func209, Tryz.ntmps209
  go_wp2_with fail
  go_loopg [5, 8] ts.length (fun f j i W => ∃ pre suf, ts = pre ++ suf ∧ f = suf.length ∧ i = .int .i64 (pre.length : Nat) ∧ pre.any (fun c => !nameB c.data.toList) = false ∧ W = w)
  case atStart => exact ⟨[], ts, rfl, rfl, rfl, rfl, rfl⟩
  case round =>
    obtain ⟨pre, suf, h1, rfl, rfl, hal, hw⟩ := hrel
    obtain rfl := hw.symm
    have l1 : pre.length + suf.length = ts.length := by rw [h1, List.length_append]
    have HZ := hide h1
    have HAL := hide hal
    clear h1 hal
    cases suf with
    | nil =>
      have hlt : decide (pre.length < ts.length) = false := by simp at l1 ⊢; omega
      go_wp2
      go_ret
      refine ⟨-1, rfl, ?_, rfl⟩
      rw [unhide HZ, List.append_nil, unhide HAL]
      rfl
    | cons z suf =>
      rw [List.length_cons] at l1
      have hlt : decide (pre.length < ts.length) = true := by simp; omega
      obtain ⟨b1, o1, rfl, z1, c1⟩ := (unhide HCA) (by omega)
      have k1 : w.cell? ⟨b1, o1 + pre.length, none⟩ = some (.string z) := by
        rw [c1 _ (by omega), unhide HZ]
        simp
      have HZ2 : Hid (ts = (pre ++ [z]) ++ suf) := by unfold Hid; rw [unhide HZ]; simp
      clear c1
      go_wp2_with fail
      refine (isNoName_any z _).mono ?_
      rintro e w1 ⟨rfl, hw1⟩
      obtain rfl := hw1.symm
      cases hnz : nameB z.data.toList with
      | false =>
        have HNZ := hide hnz
        go_wp2
        go_ret
        refine ⟨(pre.length : Int), rfl, ?_, rfl⟩
        rw [unhide HZ, List.any_append, List.any_cons, unhide HNZ]
        simp
      | true =>
        have HNZ := hide hnz
        go_wp2
        go_roundg suf.length
        case measure => simp
        case rel =>
          refine ⟨pre ++ [z], suf, unhide HZ2, rfl, ?_, ?_, rfl⟩
          · rw [List.length_append]; go_num
          · rw [List.any_append, unhide HAL, List.any_cons, unhide HNZ]; rfl
set_option maxHeartbeats 1000000 in
theorem hasNoName_any (a : Value) (ts : List ByteArray) (w : World) (ha : RowAt w a (textsV ts)) :
    Calls Tryz.prog 136 #[a, .func (.func 137) #[] #[]] w fun e w' => e = .returned (.bool (ts.any (fun c => !nameB c.data.toList))) ∧ w' = w := by
  have HA := hide ha
  clear ha
  go_enter Tryz.func136, Tryz.ntmps136
  go_wp2_with fail
  refine (indexNoName_any a ts _ (by exact unhide HA)).mono ?_
  rintro e w1 ⟨n, rfl, hn, hw1⟩
  obtain rfl := hw1.symm
  have HN := hide hn
  clear hn
  go_wp2
  go_ret
  exact ⟨by rw [← unhide HN]; rfl, rfl⟩

/-! ### names of tables -/
set_option maxHeartbeats 400000 in
theorem named_any (nm : ByteArray) (cv rv : Value) (s : ByteArray) (g : Nat) (w : World) (hg : w.heap[g]? = some (.cells #[.string s] 9 (0, 0))) :
    Calls Tryz.prog 211 #[.agg #[.string nm, cv, rv], .pointer (some ⟨g, 0, none⟩)] w fun e w' => e = .returned (.bool (nm.toList == s.toList)) ∧ Below w.heap.size w w' := by
  have k1 := (blk hg).1 0
  have z1 := lt_of_heap hg
  clear hg
  go_enter Tryz.func211, Tryz.ntmps211
  go_wp2
  go_ret
  exact ⟨rfl, (Below.refl _ _).alloc (Nat.le_refl _) _⟩
set_option maxRecDepth 100000 in
set_option maxHeartbeats 1000000 in
theorem indexNamed_any (lv : Value) (l : List Tb) (s : ByteArray) (g : Nat) (w : World) (hl : TabsAt w lv l) (hg : w.heap[g]? = some (.cells #[.string s] 9 (0, 0))) :
    Calls Tryz.prog 267 #[lv, .func (.func 211) #[] #[.pointer (some ⟨g, 0, none⟩)]] w fun e w' => ∃ n : Int, e = .returned (.int .i64 n) ∧ decide (0 ≤ n) = l.any (fun u => u.name.toList == s.toList) ∧ Below w.heap.size w w' := by
  have HL := hide hl
  have HG := hide hg
  clear hg
  obtain ⟨adl, capl, rfl, ml, mcap, cl⟩ := hl
  unfold maxLen at ml
  have HCL := hide cl
  clear cl
  go_enter Tryz.func267, Tryz.ntmps267
  go_wp2_with fail
  go_loopg [5, 8] l.length (fun f j i W => ∃ pre suf, l = pre ++ suf ∧ f = suf.length ∧ i = .int .i64 (pre.length : Nat) ∧ pre.any (fun u => u.name.toList == s.toList) = false ∧ Below w.heap.size w W)
  case atStart => exact ⟨[], l, rfl, rfl, rfl, rfl, Below.refl _ _⟩
  case round =>
    obtain ⟨pre, suf, h1, rfl, rfl, hal, hbw⟩ := hrel
    have l1 : pre.length + suf.length = l.length := by rw [h1, List.length_append]
    have HZ := hide h1
    have HAL := hide hal
    have HB := hide hbw
    clear h1 hal hbw
    cases suf with
    | nil =>
      have hlt : decide (pre.length < l.length) = false := by simp at l1 ⊢; omega
      go_wp2
      go_ret
      refine ⟨-1, rfl, ?_, unhide HB⟩
      rw [unhide HZ, List.append_nil, unhide HAL]
      rfl
    | cons t suf =>
      rw [List.length_cons] at l1
      have hlt : decide (pre.length < l.length) = true := by simp; omega
      obtain ⟨b1, o1, rfl, z1, c1⟩ := (unhide HCL) (by omega)
      obtain ⟨cv, rv, _, k1, k2, k3⟩ := c1 pre.length t (by rw [unhide HZ]; simp)
      rw [← (unhide HB).cell (p := ⟨b1, o1 + pre.length * 3, none⟩) z1] at k1
      rw [← (unhide HB).cell (p := ⟨b1, o1 + pre.length * 3 + 1, none⟩) z1] at k2
      rw [← (unhide HB).cell (p := ⟨b1, o1 + pre.length * 3 + 2, none⟩) z1] at k3
      have HZ2 : Hid (l = (pre ++ [t]) ++ suf) := by unfold Hid; rw [unhide HZ]; simp
      clear c1
      go_wp2_with fail
      refine (named_any t.name cv rv s g _ (by rw [(unhide HB).block g (lt_of_heap (unhide HG))]; exact unhide HG)).mono ?_
      rintro e w1 ⟨rfl, hb1⟩
      have HB1 : Hid (Below w.heap.size w w1) := (unhide HB).trans (hb1.mono (unhide HB).size)
      clear hb1 k1 k2 k3
      cases hnz : (t.name.toList == s.toList) with
      | true =>
        have HNZ := hide hnz
        go_wp2
        go_ret
        refine ⟨(pre.length : Int), rfl, ?_, unhide HB1⟩
        rw [unhide HZ, List.any_append, List.any_cons, unhide HNZ]
        simp
      | false =>
        have HNZ := hide hnz
        go_wp2
        go_roundg suf.length
        case measure => simp
        case rel =>
          refine ⟨pre ++ [t], suf, unhide HZ2, rfl, ?_, ?_, unhide HB1⟩
          · rw [List.length_append]; go_num
          · rw [List.any_append, unhide HAL, List.any_cons, unhide HNZ]; rfl
set_option maxHeartbeats 1000000 in
theorem hasNamed_any (lv : Value) (l : List Tb) (s : ByteArray) (g : Nat) (w : World) (hl : TabsAt w lv l) (hg : w.heap[g]? = some (.cells #[.string s] 9 (0, 0))) :
    Calls Tryz.prog 210 #[lv, .func (.func 211) #[] #[.pointer (some ⟨g, 0, none⟩)]] w fun e w' => e = .returned (.bool (l.any (fun u => u.name.toList == s.toList))) ∧ Below w.heap.size w w' := by
  have HL := hide hl
  have HG := hide hg
  clear hl hg
  go_enter Tryz.func210, Tryz.ntmps210
  go_wp2_with fail
  refine (indexNamed_any lv l s g _ (by exact unhide HL) (by exact unhide HG)).mono ?_
  rintro e w1 ⟨n, rfl, hn, hb1⟩
  have HN := hide hn
  have HB := hide hb1
  clear hn hb1
  go_wp2
  go_ret
  exact ⟨by rw [← unhide HN]; rfl, unhide HB⟩
set_option maxHeartbeats 400000 in
theorem hasTable_any (lv : Value) (l : List Tb) (s : ByteArray) (w : World) (hl : TabsAt w lv l) :
    Calls Tryz.prog 138 #[lv, .string s] w fun e w' => e = .returned (.bool (l.any (fun u => u.name.toList == s.toList))) ∧ Below w.heap.size w w' := by
  have HL := hide hl
  clear hl
  go_enter Tryz.func138, Tryz.ntmps138
  go_wp2_with fail
  refine (hasNamed_any lv l s w.heap.size _ ((unhide HL).keep ((Below.refl _ _).alloc (Nat.le_refl _) _)) (heap_last rfl)).mono ?_
  rintro e w1 ⟨rfl, hb1⟩
  have HB : Hid (Below w.heap.size w w1) := ((Below.refl _ _).alloc (Nat.le_refl _) _).trans (hb1.mono (by simp))
  clear hb1
  go_wp2
  go_ret
  exact ⟨rfl, unhide HB⟩

/-! ### rows of another width -/
theorem bne_nat (n m : Nat) : ((n : Int) != (m : Int)) = decide (n ≠ m) := by
  rw [Bool.eq_iff_iff, bne_iff_ne, decide_eq_true_eq]
  omega
set_option maxHeartbeats 400000 in
theorem wide_any (ad : Option Addr) (n c : Nat) (nm : ByteArray) (adc : Option Addr) (m cc : Nat) (rv : Value) (g : Nat) (w : World) (hg : w.heap[g]? = some (.cells #[.string nm, .slice adc m cc, rv] 44 (0, 0))) :
    Calls Tryz.prog 141 #[.slice ad n c, .pointer (some ⟨g, 0, none⟩)] w fun e w' => e = .returned (.bool (decide (n ≠ m))) ∧ Below w.heap.size w w' := by
  have k1 := (blk hg).1
  have z1 := lt_of_heap hg
  clear hg
  go_enter Tryz.func141, Tryz.ntmps141
  go_wp2
  go_ret
  exact ⟨by simp [decide_not, bne_nat], Below.refl _ _⟩
set_option maxRecDepth 100000 in
set_option maxHeartbeats 1000000 in
theorem indexWide_any (rv : Value) (rows : List (List Int)) (nm : ByteArray) (adc : Option Addr) (m cc : Nat) (rv' : Value) (g : Nat) (w : World) (hr : RowsAt w rv rows) (hg : w.heap[g]? = some (.cells #[.string nm, .slice adc m cc, rv'] 44 (0, 0))) :
    Calls Tryz.prog 213 #[rv, .func (.func 141) #[] #[.pointer (some ⟨g, 0, none⟩)]] w fun e w' => ∃ n : Int, e = .returned (.int .i64 n) ∧ decide (0 ≤ n) = rows.any (fun r => decide (r.length ≠ m)) ∧ Below w.heap.size w w' := by
  have HG := hide hg
  clear hg
  obtain ⟨vs, ⟨adr, capr, rfl, mr, cr⟩, lr, rr⟩ := hr
  rw [lr] at mr cr
  rw [lr]
  unfold maxLen at mr
  have HCR := hide cr
  have HRR := hide rr
  clear cr rr
  go_enter Tryz.func213, Tryz.ntmps213
  go_wp2_with fail
  go_loopg [5, 8] rows.length (fun f j i W => ∃ pre suf, rows = pre ++ suf ∧ f = suf.length ∧ i = .int .i64 (pre.length : Nat) ∧ pre.any (fun r => decide (r.length ≠ m)) = false ∧ Below w.heap.size w W)
  case atStart => exact ⟨[], rows, rfl, rfl, rfl, rfl, Below.refl _ _⟩
  case round =>
    obtain ⟨pre, suf, h1, rfl, rfl, hal, hbw⟩ := hrel
    have l1 : pre.length + suf.length = rows.length := by rw [h1, List.length_append]
    have HZ := hide h1
    have HAL := hide hal
    have HB := hide hbw
    clear h1 hal hbw
    cases suf with
    | nil =>
      have hlt : decide (pre.length < rows.length) = false := by simp at l1 ⊢; omega
      go_wp2
      go_ret
      refine ⟨-1, rfl, ?_, unhide HB⟩
      rw [unhide HZ, List.append_nil, unhide HAL]
      rfl
    | cons r suf =>
      rw [List.length_cons] at l1
      have hlt : decide (pre.length < rows.length) = true := by simp; omega
      obtain ⟨b1, o1, rfl, z1, c1⟩ := (unhide HCR) (by omega)
      obtain ⟨u, hu⟩ : ∃ u, vs[pre.length]? = some u := ⟨vs[pre.length]'(by omega), List.getElem?_eq_getElem _⟩
      have k1 : wr.cell? ⟨b1, o1 + pre.length, none⟩ = some u := by
        rw [(unhide HB).cell (p := ⟨b1, o1 + pre.length, none⟩) z1, c1 _ (by omega), hu]
      obtain ⟨adu, capu, rfl, _, _⟩ := (unhide HRR) pre.length r u (by rw [unhide HZ]; simp) hu
      rw [List.length_map] at k1
      have HZ2 : Hid (rows = (pre ++ [r]) ++ suf) := by unfold Hid; rw [unhide HZ]; simp
      clear c1 hu
      go_wp2_with fail
      refine (wide_any adu r.length capu nm adc m cc rv' g _ (by rw [(unhide HB).block g (lt_of_heap (unhide HG))]; exact unhide HG)).mono ?_
      rintro e w1 ⟨rfl, hb1⟩
      have HB1 : Hid (Below w.heap.size w w1) := (unhide HB).trans (hb1.mono (unhide HB).size)
      clear hb1 k1
      cases hnz : decide (r.length ≠ m) with
      | true =>
        have HNZ := hide hnz
        go_wp2
        go_ret
        refine ⟨(pre.length : Int), rfl, ?_, unhide HB1⟩
        rw [unhide HZ, List.any_append, List.any_cons, unhide HNZ]
        simp
      | false =>
        have HNZ := hide hnz
        go_wp2
        go_roundg suf.length
        case measure => simp
        case rel =>
          refine ⟨pre ++ [r], suf, unhide HZ2, rfl, ?_, ?_, unhide HB1⟩
          · rw [List.length_append]; go_num
          · rw [List.any_append, unhide HAL, List.any_cons, unhide HNZ]; rfl
set_option maxHeartbeats 1000000 in
theorem hasWide_any (rv : Value) (rows : List (List Int)) (nm : ByteArray) (adc : Option Addr) (m cc : Nat) (rv' : Value) (g : Nat) (w : World) (hr : RowsAt w rv rows) (hg : w.heap[g]? = some (.cells #[.string nm, .slice adc m cc, rv'] 44 (0, 0))) :
    Calls Tryz.prog 140 #[rv, .func (.func 141) #[] #[.pointer (some ⟨g, 0, none⟩)]] w fun e w' => e = .returned (.bool (rows.any (fun r => decide (r.length ≠ m)))) ∧ Below w.heap.size w w' := by
  have HL := hide hr
  have HG := hide hg
  clear hr hg
  go_enter Tryz.func140, Tryz.ntmps140
  go_wp2_with fail
  refine (indexWide_any rv rows nm adc m cc rv' g _ (by exact unhide HL) (by exact unhide HG)).mono ?_
  rintro e w1 ⟨n, rfl, hn, hb1⟩
  have HN := hide hn
  have HB := hide hb1
  clear hn hb1
  go_wp2
  go_ret
  exact ⟨by rw [← unhide HN]; rfl, unhide HB⟩
end Go.Proofs.YtfkeddkfegaeiaaGreatDoor
namespace Go.Proofs.YtfkeddkfegaeiaaGreatDoor
open Go.RowKit

theorem RowAt.ahead {W : World} {ad : Option Addr} {n cap : Nat} {pre suf : List ByteArray} (h : RowAt W (.slice ad n cap) (textsV (pre ++ suf))) : RowAt W (.slice ad pre.length cap) (textsV pre) := by
  obtain ⟨ad', cap', h1, h2, h3⟩ := h
  injection h1 with e1 e2 e3
  subst e1 e3
  rw [List.length_map, List.length_append] at h2 h3
  refine ⟨ad, cap, by rw [List.length_map], by rw [List.length_map]; omega, fun hp => ?_⟩
  rw [List.length_map] at hp
  obtain ⟨b, o, h4, h5, h6⟩ := h3 (by omega)
  refine ⟨b, o, h4, h5, fun j hj => ?_⟩
  rw [List.length_map] at hj
  rw [h6 j (by omega), textsV, textsV, List.map_append, List.getElem?_append_left (by rw [List.length_map]; exact hj)]
set_option maxRecDepth 100000 in
set_option maxHeartbeats 1000000 in
theorem sIndex_any (a : Value) (ts : List ByteArray) (s : ByteArray) (w : World) (ha : RowAt w a (textsV ts)) :
    Calls Tryz.prog 268 #[a, .string s] w fun e w' => e = .returned (.int .i64 (Lib.idxOfS ts s)) ∧ w' = w := by
  obtain ⟨ada, capa, rfl, ma, ca⟩ := ha
  rw [List.length_map] at ma ca
  unfold maxLen at ma
  simp only [List.length_map]
  have HCA := hide ca
  clear ca
  go_enter Tryz.func268, Tryz.ntmps268
  go_wp2_with fail
  go_loopg [5, 8] ts.length (fun f j i W => ∃ pre suf, ts = pre ++ suf ∧ ¬ s ∈ pre ∧ f = suf.length ∧ i = .int .i64 (pre.length : Nat) ∧ W = w)
  case atStart => exact ⟨[], ts, rfl, (fun h => by cases h), rfl, rfl, rfl⟩
  case round =>
    obtain ⟨pre, suf, h1, h2, rfl, rfl, hw⟩ := hrel
    obtain rfl := hw.symm
    have l1 : pre.length + suf.length = ts.length := by rw [h1, List.length_append]
    have HZ := hide h1
    have HN := hide h2
    clear h1 h2
    cases suf with
    | nil =>
      have hlt : decide (pre.length < ts.length) = false := by simp at l1 ⊢; omega
      go_wp2
      go_ret
      refine ⟨?_, rfl⟩
      have e : Lib.idxOfS ts s = -1 := by
        unfold Lib.idxOfS
        rw [unhide HZ, idx_skip (unhide HN)]
        rfl
      rw [e]
      rfl
    | cons z suf =>
      rw [List.length_cons] at l1
      have hlt : decide (pre.length < ts.length) = true := by simp; omega
      obtain ⟨b1, o1, rfl, z1, c1⟩ := (unhide HCA) (by omega)
      have k1 : w.cell? ⟨b1, o1 + pre.length, none⟩ = some (.string z) := by
        rw [c1 _ (by omega), unhide HZ]
        simp
      have HZ2 : Hid (ts = (pre ++ [z]) ++ suf) := by unfold Hid; rw [unhide HZ]; simp
      clear c1
      cases hzy : (s.toList == z.toList) with
      | true =>
        have hze : z = s := by
          rw [beq_iff_eq, ByteArray.toList_eq, ByteArray.toList_eq] at hzy
          exact (Go.WideShapes.bytes_inj hzy).symm
        have HE : Hid (Lib.idxOfS ts s = pre.length) := by
          unfold Hid Lib.idxOfS
          rw [unhide HZ, idx_skip (unhide HN), Lib.idxFromS, if_pos hze]
          simp
        clear hze
        go_wp2
        go_ret
        exact ⟨by rw [unhide HE]; rfl, rfl⟩
      | false =>
        have HNE : Hid (¬ s ∈ pre ++ [z]) := fun hm => by
          rcases List.mem_append.1 hm with q | q
          · exact (unhide HN) q
          · rw [List.mem_singleton] at q
            rw [q] at hzy
            simp at hzy
        go_wp2
        go_roundg suf.length
        case measure => simp
        case rel =>
          refine ⟨pre ++ [z], suf, unhide HZ2, unhide HNE, rfl, ?_, rfl⟩
          rw [List.length_append]
          go_num
set_option maxHeartbeats 1000000 in
theorem sContains_any (a : Value) (ts : List ByteArray) (s : ByteArray) (w : World) (ha : RowAt w a (textsV ts)) :
    Calls Tryz.prog 212 #[a, .string s] w fun e w' => e = .returned (.bool (Lib.containsS ts s)) ∧ w' = w := by
  have HA := hide ha
  clear ha
  go_enter Tryz.func212, Tryz.ntmps212
  go_wp2_with fail
  refine (sIndex_any a ts s _ (by exact unhide HA)).mono ?_
  rintro e w1 ⟨rfl, hw1⟩
  obtain rfl := hw1.symm
  go_wp2
  go_ret
  exact ⟨rfl, rfl⟩
set_option maxRecDepth 100000 in
set_option maxHeartbeats 1000000 in
theorem hasTwice_any (a : Value) (ts : List ByteArray) (w : World) (ha : RowAt w a (textsV ts)) (hcap : ts.length ≤ scap a) :
    Calls Tryz.prog 139 #[a] w fun e w' => e = .returned (.bool (dupF [] ts)) ∧ w' = w := by
  have HA := hide ha
  obtain ⟨ada, capa, rfl, ma, ca⟩ := ha
  rw [List.length_map] at ma ca
  rw [scap] at hcap
  unfold maxLen at ma
  simp only [List.length_map]
  have HCA := hide ca
  clear ca
  go_enter Tryz.func139, Tryz.ntmps139
  go_wp2_with fail
  go_loopg [3, 4, 7] ts.length (fun f i nm j W => ∃ pre suf, ts = pre ++ suf ∧ f = suf.length ∧ j = .int .i64 (pre.length : Nat) ∧ dupF [] ts = dupF pre suf ∧ W = w)
  case atStart => exact ⟨[], ts, rfl, rfl, rfl, rfl, rfl⟩
  case round =>
    obtain ⟨pre, suf, h1, rfl, rfl, hal, hw⟩ := hrel
    obtain rfl := hw.symm
    have l1 : pre.length + suf.length = ts.length := by rw [h1, List.length_append]
    have HZ := hide h1
    have HAL := hide hal
    clear h1 hal
    cases suf with
    | nil =>
      have hlt : decide (pre.length < ts.length) = false := by simp at l1 ⊢; omega
      go_wp2
      go_ret
      exact ⟨by rw [unhide HAL]; rfl, rfl⟩
    | cons z suf =>
      rw [List.length_cons] at l1
      have hlt : decide (pre.length < ts.length) = true := by simp; omega
      obtain ⟨b1, o1, rfl, z1, c1⟩ := (unhide HCA) (by omega)
      have k1 : w.cell? ⟨b1, o1 + pre.length, none⟩ = some (.string z) := by
        rw [c1 _ (by omega), unhide HZ]
        simp
      have HZ2 : Hid (ts = (pre ++ [z]) ++ suf) := by unfold Hid; rw [unhide HZ]; simp
      have HAH : Hid (RowAt w (.slice (some ⟨b1, o1, none⟩) pre.length capa) (textsV pre)) := by
        have h := unhide HA
        rw [List.length_map, unhide HZ] at h
        exact h.ahead
      have hpc : pre.length ≤ capa := by omega
      clear c1
      go_wp2_with fail
      refine (sContains_any _ pre z _ (by exact unhide HAH)).mono ?_
      rintro e w1 ⟨rfl, hw1⟩
      obtain rfl := hw1.symm
      cases hcc : Lib.containsS pre z with
      | true =>
        have HCC := hide hcc
        clear hcc
        go_wp2
        go_ret
        exact ⟨by rw [unhide HAL, dupF, unhide HCC]; rfl, rfl⟩
      | false =>
        have HCC := hide hcc
        clear hcc
        go_wp2
        go_roundg suf.length
        case measure => simp
        case rel =>
          refine ⟨pre ++ [z], suf, unhide HZ2, rfl, ?_, ?_, rfl⟩
          · rw [List.length_append]; go_num
          · rw [unhide HAL, dupF, unhide HCC]; rfl
end Go.Proofs.YtfkeddkfegaeiaaGreatDoor
namespace Go.Proofs.YtfkeddkfegaeiaaGreatDoor
open Go.RowKit

/-- the document's number of an error, as the program numbers its variables. -/
def errG : Nat → Nat
  | 0 => 0
  | 1 => 1
  | 2 => 2
  | 3 => 3
  | 4 => 5
  | 5 => 6
  | 6 => 7
  | 7 => 8
  | 8 => 4
  | _ => 9
structure Sents (a : Nat → Addr) (w : World) : Prop where
  cell : ∀ j, j < 10 → w.cell? ⟨errG j, 0, none⟩ = some (.iface 496 (.pointer (some (a j))))
  row : ∀ j, j < 10 → ∃ c t, w.heap[(a j).block]? = some (.cells c t (0, 0))
  ne : ∀ i j, i < 10 → j < 10 → i ≠ j → a i ≠ a j
theorem errG_tw : ∀ j, j < 10 → tw (errG j) = true := by decide
theorem errG_ne : ∀ i, i < 10 → ∀ j, j < 10 → i ≠ j → errG i ≠ errG j := by decide
theorem EnvX.sents {a : Nat → Addr} {B : Nat} {w : World} (h : EnvX a B w) : Sents (fun j => a (errG j)) w :=
  ⟨fun j hj => h.cell _ (errG_tw j hj), fun j hj => h.row _ (errG_tw j hj), fun i j hi hj e => h.ne _ _ (errG_tw i hi) (errG_tw j hj) (errG_ne i hi j hj e)⟩
theorem Sents.keep {a : Nat → Addr} {w w' : World} (h : Sents a w) (hb : Below w.heap.size w w') : Sents a w' := by
  refine ⟨fun j hj => ?_, fun j hj => ?_, h.ne⟩
  · have hc := h.cell j hj
    have hlt : errG j < w.heap.size := World.block_lt_of_cell? w _ hc
    rw [hb.cell (p := ⟨errG j, 0, none⟩) hlt]; exact hc
  · obtain ⟨c, t, hr⟩ := h.row j hj
    exact ⟨c, t, by rw [hb.block _ (lt_of_heap hr)]; exact hr⟩
/-- the program's error of the document's number. -/
def errOf (a : Nat → Addr) (n : Int) : Value := if n = 0 then .nilIface else .iface 496 (.pointer (some (a (n - 1).toNat)))

set_option maxRecDepth 100000 in
set_option maxHeartbeats 4000000 in
theorem checkOne_any (a : Nat → Addr) (t : Tb) (cv rv lv : Value) (ahead : List Tb) (w : World) (hS : Sents a w) (hc : RowAt w cv (textsV t.cols)) (hcap : t.cols.length ≤ scap cv) (hr : RowsAt w rv t.rows) (hl : TabsAt w lv ahead) :
    Calls Tryz.prog 91 #[.agg #[.string t.name, cv, rv], lv] w fun e w' => e = .returned (errOf a (p6 t ahead)) ∧ Below w.heap.size w w' := by
  have HS := hide hS
  have HC := hide hc
  have HR := hide hr
  have HL := hide hl
  have HCAP := hide hcap
  obtain ⟨adc, capc, rfl, mc, _⟩ := hc
  obtain ⟨vs, ⟨adr, capr, rfl, mr, _⟩, lr, _⟩ := hr
  rw [List.length_map] at mc
  simp only [List.length_map] at *
  rw [lr] at mr
  rw [lr] at HR
  rw [lr]
  unfold maxLen at mc mr
  clear hS hl hcap
  have g3 : w.cell? ⟨3, 0, none⟩ = some (.iface 496 (.pointer (some (a 3)))) := (unhide HS).cell 3 (by decide)
  have g6 : w.cell? ⟨7, 0, none⟩ = some (.iface 496 (.pointer (some (a 6)))) := (unhide HS).cell 6 (by decide)
  have g8 : w.cell? ⟨4, 0, none⟩ = some (.iface 496 (.pointer (some (a 8)))) := (unhide HS).cell 8 (by decide)
  have g9 : w.cell? ⟨9, 0, none⟩ = some (.iface 496 (.pointer (some (a 9)))) := (unhide HS).cell 9 (by decide)
  have z3 : 3 < w.heap.size := World.block_lt_of_cell? w _ g3
  have z6 : 7 < w.heap.size := World.block_lt_of_cell? w _ g6
  have z8 : 4 < w.heap.size := World.block_lt_of_cell? w _ g8
  have z9 : 9 < w.heap.size := World.block_lt_of_cell? w _ g9
  have HB0 : Hid (Below w.heap.size w (w.alloc (.cells #[.string t.name, .slice adc t.cols.length capc, .slice adr t.rows.length capr] 44))) := (Below.refl _ _).alloc (Nat.le_refl _) _
  go_enter Tryz.func91, Tryz.ntmps91
  go_wp2_with fail
  refine (isName_any t.name _).mono ?_
  rintro e w1 ⟨rfl, hw1⟩
  subst hw1
  cases hn : nameB t.name.data.toList with
  | false =>
    have HN := hide hn
    clear hn
    go_wp2
    go_ret
    refine ⟨?_, unhide HB0⟩
    have e : p6 t ahead = 4 := by unfold p6; rw [unhide HN]; rfl
    rw [e]
    rfl
  | true =>
    have HN := hide hn
    clear hn
    go_wp2_with fail
    refine (hasNoName_any _ t.cols _ (by exact (unhide HC).keep (unhide HB0))).mono ?_
    rintro e w1 ⟨rfl, hw1⟩
    subst hw1
    cases hna : t.cols.any (fun c => !nameB c.data.toList) with
    | true =>
      have HNA := hide hna
      clear hna
      go_wp2
      go_ret
      refine ⟨?_, unhide HB0⟩
      have e : p6 t ahead = 4 := by unfold p6; rw [unhide HN, unhide HNA]; rfl
      rw [e]
      rfl
    | false =>
      have HNA := hide hna
      clear hna
      by_cases hbad : t.cols.length < 1 ∨ 6 < t.cols.length ∨ 200 < t.rows.length
      · have HE : Hid (p6 t ahead = 9) := by
          unfold Hid p6
          rw [unhide HN, unhide HNA, if_neg (by simp), if_pos]
          simp only [Bool.or_eq_true, decide_eq_true_eq]
          omega
        by_cases d1 : t.cols.length < 1
        · have hd1 : ((t.cols.length : Int) == 0) = true := by rw [beq_iff_eq]; omega
          go_wp2
          go_ret
          exact ⟨by rw [unhide HE]; rfl, unhide HB0⟩
        · have hd1 : ((t.cols.length : Int) == 0) = false := by rw [beq_eq_false_iff_ne]; omega
          by_cases d2 : 6 < t.cols.length
          · have hd2 : decide ((6 : Int) < (t.cols.length : Int)) = true := by simp; omega
            go_wp2
            go_ret
            exact ⟨by rw [unhide HE]; rfl, unhide HB0⟩
          · have hd2 : decide ((6 : Int) < (t.cols.length : Int)) = false := by simp; omega
            have hd3 : decide ((200 : Int) < (t.rows.length : Int)) = true := by simp; omega
            go_wp2
            go_ret
            exact ⟨by rw [unhide HE]; rfl, unhide HB0⟩
      · have hd1 : ((t.cols.length : Int) == 0) = false := by rw [beq_eq_false_iff_ne]; omega
        have hd2 : decide ((6 : Int) < (t.cols.length : Int)) = false := by simp; omega
        have hd3 : decide ((200 : Int) < (t.rows.length : Int)) = false := by simp; omega
        have HE : Hid (p6 t ahead = if ahead.any (fun u => u.name.toList == t.name.toList) || dupF [] t.cols then 7 else if t.rows.any (fun r => decide (r.length ≠ t.cols.length)) then 10 else 0) := by
          unfold Hid p6
          rw [unhide HN, unhide HNA, if_neg (by simp), if_neg]
          simp only [Bool.or_eq_true, decide_eq_true_eq]
          omega
        go_wp2_with fail
        refine (hasTable_any lv ahead t.name _ (by exact (unhide HL).keep (unhide HB0))).mono ?_
        rintro e w1 ⟨rfl, hb1⟩
        have HB1 : Hid (Below w.heap.size w w1) := (unhide HB0).trans (hb1.mono (by simp))
        have HX1 : Hid (w1.heap[w.heap.size]? = some (.cells #[.string t.name, .slice adc t.cols.length capc, .slice adr t.rows.length capr] 44 (0, 0))) := by
          unfold Hid
          rw [hb1.block _ (by simp)]
          exact heap_last rfl
        have kx1 := (blk (unhide HX1)).1
        have zx1 := lt_of_heap (unhide HX1)
        rw [← (unhide HB1).cell (p := ⟨7, 0, none⟩) z6] at g6
        rw [← (unhide HB1).cell (p := ⟨9, 0, none⟩) z9] at g9
        clear hb1 g3 g8 hd1 hd2 hd3
        cases hht : ahead.any (fun u => u.name.toList == t.name.toList) with
        | true =>
          have HHT := hide hht
          clear hht
          go_wp2
          go_ret
          refine ⟨?_, unhide HB1⟩
          have e : p6 t ahead = 7 := by rw [unhide HE, unhide HHT]; rfl
          rw [e]
          rfl
        | false =>
          have HHT := hide hht
          clear hht
          go_wp2_with fail
          refine (hasTwice_any _ t.cols _ (by exact (unhide HC).keep (unhide HB1)) (unhide HCAP)).mono ?_
          rintro e w2 ⟨rfl, hw2⟩
          obtain rfl := hw2.symm
          cases hdp : dupF [] t.cols with
          | true =>
            have HDP := hide hdp
            clear hdp
            go_wp2
            go_ret
            refine ⟨?_, unhide HB1⟩
            have e : p6 t ahead = 7 := by rw [unhide HE, unhide HHT, unhide HDP]; rfl
            rw [e]
            rfl
          | false =>
            have HDP := hide hdp
            clear hdp
            go_wp2_with fail
            refine (hasWide_any _ t.rows t.name adc t.cols.length capc _ w.heap.size _ (by exact (unhide HR).keep (unhide HB1)) (by exact unhide HX1)).mono ?_
            rintro e w2 ⟨rfl, hb2⟩
            have HB2 : Hid (Below w.heap.size w w2) := (unhide HB1).trans (hb2.mono (unhide HB1).size)
            rw [← hb2.cell (p := ⟨9, 0, none⟩) (Nat.lt_of_lt_of_le z9 (unhide HB1).size)] at g9
            clear hb2 kx1 zx1 g6 HX1
            cases hwd : t.rows.any (fun r => decide (r.length ≠ t.cols.length)) with
            | true =>
              have HWD := hide hwd
              clear hwd
              go_wp2
              go_ret
              refine ⟨?_, unhide HB2⟩
              have e : p6 t ahead = 10 := by rw [unhide HE, unhide HHT, unhide HDP, unhide HWD]; rfl
              rw [e]
              rfl
            | false =>
              have HWD := hide hwd
              clear hwd
              go_wp2
              go_ret
              refine ⟨?_, unhide HB2⟩
              have e : p6 t ahead = 0 := by rw [unhide HE, unhide HHT, unhide HDP, unhide HWD]; rfl
              rw [e]
              rfl
end Go.Proofs.YtfkeddkfegaeiaaGreatDoor
namespace Go.Proofs.YtfkeddkfegaeiaaGreatDoor
open Go.RowKit

set_option maxRecDepth 100000 in
set_option maxHeartbeats 4000000 in
theorem check_any (a : Nat → Addr) (lv : Value) (l : List Tb) (w : World) (hS : Sents a w) (hl : TabsAt w lv l) :
    Calls Tryz.prog 58 #[lv] w fun e w' => e = .returned (errOf a (p6all l)) ∧ Below w.heap.size w w' := by
  have HS := hide hS
  have HL := hide hl
  have g8 : w.cell? ⟨4, 0, none⟩ = some (.iface 496 (.pointer (some (a 8)))) := hS.cell 8 (by decide)
  have z8 : 4 < w.heap.size := World.block_lt_of_cell? w _ g8
  clear hS
  obtain ⟨adl, capl, rfl, ml, mcap, cl⟩ := hl
  unfold maxLen at ml
  have HCL := hide cl
  clear cl
  by_cases h4 : 4 < l.length
  · have hd : decide ((4 : Int) < (l.length : Int)) = true := by simp; omega
    have HE : Hid (p6all l = 9) := by unfold Hid p6all; rw [if_pos h4]
    go_enter Tryz.func58, Tryz.ntmps58
    go_wp2
    go_ret
    exact ⟨by rw [unhide HE]; rfl, Below.refl _ _⟩
  · have hd : decide ((4 : Int) < (l.length : Int)) = false := by simp; omega
    have HE : Hid (p6all l = p6from [] l) := by unfold Hid p6all; rw [if_neg h4]
    go_enter Tryz.func58, Tryz.ntmps58
    go_wp2_with fail
    clear hd g8
    go_loopg [12] l.length (fun f j W => ∃ pre suf, l = pre ++ suf ∧ f = suf.length ∧ j = .int .i64 (pre.length : Nat) ∧ p6all l = p6from pre suf ∧ Below w.heap.size w W)
    case atStart => exact ⟨[], l, rfl, rfl, rfl, unhide HE, Below.refl _ _⟩
    case round =>
      clear HE
      obtain ⟨pre, suf, h1, rfl, rfl, hal, hbw⟩ := hrel
      have l1 : pre.length + suf.length = l.length := by rw [h1, List.length_append]
      have HZ := hide h1
      have HAL := hide hal
      have HB := hide hbw
      clear h1 hal hbw
      cases suf with
      | nil =>
        have hlt : decide (pre.length < l.length) = false := by simp at l1 ⊢; omega
        go_wp2
        go_ret
        exact ⟨by rw [unhide HAL]; rfl, unhide HB⟩
      | cons t suf =>
        rw [List.length_cons] at l1
        have hlt : decide (pre.length < l.length) = true := by simp; omega
        obtain ⟨b1, o1, rfl, z1, c1⟩ := (unhide HCL) (by omega)
        obtain ⟨cv, rv, htb, k1, k2, k3⟩ := c1 pre.length t (by rw [unhide HZ]; simp)
        rw [← (unhide HB).cell (p := ⟨b1, o1 + pre.length * 3, none⟩) z1] at k1
        rw [← (unhide HB).cell (p := ⟨b1, o1 + pre.length * 3 + 1, none⟩) z1] at k2
        rw [← (unhide HB).cell (p := ⟨b1, o1 + pre.length * 3 + 2, none⟩) z1] at k3
        obtain ⟨cv', rv', e', htc, hcap, htr⟩ := htb
        injection e' with _ e'
        injection e' with e1 e'
        injection e' with e2 _
        subst e1 e2
        have HTC := hide htc
        have HTR := hide htr
        have HCAP := hide hcap
        have HZ2 : Hid (l = (pre ++ [t]) ++ suf) := by unfold Hid; rw [unhide HZ]; simp
        have HAH : Hid (TabsAt w (.slice (some ⟨b1, o1, none⟩) pre.length capl) pre) := by
          have h := unhide HL
          rw [unhide HZ] at h
          exact h.ahead
        obtain ⟨adc, capc, rfl, _, _⟩ := htc
        obtain ⟨vs, ⟨adr, capr, rfl, _, _⟩, lr, _⟩ := htr
        rw [lr] at HTR k3
        rw [List.length_map] at HTC HCAP k2
        clear c1 hcap
        have hpc : pre.length ≤ capl := by omega
        go_wp2_with fail
        have HBA : Hid (Below w.heap.size w (wr.alloc (.cells #[.string t.name, .slice adc t.cols.length capc, .slice adr t.rows.length capr] 44)).drew) := ((unhide HB).alloc (unhide HB).size _).drew
        go_region_with (go_at_call 91; refine (checkOne_any a t _ _ _ pre _ (by exact (unhide HS).keep (unhide HBA)) (by exact (unhide HTC).keep (unhide HBA)) (by exact unhide HCAP) (by exact (unhide HTR).keep (unhide HBA)) (by exact (unhide HAH).keep (unhide HBA))).mono ?_; rintro e w2 ⟨rfl, hb2⟩; have HB2 : Hid (Below w.heap.size w w2) := (unhide HBA).trans (hb2.mono (unhide HBA).size); clear hb2)
        by_cases h0 : p6 t pre = 0
        · have HNX : Hid (p6all l = p6from (pre ++ [t]) suf) := by unfold Hid; rw [unhide HAL, p6from, if_pos h0]
          rw [show errOf a (p6 t pre) = .nilIface from by unfold errOf; rw [if_pos h0]]
          all_goals
            go_wp2
            go_roundg suf.length
            case measure => simp
            case rel =>
              refine ⟨pre ++ [t], suf, unhide HZ2, rfl, ?_, unhide HNX, unhide HB2⟩
              rw [List.length_append]; go_num
        · have HNX : Hid (errOf a (p6all l) = errOf a (p6 t pre)) := by unfold Hid; rw [unhide HAL, p6from, if_neg h0]
          have he : errOf a (p6 t pre) = .iface 496 (.pointer (some (a (p6 t pre - 1).toNat))) := by unfold errOf; rw [if_neg h0]
          rw [he] at HNX ⊢
          clear he h0
          generalize a (p6 t pre - 1).toNat = ae at *
          all_goals
            go_wp2
            go_ret
            exact ⟨by rw [unhide HNX]; rfl, unhide HB2⟩
end Go.Proofs.YtfkeddkfegaeiaaGreatDoor
