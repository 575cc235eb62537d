/-
  Part 15.
-/
import Derived.Test.YtfkeddkfegaeiaaDoorMNwJ
namespace Go.Proofs.YtfkeddkfegaeiaaDoor
open Go.RowKit

theorem RowAt.ahead {W : World} {ad : Option Addr} {n cap : Nat} {pre suf : List ByteArray} (h : RowAt W (.slice ad n cap) (textsV (pre ++ suf))) : RowAt W (.slice ad pre.length cap) (textsV pre) := by
  obtain ⟨ad', cap', h1, h2, h3⟩ := h
  injection h1 with e1 e2 e3
  subst e1 e3
  rw [List.length_map, List.length_append] at h2 h3
  refine ⟨ad, cap, by rw [List.length_map], by rw [List.length_map]; omega, fun hp => ?_⟩
  rw [List.length_map] at hp
  obtain ⟨b, o, h4, h5, h6⟩ := h3 (by omega)
  refine ⟨b, o, h4, h5, fun j hj => ?_⟩
  rw [List.length_map] at hj
  rw [h6 j (by omega), textsV, textsV, List.map_append, List.getElem?_append_left (by rw [List.length_map]; exact hj)]
set_option maxRecDepth 100000 in
set_option maxHeartbeats 1000000 in
theorem sIndex_any (a : Value) (ts : List ByteArray) (s : ByteArray) (w : World) (ha : RowAt w a (textsV ts)) :
    Calls Tryd.prog 45 #[a, .string s] w fun e w' => e = .returned (.int .i64 (Lib.idxOfS ts s)) ∧ w' = w := by
  obtain ⟨ada, capa, rfl, ma, ca⟩ := ha
  rw [List.length_map] at ma ca
  unfold maxLen at ma
  simp only [List.length_map]
  have HCA := hide ca
  clear ca
  go_enter Tryd.func45, Tryd.ntmps45
  go_wp2_with fail
  go_loopg [5, 8] ts.length (fun f j i W => ∃ pre suf, ts = pre ++ suf ∧ ¬ s ∈ pre ∧ f = suf.length ∧ i = .int .i64 (pre.length : Nat) ∧ W = w)
  case atStart => exact ⟨[], ts, rfl, (fun h => by cases h), rfl, rfl, rfl⟩
  case round =>
    obtain ⟨pre, suf, h1, h2, rfl, rfl, hw⟩ := hrel
    obtain rfl := hw.symm
    have l1 : pre.length + suf.length = ts.length := by rw [h1, List.length_append]
    have HZ := hide h1
    have HN := hide h2
    clear h1 h2
    cases suf with
    | nil =>
      have hlt : decide (pre.length < ts.length) = false := by simp at l1 ⊢; omega
      go_wp2
      go_ret
      refine ⟨?_, rfl⟩
      have e : Lib.idxOfS ts s = -1 := by
        unfold Lib.idxOfS
        rw [unhide HZ, idx_skip (unhide HN)]
        rfl
      rw [e]
      rfl
    | cons z suf =>
      rw [List.length_cons] at l1
      have hlt : decide (pre.length < ts.length) = true := by simp; omega
      obtain ⟨b1, o1, rfl, z1, c1⟩ := (unhide HCA) (by omega)
      have k1 : w.cell? ⟨b1, o1 + pre.length, none⟩ = some (.string z) := by
        rw [c1 _ (by omega), unhide HZ]
        simp
      have HZ2 : Hid (ts = (pre ++ [z]) ++ suf) := by unfold Hid; rw [unhide HZ]; simp
      clear c1
      cases hzy : (s.toList == z.toList) with
      | true =>
        have hze : z = s := by
          rw [beq_iff_eq, ByteArray.toList_eq, ByteArray.toList_eq] at hzy
          exact (Go.WideShapes.bytes_inj hzy).symm
        have HE : Hid (Lib.idxOfS ts s = pre.length) := by
          unfold Hid Lib.idxOfS
          rw [unhide HZ, idx_skip (unhide HN), Lib.idxFromS, if_pos hze]
          simp
        clear hze
        go_wp2
        go_ret
        exact ⟨by rw [unhide HE]; rfl, rfl⟩
      | false =>
        have HNE : Hid (¬ s ∈ pre ++ [z]) := fun hm => by
          rcases List.mem_append.1 hm with q | q
          · exact (unhide HN) q
          · rw [List.mem_singleton] at q
            rw [q] at hzy
            simp at hzy
        go_wp2
        go_roundg suf.length
        case measure => simp
        case rel =>
          refine ⟨pre ++ [z], suf, unhide HZ2, unhide HNE, rfl, ?_, rfl⟩
          rw [List.length_append]
          go_num
set_option maxHeartbeats 1000000 in
theorem sContains_any (a : Value) (ts : List ByteArray) (s : ByteArray) (w : World) (ha : RowAt w a (textsV ts)) :
    Calls Tryd.prog 42 #[a, .string s] w fun e w' => e = .returned (.bool (Lib.containsS ts s)) ∧ w' = w := by
  have HA := hide ha
  clear ha
  go_enter Tryd.func42, Tryd.ntmps42
  go_wp2_with fail
  refine (sIndex_any a ts s _ (by exact unhide HA)).mono ?_
  rintro e w1 ⟨rfl, hw1⟩
  obtain rfl := hw1.symm
  go_wp2
  go_ret
  exact ⟨rfl, rfl⟩
set_option maxRecDepth 100000 in
set_option maxHeartbeats 1000000 in
theorem hasTwice_any (a : Value) (ts : List ByteArray) (w : World) (ha : RowAt w a (textsV ts)) (hcap : ts.length ≤ scap a) :
    Calls Tryd.prog 29 #[a] w fun e w' => e = .returned (.bool (dupF [] ts)) ∧ w' = w := by
  have HA := hide ha
  obtain ⟨ada, capa, rfl, ma, ca⟩ := ha
  rw [List.length_map] at ma ca
  rw [scap] at hcap
  unfold maxLen at ma
  simp only [List.length_map]
  have HCA := hide ca
  clear ca
  go_enter Tryd.func29, Tryd.ntmps29
  go_wp2_with fail
  go_loopg [3, 4, 7] ts.length (fun f i nm j W => ∃ pre suf, ts = pre ++ suf ∧ f = suf.length ∧ j = .int .i64 (pre.length : Nat) ∧ dupF [] ts = dupF pre suf ∧ W = w)
  case atStart => exact ⟨[], ts, rfl, rfl, rfl, rfl, rfl⟩
  case round =>
    obtain ⟨pre, suf, h1, rfl, rfl, hal, hw⟩ := hrel
    obtain rfl := hw.symm
    have l1 : pre.length + suf.length = ts.length := by rw [h1, List.length_append]
    have HZ := hide h1
    have HAL := hide hal
    clear h1 hal
    cases suf with
    | nil =>
      have hlt : decide (pre.length < ts.length) = false := by simp at l1 ⊢; omega
      go_wp2
      go_ret
      exact ⟨by rw [unhide HAL]; rfl, rfl⟩
    | cons z suf =>
      rw [List.length_cons] at l1
      have hlt : decide (pre.length < ts.length) = true := by simp; omega
      obtain ⟨b1, o1, rfl, z1, c1⟩ := (unhide HCA) (by omega)
      have k1 : w.cell? ⟨b1, o1 + pre.length, none⟩ = some (.string z) := by
        rw [c1 _ (by omega), unhide HZ]
        simp
      have HZ2 : Hid (ts = (pre ++ [z]) ++ suf) := by unfold Hid; rw [unhide HZ]; simp
      have HAH : Hid (RowAt w (.slice (some ⟨b1, o1, none⟩) pre.length capa) (textsV pre)) := by
        have h := unhide HA
        rw [List.length_map, unhide HZ] at h
        exact h.ahead
      have hpc : pre.length ≤ capa := by omega
      clear c1
      go_wp2_with fail
      refine (sContains_any _ pre z _ (by exact unhide HAH)).mono ?_
      rintro e w1 ⟨rfl, hw1⟩
      obtain rfl := hw1.symm
      cases hcc : Lib.containsS pre z with
      | true =>
        have HCC := hide hcc
        clear hcc
        go_wp2
        go_ret
        exact ⟨by rw [unhide HAL, dupF, unhide HCC]; rfl, rfl⟩
      | false =>
        have HCC := hide hcc
        clear hcc
        go_wp2
        go_roundg suf.length
        case measure => simp
        case rel =>
          refine ⟨pre ++ [z], suf, unhide HZ2, rfl, ?_, ?_, rfl⟩
          · rw [List.length_append]; go_num
          · rw [unhide HAL, dupF, unhide HCC]; rfl
end Go.Proofs.YtfkeddkfegaeiaaDoor
