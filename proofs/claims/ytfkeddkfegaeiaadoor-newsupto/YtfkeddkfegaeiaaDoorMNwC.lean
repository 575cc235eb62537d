/-
  Part 7.
-/
import Derived.Test.YtfkeddkfegaeiaaDoorMNwB
namespace Go.Proofs.YtfkeddkfegaeiaaDoor
open Go.RowKit

theorem idx_skip {pre : List ByteArray} {s : ByteArray} (h : ¬ s ∈ pre) : ∀ (suf : List ByteArray) (i : Nat), Lib.idxFromS (pre ++ suf) s i = Lib.idxFromS suf s (i + pre.length) := by
  induction pre with
  | nil => intro suf i; rfl
  | cons a r ih =>
    intro suf i
    have ha : ¬ a = s := fun e => h (by rw [e]; exact List.mem_cons_self)
    rw [List.cons_append, Lib.idxFromS, if_neg ha, ih (fun hm => h (List.mem_cons_of_mem _ hm)), List.length_cons]
    congr 1
    omega

set_option maxRecDepth 100000 in
set_option maxHeartbeats 1000000 in
theorem place_any (a : Value) (ts : List ByteArray) (s : ByteArray) (w : World) (ha : RowAt w a (textsV ts)) :
    Calls Tryd.prog 24 #[a, .string s] w fun e w' => e = .returned (.int .i64 (Lib.idxOfS ts s)) ∧ w' = w := by
  obtain ⟨ada, capa, rfl, ma, ca⟩ := ha
  rw [List.length_map] at ma ca
  unfold maxLen at ma
  simp only [List.length_map]
  have HCA := hide ca
  clear ca
  go_enter Tryd.func24, Tryd.ntmps24
  go_wp2_with fail
  go_loopg [5] ts.length (fun f i W => ∃ pre suf, ts = pre ++ suf ∧ ¬ s ∈ pre ∧ f = suf.length ∧ i = .int .i64 (pre.length : Nat) ∧ W = w)
  case atStart => exact ⟨[], ts, rfl, (fun h => by cases h), rfl, rfl, rfl⟩
  case round =>
    obtain ⟨pre, suf, h1, h2, rfl, rfl, hw⟩ := hrel
    obtain rfl := hw.symm
    have l1 : pre.length + suf.length = ts.length := by rw [h1, List.length_append]
    have HZ := hide h1
    have HN := hide h2
    clear h1 h2
    cases suf with
    | nil =>
      have hlt : decide (pre.length < ts.length) = false := by simp at l1 ⊢; omega
      go_wp2
      go_ret
      refine ⟨?_, rfl⟩
      have e : Lib.idxOfS ts s = -1 := by
        unfold Lib.idxOfS
        rw [unhide HZ, idx_skip (unhide HN)]
        rfl
      rw [e]
      rfl
    | cons z suf =>
      rw [List.length_cons] at l1
      have hlt : decide (pre.length < ts.length) = true := by simp; omega
      obtain ⟨b1, o1, rfl, z1, c1⟩ := (unhide HCA) (by omega)
      have k1 : w.cell? ⟨b1, o1 + pre.length, none⟩ = some (.string z) := by
        rw [c1 _ (by omega), unhide HZ]
        simp
      have HZ2 : Hid (ts = (pre ++ [z]) ++ suf) := by unfold Hid; rw [unhide HZ]; simp
      clear c1
      cases hzy : (z.toList == s.toList) with
      | true =>
        have hze : z = s := by
          rw [beq_iff_eq, ByteArray.toList_eq, ByteArray.toList_eq] at hzy
          exact Go.WideShapes.bytes_inj hzy
        have HE : Hid (Lib.idxOfS ts s = pre.length) := by
          unfold Hid Lib.idxOfS
          rw [unhide HZ, idx_skip (unhide HN), Lib.idxFromS, if_pos hze]
          simp
        clear hze
        go_wp2
        go_ret
        exact ⟨by rw [unhide HE]; rfl, rfl⟩
      | false =>
        have HNE : Hid (¬ s ∈ pre ++ [z]) := fun hm => by
          rcases List.mem_append.1 hm with q | q
          · exact (unhide HN) q
          · rw [List.mem_singleton] at q
            rw [q] at hzy
            simp at hzy
        go_wp2
        go_roundg suf.length
        case measure => simp
        case rel =>
          refine ⟨pre ++ [z], suf, unhide HZ2, unhide HNE, rfl, ?_, rfl⟩
          rw [List.length_append]
          go_num
end Go.Proofs.YtfkeddkfegaeiaaDoor
