/-
  Part 20.
-/
import Derived.Test.YtfkeddkfegaeiaaDoorMNwO
namespace Go.Proofs.YtfkeddkfegaeiaaDoor
open Go.RowKit

set_option maxRecDepth 100000 in
set_option maxHeartbeats 1000000 in
theorem pNew_bad (a : Nat → Addr) (lv : Value) (l : List Tb) (w : World) (hS : Sents a w) (hl : TabsAt w lv l) (h6 : p6all l ≠ 0) :
    Calls Tryd.prog 8 #[lv] w fun e w' => e = .returned (.tuple #[.pointer none, errOf a (p6all l)]) ∧ Below w.heap.size w w' := by
  have HS := hide hS
  have HL := hide hl
  clear hS hl
  have HE : Hid (errOf a (p6all l) = .iface 100 (.pointer (some (a (p6all l - 1).toNat)))) := by unfold Hid errOf; rw [if_neg h6]
  go_enter Tryd.func8, Tryd.ntmps8
  go_wp2_with fail
  refine (check_any a lv l _ (by exact unhide HS) (by exact unhide HL)).mono ?_
  rintro e w1 ⟨rfl, hb1⟩
  have HB := hide hb1
  clear hb1
  rw [unhide HE]
  generalize a (p6all l - 1).toNat = ae at *
  go_wp2
  refine bodyPost_ret (v := .tuple #[.pointer none, .iface 100 (.pointer (some ae))]) (by simp [results, Tryd.results8, go_sem]) rfl ⟨by rw [unhide HE], unhide HB⟩
set_option maxRecDepth 100000 in
set_option maxHeartbeats 1000000 in
theorem pNew_good (a : Nat → Addr) (lv : Value) (l : List Tb) (w : World) (hS : Sents a w) (hl : TabsAt w lv l) (h6 : p6all l = 0) :
    Calls Tryd.prog 8 #[lv] w fun e w' => ∃ q m g F D, e = .returned (.tuple #[.pointer (some ⟨q, 0, none⟩), .nilIface]) ∧ Tabs F g l D ∧ (∀ b o, F b = some o → w.heap.size ≤ b ∧ w'.heap[b]? = some o) ∧ w.heap.size ≤ m ∧ w.heap.size ≤ q ∧ w'.heap[m]? = some (.map #[] 0) ∧ w'.heap[q]? = some (.cells #[.slice (some ⟨g, 0, none⟩) l.length l.length, .int .i32 0, .int .u32 0, .map (some m), .int .i64 0] 70 (0, 0)) ∧ Below w.heap.size w w' := by
  have HS := hide hS
  have HL := hide hl
  clear hS hl
  have HE : Hid (errOf a (p6all l) = .nilIface) := by unfold Hid errOf; rw [if_pos h6]
  go_enter Tryd.func8, Tryd.ntmps8
  go_wp2_with fail
  refine (check_any a lv l _ (by exact unhide HS) (by exact unhide HL)).mono ?_
  rintro e w1 ⟨rfl, hb1⟩
  rw [unhide HE]
  have HB := hide hb1
  clear hb1
  go_wp2_with fail
  refine (copied_any lv l _ (by exact (unhide HL).keep (unhide HB)) h6).mono ?_
  rintro e w2 ⟨g, F, D, rfl, ht, hF, hb2⟩
  have HT := hide ht
  have HF := hide hF
  have HB2 := hide hb2
  clear ht hF hb2
  have hmm := @run_makeMap Tryd.prog
  go_wp2
  have hz1 := (unhide HB).size
  have hz2 := (unhide HB2).size
  refine bodyPost_ret (v := .tuple #[.pointer (some ⟨w2.heap.size + 1, 0, none⟩), .nilIface]) (by simp [results, Tryd.results8, go_sem]) rfl ⟨w2.heap.size + 1, w2.heap.size, g, F, D, rfl, unhide HT, fun b o e => ?_, by omega, by omega, ?_, ?_, ?_⟩
  · obtain ⟨h1, h2⟩ := (unhide HF) b o e
    exact ⟨by omega, heap_prev (heap_prev h2)⟩
  · exact heap_prev (heap_last rfl)
  · exact heap_last (by simp)
  · exact (((unhide HB).trans ((unhide HB2).mono (by omega))).alloc (by omega) _).alloc (by simp; omega) _
end Go.Proofs.YtfkeddkfegaeiaaDoor
