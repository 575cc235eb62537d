/-
  Part 13.
-/
import Derived.Test.YtfkeddkfegaeiaaDoorMNwH
namespace Go.Proofs.YtfkeddkfegaeiaaDoor
open Go.RowKit

/-- what a New answers, by the document. -/
def rNewV (l : List Tb) (g : Nat) : Value := if p6all l = 0 then .tuple #[.pointer (some ⟨g, 0, none⟩), .agg #[.int .i64 0, .int .i64 0]] else .tuple #[.pointer none, .agg #[.int .i64 (p6all l), .int .i64 (-1)]]

set_option maxRecDepth 100000 in
set_option maxHeartbeats 4000000 in
theorem rNew_any (lv : Value) (l : List Tb) (w : World) (hl : TabsAt w lv l) :
    Calls Tryd.prog 9 #[lv] w fun e w' => ∃ g, e = .returned (rNewV l g) ∧ w.heap.size ≤ g ∧ (p6all l = 0 → w'.heap[g]? = some (.cells #[lv, .slice none 0 0] 73 (0, 0))) ∧ Below w.heap.size w w' := by
  have HL := hide hl
  obtain ⟨adl, capl, rfl, ml, mcap, cl⟩ := hl
  unfold maxLen at ml
  have HCL := hide cl
  clear cl
  by_cases h4 : 4 < l.length
  · have hd : decide ((4 : Int) < (l.length : Int)) = true := by simp; omega
    have HE : Hid (p6all l = 9) := by unfold Hid p6all; rw [if_pos h4]
    go_enter Tryd.func9, Tryd.ntmps9
    go_wp2
    refine bodyPost_ret (v := .tuple #[.pointer none, .agg #[.int .i64 9, .int .i64 (-1)]]) (by simp [results, Tryd.results9, go_sem]) rfl ⟨w.heap.size, ?_, Nat.le_refl _, fun h => ?_, ?_⟩
    · unfold rNewV; rw [unhide HE]; rfl
    · rw [unhide HE] at h; cases h
    · exact (Below.refl _ _).alloc (Nat.le_refl _) _
  · have hd : decide ((4 : Int) < (l.length : Int)) = false := by simp; omega
    have HE : Hid (p6all l = p6from [] l) := by unfold Hid p6all; rw [if_neg h4]
    go_enter Tryd.func9, Tryd.ntmps9
    go_wp2_with fail
    clear hd
    go_loopg [4] l.length (fun f i W => ∃ pre suf, l = pre ++ suf ∧ f = suf.length ∧ i = .int .i64 (pre.length : Nat) ∧ p6all l = p6from pre suf ∧ Below w.heap.size w W ∧ W.heap[w.heap.size]? = some (.cells #[.int .i64 0, .int .i64 0] 46 (0, 0)))
    case atStart => exact ⟨[], l, rfl, rfl, rfl, unhide HE, (Below.refl _ _).alloc (Nat.le_refl _) _, heap_last rfl⟩
    case round =>
      clear HE
      obtain ⟨pre, suf, h1, rfl, rfl, hal, hbw, hxw⟩ := hrel
      have l1 : pre.length + suf.length = l.length := by rw [h1, List.length_append]
      have HZ := hide h1
      have HAL := hide hal
      have HB := hide hbw
      have HX := hide hxw
      have zx := lt_of_heap (unhide HX)
      obtain ⟨kx, fx⟩ := blk (unhide HX)
      clear h1 hal hbw hxw
      cases suf with
      | nil =>
        have hlt : decide (pre.length < l.length) = false := by simp at l1 ⊢; omega
        go_wp2
        have HF : Hid ((((wr.setCell ⟨w.heap.size, 0, none⟩ (.int .i64 0)).setCell ⟨w.heap.size, 1, none⟩ (.int .i64 0)).alloc (.cells #[.slice adl l.length capl, .slice none 0 0] 73)).heap[w.heap.size]? = some (.cells #[.int .i64 0, .int .i64 0] 46 (0, 0))) := heap_prev (heap_set (heap_set (unhide HX) _) _)
        have j := (blk (unhide HF)).1
        refine bodyPost_ret (v := .tuple #[.pointer (some ⟨wr.heap.size, 0, none⟩), .agg #[.int .i64 0, .int .i64 0]]) (by simp [results, Tryd.results9, go_sem, j]) rfl ⟨wr.heap.size, ?_, (unhide HB).size, fun h => ?_, ?_⟩
        · unfold rNewV; rw [unhide HAL]; rfl
        · exact heap_last (by simp)
        · exact (((unhide HB).setCell (Nat.le_refl _) _).setCell (Nat.le_refl _) _).alloc (by have := (unhide HB).size; simpa using this) _
      | cons t suf =>
        rw [List.length_cons] at l1
        have hlt : decide (pre.length < l.length) = true := by simp; omega
        obtain ⟨b1, o1, rfl, z1, c1⟩ := (unhide HCL) (by omega)
        obtain ⟨cv, rv, htb, k1, k2, k3⟩ := c1 pre.length t (by rw [unhide HZ]; simp)
        rw [← (unhide HB).cell (p := ⟨b1, o1 + pre.length * 3, none⟩) z1] at k1
        rw [← (unhide HB).cell (p := ⟨b1, o1 + pre.length * 3 + 1, none⟩) z1] at k2
        rw [← (unhide HB).cell (p := ⟨b1, o1 + pre.length * 3 + 2, none⟩) z1] at k3
        have HTB := hide (htb.keep (unhide HB))
        have HZ2 : Hid (l = (pre ++ [t]) ++ suf) := by unfold Hid; rw [unhide HZ]; simp
        clear c1 htb
        have HAH : Hid (TabsAt wr (.slice (some ⟨b1, o1, none⟩) pre.length capl) pre) := by
          have h := (unhide HL).keep (unhide HB)
          rw [unhide HZ] at h
          exact h.ahead
        obtain ⟨cv', rv', e', htc, _, htr⟩ := unhide HTB
        injection e' with _ e'
        injection e' with e1 e'
        injection e' with e2 _
        subst e1 e2
        have HTC := hide htc
        have HTR := hide htr
        clear htc htr HTB
        have hpc : pre.length ≤ capl := by omega
        go_wp2_with fail
        go_region_with (go_at_call 17; refine (rtable_any t _ _ _ pre _ (by exact unhide HTC) (by exact unhide HTR) (by exact unhide HAH)).mono ?_; rintro e w2 ⟨rfl, hb2⟩; have HB2 : Hid (Below w.heap.size w w2) := (unhide HB).drew.trans (hb2.mono (by have := (unhide HB).size; simpa using this)); have HX2 : Hid (w2.heap[w.heap.size]? = some (.cells #[.int .i64 0, .int .i64 0] 46 (0, 0))) := (hb2.block _ (by exact zx)).trans (unhide HX); have zx2 := lt_of_heap (unhide HX2); obtain ⟨kx2, fx2⟩ := blk (unhide HX2); clear hb2)
        clear kx fx
        by_cases h0 : p6 t pre = 0
        · have hd : (p6 t pre != 0) = false := by rw [h0]; rfl
          have HNX : Hid (p6all l = p6from (pre ++ [t]) suf) := by unfold Hid; rw [unhide HAL, p6from, if_pos h0]
          go_wp2
          go_roundg suf.length
          case measure => simp
          case rel =>
            refine ⟨pre ++ [t], suf, unhide HZ2, rfl, ?_, unhide HNX, unhide HB2, unhide HX2⟩
            rw [List.length_append]; go_num
        · have hd : (p6 t pre != 0) = true := by simpa using h0
          have HNX : Hid (p6all l = p6 t pre) := by unfold Hid; rw [unhide HAL, p6from, if_neg h0]
          have H0 := hide h0
          clear h0
          go_wp2
          have HF : Hid (((w2.setCell ⟨w.heap.size, 0, none⟩ (.int .i64 (p6 t pre))).setCell ⟨w.heap.size, 1, none⟩ (.int .i64 (-1))).heap[w.heap.size]? = some (.cells #[.int .i64 (p6 t pre), .int .i64 (-1)] 46 (0, 0))) := heap_set (heap_set (unhide HX2) _) _
          have j := (blk (unhide HF)).1
          refine bodyPost_ret (v := .tuple #[.pointer none, .agg #[.int .i64 (p6 t pre), .int .i64 (-1)]]) (by simp [results, Tryd.results9, go_sem, j]) rfl ⟨w.heap.size, ?_, Nat.le_refl _, fun h => ?_, ?_⟩
          · unfold rNewV; rw [unhide HNX, if_neg (unhide H0)]
          · rw [unhide HNX] at h; exact absurd h (unhide H0)
          · exact ((unhide HB2).setCell (Nat.le_refl _) _).setCell (Nat.le_refl _) _
end Go.Proofs.YtfkeddkfegaeiaaDoor
