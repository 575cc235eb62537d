/-
  Part 17.
-/
import Derived.Test.YtfkeddkfegaeiaaDoorMNwL
namespace Go.Proofs.YtfkeddkfegaeiaaDoor
open Go.RowKit

set_option maxRecDepth 100000 in
set_option maxHeartbeats 4000000 in
theorem check_any (a : Nat → Addr) (lv : Value) (l : List Tb) (w : World) (hS : Sents a w) (hl : TabsAt w lv l) :
    Calls Tryd.prog 15 #[lv] w fun e w' => e = .returned (errOf a (p6all l)) ∧ Below w.heap.size w w' := by
  have HS := hide hS
  have HL := hide hl
  have g8 := hS.cell 8 (by decide)
  have z8 : 8 < w.heap.size := World.block_lt_of_cell? w _ g8
  clear hS
  obtain ⟨adl, capl, rfl, ml, mcap, cl⟩ := hl
  unfold maxLen at ml
  have HCL := hide cl
  clear cl
  by_cases h4 : 4 < l.length
  · have hd : decide ((4 : Int) < (l.length : Int)) = true := by simp; omega
    have HE : Hid (p6all l = 9) := by unfold Hid p6all; rw [if_pos h4]
    go_enter Tryd.func15, Tryd.ntmps15
    go_wp2
    go_ret
    exact ⟨by rw [unhide HE]; rfl, Below.refl _ _⟩
  · have hd : decide ((4 : Int) < (l.length : Int)) = false := by simp; omega
    have HE : Hid (p6all l = p6from [] l) := by unfold Hid p6all; rw [if_neg h4]
    go_enter Tryd.func15, Tryd.ntmps15
    go_wp2_with fail
    clear hd g8
    go_loopg [12] l.length (fun f j W => ∃ pre suf, l = pre ++ suf ∧ f = suf.length ∧ j = .int .i64 (pre.length : Nat) ∧ p6all l = p6from pre suf ∧ Below w.heap.size w W)
    case atStart => exact ⟨[], l, rfl, rfl, rfl, unhide HE, Below.refl _ _⟩
    case round =>
      clear HE
      obtain ⟨pre, suf, h1, rfl, rfl, hal, hbw⟩ := hrel
      have l1 : pre.length + suf.length = l.length := by rw [h1, List.length_append]
      have HZ := hide h1
      have HAL := hide hal
      have HB := hide hbw
      clear h1 hal hbw
      cases suf with
      | nil =>
        have hlt : decide (pre.length < l.length) = false := by simp at l1 ⊢; omega
        go_wp2
        go_ret
        exact ⟨by rw [unhide HAL]; rfl, unhide HB⟩
      | cons t suf =>
        rw [List.length_cons] at l1
        have hlt : decide (pre.length < l.length) = true := by simp; omega
        obtain ⟨b1, o1, rfl, z1, c1⟩ := (unhide HCL) (by omega)
        obtain ⟨cv, rv, htb, k1, k2, k3⟩ := c1 pre.length t (by rw [unhide HZ]; simp)
        rw [← (unhide HB).cell (p := ⟨b1, o1 + pre.length * 3, none⟩) z1] at k1
        rw [← (unhide HB).cell (p := ⟨b1, o1 + pre.length * 3 + 1, none⟩) z1] at k2
        rw [← (unhide HB).cell (p := ⟨b1, o1 + pre.length * 3 + 2, none⟩) z1] at k3
        obtain ⟨cv', rv', e', htc, hcap, htr⟩ := htb
        injection e' with _ e'
        injection e' with e1 e'
        injection e' with e2 _
        subst e1 e2
        have HTC := hide htc
        have HTR := hide htr
        have HCAP := hide hcap
        have HZ2 : Hid (l = (pre ++ [t]) ++ suf) := by unfold Hid; rw [unhide HZ]; simp
        have HAH : Hid (TabsAt w (.slice (some ⟨b1, o1, none⟩) pre.length capl) pre) := by
          have h := unhide HL
          rw [unhide HZ] at h
          exact h.ahead
        obtain ⟨adc, capc, rfl, _, _⟩ := htc
        obtain ⟨vs, ⟨adr, capr, rfl, _, _⟩, lr, _⟩ := htr
        rw [lr] at HTR k3
        rw [List.length_map] at HTC HCAP k2
        clear c1 hcap
        have hpc : pre.length ≤ capl := by omega
        go_wp2_with fail
        have HBA : Hid (Below w.heap.size w (wr.alloc (.cells #[.string t.name, .slice adc t.cols.length capc, .slice adr t.rows.length capr] 56)).drew) := ((unhide HB).alloc (unhide HB).size _).drew
        go_region_with (go_at_call 20; refine (checkOne_any a t _ _ _ pre _ (by exact (unhide HS).keep (unhide HBA)) (by exact (unhide HTC).keep (unhide HBA)) (by exact unhide HCAP) (by exact (unhide HTR).keep (unhide HBA)) (by exact (unhide HAH).keep (unhide HBA))).mono ?_; rintro e w2 ⟨rfl, hb2⟩; have HB2 : Hid (Below w.heap.size w w2) := (unhide HBA).trans (hb2.mono (unhide HBA).size); clear hb2)
        by_cases h0 : p6 t pre = 0
        · have HNX : Hid (p6all l = p6from (pre ++ [t]) suf) := by unfold Hid; rw [unhide HAL, p6from, if_pos h0]
          rw [show errOf a (p6 t pre) = .nilIface from by unfold errOf; rw [if_pos h0]]
          all_goals
            go_wp2
            go_roundg suf.length
            case measure => simp
            case rel =>
              refine ⟨pre ++ [t], suf, unhide HZ2, rfl, ?_, unhide HNX, unhide HB2⟩
              rw [List.length_append]; go_num
        · have HNX : Hid (errOf a (p6all l) = errOf a (p6 t pre)) := by unfold Hid; rw [unhide HAL, p6from, if_neg h0]
          have he : errOf a (p6 t pre) = .iface 100 (.pointer (some (a (p6 t pre - 1).toNat))) := by unfold errOf; rw [if_neg h0]
          rw [he] at HNX ⊢
          clear he h0
          generalize a (p6 t pre - 1).toNat = ae at *
          all_goals
            go_wp2
            go_ret
            exact ⟨by rw [unhide HNX]; rfl, unhide HB2⟩
end Go.Proofs.YtfkeddkfegaeiaaDoor
