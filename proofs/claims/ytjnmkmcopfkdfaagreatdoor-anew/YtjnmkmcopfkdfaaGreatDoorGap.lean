/-
  gap: the blanks of a raw number.
-/
import Derived.Test.YtjnmkmcopfkdfaaGreatDoorEnv
import Derived.WalkLawsBesides
import Derived.Lib.SlBytesRow
namespace Go.Proofs.YtjnmkmcopfkdfaaGreatDoor
open Go.RowKit

def gapK (n : Int) : Int := if n < 0 then -(n + 1) else n
def gapC (k : Int) : UInt8 := if k % 3 = 0 then 32 else if k % 3 = 1 then 9 else 10
def gapL (n : Int) : List UInt8 := gapC (gapK n) :: (if gapK n % 5 = 0 then [32] else [])

theorem byte_string (w : World) (b : Nat) (c : UInt8) (n : Int) (hn : n = c.toNat) (hc : w.cell? ⟨b, 0, none⟩ = some (.int .u8 n)) : (convert 42 9 (.slice (some ⟨b, 0, none⟩) 1 1)).run Tryz.prog w = .ok (.string ⟨#[c]⟩) w := by
  subst hn
  refine Lib.run_convert_whole (P := Tryz.prog) w 42 5 9 Tryz.underlying42 Tryz.underlying5 Tryz.underlying9 b 0 ⟨#[c]⟩ (fun i hi => ?_) 1
  have e : i = 0 := by have : i < 1 := hi; omega
  subst e
  exact hc

def gapS (k : Int) : List UInt8 := gapC k :: (if k % 5 = 0 then [32] else [])

set_option maxRecDepth 100000 in
set_option maxHeartbeats 2000000 in
theorem gap_pos (n : Int) (w : World) (h0 : 0 ≤ n) (h1 : n < 9223372036854775808) :
    Calls Tryz.prog 10 #[.int .i64 n] w fun e w' => e = .returned (.string ⟨(gapS n).toArray⟩) ∧ Below w.heap.size w w' := by
  have hd : decide (n < 0) = false := by simp; omega
  have h3 : n % 3 = 0 ∨ n % 3 = 1 ∨ n % 3 = 2 := by omega
  unfold gapS gapC
  by_cases hq : n % 5 = 0
  · rw [if_pos hq]
    have hq2 : ((n % 5 : Int) == 0) = true := by rw [hq]; rfl
    rcases h3 with hm | hm | hm
    · have hcv := byte_string ((w.alloc (.cells #[.int .u8 32, .int .u8 9, .int .u8 10] 5)).alloc (.cells #[.int .u8 32] 5)) (w.heap.size + 1) 32 32 rfl (by simp)
      rw [hm]
      go_enter Tryz.func10, Tryz.ntmps10
      go_wp2
      go_ret
      exact ⟨rfl, ((Below.refl _ _).alloc (Nat.le_refl _) _).alloc (by simp) _⟩
    · have hcv := byte_string ((w.alloc (.cells #[.int .u8 32, .int .u8 9, .int .u8 10] 5)).alloc (.cells #[.int .u8 9] 5)) (w.heap.size + 1) 9 9 rfl (by simp)
      rw [hm]
      go_enter Tryz.func10, Tryz.ntmps10
      go_wp2
      go_ret
      exact ⟨rfl, ((Below.refl _ _).alloc (Nat.le_refl _) _).alloc (by simp) _⟩
    · have hcv := byte_string ((w.alloc (.cells #[.int .u8 32, .int .u8 9, .int .u8 10] 5)).alloc (.cells #[.int .u8 10] 5)) (w.heap.size + 1) 10 10 rfl (by simp)
      rw [hm]
      go_enter Tryz.func10, Tryz.ntmps10
      go_wp2
      go_ret
      exact ⟨rfl, ((Below.refl _ _).alloc (Nat.le_refl _) _).alloc (by simp) _⟩
  · rw [if_neg hq]
    have hq2 : ((n % 5 : Int) == 0) = false := by simp; omega
    rcases h3 with hm | hm | hm
    · have hcv := byte_string ((w.alloc (.cells #[.int .u8 32, .int .u8 9, .int .u8 10] 5)).alloc (.cells #[.int .u8 32] 5)) (w.heap.size + 1) 32 32 rfl (by simp)
      rw [hm]
      go_enter Tryz.func10, Tryz.ntmps10
      go_wp2
      go_ret
      exact ⟨rfl, ((Below.refl _ _).alloc (Nat.le_refl _) _).alloc (by simp) _⟩
    · have hcv := byte_string ((w.alloc (.cells #[.int .u8 32, .int .u8 9, .int .u8 10] 5)).alloc (.cells #[.int .u8 9] 5)) (w.heap.size + 1) 9 9 rfl (by simp)
      rw [hm]
      go_enter Tryz.func10, Tryz.ntmps10
      go_wp2
      go_ret
      exact ⟨rfl, ((Below.refl _ _).alloc (Nat.le_refl _) _).alloc (by simp) _⟩
    · have hcv := byte_string ((w.alloc (.cells #[.int .u8 32, .int .u8 9, .int .u8 10] 5)).alloc (.cells #[.int .u8 10] 5)) (w.heap.size + 1) 10 10 rfl (by simp)
      rw [hm]
      go_enter Tryz.func10, Tryz.ntmps10
      go_wp2
      go_ret
      exact ⟨rfl, ((Below.refl _ _).alloc (Nat.le_refl _) _).alloc (by simp) _⟩

set_option maxRecDepth 100000 in
set_option maxHeartbeats 2000000 in
theorem gap_neg (n : Int) (w : World) (h0 : n < 0) (h1 : -9223372036854775808 ≤ n) :
    Calls Tryz.prog 10 #[.int .i64 n] w fun e w' => e = .returned (.string ⟨(gapS (-(n + 1))).toArray⟩) ∧ Below w.heap.size w w' := by
  have hd : decide (n < 0) = true := by simp; omega
  have t3 : (n + 1).tmod 3 = -((-(n + 1)) % 3) := by rw [← Int.tmod_eq_emod_of_nonneg (by omega : 0 ≤ -(n + 1)), Int.neg_tmod]; omega
  have t5 : (n + 1).tmod 5 = -((-(n + 1)) % 5) := by rw [← Int.tmod_eq_emod_of_nonneg (by omega : 0 ≤ -(n + 1)), Int.neg_tmod]; omega
  have h3 : (-(n + 1)) % 3 = 0 ∨ (-(n + 1)) % 3 = 1 ∨ (-(n + 1)) % 3 = 2 := by omega
  unfold gapS gapC
  by_cases hq : (-(n + 1)) % 5 = 0
  · rw [if_pos hq]
    rw [hq] at t5
    rcases h3 with hm | hm | hm
    · have hcv := byte_string ((w.alloc (.cells #[.int .u8 32, .int .u8 9, .int .u8 10] 5)).alloc (.cells #[.int .u8 32] 5)) (w.heap.size + 1) 32 32 rfl (by simp)
      rw [hm] at t3 ⊢
      rw [Int.neg_zero] at t3
      go_enter Tryz.func10, Tryz.ntmps10
      go_wp2
      go_ret
      exact ⟨rfl, ((Below.refl _ _).alloc (Nat.le_refl _) _).alloc (by simp) _⟩
    · have hcv := byte_string ((w.alloc (.cells #[.int .u8 32, .int .u8 9, .int .u8 10] 5)).alloc (.cells #[.int .u8 9] 5)) (w.heap.size + 1) 9 9 rfl (by simp)
      rw [hm] at t3 ⊢
      go_enter Tryz.func10, Tryz.ntmps10
      go_wp2
      go_ret
      exact ⟨rfl, ((Below.refl _ _).alloc (Nat.le_refl _) _).alloc (by simp) _⟩
    · have hcv := byte_string ((w.alloc (.cells #[.int .u8 32, .int .u8 9, .int .u8 10] 5)).alloc (.cells #[.int .u8 10] 5)) (w.heap.size + 1) 10 10 rfl (by simp)
      rw [hm] at t3 ⊢
      go_enter Tryz.func10, Tryz.ntmps10
      go_wp2
      go_ret
      exact ⟨rfl, ((Below.refl _ _).alloc (Nat.le_refl _) _).alloc (by simp) _⟩
  · rw [if_neg hq]
    have hq1 : ¬ (n + 1).tmod 5 = 0 := by rw [t5]; omega
    have hq2 : ((n + 1).tmod 5 == 0) = false := by simp only [beq_eq_false_iff_ne, ne_eq]; exact hq1
    have hq3 : (-(n + 1).tmod 5 == 0) = false := by simp only [beq_eq_false_iff_ne, ne_eq]; omega
    clear t5
    rcases h3 with hm | hm | hm
    · have hcv := byte_string ((w.alloc (.cells #[.int .u8 32, .int .u8 9, .int .u8 10] 5)).alloc (.cells #[.int .u8 32] 5)) (w.heap.size + 1) 32 32 rfl (by simp)
      rw [hm] at t3 ⊢
      rw [Int.neg_zero] at t3
      go_enter Tryz.func10, Tryz.ntmps10
      go_wp2
      go_ret
      exact ⟨rfl, ((Below.refl _ _).alloc (Nat.le_refl _) _).alloc (by simp) _⟩
    · have hcv := byte_string ((w.alloc (.cells #[.int .u8 32, .int .u8 9, .int .u8 10] 5)).alloc (.cells #[.int .u8 9] 5)) (w.heap.size + 1) 9 9 rfl (by simp)
      rw [hm] at t3 ⊢
      go_enter Tryz.func10, Tryz.ntmps10
      go_wp2
      go_ret
      exact ⟨rfl, ((Below.refl _ _).alloc (Nat.le_refl _) _).alloc (by simp) _⟩
    · have hcv := byte_string ((w.alloc (.cells #[.int .u8 32, .int .u8 9, .int .u8 10] 5)).alloc (.cells #[.int .u8 10] 5)) (w.heap.size + 1) 10 10 rfl (by simp)
      rw [hm] at t3 ⊢
      go_enter Tryz.func10, Tryz.ntmps10
      go_wp2
      go_ret
      exact ⟨rfl, ((Below.refl _ _).alloc (Nat.le_refl _) _).alloc (by simp) _⟩

theorem gap_any (n : Int) (w : World) (h0 : -9223372036854775808 ≤ n) (h1 : n < 9223372036854775808) :
    Calls Tryz.prog 10 #[.int .i64 n] w fun e w' => e = .returned (.string ⟨(gapL n).toArray⟩) ∧ Below w.heap.size w w' := by
  by_cases h : n < 0
  · have e : gapL n = gapS (-(n + 1)) := by unfold gapL gapS gapK; rw [if_pos h]
    rw [e]
    exact gap_neg n w h h0
  · have e : gapL n = gapS n := by unfold gapL gapS gapK; rw [if_neg h]
    rw [e]
    exact gap_pos n w (by omega) h1
end Go.Proofs.YtjnmkmcopfkdfaaGreatDoor
