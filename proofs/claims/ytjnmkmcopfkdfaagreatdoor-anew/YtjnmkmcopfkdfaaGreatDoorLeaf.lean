/-
  The walks of the scanner's small functions.
-/
import Derived.Test.YtjnmkmcopfkdfaaGreatDoorRows
import Derived.Test.YtjnmkmcopfkdfaaGreatDoorPure
import Derived.WalkKit
import Derived.WalkSpells
import Derived.WalkLawsBesides
namespace Go.Proofs.YtjnmkmcopfkdfaaGreatDoor
open Go.RowKit

set_option maxHeartbeats 400000 in
theorem isBlank_any (n : Int) (w : World) : Calls Tryz.prog 32 #[.int .u8 n] w fun e w' => e = .returned (.bool (blankI n)) ∧ w' = w := by
  by_cases h1 : n = 32
  · have b1 : (n == 32) = true := by simp [h1]
    go_enter Tryz.func32, Tryz.ntmps32
    go_wp2
    go_ret
    exact ⟨by simp [blankI, b1], rfl⟩
  · have b1 : (n == 32) = false := by simp [h1]
    by_cases h2 : n = 9
    · have b2 : (n == 9) = true := by simp [h2]
      go_enter Tryz.func32, Tryz.ntmps32
      go_wp2
      go_ret
      exact ⟨by simp [blankI, b1, b2], rfl⟩
    · have b2 : (n == 9) = false := by simp [h2]
      go_enter Tryz.func32, Tryz.ntmps32
      go_wp2
      go_ret
      exact ⟨by simp [blankI, b1, b2], rfl⟩

set_option maxHeartbeats 400000 in
theorem isLetter_any (n : Int) (w : World) : Calls Tryz.prog 53 #[.int .u8 n] w fun e w' => e = .returned (.bool (letterI n)) ∧ w' = w := by
  by_cases h1 : 97 ≤ n
  · have b1 : decide (97 ≤ n) = true := by simp [h1]
    by_cases h2 : n ≤ 122
    · have b2 : decide (n ≤ 122) = true := by simp [h2]
      go_enter Tryz.func53, Tryz.ntmps53
      go_wp2
      go_ret
      exact ⟨by simp [letterI, h1, h2], rfl⟩
    · have b2 : decide (n ≤ 122) = false := by simp; omega
      go_enter Tryz.func53, Tryz.ntmps53
      go_wp2
      go_ret
      exact ⟨by simp [letterI, b2], rfl⟩
  · have b1 : decide (97 ≤ n) = false := by simp; omega
    go_enter Tryz.func53, Tryz.ntmps53
    go_wp2
    go_ret
    exact ⟨by simp [letterI, b1], rfl⟩

set_option maxHeartbeats 400000 in
theorem isDigit_any (n : Int) (w : World) : Calls Tryz.prog 55 #[.int .u8 n] w fun e w' => e = .returned (.bool (digitI n)) ∧ w' = w := by
  by_cases h1 : 48 ≤ n
  · have b1 : decide (48 ≤ n) = true := by simp [h1]
    go_enter Tryz.func55, Tryz.ntmps55
    go_wp2
    go_ret
    exact ⟨by simp [digitI, h1], rfl⟩
  · have b1 : decide (48 ≤ n) = false := by simp; omega
    go_enter Tryz.func55, Tryz.ntmps55
    go_wp2
    go_ret
    exact ⟨by simp [digitI, b1], rfl⟩

set_option maxHeartbeats 1000000 in
theorem isWord_any (s : ByteArray) (w : World) : Calls Tryz.prog 81 #[.string s] w fun e w' => e = .returned (.bool (wordB s.data.toList)) ∧ w' = w := by
  go_enter Tryz.func81, Tryz.ntmps81
  go_wp2
  all_goals first
    | (exfalso; simp_all; done)
    | (go_ret; refine ⟨?_, rfl⟩; rw [← ByteArray.toList_eq]; simp only [wordB, wordList, List.any_cons, List.any_nil, *, Bool.or_true, Bool.true_or, Bool.or_false]; rfl)

set_option maxHeartbeats 400000 in
theorem leading_blank (s : ByteArray) (w : World) (hs : s.size ≤ maxLen) :
    Calls Tryz.prog 31 #[.string s, .func (.func 32) #[] #[]] w fun e w' => e = .returned (.string (s.extract 0 (lead blankI s.data.toList))) ∧ w' = w := by
  unfold maxLen at hs
  go_enter Tryz.func31, Tryz.ntmps31
  go_wp2
  go_loop [5] (fun i => ∃ k : Nat, k ≤ s.size ∧ (∀ j (hj : j < k) (hj' : j < s.data.toList.length), blankI (s.data.toList[j]).toNat = true) ∧ i = .int .i64 k) (fun i => s.size - (intOf i).toNat)
  case atStart => exact ⟨0, Nat.zero_le _, fun j hj => absurd hj (Nat.not_lt_zero _), rfl⟩
  case round =>
    obtain ⟨k, hk, hall, rfl⟩ := hrel
    have HA : Hid (∀ j (hj : j < k) (hj' : j < s.data.toList.length), blankI (s.data.toList[j]).toNat = true) := hall
    clear hall
    have hsz : s.data.toList.length = s.size := by rw [Array.length_toList]; rfl
    have HZ : Hid (s.data.toList.length = s.size) := hsz
    clear hsz
    by_cases hlt : k < s.size
    · have hb : ((s[k]).toNat : Int) = ((s.data.toList[k]'(by rw [HZ.out]; exact hlt)).toNat : Int) := rfl
      have HB : Hid (((s[k]).toNat : Int) = ((s.data.toList[k]'(by rw [HZ.out]; exact hlt)).toNat : Int)) := hb
      clear hb
      cases hp : blankI (s[k]).toNat with
      | true =>
        have HP : Hid (blankI (s[k]).toNat = true) := hp
        go_wp2_with (go_at_call 32; refine (isBlank_any _ _).mono ?_; rintro e w' ⟨rfl, rfl⟩)
        go_round
        case rel =>
          refine ⟨k + 1, by omega, fun j hj hj' => ?_, by go_num⟩
          rcases Nat.lt_or_ge j k with h | h
          · exact HA.out j h hj'
          · obtain rfl : j = k := by omega
            exact HP.out
        case measure => simp [intOf]; omega
      | false =>
        have HP : Hid (blankI (s[k]).toNat = false) := hp
        go_wp2_with (go_at_call 32; refine (isBlank_any _ _).mono ?_; rintro e w' ⟨rfl, rfl⟩)
        go_ret
        have e1 : lead blankI s.data.toList = k := lead_eq _ _ k (by rw [HZ.out]; exact hk) (fun j hj => HA.out j hj (by rw [HZ.out]; omega)) (fun _ => HP.out)
        exact ⟨by rw [e1]; rfl, rfl⟩
    · go_wp2
      go_ret
      have e1 : lead blankI s.data.toList = k := lead_eq _ _ k (by rw [HZ.out]; exact hk) (fun j hj => HA.out j hj (by rw [HZ.out]; omega)) (fun h => absurd h (by rw [HZ.out]; omega))
      exact ⟨by rw [e1]; rfl, rfl⟩

set_option maxHeartbeats 400000 in
theorem leading_letter (s : ByteArray) (w : World) (hs : s.size ≤ maxLen) :
    Calls Tryz.prog 31 #[.string s, .func (.func 53) #[] #[]] w fun e w' => e = .returned (.string (s.extract 0 (lead letterI s.data.toList))) ∧ w' = w := by
  unfold maxLen at hs
  go_enter Tryz.func31, Tryz.ntmps31
  go_wp2
  go_loop [5] (fun i => ∃ k : Nat, k ≤ s.size ∧ (∀ j (hj : j < k) (hj' : j < s.data.toList.length), letterI (s.data.toList[j]).toNat = true) ∧ i = .int .i64 k) (fun i => s.size - (intOf i).toNat)
  case atStart => exact ⟨0, Nat.zero_le _, fun j hj => absurd hj (Nat.not_lt_zero _), rfl⟩
  case round =>
    obtain ⟨k, hk, hall, rfl⟩ := hrel
    have HA : Hid (∀ j (hj : j < k) (hj' : j < s.data.toList.length), letterI (s.data.toList[j]).toNat = true) := hall
    clear hall
    have hsz : s.data.toList.length = s.size := by rw [Array.length_toList]; rfl
    have HZ : Hid (s.data.toList.length = s.size) := hsz
    clear hsz
    by_cases hlt : k < s.size
    · have hb : ((s[k]).toNat : Int) = ((s.data.toList[k]'(by rw [HZ.out]; exact hlt)).toNat : Int) := rfl
      have HB : Hid (((s[k]).toNat : Int) = ((s.data.toList[k]'(by rw [HZ.out]; exact hlt)).toNat : Int)) := hb
      clear hb
      cases hp : letterI (s[k]).toNat with
      | true =>
        have HP : Hid (letterI (s[k]).toNat = true) := hp
        go_wp2_with (go_at_call 53; refine (isLetter_any _ _).mono ?_; rintro e w' ⟨rfl, rfl⟩)
        go_round
        case rel =>
          refine ⟨k + 1, by omega, fun j hj hj' => ?_, by go_num⟩
          rcases Nat.lt_or_ge j k with h | h
          · exact HA.out j h hj'
          · obtain rfl : j = k := by omega
            exact HP.out
        case measure => simp [intOf]; omega
      | false =>
        have HP : Hid (letterI (s[k]).toNat = false) := hp
        go_wp2_with (go_at_call 53; refine (isLetter_any _ _).mono ?_; rintro e w' ⟨rfl, rfl⟩)
        go_ret
        have e1 : lead letterI s.data.toList = k := lead_eq _ _ k (by rw [HZ.out]; exact hk) (fun j hj => HA.out j hj (by rw [HZ.out]; omega)) (fun _ => HP.out)
        exact ⟨by rw [e1]; rfl, rfl⟩
    · go_wp2
      go_ret
      have e1 : lead letterI s.data.toList = k := lead_eq _ _ k (by rw [HZ.out]; exact hk) (fun j hj => HA.out j hj (by rw [HZ.out]; omega)) (fun h => absurd h (by rw [HZ.out]; omega))
      exact ⟨by rw [e1]; rfl, rfl⟩

set_option maxHeartbeats 400000 in
theorem leading_digit (s : ByteArray) (w : World) (hs : s.size ≤ maxLen) :
    Calls Tryz.prog 31 #[.string s, .func (.func 55) #[] #[]] w fun e w' => e = .returned (.string (s.extract 0 (lead digitI s.data.toList))) ∧ w' = w := by
  unfold maxLen at hs
  go_enter Tryz.func31, Tryz.ntmps31
  go_wp2
  go_loop [5] (fun i => ∃ k : Nat, k ≤ s.size ∧ (∀ j (hj : j < k) (hj' : j < s.data.toList.length), digitI (s.data.toList[j]).toNat = true) ∧ i = .int .i64 k) (fun i => s.size - (intOf i).toNat)
  case atStart => exact ⟨0, Nat.zero_le _, fun j hj => absurd hj (Nat.not_lt_zero _), rfl⟩
  case round =>
    obtain ⟨k, hk, hall, rfl⟩ := hrel
    have HA : Hid (∀ j (hj : j < k) (hj' : j < s.data.toList.length), digitI (s.data.toList[j]).toNat = true) := hall
    clear hall
    have hsz : s.data.toList.length = s.size := by rw [Array.length_toList]; rfl
    have HZ : Hid (s.data.toList.length = s.size) := hsz
    clear hsz
    by_cases hlt : k < s.size
    · have hb : ((s[k]).toNat : Int) = ((s.data.toList[k]'(by rw [HZ.out]; exact hlt)).toNat : Int) := rfl
      have HB : Hid (((s[k]).toNat : Int) = ((s.data.toList[k]'(by rw [HZ.out]; exact hlt)).toNat : Int)) := hb
      clear hb
      cases hp : digitI (s[k]).toNat with
      | true =>
        have HP : Hid (digitI (s[k]).toNat = true) := hp
        go_wp2_with (go_at_call 55; refine (isDigit_any _ _).mono ?_; rintro e w' ⟨rfl, rfl⟩)
        go_round
        case rel =>
          refine ⟨k + 1, by omega, fun j hj hj' => ?_, by go_num⟩
          rcases Nat.lt_or_ge j k with h | h
          · exact HA.out j h hj'
          · obtain rfl : j = k := by omega
            exact HP.out
        case measure => simp [intOf]; omega
      | false =>
        have HP : Hid (digitI (s[k]).toNat = false) := hp
        go_wp2_with (go_at_call 55; refine (isDigit_any _ _).mono ?_; rintro e w' ⟨rfl, rfl⟩)
        go_ret
        have e1 : lead digitI s.data.toList = k := lead_eq _ _ k (by rw [HZ.out]; exact hk) (fun j hj => HA.out j hj (by rw [HZ.out]; omega)) (fun _ => HP.out)
        exact ⟨by rw [e1]; rfl, rfl⟩
    · go_wp2
      go_ret
      have e1 : lead digitI s.data.toList = k := lead_eq _ _ k (by rw [HZ.out]; exact hk) (fun j hj => HA.out j hj (by rw [HZ.out]; omega)) (fun h => absurd h (by rw [HZ.out]; omega))
      exact ⟨by rw [e1]; rfl, rfl⟩
end Go.Proofs.YtjnmkmcopfkdfaaGreatDoor
