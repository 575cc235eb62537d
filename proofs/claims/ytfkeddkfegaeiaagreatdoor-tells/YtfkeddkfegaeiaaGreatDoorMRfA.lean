/-
  Part 33.
-/
import Derived.Test.YtfkeddkfegaeiaaGreatDoorJ28
import Derived.Test.YtfkeddkfegaeiaaGreatDoorJ26
namespace Go.Proofs.YtfkeddkfegaeiaaGreatDoor
open Go.RowKit

set_option maxHeartbeats 400000 in
theorem rletter_any (n : Int) (w : World) : Calls Tryz.prog 163 #[.int .u8 n] w fun e w' => e = .returned (.bool (letterI n)) ∧ w' = w := by
  by_cases h1 : 97 ≤ n
  · have b1 : decide (97 ≤ n) = true := by simp [h1]
    by_cases h2 : n ≤ 122
    · have b2 : decide (n ≤ 122) = true := by simp [h2]
      go_enter Tryz.func163, Tryz.ntmps163
      go_wp2
      go_ret
      exact ⟨by simp [letterI, h1, h2], rfl⟩
    · have b2 : decide (n ≤ 122) = false := by simp; omega
      go_enter Tryz.func163, Tryz.ntmps163
      go_wp2
      go_ret
      exact ⟨by simp [letterI, b2], rfl⟩
  · have b1 : decide (97 ≤ n) = false := by simp; omega
    go_enter Tryz.func163, Tryz.ntmps163
    go_wp2
    go_ret
    exact ⟨by simp [letterI, b1], rfl⟩

set_option maxHeartbeats 400000 in
theorem rdigit_any (n : Int) (w : World) : Calls Tryz.prog 164 #[.int .u8 n] w fun e w' => e = .returned (.bool (digitI n)) ∧ w' = w := by
  by_cases h1 : 48 ≤ n
  · have b1 : decide (48 ≤ n) = true := by simp [h1]
    go_enter Tryz.func164, Tryz.ntmps164
    go_wp2
    go_ret
    exact ⟨by simp [digitI, h1], rfl⟩
  · have b1 : decide (48 ≤ n) = false := by simp; omega
    go_enter Tryz.func164, Tryz.ntmps164
    go_wp2
    go_ret
    exact ⟨by simp [digitI, b1], rfl⟩


theorem getB_at {S : ByteArray} {pre r : List UInt8} {c : UInt8} (h : S.data.toList = pre ++ c :: r) (hlt : pre.length < S.size) : S[pre.length] = c := by
  have : S.data.toList[pre.length]? = some c := by rw [h]; simp
  rw [Array.getElem?_toList] at this
  exact (Array.getElem?_eq_some_iff.1 this).2

theorem contains_split {pre suf : List ByteArray} {s : ByteArray} (h : ¬ s ∈ pre) : Lib.containsS (pre ++ suf) s = Lib.containsS suf s := by
  cases h2 : Lib.containsS suf s with
  | true => rw [Lib.containsS_iff] at h2 ⊢; exact List.mem_append_right _ h2
  | false =>
    cases h3 : Lib.containsS (pre ++ suf) s with
    | false => rfl
    | true =>
      rw [Lib.containsS_iff, List.mem_append] at h3
      rcases h3 with h3 | h3
      · exact (h h3).elim
      · rw [(Lib.containsS_iff _ _).2 h3] at h2; cases h2

set_option maxRecDepth 100000 in
set_option maxHeartbeats 1000000 in
theorem in_any (s : ByteArray) (w : World) (b : Nat) (xs : List ByteArray) (hx : Texts w b xs) (hl : xs.length ≤ 100) :
    Calls Tryz.prog 40 #[.string s, .slice (some ⟨b, 0, none⟩) xs.length xs.length] w fun e w' => e = .returned (.bool (Lib.containsS xs s)) ∧ w' = w := by
  obtain ⟨zb, hc⟩ := hx
  have HC := hide hc
  clear hc
  go_enter Tryz.func40, Tryz.ntmps40
  go_wp2_with fail
  go_loop [5] (fun i => ∃ pre suf, xs = pre ++ suf ∧ i = .int .i64 pre.length ∧ ¬ s ∈ pre) (fun i => xs.length - (intOf i).toNat)
  case atStart => exact ⟨[], xs, rfl, rfl, by simp⟩
  case round =>
    obtain ⟨pre, suf, hxs, rfl, hn⟩ := hrel
    have HN := hide hn
    have HXS := hide hxs
    clear hn hxs
    match suf, HXS with
    | [], HXS =>
      have hge : xs.length ≤ pre.length := by rw [unhide HXS]; simp
      have hnl : ¬ ((pre.length : Int) < (xs.length : Int)) := by omega
      have hd : decide ((pre.length : Int) < (xs.length : Int)) = false := by simp; omega
      have HF : Hid (Lib.containsS xs s = false) := by
        unfold Hid
        rw [unhide HXS, contains_split (unhide HN)]
        rfl
      go_wp2
      go_ret
      rw [unhide HF]
      exact ⟨rfl, rfl⟩
    | x :: r, HXS =>
      have hlt : pre.length < xs.length := by rw [unhide HXS]; simp
      have hd : decide ((pre.length : Int) < (xs.length : Int)) = true := by simp; omega
      have hcl : w.cell? ⟨b, 0 + pre.length, none⟩ = some (.string x) := by
        rw [(unhide HC) pre.length hlt, unhide HXS]
        simp
      rw [Nat.zero_add] at hcl
      by_cases he : x = s
      · subst he
        have HT : Hid (Lib.containsS xs x = true) := by
          unfold Hid
          rw [Lib.containsS_iff, unhide HXS]
          simp
        go_wp2
        go_ret
        rw [unhide HT]
        exact ⟨rfl, rfl⟩
      · have hq : (x.toList == s.toList) = false := by
          simp only [beq_eq_false_iff_ne, ne_eq]
          intro e
          rw [ByteArray.toList_eq, ByteArray.toList_eq] at e
          exact he (Go.WideShapes.bytes_inj e)
        have HE := hide he
        clear he
        go_wp2
        go_round
        case rel => exact ⟨pre ++ [x], r, by rw [unhide HXS]; simp, by simp, fun hm => (List.mem_append.1 hm).elim (unhide HN) (fun h => unhide HE (List.mem_singleton.1 h).symm)⟩
        case measure => simp [intOf]; omega

set_option maxRecDepth 100000 in
set_option maxHeartbeats 1000000 in
theorem end_letter (s : ByteArray) (i0 : Nat) (L : List UInt8) (w : World) (hi : i0 ≤ s.size) (hs : s.size ≤ 1000) (hL : s.data.toList.drop i0 = L) :
    Calls Tryz.prog 165 #[.string s, .int .i64 i0, .bool true] w fun e w' => e = .returned (.int .i64 ((i0 : Int) + (lead letterI L : Int))) ∧ w' = w := by
  have HLL := hide hL
  have HLN : Hid (L.length + i0 = s.size) := by unfold Hid; rw [← hL, List.length_drop, sizeL]; omega
  clear hL
  go_enter Tryz.func165, Tryz.ntmps165
  go_wp2_with fail
  go_loop [1] (fun x => ∃ pre suf, L = pre ++ suf ∧ x = .int .i64 ((i0 : Int) + (pre.length : Int)) ∧ ∀ c, c ∈ pre → letterI c.toNat = true) (fun x => s.size - (intOf x).toNat)
  case atStart => exact ⟨[], L, rfl, by simp, fun c hc => by cases hc⟩
  case round =>
    obtain ⟨pre, suf, hxs, rfl, hn⟩ := hrel
    have HN := hide hn
    have HXS := hide hxs
    clear hn hxs
    match suf, HXS with
    | [], HXS =>
      have hge : s.size ≤ i0 + pre.length := by have := unhide HLN; rw [unhide HXS, List.append_nil] at this; omega
      have hd : decide ((i0 : Int) + (pre.length : Int) < (s.size : Int)) = false := by simp; omega
      have HF : Hid (lead letterI L = pre.length) := by
        unfold Hid
        rw [unhide HXS]
        exact lead_app (unhide HN) (fun c r e => by cases e)
      go_wp2
      go_ret
      rw [unhide HF]
      exact ⟨rfl, rfl⟩
    | c :: r, HXS =>
      have hlt : i0 + pre.length < s.size := by have := unhide HLN; rw [unhide HXS] at this; simp at this; omega
      have hd : decide ((i0 : Int) + (pre.length : Int) < (s.size : Int)) = true := by simp; omega
      have hSc : s[i0 + pre.length] = c := by
        have : s.data.toList[i0 + pre.length]? = some c := by rw [← List.getElem?_drop, unhide HLL, unhide HXS]; simp
        rw [Array.getElem?_toList] at this
        exact (Array.getElem?_eq_some_iff.1 this).2
      cases hp : letterI c.toNat with
      | false =>
        have HF : Hid (lead letterI L = pre.length) := by
          unfold Hid
          rw [unhide HXS]
          exact lead_app (unhide HN) (fun c' r' e => by injection e with e1 e2; subst e1; exact hp)
        cases hp2 : digitI c.toNat <;>
          (go_wp2_with (first | (go_at_call 163; refine (rletter_any _ _).mono ?_; rintro e w' ⟨rfl, rfl⟩) | (go_at_call 164; refine (rdigit_any _ _).mono ?_; rintro e w' ⟨rfl, rfl⟩))
           go_ret
           rw [unhide HF]
           exact ⟨rfl, rfl⟩)
      | true =>
        have HP := hide hp
        cases hp2 : digitI c.toNat <;>
          (go_wp2_with (first | (go_at_call 163; refine (rletter_any _ _).mono ?_; rintro e w' ⟨rfl, rfl⟩) | (go_at_call 164; refine (rdigit_any _ _).mono ?_; rintro e w' ⟨rfl, rfl⟩))
           go_round
           case rel => exact ⟨pre ++ [c], r, by rw [unhide HXS]; simp, by rw [List.length_append]; go_num, fun d hd => (List.mem_append.1 hd).elim (unhide HN d) (fun h => by rw [List.mem_singleton.1 h]; exact unhide HP)⟩
           case measure => simp [intOf]; omega)

set_option maxRecDepth 100000 in
set_option maxHeartbeats 1000000 in
theorem end_digit (s : ByteArray) (i0 : Nat) (L : List UInt8) (w : World) (hi : i0 ≤ s.size) (hs : s.size ≤ 1000) (hL : s.data.toList.drop i0 = L) :
    Calls Tryz.prog 165 #[.string s, .int .i64 i0, .bool false] w fun e w' => e = .returned (.int .i64 ((i0 : Int) + (lead digitI L : Int))) ∧ w' = w := by
  have HLL := hide hL
  have HLN : Hid (L.length + i0 = s.size) := by unfold Hid; rw [← hL, List.length_drop, sizeL]; omega
  clear hL
  go_enter Tryz.func165, Tryz.ntmps165
  go_wp2_with fail
  go_loop [1] (fun x => ∃ pre suf, L = pre ++ suf ∧ x = .int .i64 ((i0 : Int) + (pre.length : Int)) ∧ ∀ c, c ∈ pre → digitI c.toNat = true) (fun x => s.size - (intOf x).toNat)
  case atStart => exact ⟨[], L, rfl, by simp, fun c hc => by cases hc⟩
  case round =>
    obtain ⟨pre, suf, hxs, rfl, hn⟩ := hrel
    have HN := hide hn
    have HXS := hide hxs
    clear hn hxs
    match suf, HXS with
    | [], HXS =>
      have hge : s.size ≤ i0 + pre.length := by have := unhide HLN; rw [unhide HXS, List.append_nil] at this; omega
      have hd : decide ((i0 : Int) + (pre.length : Int) < (s.size : Int)) = false := by simp; omega
      have HF : Hid (lead digitI L = pre.length) := by
        unfold Hid
        rw [unhide HXS]
        exact lead_app (unhide HN) (fun c r e => by cases e)
      go_wp2
      go_ret
      rw [unhide HF]
      exact ⟨rfl, rfl⟩
    | c :: r, HXS =>
      have hlt : i0 + pre.length < s.size := by have := unhide HLN; rw [unhide HXS] at this; simp at this; omega
      have hd : decide ((i0 : Int) + (pre.length : Int) < (s.size : Int)) = true := by simp; omega
      have hSc : s[i0 + pre.length] = c := by
        have : s.data.toList[i0 + pre.length]? = some c := by rw [← List.getElem?_drop, unhide HLL, unhide HXS]; simp
        rw [Array.getElem?_toList] at this
        exact (Array.getElem?_eq_some_iff.1 this).2
      cases hp : digitI c.toNat with
      | false =>
        have HF : Hid (lead digitI L = pre.length) := by
          unfold Hid
          rw [unhide HXS]
          exact lead_app (unhide HN) (fun c' r' e => by injection e with e1 e2; subst e1; exact hp)
        cases hp2 : letterI c.toNat <;>
          (go_wp2_with (first | (go_at_call 163; refine (rletter_any _ _).mono ?_; rintro e w' ⟨rfl, rfl⟩) | (go_at_call 164; refine (rdigit_any _ _).mono ?_; rintro e w' ⟨rfl, rfl⟩))
           go_ret
           rw [unhide HF]
           exact ⟨rfl, rfl⟩)
      | true =>
        have HP := hide hp
        cases hp2 : letterI c.toNat <;>
          (go_wp2_with (first | (go_at_call 163; refine (rletter_any _ _).mono ?_; rintro e w' ⟨rfl, rfl⟩) | (go_at_call 164; refine (rdigit_any _ _).mono ?_; rintro e w' ⟨rfl, rfl⟩))
           go_round
           case rel => exact ⟨pre ++ [c], r, by rw [unhide HXS]; simp, by rw [List.length_append]; go_num, fun d hd => (List.mem_append.1 hd).elim (unhide HN d) (fun h => by rw [List.mem_singleton.1 h]; exact unhide HP)⟩
           case measure => simp [intOf]; omega)

/-- digits gone through from the left, with the bound. -/
def worthL : Nat → List UInt8 → Option Nat
  | n, [] => some n
  | n, c :: r => if 1000000000 < 10 * n + (c.toNat - 48) then none else worthL (10 * n + (c.toNat - 48)) r
def worthV : Option Nat → Int
  | some v => v
  | none => -1
theorem parse_ge : ∀ (l : List UInt8) (n u : Nat), Lib.parseUint10 n l = .ok u → n ≤ u
  | [], n, u, h => by simp only [Lib.parseUint10] at h; injection h with h; omega
  | c :: r, n, u, h => by
    simp only [Lib.parseUint10] at h
    split at h
    · split at h
      · cases h
      · split at h
        · cases h
        · have := parse_ge r _ u h; omega
    · cases h
theorem worth_parse : ∀ (l : List UInt8) (n : Nat), (∀ c, c ∈ l → digitI c.toNat = true) → n ≤ 1000000000 →
    (∀ v, worthL n l = some v → Lib.parseUint10 n l = .ok v ∧ v ≤ 1000000000) ∧ (worthL n l = none → ∀ u, Lib.parseUint10 n l = .ok u → 1000000000 < u)
  | [], n, _, hn => ⟨fun v h => by simp only [worthL] at h; injection h with h; subst h; exact ⟨rfl, hn⟩, fun h => by cases h⟩
  | c :: r, n, hd, hn => by
    have hc := hd c List.mem_cons_self
    have hc2 : 48 ≤ c.toNat ∧ c.toNat ≤ 57 := by
      unfold digitI at hc
      simp only [Bool.and_eq_true, decide_eq_true_eq] at hc
      omega
    have e : Lib.parseUint10 n (c :: r) = Lib.parseUint10 (n * 10 + (c.toNat - 48)) r := by
      simp only [Lib.parseUint10]
      rw [if_pos hc2, if_neg (by omega), if_neg (by omega)]
    rw [e, worthL, Nat.mul_comm n 10]
    by_cases hb : 1000000000 < 10 * n + (c.toNat - 48)
    · rw [if_pos hb]
      exact ⟨fun v h => (by cases h), fun _ u hu => (by have := parse_ge r _ u hu; omega)⟩
    · rw [if_neg hb]
      exact worth_parse r _ (fun d hd' => hd d (List.mem_cons_of_mem _ hd')) (by omega)
theorem num_worth {l : List UInt8} (hd : ∀ c, c ∈ l → digitI c.toNat = true) (hne : l ≠ []) : numOf l = (worthL 0 l).map fun n => (n : Int) := by
  match l, hne with
  | c :: r, _ =>
    have hc := hd c List.mem_cons_self
    have hc2 : 48 ≤ c.toNat ∧ c.toNat ≤ 57 := by
      unfold digitI at hc
      simp only [Bool.and_eq_true, decide_eq_true_eq] at hc
      omega
    obtain ⟨h1, h2⟩ := worth_parse (c :: r) 0 hd (by omega)
    unfold numOf Lib.atoiAll
    simp only
    rw [if_neg (by omega : ¬ (c.toNat = 43 ∨ c.toNat = 45))]
    unfold Lib.parseMag
    rw [if_neg (by simp)]
    cases hw : worthL 0 (c :: r) with
    | some v =>
      obtain ⟨h3, h4⟩ := h1 v hw
      rw [h3]
      simp only
      rw [if_neg (by omega), if_neg (by omega), if_neg (by omega)]
      simp only
      rw [if_neg (by omega)]
      rfl
    | none =>
      have h3 := h2 hw
      cases hp : Lib.parseUint10 0 (c :: r) with
      | «syntax» => rfl
      | range => rfl
      | ok u =>
        have h4 := h3 u hp
        simp only
        by_cases h5 : ¬ c.toNat = 45 ∧ 9223372036854775808 ≤ u
        · rw [if_pos h5]; rfl
        · rw [if_neg h5, if_neg (by omega), if_neg (by omega)]
          simp only
          rw [if_pos (by omega)]
          rfl

set_option maxRecDepth 100000 in
set_option maxHeartbeats 1000000 in
theorem worth_any (s : ByteArray) (w : World) (hs : s.size ≤ 1000) (hdig : ∀ c, c ∈ s.data.toList → digitI c.toNat = true) :
    Calls Tryz.prog 167 #[.string s] w fun e w' => e = .returned (.int .i64 (worthV (worthL 0 s.data.toList))) ∧ w' = w := by
  have HD := hide hdig
  clear hdig
  obtain ⟨R, HR⟩ : ∃ R, Hid (R = worthL 0 s.data.toList) := ⟨_, rfl⟩
  rw [← unhide HR]
  go_enter Tryz.func167, Tryz.ntmps167
  go_wp2_with fail
  go_loop [3, 4] (fun n i => ∃ (pre suf : List UInt8) (m : Nat), s.data.toList = pre ++ suf ∧ n = .int .i64 (m : Int) ∧ i = .int .i64 pre.length ∧ m ≤ 1000000000 ∧ R = worthL m suf) (fun _ i => s.size - (intOf i).toNat)
  case atStart => exact ⟨[], s.data.toList, 0, rfl, rfl, rfl, by omega, unhide HR⟩
  case round =>
    obtain ⟨pre, suf, m, hxs, rfl, rfl, hm, hr⟩ := hrel
    have HXS := hide hxs
    have HRR := hide hr
    clear hxs hr HR
    match suf, HXS, HRR with
    | [], HXS, HRR =>
      have hge : s.size ≤ pre.length := by rw [← sizeL, unhide HXS]; simp
      have hd : decide ((pre.length : Int) < (s.size : Int)) = false := by simp; omega
      have HF : Hid (R = some m) := unhide HRR
      go_wp2
      go_ret
      rw [unhide HF]
      exact ⟨rfl, rfl⟩
    | c :: r, HXS, HRR =>
      have hlt : pre.length < s.size := by rw [← sizeL, unhide HXS]; simp
      have hd : decide ((pre.length : Int) < (s.size : Int)) = true := by simp; omega
      have hSc : s[pre.length] = c := getB_at (unhide HXS) hlt
      have hc2 : 48 ≤ c.toNat ∧ c.toNat ≤ 57 := by
        have hc := (unhide HD) c (by rw [unhide HXS]; simp)
        unfold digitI at hc
        simp only [Bool.and_eq_true, decide_eq_true_eq] at hc
        omega
      obtain ⟨h48, h57⟩ := hc2
      by_cases hb : 1000000000 < 10 * m + (c.toNat - 48)
      · have hdb : decide ((1000000000 : Int) < 10 * (m : Int) + ((c.toNat : Int) - 48)) = true := by simp; omega
        have HF : Hid (R = none) := by unfold Hid; rw [unhide HRR, worthL, if_pos hb]
        clear hb
        go_wp2
        go_ret
        rw [unhide HF]
        exact ⟨rfl, rfl⟩
      · have hdb : decide ((1000000000 : Int) < 10 * (m : Int) + ((c.toNat : Int) - 48)) = false := by simp; omega
        have HF : Hid (R = worthL (10 * m + (c.toNat - 48)) r) := by unfold Hid; rw [unhide HRR, worthL, if_neg hb]
        have HB := hide hb
        clear hb
        go_wp2
        go_round
        case rel => exact ⟨pre ++ [c], r, 10 * m + (c.toNat - 48), by rw [unhide HXS]; simp, by congr 1; omega, by rw [List.length_append]; go_num, by have := unhide HB; omega, unhide HF⟩
        case measure => simp [intOf]; omega
end Go.Proofs.YtfkeddkfegaeiaaGreatDoor
