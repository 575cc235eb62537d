/-
  Part 33.
-/
import Derived.Test.YtfkeddkfegaeiaaGreatDoorJ28
import Derived.Test.YtfkeddkfegaeiaaGreatDoorJ26
import Derived.Deep.RegionWith
namespace Go.Proofs.YtfkeddkfegaeiaaGreatDoor
open Go.RowKit

set_option maxHeartbeats 400000 in
theorem rletter_any (n : Int) (w : World) : Calls Tryz.prog 163 #[.int .u8 n] w fun e w' => e = .returned (.bool (letterI n)) ∧ w' = w := by
  by_cases h1 : 97 ≤ n
  · have b1 : decide (97 ≤ n) = true := by simp [h1]
    by_cases h2 : n ≤ 122
    · have b2 : decide (n ≤ 122) = true := by simp [h2]
      go_enter Tryz.func163, Tryz.ntmps163
      go_wp2
      go_ret
      exact ⟨by simp [letterI, h1, h2], rfl⟩
    · have b2 : decide (n ≤ 122) = false := by simp; omega
      go_enter Tryz.func163, Tryz.ntmps163
      go_wp2
      go_ret
      exact ⟨by simp [letterI, b2], rfl⟩
  · have b1 : decide (97 ≤ n) = false := by simp; omega
    go_enter Tryz.func163, Tryz.ntmps163
    go_wp2
    go_ret
    exact ⟨by simp [letterI, b1], rfl⟩

set_option maxHeartbeats 400000 in
theorem rdigit_any (n : Int) (w : World) : Calls Tryz.prog 164 #[.int .u8 n] w fun e w' => e = .returned (.bool (digitI n)) ∧ w' = w := by
  by_cases h1 : 48 ≤ n
  · have b1 : decide (48 ≤ n) = true := by simp [h1]
    go_enter Tryz.func164, Tryz.ntmps164
    go_wp2
    go_ret
    exact ⟨by simp [digitI, h1], rfl⟩
  · have b1 : decide (48 ≤ n) = false := by simp; omega
    go_enter Tryz.func164, Tryz.ntmps164
    go_wp2
    go_ret
    exact ⟨by simp [digitI, b1], rfl⟩


theorem getB_at {S : ByteArray} {pre r : List UInt8} {c : UInt8} (h : S.data.toList = pre ++ c :: r) (hlt : pre.length < S.size) : S[pre.length] = c := by
  have : S.data.toList[pre.length]? = some c := by rw [h]; simp
  rw [Array.getElem?_toList] at this
  exact (Array.getElem?_eq_some_iff.1 this).2

theorem contains_split {pre suf : List ByteArray} {s : ByteArray} (h : ¬ s ∈ pre) : Lib.containsS (pre ++ suf) s = Lib.containsS suf s := by
  cases h2 : Lib.containsS suf s with
  | true => rw [Lib.containsS_iff] at h2 ⊢; exact List.mem_append_right _ h2
  | false =>
    cases h3 : Lib.containsS (pre ++ suf) s with
    | false => rfl
    | true =>
      rw [Lib.containsS_iff, List.mem_append] at h3
      rcases h3 with h3 | h3
      · exact (h h3).elim
      · rw [(Lib.containsS_iff _ _).2 h3] at h2; cases h2

set_option maxRecDepth 100000 in
set_option maxHeartbeats 1000000 in
theorem in_any (s : ByteArray) (w : World) (b : Nat) (xs : List ByteArray) (hx : Texts w b xs) (hl : xs.length ≤ 100) :
    Calls Tryz.prog 40 #[.string s, .slice (some ⟨b, 0, none⟩) xs.length xs.length] w fun e w' => e = .returned (.bool (Lib.containsS xs s)) ∧ w' = w := by
  obtain ⟨zb, hc⟩ := hx
  have HC := hide hc
  clear hc
  go_enter Tryz.func40, Tryz.ntmps40
  go_wp2_with fail
  go_loop [5] (fun i => ∃ pre suf, xs = pre ++ suf ∧ i = .int .i64 pre.length ∧ ¬ s ∈ pre) (fun i => xs.length - (intOf i).toNat)
  case atStart => exact ⟨[], xs, rfl, rfl, by simp⟩
  case round =>
    obtain ⟨pre, suf, hxs, rfl, hn⟩ := hrel
    have HN := hide hn
    have HXS := hide hxs
    clear hn hxs
    match suf, HXS with
    | [], HXS =>
      have hge : xs.length ≤ pre.length := by rw [unhide HXS]; simp
      have hnl : ¬ ((pre.length : Int) < (xs.length : Int)) := by omega
      have hd : decide ((pre.length : Int) < (xs.length : Int)) = false := by simp; omega
      have HF : Hid (Lib.containsS xs s = false) := by
        unfold Hid
        rw [unhide HXS, contains_split (unhide HN)]
        rfl
      go_wp2
      go_ret
      rw [unhide HF]
      exact ⟨rfl, rfl⟩
    | x :: r, HXS =>
      have hlt : pre.length < xs.length := by rw [unhide HXS]; simp
      have hd : decide ((pre.length : Int) < (xs.length : Int)) = true := by simp; omega
      have hcl : w.cell? ⟨b, 0 + pre.length, none⟩ = some (.string x) := by
        rw [(unhide HC) pre.length hlt, unhide HXS]
        simp
      rw [Nat.zero_add] at hcl
      by_cases he : x = s
      · subst he
        have HT : Hid (Lib.containsS xs x = true) := by
          unfold Hid
          rw [Lib.containsS_iff, unhide HXS]
          simp
        go_wp2
        go_ret
        rw [unhide HT]
        exact ⟨rfl, rfl⟩
      · have hq : (x.toList == s.toList) = false := by
          simp only [beq_eq_false_iff_ne, ne_eq]
          intro e
          rw [ByteArray.toList_eq, ByteArray.toList_eq] at e
          exact he (Go.WideShapes.bytes_inj e)
        have HE := hide he
        clear he
        go_wp2
        go_round
        case rel => exact ⟨pre ++ [x], r, by rw [unhide HXS]; simp, by simp, fun hm => (List.mem_append.1 hm).elim (unhide HN) (fun h => unhide HE (List.mem_singleton.1 h).symm)⟩
        case measure => simp [intOf]; omega

set_option maxRecDepth 100000 in
set_option maxHeartbeats 1000000 in
theorem end_letter (s : ByteArray) (i0 : Nat) (L : List UInt8) (w : World) (hi : i0 ≤ s.size) (hs : s.size ≤ 1000) (hL : s.data.toList.drop i0 = L) :
    Calls Tryz.prog 165 #[.string s, .int .i64 i0, .bool true] w fun e w' => e = .returned (.int .i64 ((i0 : Int) + (lead letterI L : Int))) ∧ w' = w := by
  have HLL := hide hL
  have HLN : Hid (L.length + i0 = s.size) := by unfold Hid; rw [← hL, List.length_drop, sizeL]; omega
  clear hL
  go_enter Tryz.func165, Tryz.ntmps165
  go_wp2_with fail
  go_loop [1] (fun x => ∃ pre suf, L = pre ++ suf ∧ x = .int .i64 ((i0 : Int) + (pre.length : Int)) ∧ ∀ c, c ∈ pre → letterI c.toNat = true) (fun x => s.size - (intOf x).toNat)
  case atStart => exact ⟨[], L, rfl, by simp, fun c hc => by cases hc⟩
  case round =>
    obtain ⟨pre, suf, hxs, rfl, hn⟩ := hrel
    have HN := hide hn
    have HXS := hide hxs
    clear hn hxs
    match suf, HXS with
    | [], HXS =>
      have hge : s.size ≤ i0 + pre.length := by have := unhide HLN; rw [unhide HXS, List.append_nil] at this; omega
      have hd : decide ((i0 : Int) + (pre.length : Int) < (s.size : Int)) = false := by simp; omega
      have HF : Hid (lead letterI L = pre.length) := by
        unfold Hid
        rw [unhide HXS]
        exact lead_app (unhide HN) (fun c r e => by cases e)
      go_wp2
      go_ret
      rw [unhide HF]
      exact ⟨rfl, rfl⟩
    | c :: r, HXS =>
      have hlt : i0 + pre.length < s.size := by have := unhide HLN; rw [unhide HXS] at this; simp at this; omega
      have hd : decide ((i0 : Int) + (pre.length : Int) < (s.size : Int)) = true := by simp; omega
      have hSc : s[i0 + pre.length] = c := by
        have : s.data.toList[i0 + pre.length]? = some c := by rw [← List.getElem?_drop, unhide HLL, unhide HXS]; simp
        rw [Array.getElem?_toList] at this
        exact (Array.getElem?_eq_some_iff.1 this).2
      cases hp : letterI c.toNat with
      | false =>
        have HF : Hid (lead letterI L = pre.length) := by
          unfold Hid
          rw [unhide HXS]
          exact lead_app (unhide HN) (fun c' r' e => by injection e with e1 e2; subst e1; exact hp)
        cases hp2 : digitI c.toNat <;>
          (go_wp2_with (first | (go_at_call 163; refine (rletter_any _ _).mono ?_; rintro e w' ⟨rfl, rfl⟩) | (go_at_call 164; refine (rdigit_any _ _).mono ?_; rintro e w' ⟨rfl, rfl⟩))
           go_ret
           rw [unhide HF]
           exact ⟨rfl, rfl⟩)
      | true =>
        have HP := hide hp
        cases hp2 : digitI c.toNat <;>
          (go_wp2_with (first | (go_at_call 163; refine (rletter_any _ _).mono ?_; rintro e w' ⟨rfl, rfl⟩) | (go_at_call 164; refine (rdigit_any _ _).mono ?_; rintro e w' ⟨rfl, rfl⟩))
           go_round
           case rel => exact ⟨pre ++ [c], r, by rw [unhide HXS]; simp, by rw [List.length_append]; go_num, fun d hd => (List.mem_append.1 hd).elim (unhide HN d) (fun h => by rw [List.mem_singleton.1 h]; exact unhide HP)⟩
           case measure => simp [intOf]; omega)

set_option maxRecDepth 100000 in
set_option maxHeartbeats 1000000 in
theorem end_digit (s : ByteArray) (i0 : Nat) (L : List UInt8) (w : World) (hi : i0 ≤ s.size) (hs : s.size ≤ 1000) (hL : s.data.toList.drop i0 = L) :
    Calls Tryz.prog 165 #[.string s, .int .i64 i0, .bool false] w fun e w' => e = .returned (.int .i64 ((i0 : Int) + (lead digitI L : Int))) ∧ w' = w := by
  have HLL := hide hL
  have HLN : Hid (L.length + i0 = s.size) := by unfold Hid; rw [← hL, List.length_drop, sizeL]; omega
  clear hL
  go_enter Tryz.func165, Tryz.ntmps165
  go_wp2_with fail
  go_loop [1] (fun x => ∃ pre suf, L = pre ++ suf ∧ x = .int .i64 ((i0 : Int) + (pre.length : Int)) ∧ ∀ c, c ∈ pre → digitI c.toNat = true) (fun x => s.size - (intOf x).toNat)
  case atStart => exact ⟨[], L, rfl, by simp, fun c hc => by cases hc⟩
  case round =>
    obtain ⟨pre, suf, hxs, rfl, hn⟩ := hrel
    have HN := hide hn
    have HXS := hide hxs
    clear hn hxs
    match suf, HXS with
    | [], HXS =>
      have hge : s.size ≤ i0 + pre.length := by have := unhide HLN; rw [unhide HXS, List.append_nil] at this; omega
      have hd : decide ((i0 : Int) + (pre.length : Int) < (s.size : Int)) = false := by simp; omega
      have HF : Hid (lead digitI L = pre.length) := by
        unfold Hid
        rw [unhide HXS]
        exact lead_app (unhide HN) (fun c r e => by cases e)
      go_wp2
      go_ret
      rw [unhide HF]
      exact ⟨rfl, rfl⟩
    | c :: r, HXS =>
      have hlt : i0 + pre.length < s.size := by have := unhide HLN; rw [unhide HXS] at this; simp at this; omega
      have hd : decide ((i0 : Int) + (pre.length : Int) < (s.size : Int)) = true := by simp; omega
      have hSc : s[i0 + pre.length] = c := by
        have : s.data.toList[i0 + pre.length]? = some c := by rw [← List.getElem?_drop, unhide HLL, unhide HXS]; simp
        rw [Array.getElem?_toList] at this
        exact (Array.getElem?_eq_some_iff.1 this).2
      cases hp : digitI c.toNat with
      | false =>
        have HF : Hid (lead digitI L = pre.length) := by
          unfold Hid
          rw [unhide HXS]
          exact lead_app (unhide HN) (fun c' r' e => by injection e with e1 e2; subst e1; exact hp)
        cases hp2 : letterI c.toNat <;>
          (go_wp2_with (first | (go_at_call 163; refine (rletter_any _ _).mono ?_; rintro e w' ⟨rfl, rfl⟩) | (go_at_call 164; refine (rdigit_any _ _).mono ?_; rintro e w' ⟨rfl, rfl⟩))
           go_ret
           rw [unhide HF]
           exact ⟨rfl, rfl⟩)
      | true =>
        have HP := hide hp
        cases hp2 : letterI c.toNat <;>
          (go_wp2_with (first | (go_at_call 163; refine (rletter_any _ _).mono ?_; rintro e w' ⟨rfl, rfl⟩) | (go_at_call 164; refine (rdigit_any _ _).mono ?_; rintro e w' ⟨rfl, rfl⟩))
           go_round
           case rel => exact ⟨pre ++ [c], r, by rw [unhide HXS]; simp, by rw [List.length_append]; go_num, fun d hd => (List.mem_append.1 hd).elim (unhide HN d) (fun h => by rw [List.mem_singleton.1 h]; exact unhide HP)⟩
           case measure => simp [intOf]; omega)

/-- digits gone through from the left, with the bound. -/
def worthL : Nat → List UInt8 → Option Nat
  | n, [] => some n
  | n, c :: r => if 1000000000 < 10 * n + (c.toNat - 48) then none else worthL (10 * n + (c.toNat - 48)) r
def worthV : Option Nat → Int
  | some v => v
  | none => -1
theorem parse_ge : ∀ (l : List UInt8) (n u : Nat), Lib.parseUint10 n l = .ok u → n ≤ u
  | [], n, u, h => by simp only [Lib.parseUint10] at h; injection h with h; omega
  | c :: r, n, u, h => by
    simp only [Lib.parseUint10] at h
    split at h
    · split at h
      · cases h
      · split at h
        · cases h
        · have := parse_ge r _ u h; omega
    · cases h
theorem worth_parse : ∀ (l : List UInt8) (n : Nat), (∀ c, c ∈ l → digitI c.toNat = true) → n ≤ 1000000000 →
    (∀ v, worthL n l = some v → Lib.parseUint10 n l = .ok v ∧ v ≤ 1000000000) ∧ (worthL n l = none → ∀ u, Lib.parseUint10 n l = .ok u → 1000000000 < u)
  | [], n, _, hn => ⟨fun v h => by simp only [worthL] at h; injection h with h; subst h; exact ⟨rfl, hn⟩, fun h => by cases h⟩
  | c :: r, n, hd, hn => by
    have hc := hd c List.mem_cons_self
    have hc2 : 48 ≤ c.toNat ∧ c.toNat ≤ 57 := by
      unfold digitI at hc
      simp only [Bool.and_eq_true, decide_eq_true_eq] at hc
      omega
    have e : Lib.parseUint10 n (c :: r) = Lib.parseUint10 (n * 10 + (c.toNat - 48)) r := by
      simp only [Lib.parseUint10]
      rw [if_pos hc2, if_neg (by omega), if_neg (by omega)]
    rw [e, worthL, Nat.mul_comm n 10]
    by_cases hb : 1000000000 < 10 * n + (c.toNat - 48)
    · rw [if_pos hb]
      exact ⟨fun v h => (by cases h), fun _ u hu => (by have := parse_ge r _ u hu; omega)⟩
    · rw [if_neg hb]
      exact worth_parse r _ (fun d hd' => hd d (List.mem_cons_of_mem _ hd')) (by omega)
theorem num_worth {l : List UInt8} (hd : ∀ c, c ∈ l → digitI c.toNat = true) (hne : l ≠ []) : numOf l = (worthL 0 l).map fun n => (n : Int) := by
  match l, hne with
  | c :: r, _ =>
    have hc := hd c List.mem_cons_self
    have hc2 : 48 ≤ c.toNat ∧ c.toNat ≤ 57 := by
      unfold digitI at hc
      simp only [Bool.and_eq_true, decide_eq_true_eq] at hc
      omega
    obtain ⟨h1, h2⟩ := worth_parse (c :: r) 0 hd (by omega)
    unfold numOf Lib.atoiAll
    simp only
    rw [if_neg (by omega : ¬ (c.toNat = 43 ∨ c.toNat = 45))]
    unfold Lib.parseMag
    rw [if_neg (by simp)]
    cases hw : worthL 0 (c :: r) with
    | some v =>
      obtain ⟨h3, h4⟩ := h1 v hw
      rw [h3]
      simp only
      rw [if_neg (by omega), if_neg (by omega), if_neg (by omega)]
      simp only
      rw [if_neg (by omega)]
      rfl
    | none =>
      have h3 := h2 hw
      cases hp : Lib.parseUint10 0 (c :: r) with
      | «syntax» => rfl
      | range => rfl
      | ok u =>
        have h4 := h3 u hp
        simp only
        by_cases h5 : ¬ c.toNat = 45 ∧ 9223372036854775808 ≤ u
        · rw [if_pos h5]; rfl
        · rw [if_neg h5, if_neg (by omega), if_neg (by omega)]
          simp only
          rw [if_pos (by omega)]
          rfl

set_option maxRecDepth 100000 in
set_option maxHeartbeats 1000000 in
theorem worth_any (s : ByteArray) (w : World) (hs : s.size ≤ 1000) (hdig : ∀ c, c ∈ s.data.toList → digitI c.toNat = true) :
    Calls Tryz.prog 167 #[.string s] w fun e w' => e = .returned (.int .i64 (worthV (worthL 0 s.data.toList))) ∧ w' = w := by
  have HD := hide hdig
  clear hdig
  obtain ⟨R, HR⟩ : ∃ R, Hid (R = worthL 0 s.data.toList) := ⟨_, rfl⟩
  rw [← unhide HR]
  go_enter Tryz.func167, Tryz.ntmps167
  go_wp2_with fail
  go_loop [3, 4] (fun n i => ∃ (pre suf : List UInt8) (m : Nat), s.data.toList = pre ++ suf ∧ n = .int .i64 (m : Int) ∧ i = .int .i64 pre.length ∧ m ≤ 1000000000 ∧ R = worthL m suf) (fun _ i => s.size - (intOf i).toNat)
  case atStart => exact ⟨[], s.data.toList, 0, rfl, rfl, rfl, by omega, unhide HR⟩
  case round =>
    obtain ⟨pre, suf, m, hxs, rfl, rfl, hm, hr⟩ := hrel
    have HXS := hide hxs
    have HRR := hide hr
    clear hxs hr HR
    match suf, HXS, HRR with
    | [], HXS, HRR =>
      have hge : s.size ≤ pre.length := by rw [← sizeL, unhide HXS]; simp
      have hd : decide ((pre.length : Int) < (s.size : Int)) = false := by simp; omega
      have HF : Hid (R = some m) := unhide HRR
      go_wp2
      go_ret
      rw [unhide HF]
      exact ⟨rfl, rfl⟩
    | c :: r, HXS, HRR =>
      have hlt : pre.length < s.size := by rw [← sizeL, unhide HXS]; simp
      have hd : decide ((pre.length : Int) < (s.size : Int)) = true := by simp; omega
      have hSc : s[pre.length] = c := getB_at (unhide HXS) hlt
      have hc2 : 48 ≤ c.toNat ∧ c.toNat ≤ 57 := by
        have hc := (unhide HD) c (by rw [unhide HXS]; simp)
        unfold digitI at hc
        simp only [Bool.and_eq_true, decide_eq_true_eq] at hc
        omega
      obtain ⟨h48, h57⟩ := hc2
      by_cases hb : 1000000000 < 10 * m + (c.toNat - 48)
      · have hdb : decide ((1000000000 : Int) < 10 * (m : Int) + ((c.toNat : Int) - 48)) = true := by simp; omega
        have HF : Hid (R = none) := by unfold Hid; rw [unhide HRR, worthL, if_pos hb]
        clear hb
        go_wp2
        go_ret
        rw [unhide HF]
        exact ⟨rfl, rfl⟩
      · have hdb : decide ((1000000000 : Int) < 10 * (m : Int) + ((c.toNat : Int) - 48)) = false := by simp; omega
        have HF : Hid (R = worthL (10 * m + (c.toNat - 48)) r) := by unfold Hid; rw [unhide HRR, worthL, if_neg hb]
        have HB := hide hb
        clear hb
        go_wp2
        go_round
        case rel => exact ⟨pre ++ [c], r, 10 * m + (c.toNat - 48), by rw [unhide HXS]; simp, by congr 1; omega, by rw [List.length_append]; go_num, by have := unhide HB; omega, unhide HF⟩
        case measure => simp [intOf]; omega
end Go.Proofs.YtfkeddkfegaeiaaGreatDoor
namespace Go.Proofs.YtfkeddkfegaeiaaGreatDoor
open Go.RowKit

def words18 : List ByteArray := wordList.map fun l => ⟨l.toArray⟩
theorem words_in (s : ByteArray) : Lib.containsS words18 s = wordB s.data.toList := by
  rw [Bool.eq_iff_iff, Lib.containsS_iff]
  unfold words18 wordB
  simp only [List.mem_map, List.any_eq_true, beq_iff_eq]
  constructor
  · rintro ⟨l, hl, rfl⟩
    exact ⟨l, hl, by simp⟩
  · rintro ⟨l, hl, e⟩
    exact ⟨l, hl, Go.WideShapes.bytes_inj (by simp [e])⟩

set_option maxRecDepth 100000 in
set_option maxHeartbeats 1000000 in
theorem Words_any (w : World) :
    Calls Tryz.prog 166 #[] w fun e w' => e = .returned (.slice (some ⟨w.heap.size, 0, none⟩) 18 18) ∧ Texts w' w.heap.size words18 ∧ Below w.heap.size w w' := by
  go_enter Tryz.func166, Tryz.ntmps166
  go_wp2
  go_ret
  refine ⟨rfl, ?_, (Below.refl _ _).alloc (Nat.le_refl _) _⟩
  exact texts_new rfl (fun j hj => by
    match j, hj with
    | 0, _ | 1, _ | 2, _ | 3, _ | 4, _ | 5, _ | 6, _ | 7, _ | 8, _ | 9, _ | 10, _ | 11, _ | 12, _ | 13, _ | 14, _ | 15, _ | 16, _ | 17, _ => rfl
    | _ + 18, h => exact absurd h (by simp [words18, wordList]))

set_option maxRecDepth 100000 in
set_option maxHeartbeats 1000000 in
theorem token_word (s : ByteArray) (i n : Nat) (c : UInt8) (L : List UInt8) (w : World) (hi : i < s.size) (hs : s.size ≤ 1000) (HL : Hid (s.data.toList.drop i = c :: L)) (hlet : letterI c.toNat = true) (HN : Hid (lead letterI (c :: L) = n)) (hn : i + n ≤ s.size) (hwd : wordB (s.extract i (i + n)).data.toList = true) :
    Calls Tryz.prog 108 #[.string s, .int .i64 i] w fun e w' => e = .returned (.tuple #[.agg #[.int .i64 1, .int .i64 i, .string (s.extract i (i + n))], .int .i64 0]) ∧ Below w.heap.size w w' := by
  have hSc : s[i] = c := by
    have : s.data.toList[i]? = some c := by
      have := congrArg (fun l => l[0]?) (unhide HL)
      simpa using this
    rw [Array.getElem?_toList] at this
    exact (Array.getElem?_eq_some_iff.1 this).2
  have hdig : digitI c.toNat = false := by
    have := letter_digit c
    rw [hlet] at this
    simpa using this
  have HW := hide hwd
  clear hwd
  go_enter Tryz.func108, Tryz.ntmps108
  go_wp2_with (first | (go_at_call 163; refine (rletter_any _ _).mono ?_; rintro e w' ⟨rfl, rfl⟩) | (go_at_call 164; refine (rdigit_any _ _).mono ?_; rintro e w' ⟨rfl, rfl⟩))
  refine (end_letter s i (c :: L) _ (by omega) hs (unhide HL)).mono ?_
  rintro e w' ⟨rfl, rfl⟩
  rw [unhide HN]
  go_wp2_with fail
  generalize hx : s.extract i (i + n) = x at *
  have HX := hide hx
  clear hx
  have K0 : Hid (((w.alloc (.cells #[.int .i64 0, .int .i64 0, .string ⟨#[]⟩] 100)).alloc (.cells #[.int .i64 2, .int .i64 i, .string x] 100)).heap[w.heap.size]? = some (.cells #[.int .i64 0, .int .i64 0, .string ⟨#[]⟩] 100 (0, 0))) := heap_prev (heap_last rfl)
  have K1 : Hid (((w.alloc (.cells #[.int .i64 0, .int .i64 0, .string ⟨#[]⟩] 100)).alloc (.cells #[.int .i64 2, .int .i64 i, .string x] 100)).heap[w.heap.size + 1]? = some (.cells #[.int .i64 2, .int .i64 i, .string x] 100 (0, 0))) := heap_last (by simp)
  have KB : Hid (Below w.heap.size w ((w.alloc (.cells #[.int .i64 0, .int .i64 0, .string ⟨#[]⟩] 100)).alloc (.cells #[.int .i64 2, .int .i64 i, .string x] 100))) := ((Below.refl _ _).alloc (Nat.le_refl _) _).alloc (by simp) _
  generalize (w.alloc (.cells #[.int .i64 0, .int .i64 0, .string ⟨#[]⟩] 100)).alloc (.cells #[.int .i64 2, .int .i64 i, .string x] 100) = W at *
  obtain ⟨k0, f0⟩ := blk (unhide K0)
  obtain ⟨k1, f1⟩ := blk (unhide K1)
  have z1 := lt_of_heap (unhide K1)
  have hin : Lib.containsS words18 x = true := by rw [words_in]; exact unhide HW
  go_region_with (first
    | (go_at_call 166; refine (Words_any _).mono ?_; rintro e w3 ⟨rfl, htx, hb3⟩; have HTX := hide htx; have HB3 := hide hb3; have K3 := hide ((hb3.block (w.heap.size + 1) (by simp; omega)).trans (by exact unhide K1)); have K4 := hide ((hb3.block w.heap.size (by simp; omega)).trans (by exact unhide K0)); obtain ⟨k3, f3⟩ := blk (unhide K3); obtain ⟨k4, f4⟩ := blk (unhide K4); have z3 := lt_of_heap (unhide K3); clear htx hb3)
    | (go_at_call 40; refine (in_any _ _ _ words18 (by exact unhide HTX) (by decide)).mono ?_; rintro e w4 ⟨rfl, rfl⟩))
  all_goals
    go_wp2
    refine bodyPost_ret (v := .tuple #[.agg #[.int .i64 1, .int .i64 i, .string x], .int .i64 0]) (by simp [results, Tryz.results108, go_sem, k4]) rfl ⟨by rw [unhide HX], ?_⟩
    have hb4 : Below w.heap.size w w4 := by
      first
        | exact (unhide KB).trans ((unhide HB3).mono (by have := (unhide KB).size; omega))
        | exact (unhide KB).drew.trans ((unhide HB3).mono (unhide KB).size)
    repeat (first | exact hb4 | apply Below.drew | refine Below.setCell ?_ (by first | exact Nat.le_refl _ | exact Nat.le_succ _) _)

set_option maxRecDepth 100000 in
set_option maxHeartbeats 1000000 in
theorem token_name (s : ByteArray) (i n : Nat) (c : UInt8) (L : List UInt8) (w : World) (hi : i < s.size) (hs : s.size ≤ 1000) (HL : Hid (s.data.toList.drop i = c :: L)) (hlet : letterI c.toNat = true) (HN : Hid (lead letterI (c :: L) = n)) (hn : i + n ≤ s.size) (hwd : wordB (s.extract i (i + n)).data.toList = false) (hsz : (s.extract i (i + n)).size ≤ 8) :
    Calls Tryz.prog 108 #[.string s, .int .i64 i] w fun e w' => e = .returned (.tuple #[.agg #[.int .i64 2, .int .i64 i, .string (s.extract i (i + n))], .int .i64 0]) ∧ Below w.heap.size w w' := by
  have hSc : s[i] = c := by
    have : s.data.toList[i]? = some c := by
      have := congrArg (fun l => l[0]?) (unhide HL)
      simpa using this
    rw [Array.getElem?_toList] at this
    exact (Array.getElem?_eq_some_iff.1 this).2
  have hdig : digitI c.toNat = false := by
    have := letter_digit c
    rw [hlet] at this
    simpa using this
  have HW := hide hwd
  have HZ := hide hsz
  clear hwd hsz
  go_enter Tryz.func108, Tryz.ntmps108
  go_wp2_with (first | (go_at_call 163; refine (rletter_any _ _).mono ?_; rintro e w' ⟨rfl, rfl⟩) | (go_at_call 164; refine (rdigit_any _ _).mono ?_; rintro e w' ⟨rfl, rfl⟩))
  refine (end_letter s i (c :: L) _ (by omega) hs (unhide HL)).mono ?_
  rintro e w' ⟨rfl, rfl⟩
  rw [unhide HN]
  go_wp2_with fail
  generalize hx : s.extract i (i + n) = x at *
  have HX := hide hx
  clear hx
  have K0 : Hid (((w.alloc (.cells #[.int .i64 0, .int .i64 0, .string ⟨#[]⟩] 100)).alloc (.cells #[.int .i64 2, .int .i64 i, .string x] 100)).heap[w.heap.size]? = some (.cells #[.int .i64 0, .int .i64 0, .string ⟨#[]⟩] 100 (0, 0))) := heap_prev (heap_last rfl)
  have K1 : Hid (((w.alloc (.cells #[.int .i64 0, .int .i64 0, .string ⟨#[]⟩] 100)).alloc (.cells #[.int .i64 2, .int .i64 i, .string x] 100)).heap[w.heap.size + 1]? = some (.cells #[.int .i64 2, .int .i64 i, .string x] 100 (0, 0))) := heap_last (by simp)
  have KB : Hid (Below w.heap.size w ((w.alloc (.cells #[.int .i64 0, .int .i64 0, .string ⟨#[]⟩] 100)).alloc (.cells #[.int .i64 2, .int .i64 i, .string x] 100))) := ((Below.refl _ _).alloc (Nat.le_refl _) _).alloc (by simp) _
  generalize (w.alloc (.cells #[.int .i64 0, .int .i64 0, .string ⟨#[]⟩] 100)).alloc (.cells #[.int .i64 2, .int .i64 i, .string x] 100) = W at *
  obtain ⟨k0, f0⟩ := blk (unhide K0)
  obtain ⟨k1, f1⟩ := blk (unhide K1)
  have z1 := lt_of_heap (unhide K1)
  have hin : Lib.containsS words18 x = false := by rw [words_in]; exact unhide HW
  have hz8 : x.size ≤ 8 := unhide HZ
  have hd8 : decide (8 < (x.size : Int)) = false := by simp; omega
  go_region_with (first
    | (go_at_call 166; refine (Words_any _).mono ?_; rintro e w3 ⟨rfl, htx, hb3⟩; have HTX := hide htx; have HB3 := hide hb3; have K3 := hide ((hb3.block (w.heap.size + 1) (by simp; omega)).trans (by exact unhide K1)); have K4 := hide ((hb3.block w.heap.size (by simp; omega)).trans (by exact unhide K0)); obtain ⟨k3, f3⟩ := blk (unhide K3); obtain ⟨k4, f4⟩ := blk (unhide K4); have z3 := lt_of_heap (unhide K3); clear htx hb3)
    | (go_at_call 40; refine (in_any _ _ _ words18 (by exact unhide HTX) (by decide)).mono ?_; rintro e w4 ⟨rfl, rfl⟩))
  all_goals
    go_wp2
    refine bodyPost_ret (v := .tuple #[.agg #[.int .i64 2, .int .i64 i, .string x], .int .i64 0]) (by simp [results, Tryz.results108, go_sem, k4]) rfl ⟨by rw [unhide HX], ?_⟩
    have hb4 : Below w.heap.size w w4 := by
      first
        | exact (unhide KB).trans ((unhide HB3).mono (by have := (unhide KB).size; omega))
        | exact (unhide KB).drew.trans ((unhide HB3).mono (unhide KB).size)
    repeat (first | exact hb4 | apply Below.drew | refine Below.setCell ?_ (by first | exact Nat.le_refl _ | exact Nat.le_succ _) _)

set_option maxRecDepth 100000 in
set_option maxHeartbeats 1000000 in
theorem token_long (s : ByteArray) (i n : Nat) (c : UInt8) (L : List UInt8) (w : World) (hi : i < s.size) (hs : s.size ≤ 1000) (HL : Hid (s.data.toList.drop i = c :: L)) (hlet : letterI c.toNat = true) (HN : Hid (lead letterI (c :: L) = n)) (hn : i + n ≤ s.size) (hwd : wordB (s.extract i (i + n)).data.toList = false) (hsz : 8 < (s.extract i (i + n)).size) :
    Calls Tryz.prog 108 #[.string s, .int .i64 i] w fun e w' => e = .returned (.tuple #[.agg #[.int .i64 2, .int .i64 i, .string (s.extract i (i + n))], .int .i64 4]) ∧ Below w.heap.size w w' := by
  have hSc : s[i] = c := by
    have : s.data.toList[i]? = some c := by
      have := congrArg (fun l => l[0]?) (unhide HL)
      simpa using this
    rw [Array.getElem?_toList] at this
    exact (Array.getElem?_eq_some_iff.1 this).2
  have hdig : digitI c.toNat = false := by
    have := letter_digit c
    rw [hlet] at this
    simpa using this
  have HW := hide hwd
  have HZ := hide hsz
  clear hwd hsz
  go_enter Tryz.func108, Tryz.ntmps108
  go_wp2_with (first | (go_at_call 163; refine (rletter_any _ _).mono ?_; rintro e w' ⟨rfl, rfl⟩) | (go_at_call 164; refine (rdigit_any _ _).mono ?_; rintro e w' ⟨rfl, rfl⟩))
  refine (end_letter s i (c :: L) _ (by omega) hs (unhide HL)).mono ?_
  rintro e w' ⟨rfl, rfl⟩
  rw [unhide HN]
  go_wp2_with fail
  generalize hx : s.extract i (i + n) = x at *
  have HX := hide hx
  clear hx
  have K0 : Hid (((w.alloc (.cells #[.int .i64 0, .int .i64 0, .string ⟨#[]⟩] 100)).alloc (.cells #[.int .i64 2, .int .i64 i, .string x] 100)).heap[w.heap.size]? = some (.cells #[.int .i64 0, .int .i64 0, .string ⟨#[]⟩] 100 (0, 0))) := heap_prev (heap_last rfl)
  have K1 : Hid (((w.alloc (.cells #[.int .i64 0, .int .i64 0, .string ⟨#[]⟩] 100)).alloc (.cells #[.int .i64 2, .int .i64 i, .string x] 100)).heap[w.heap.size + 1]? = some (.cells #[.int .i64 2, .int .i64 i, .string x] 100 (0, 0))) := heap_last (by simp)
  have KB : Hid (Below w.heap.size w ((w.alloc (.cells #[.int .i64 0, .int .i64 0, .string ⟨#[]⟩] 100)).alloc (.cells #[.int .i64 2, .int .i64 i, .string x] 100))) := ((Below.refl _ _).alloc (Nat.le_refl _) _).alloc (by simp) _
  generalize (w.alloc (.cells #[.int .i64 0, .int .i64 0, .string ⟨#[]⟩] 100)).alloc (.cells #[.int .i64 2, .int .i64 i, .string x] 100) = W at *
  obtain ⟨k0, f0⟩ := blk (unhide K0)
  obtain ⟨k1, f1⟩ := blk (unhide K1)
  have z1 := lt_of_heap (unhide K1)
  have hin : Lib.containsS words18 x = false := by rw [words_in]; exact unhide HW
  have hz8 : 8 < x.size := unhide HZ
  have hd8 : decide (8 < (x.size : Int)) = true := by simp; omega
  go_region_with (first
    | (go_at_call 166; refine (Words_any _).mono ?_; rintro e w3 ⟨rfl, htx, hb3⟩; have HTX := hide htx; have HB3 := hide hb3; have K3 := hide ((hb3.block (w.heap.size + 1) (by simp; omega)).trans (by exact unhide K1)); have K4 := hide ((hb3.block w.heap.size (by simp; omega)).trans (by exact unhide K0)); obtain ⟨k3, f3⟩ := blk (unhide K3); obtain ⟨k4, f4⟩ := blk (unhide K4); have z3 := lt_of_heap (unhide K3); clear htx hb3)
    | (go_at_call 40; refine (in_any _ _ _ words18 (by exact unhide HTX) (by decide)).mono ?_; rintro e w4 ⟨rfl, rfl⟩))
  all_goals
    go_wp2
    refine bodyPost_ret (v := .tuple #[.agg #[.int .i64 2, .int .i64 i, .string x], .int .i64 4]) (by simp [results, Tryz.results108, go_sem, k4]) rfl ⟨by rw [unhide HX], ?_⟩
    have hb4 : Below w.heap.size w w4 := by
      first
        | exact (unhide KB).trans ((unhide HB3).mono (by have := (unhide KB).size; omega))
        | exact (unhide KB).drew.trans ((unhide HB3).mono (unhide KB).size)
    repeat (first | exact hb4 | apply Below.drew | refine Below.setCell ?_ (by first | exact Nat.le_refl _ | exact Nat.le_succ _) _)

end Go.Proofs.YtfkeddkfegaeiaaGreatDoor
