/-
  Part 34.
-/
import Derived.Test.YtfkeddkfegaeiaaGreatDoorJ01
import Derived.WalkLawsBesides
import Derived.Lib.SlBytesRow
import Derived.Test.YtfkeddkfegaeiaaGreatDoorJ28
import Derived.Test.YtfkeddkfegaeiaaGreatDoorMSim
namespace Go.Proofs.YtfkeddkfegaeiaaGreatDoor
open Go.RowKit

def gapK (n : Int) : Int := if n < 0 then -(n + 1) else n
def gapC (k : Int) : UInt8 := if k % 3 = 0 then 32 else if k % 3 = 1 then 9 else 10
def gapL (n : Int) : List UInt8 := gapC (gapK n) :: (if gapK n % 5 = 0 then [32] else [])

theorem byte_string (w : World) (b : Nat) (c : UInt8) (n : Int) (hn : n = c.toNat) (hc : w.cell? ⟨b, 0, none⟩ = some (.int .u8 n)) : (convert 89 9 (.slice (some ⟨b, 0, none⟩) 1 1)).run Tryz.prog w = .ok (.string ⟨#[c]⟩) w := by
  subst hn
  refine Lib.run_convert_whole (P := Tryz.prog) w 89 5 9 Tryz.underlying89 Tryz.underlying5 Tryz.underlying9 b 0 ⟨#[c]⟩ (fun i hi => ?_) 1
  have e : i = 0 := by have : i < 1 := hi; omega
  subst e
  exact hc

def gapS (k : Int) : List UInt8 := gapC k :: (if k % 5 = 0 then [32] else [])

set_option maxRecDepth 100000 in
set_option maxHeartbeats 2000000 in
theorem gap_pos (n : Int) (w : World) (h0 : 0 ≤ n) (h1 : n < 9223372036854775808) :
    Calls Tryz.prog 17 #[.int .i64 n] w fun e w' => e = .returned (.string ⟨(gapS n).toArray⟩) ∧ Below w.heap.size w w' := by
  have hd : decide (n < 0) = false := by simp; omega
  have h3 : n % 3 = 0 ∨ n % 3 = 1 ∨ n % 3 = 2 := by omega
  unfold gapS gapC
  by_cases hq : n % 5 = 0
  · rw [if_pos hq]
    have hq2 : ((n % 5 : Int) == 0) = true := by rw [hq]; rfl
    rcases h3 with hm | hm | hm
    · have hcv := byte_string ((w.alloc (.cells #[.int .u8 32, .int .u8 9, .int .u8 10] 5)).alloc (.cells #[.int .u8 32] 5)) (w.heap.size + 1) 32 32 rfl (by simp)
      rw [hm]
      go_enter Tryz.func17, Tryz.ntmps17
      go_wp2
      go_ret
      exact ⟨rfl, ((Below.refl _ _).alloc (Nat.le_refl _) _).alloc (by simp) _⟩
    · have hcv := byte_string ((w.alloc (.cells #[.int .u8 32, .int .u8 9, .int .u8 10] 5)).alloc (.cells #[.int .u8 9] 5)) (w.heap.size + 1) 9 9 rfl (by simp)
      rw [hm]
      go_enter Tryz.func17, Tryz.ntmps17
      go_wp2
      go_ret
      exact ⟨rfl, ((Below.refl _ _).alloc (Nat.le_refl _) _).alloc (by simp) _⟩
    · have hcv := byte_string ((w.alloc (.cells #[.int .u8 32, .int .u8 9, .int .u8 10] 5)).alloc (.cells #[.int .u8 10] 5)) (w.heap.size + 1) 10 10 rfl (by simp)
      rw [hm]
      go_enter Tryz.func17, Tryz.ntmps17
      go_wp2
      go_ret
      exact ⟨rfl, ((Below.refl _ _).alloc (Nat.le_refl _) _).alloc (by simp) _⟩
  · rw [if_neg hq]
    have hq2 : ((n % 5 : Int) == 0) = false := by simp; omega
    rcases h3 with hm | hm | hm
    · have hcv := byte_string ((w.alloc (.cells #[.int .u8 32, .int .u8 9, .int .u8 10] 5)).alloc (.cells #[.int .u8 32] 5)) (w.heap.size + 1) 32 32 rfl (by simp)
      rw [hm]
      go_enter Tryz.func17, Tryz.ntmps17
      go_wp2
      go_ret
      exact ⟨rfl, ((Below.refl _ _).alloc (Nat.le_refl _) _).alloc (by simp) _⟩
    · have hcv := byte_string ((w.alloc (.cells #[.int .u8 32, .int .u8 9, .int .u8 10] 5)).alloc (.cells #[.int .u8 9] 5)) (w.heap.size + 1) 9 9 rfl (by simp)
      rw [hm]
      go_enter Tryz.func17, Tryz.ntmps17
      go_wp2
      go_ret
      exact ⟨rfl, ((Below.refl _ _).alloc (Nat.le_refl _) _).alloc (by simp) _⟩
    · have hcv := byte_string ((w.alloc (.cells #[.int .u8 32, .int .u8 9, .int .u8 10] 5)).alloc (.cells #[.int .u8 10] 5)) (w.heap.size + 1) 10 10 rfl (by simp)
      rw [hm]
      go_enter Tryz.func17, Tryz.ntmps17
      go_wp2
      go_ret
      exact ⟨rfl, ((Below.refl _ _).alloc (Nat.le_refl _) _).alloc (by simp) _⟩

set_option maxRecDepth 100000 in
set_option maxHeartbeats 2000000 in
theorem gap_neg (n : Int) (w : World) (h0 : n < 0) (h1 : -9223372036854775808 ≤ n) :
    Calls Tryz.prog 17 #[.int .i64 n] w fun e w' => e = .returned (.string ⟨(gapS (-(n + 1))).toArray⟩) ∧ Below w.heap.size w w' := by
  have hd : decide (n < 0) = true := by simp; omega
  have t3 : (n + 1).tmod 3 = -((-(n + 1)) % 3) := by rw [← Int.tmod_eq_emod_of_nonneg (by omega : 0 ≤ -(n + 1)), Int.neg_tmod]; omega
  have t5 : (n + 1).tmod 5 = -((-(n + 1)) % 5) := by rw [← Int.tmod_eq_emod_of_nonneg (by omega : 0 ≤ -(n + 1)), Int.neg_tmod]; omega
  have h3 : (-(n + 1)) % 3 = 0 ∨ (-(n + 1)) % 3 = 1 ∨ (-(n + 1)) % 3 = 2 := by omega
  unfold gapS gapC
  by_cases hq : (-(n + 1)) % 5 = 0
  · rw [if_pos hq]
    rw [hq] at t5
    rcases h3 with hm | hm | hm
    · have hcv := byte_string ((w.alloc (.cells #[.int .u8 32, .int .u8 9, .int .u8 10] 5)).alloc (.cells #[.int .u8 32] 5)) (w.heap.size + 1) 32 32 rfl (by simp)
      rw [hm] at t3 ⊢
      rw [Int.neg_zero] at t3
      go_enter Tryz.func17, Tryz.ntmps17
      go_wp2
      go_ret
      exact ⟨rfl, ((Below.refl _ _).alloc (Nat.le_refl _) _).alloc (by simp) _⟩
    · have hcv := byte_string ((w.alloc (.cells #[.int .u8 32, .int .u8 9, .int .u8 10] 5)).alloc (.cells #[.int .u8 9] 5)) (w.heap.size + 1) 9 9 rfl (by simp)
      rw [hm] at t3 ⊢
      go_enter Tryz.func17, Tryz.ntmps17
      go_wp2
      go_ret
      exact ⟨rfl, ((Below.refl _ _).alloc (Nat.le_refl _) _).alloc (by simp) _⟩
    · have hcv := byte_string ((w.alloc (.cells #[.int .u8 32, .int .u8 9, .int .u8 10] 5)).alloc (.cells #[.int .u8 10] 5)) (w.heap.size + 1) 10 10 rfl (by simp)
      rw [hm] at t3 ⊢
      go_enter Tryz.func17, Tryz.ntmps17
      go_wp2
      go_ret
      exact ⟨rfl, ((Below.refl _ _).alloc (Nat.le_refl _) _).alloc (by simp) _⟩
  · rw [if_neg hq]
    have hq1 : ¬ (n + 1).tmod 5 = 0 := by rw [t5]; omega
    have hq2 : ((n + 1).tmod 5 == 0) = false := by simp only [beq_eq_false_iff_ne, ne_eq]; exact hq1
    have hq3 : (-(n + 1).tmod 5 == 0) = false := by simp only [beq_eq_false_iff_ne, ne_eq]; omega
    clear t5
    rcases h3 with hm | hm | hm
    · have hcv := byte_string ((w.alloc (.cells #[.int .u8 32, .int .u8 9, .int .u8 10] 5)).alloc (.cells #[.int .u8 32] 5)) (w.heap.size + 1) 32 32 rfl (by simp)
      rw [hm] at t3 ⊢
      rw [Int.neg_zero] at t3
      go_enter Tryz.func17, Tryz.ntmps17
      go_wp2
      go_ret
      exact ⟨rfl, ((Below.refl _ _).alloc (Nat.le_refl _) _).alloc (by simp) _⟩
    · have hcv := byte_string ((w.alloc (.cells #[.int .u8 32, .int .u8 9, .int .u8 10] 5)).alloc (.cells #[.int .u8 9] 5)) (w.heap.size + 1) 9 9 rfl (by simp)
      rw [hm] at t3 ⊢
      go_enter Tryz.func17, Tryz.ntmps17
      go_wp2
      go_ret
      exact ⟨rfl, ((Below.refl _ _).alloc (Nat.le_refl _) _).alloc (by simp) _⟩
    · have hcv := byte_string ((w.alloc (.cells #[.int .u8 32, .int .u8 9, .int .u8 10] 5)).alloc (.cells #[.int .u8 10] 5)) (w.heap.size + 1) 10 10 rfl (by simp)
      rw [hm] at t3 ⊢
      go_enter Tryz.func17, Tryz.ntmps17
      go_wp2
      go_ret
      exact ⟨rfl, ((Below.refl _ _).alloc (Nat.le_refl _) _).alloc (by simp) _⟩

theorem gap_any (n : Int) (w : World) (h0 : -9223372036854775808 ≤ n) (h1 : n < 9223372036854775808) :
    Calls Tryz.prog 17 #[.int .i64 n] w fun e w' => e = .returned (.string ⟨(gapL n).toArray⟩) ∧ Below w.heap.size w w' := by
  by_cases h : n < 0
  · have e : gapL n = gapS (-(n + 1)) := by unfold gapL gapS gapK; rw [if_pos h]
    rw [e]
    exact gap_neg n w h h0
  · have e : gapL n = gapS n := by unfold gapL gapS gapK; rw [if_neg h]
    rw [e]
    exact gap_pos n w (by omega) h1
end Go.Proofs.YtfkeddkfegaeiaaGreatDoor
namespace Go.Proofs.YtfkeddkfegaeiaaGreatDoor
open Go.RowKit

/-- the raw numbers as they lie. -/
structure IntsAt (w : World) (ad : Option Addr) (gs : List Int) : Prop where
  len : gs.length ≤ maxLen
  all : ∀ x, x ∈ gs → -9223372036854775808 ≤ x ∧ x < 9223372036854775808
  row : 0 < gs.length → ∃ b o, ad = some ⟨b, o, none⟩ ∧ b < w.heap.size ∧ ∀ j, j < gs.length → w.cell? ⟨b, o + j, none⟩ = some (.int .i64 (gs.getD j 0))
theorem IntsAt.keep {w w' : World} {ad : Option Addr} {gs : List Int} (h : IntsAt w ad gs) (hb : Below w.heap.size w w') : IntsAt w' ad gs :=
  ⟨h.len, h.all, fun hp => let ⟨b, o, h1, h2, h3⟩ := h.row hp; ⟨b, o, h1, Nat.lt_of_lt_of_le h2 hb.size, fun j hj => (hb.cell (p := ⟨b, o + j, none⟩) h2).trans (h3 j hj)⟩⟩
def spOf (gs : List Int) (n : Nat) : List UInt8 := gapL (gs.getD n 0)
theorem gapC_blank (k : Int) : blankI (gapC k).toNat = true := by
  unfold gapC
  split
  · decide
  · split <;> decide
theorem spOf_ok (gs : List Int) (n : Nat) : spOf gs n ≠ [] ∧ Blank (spOf gs n) := by
  unfold spOf gapL
  refine ⟨by simp, fun c hc => ?_⟩
  rcases List.mem_cons.1 hc with rfl | hc
  · exact gapC_blank _
  · split at hc
    · simp only [List.mem_singleton] at hc; subst hc; decide
    · cases hc
theorem spOf_len (gs : List Int) (n : Nat) : (spOf gs n).length ≤ 2 := by
  unfold spOf gapL
  split <;> simp
def c32 : List UInt8 → Nat
  | [] => 0
  | c :: r => (if c = 32 then 1 else 0) + c32 r
theorem c32_snoc : ∀ (a : List UInt8) (c : UInt8), c32 (a ++ [c]) = c32 a + (if c = 32 then 1 else 0)
  | [], c => by simp [c32]
  | d :: a, c => by rw [List.cons_append, c32, c32_snoc a c, c32]; omega
theorem c32_le : ∀ (a : List UInt8), c32 a ≤ a.length
  | [] => Nat.le_refl _
  | c :: r => by have := c32_le r; rw [c32, List.length_cons]; split <;> omega
theorem expand_snoc (sp : Nat → List UInt8) : ∀ (a : List UInt8) (n : Nat) (c : UInt8), expand sp n (a ++ [c]) = expand sp n a ++ (if c = 32 then sp (n + c32 a) else [c])
  | [], n, c => by
    simp only [List.nil_append, expand, c32, Nat.add_zero]
    split <;> simp
  | d :: a, n, c => by
    rw [List.cons_append, expand, expand, c32]
    by_cases h : d = 32
    · rw [if_pos h, if_pos h, if_pos h, expand_snoc sp a (n + 1) c, List.append_assoc, Nat.add_assoc]
    · rw [if_neg h, if_neg h, if_neg h, expand_snoc sp a n c, List.cons_append, Nat.zero_add]
theorem expand_len (gs : List Int) : ∀ (a : List UInt8) (n : Nat), (expand (spOf gs) n a).length ≤ 2 * a.length
  | [], _ => Nat.le_refl _
  | c :: a, n => by
    rw [expand, List.length_cons]
    split
    · have h1 := spOf_len gs n
      have h2 := expand_len gs a (n + 1)
      rw [List.length_append]
      omega
    · have h2 := expand_len gs a n
      rw [List.length_cons]
      omega
theorem expand_same : ∀ (a : List UInt8) (n : Nat), expand s32 n a = a
  | [], _ => rfl
  | c :: a, n => by
    rw [expand]
    split
    · rename_i h; rw [expand_same, h]; rfl
    · rw [expand_same]
theorem s32_ok (n : Nat) : s32 n ≠ [] ∧ Blank (s32 n) := ⟨by simp [s32], fun c hc => by simp only [s32, List.mem_singleton] at hc; subst hc; decide⟩

theorem cut_at (S : ByteArray) (pre r : List UInt8) (c : UInt8) (h : S.data.toList = pre ++ c :: r) : (S.extract pre.length (pre.length + 1)).data.toList = [c] := by
  simp only [ByteArray.data_extract, Array.toList_extract, List.extract_eq_take_drop, h, List.drop_left]
  simp

set_option maxRecDepth 100000 in
set_option maxHeartbeats 1000000 in
theorem anew_long (s : ByteArray) (v : Value) (a : Nat → Addr) (B : Nat) (w : World) (h : Env a B w) (hs : 1000 < s.size) (ad : Option Addr) (len cap : Nat) (hv : v = .slice ad len cap) :
    Calls Tryz.prog 4 #[.string s, v] w fun e w' => e = .returned (.bool true) ∧ Below w.heap.size w w' := by
  subst hv
  have HE := hide h
  have HA := hide (able_any a B w h)
  clear h
  go_enter Tryz.func4, Tryz.ntmps4
  go_wp2_with fail
  refine (unhide HA).mono ?_
  rintro e w1 ⟨rfl, h1⟩
  have HE1 := hide ((unhide HE).keep (h1.mono (unhide HE).size))
  have H1 := hide h1
  clear h1 HE HA
  go_wp2_with fail
  refine (tell_long s a B _ (by exact unhide HE1) hs).mono ?_
  rintro e w2 ⟨rfl, h3⟩
  have H3 := hide ((unhide H1).trans (h3.mono (unhide H1).size))
  clear h3 HE1 H1
  go_wp2
  go_ret
  exact ⟨rfl, unhide H3⟩

set_option maxRecDepth 100000 in
set_option maxHeartbeats 1000000 in
theorem anew_err (s : ByteArray) (v : Value) (a : Nat → Addr) (B : Nat) (w : World) (h : Env a B w) (hs : s.size ≤ 1000) (p k : Nat) (hl : tellP s = .error (p, k)) (ad : Option Addr) (len cap : Nat) (hv : v = .slice ad len cap) :
    Calls Tryz.prog 4 #[.string s, v] w fun e w' => e = .returned (.bool true) ∧ Below w.heap.size w w' := by
  subst hv
  have HE := hide h
  have HA := hide (able_any a B w h)
  clear h
  go_enter Tryz.func4, Tryz.ntmps4
  go_wp2_with fail
  refine (unhide HA).mono ?_
  rintro e w1 ⟨rfl, h1⟩
  have HE1 := hide ((unhide HE).keep (h1.mono (unhide HE).size))
  have H1 := hide h1
  clear h1 HE HA
  obtain ⟨R, HR⟩ : ∃ R, Hid (R = tellP s) := ⟨_, rfl⟩
  have HC := hide (tell_any s a B w1 (unhide HE1) hs)
  rw [← unhide HR] at HC
  go_wp2_with fail
  refine (unhide HC).mono ?_
  rintro e w2 h2
  obtain ⟨b, rfl, hat, h3⟩ := h2.err ((unhide HR).trans hl)
  have H3 := hide ((unhide H1).trans (h3.mono (unhide H1).size))
  clear h2 h3 HC hat HE1 H1 HR
  go_wp2
  go_ret
  exact ⟨rfl, unhide H3⟩

set_option maxRecDepth 100000 in
set_option maxHeartbeats 2000000 in
theorem anew_ok (s : ByteArray) (v : Value) (gs : List Int) (a : Nat → Addr) (B : Nat) (w : World) (h : Env a B w) (hs : s.size ≤ 1000) (T : List UInt8) (hl : tellP s = .ok T) (hT : T.length ≤ 2000) (ad : Option Addr) (cap : Nat) (hg : IntsAt w ad gs) (hv : v = .slice ad gs.length cap) :
    Calls Tryz.prog 4 #[.string s, v] w fun e w' => e = .returned (.bool true) ∧ Below w.heap.size w w' := by
  subst hv
  have HE := hide h
  have HG := hide hg
  have HA := hide (able_any a B w h)
  obtain ⟨hsane, hagain⟩ := anew_plain hl
  have HAG := hide hagain
  clear h hg hagain
  go_enter Tryz.func4, Tryz.ntmps4
  go_wp2_with fail
  refine (unhide HA).mono ?_
  rintro e w1 ⟨rfl, h1⟩
  have HE1 := hide ((unhide HE).keep (h1.mono (unhide HE).size))
  have H1 := hide h1
  clear h1 HE HA
  obtain ⟨R, HR⟩ : ∃ R, Hid (R = tellP s) := ⟨_, rfl⟩
  have HC := hide (tell_any s a B w1 (unhide HE1) hs)
  rw [← unhide HR] at HC
  go_wp2_with fail
  refine (unhide HC).mono ?_
  rintro e w2 h2
  obtain ⟨rfl, h3⟩ := h2.ok ((unhide HR).trans hl)
  have H3 := hide ((unhide H1).trans (h3.mono (unhide H1).size))
  have HE2 := hide ((unhide HE1).keep (h3.mono (unhide HE1).size))
  have HG2 := hide ((unhide HG).keep (unhide H3))
  clear h2 h3 HC HE1 H1 HR HG hl
  have HTE : Hid ((⟨T.toArray⟩ : ByteArray).data.toList = T) := by unfold Hid; simp
  have hsz : (⟨T.toArray⟩ : ByteArray).size = T.length := by show T.toArray.size = _; simp
  generalize hS : (⟨T.toArray⟩ : ByteArray) = S at *
  have HSZ := hide hsz
  have HSE := hide hS
  have hS2 : S.size ≤ 2000 := by omega
  clear hS hsz
  go_wp2_with fail
  go_loopw [8, 9, 10] (fun l t i wr => ∃ (pre suf : List UInt8) (p : Bool) (L : ByteArray), T = pre ++ suf ∧ l = .string L ∧ L.data.toList = expand (spOf gs) 0 pre ∧ t = .int .i64 (c32 pre) ∧ i = .int .i64 pre.length ∧ sane p suf = true ∧ (p = false → pre ≠ []) ∧ Below w2.heap.size w2 wr) (fun _ _ i _ => T.length - (intOf i).toNat)
  case atStart => exact ⟨[], T, true, ⟨#[]⟩, rfl, rfl, rfl, rfl, rfl, hsane, fun e => (by cases e), Below.refl _ _⟩
  case round =>
    obtain ⟨pre, suf, p, L, hTs, rfl, hL, rfl, rfl, hp, hpp, hbw⟩ := hrel
    have HTS := hide hTs
    have HL := hide hL
    have HBW := hide hbw
    have hLz : L.size ≤ 4000 := by
      rw [size_list L hL]
      have h1 := expand_len gs pre 0
      have h2 : T.length = pre.length + suf.length := by rw [hTs, List.length_append]
      omega
    have hc32 : c32 pre ≤ 2000 := by
      have h1 := c32_le pre
      have h2 : T.length = pre.length + suf.length := by rw [hTs, List.length_append]
      omega
    clear hbw hL hTs
    match suf, hp, HTS with
    | [], hp, HTS =>
      have hlen : pre.length = S.size := by rw [unhide HSZ, unhide HTS, List.append_nil]
      have hd : decide ((pre.length : Int) < (S.size : Int)) = false := by simp; omega
      have HLT : Hid (L.data.toList = expand (spOf gs) 0 T) := by rw [unhide HTS, List.append_nil]; exact unhide HL
      have HB := hide ((unhide H3).trans ((unhide HBW).mono (unhide H3).size))
      have HE3 := hide ((unhide HE2).keep ((unhide HBW).mono (unhide HE2).size))
      have hge : S.size ≤ pre.length := by omega
      have hnl : ¬ ((pre.length : Int) < (S.size : Int)) := by omega
      clear hlen
      by_cases h1 : 1000 < S.size
      · have hd1 : decide (1000 < (S.size : Int)) = true := by simp; omega
        clear h1
        go_wp2
        go_ret
        exact ⟨rfl, unhide HB⟩
      · have hd1 : decide (1000 < (S.size : Int)) = false := by simp; omega
        by_cases h2 : 1000 < L.size
        · have hd2 : decide (1000 < (L.size : Int)) = true := by simp; omega
          clear h1 h2
          go_wp2
          go_ret
          exact ⟨rfl, unhide HB⟩
        · have hd2 : decide (1000 < (L.size : Int)) = false := by simp; omega
          have hs1 : S.size ≤ 1000 := by omega
          have hs2 : L.size ≤ 1000 := by omega
          have HT1 : Hid (tellP S = .ok T) := (unhide HAG) s32 s32_ok S (by rw [expand_same]; exact unhide HTE)
          have HT2 : Hid (tellP L = .ok T) := (unhide HAG) (spOf gs) (spOf_ok gs) L (unhide HLT)
          clear h1 h2 HAG
          obtain ⟨R1, HR1⟩ : ∃ R, Hid (R = tellP S) := ⟨_, rfl⟩
          have HC1 := hide (tell_any S a B wr (unhide HE3) hs1)
          rw [← unhide HR1] at HC1
          go_wp2_with fail
          refine (unhide HC1).mono ?_
          rintro e w4 h4
          obtain ⟨rfl, h5⟩ := h4.ok ((unhide HR1).trans (unhide HT1))
          have HB4 := hide ((unhide HB).trans (h5.mono (unhide HB).size))
          have HE4 := hide ((unhide HE3).keep (h5.mono (unhide HE3).size))
          clear h4 h5 HC1 HR1
          rw [unhide HSE]
          obtain ⟨R2, HR2⟩ : ∃ R, Hid (R = tellP L) := ⟨_, rfl⟩
          have HC2 := hide (tell_any L a B w4 (unhide HE4) hs2)
          rw [← unhide HR2] at HC2
          go_wp2_with fail
          refine (unhide HC2).mono ?_
          rintro e w5 h4
          obtain ⟨rfl, h5⟩ := h4.ok ((unhide HR2).trans (unhide HT2))
          have HB5 := hide ((unhide HB4).trans (h5.mono (unhide HB4).size))
          clear h4 h5 HC2 HR2
          rw [unhide HSE]
          go_wp2
          go_ret
          exact ⟨rfl, unhide HB5⟩
    | c :: r, hp, HTS =>
      have hlt : pre.length < S.size := by rw [unhide HSZ, unhide HTS]; simp
      have hd : decide ((pre.length : Int) < (S.size : Int)) = true := by simp; omega
      have hSc : S[pre.length] = c := by
        have : S.data.toList[pre.length]? = some c := by rw [unhide HTE, unhide HTS]; simp
        rw [Array.getElem?_toList] at this
        exact (Array.getElem?_eq_some_iff.1 this).2
      have hpl : pre.length ≤ 2000 := by omega
      by_cases hc : c = 32
      · subst hc
        have hq : ((((32 : UInt8).toNat : Nat) : Int) != 32) = false := rfl
        have hpf : p = false ∧ sane true r = true := by
          rw [sane, if_pos rfl] at hp
          cases p
          · exact ⟨rfl, by simpa using hp⟩
          · simp at hp
        obtain ⟨hp0, hr⟩ := hpf
        have hpne := hpp hp0
        subst hp0
        clear hp hpp
        match r, hr, HTS with
        | [], hr, _ => cases hr
        | d :: r2, hr, HTS =>
          have hd32 : ¬ d = 32 := fun e => by rw [sane, if_pos e] at hr; simp at hr
          have hr2 : sane false r2 = true := by rw [sane, if_neg hd32] at hr; exact hr
          have hlt2 : pre.length + 1 < S.size := by rw [unhide HSZ, unhide HTS]; simp
          have hSd : S[pre.length + 1] = d := by
            have : S.data.toList[pre.length + 1]? = some d := by rw [unhide HTE, unhide HTS]; simp
            rw [Array.getElem?_toList] at this
            exact (Array.getElem?_eq_some_iff.1 this).2
          have hq2 : ((d.toNat : Int) == 32) = false := by
            simp only [beq_eq_false_iff_ne, ne_eq]
            intro e
            exact hd32 (UInt8.toNat_inj.1 (by have : (32 : UInt8).toNat = 32 := rfl; omega))
          have hi0 : ((pre.length : Int) == 0) = false := by
            simp only [beq_eq_false_iff_ne, ne_eq]
            intro e
            exact hpne (List.length_eq_zero_iff.1 (by omega))
          have hi1 : (((pre.length : Int) + 1) == (S.size : Int)) = false := by
            simp only [beq_eq_false_iff_ne, ne_eq]
            omega
          have HD := hide hd32
          have HR2 := hide hr2
          clear hd32 hr2 hr
          by_cases hat : c32 pre < gs.length
          · have hda : decide (((c32 pre : Nat) : Int) < (gs.length : Int)) = true := by simp; omega
            obtain ⟨b, o, rfl, hb, hcell⟩ := ((unhide HG2).keep (unhide HBW)).row (by omega)
            have hcl := hcell (c32 pre) hat
            have HGL := hide (unhide HG2).len
            have hgn := (unhide HG2).all (gs.getD (c32 pre) 0) (by rw [List.getD_eq_getElem?_getD, List.getElem?_eq_getElem hat]; exact List.getElem_mem hat)
            clear hcell
            generalize hgj : gs.getD (c32 pre) 0 = gj at *
            have HGJ := hide hgj
            clear hgj
            go_wp2_with fail
            refine (gap_any gj _ hgn.1 hgn.2).mono ?_
            rintro e w3 ⟨rfl, hb3⟩
            have HB3 := hide ((unhide HBW).trans (hb3.mono (unhide HBW).size))
            have hGz : (⟨(gapL gj).toArray⟩ : ByteArray).size ≤ 2 := by
              show (gapL gj).toArray.size ≤ 2
              unfold gapL
              split <;> simp
            have HGE : Hid ((⟨(gapL gj).toArray⟩ : ByteArray).data.toList = gapL gj) := by unfold Hid; simp
            generalize (⟨(gapL gj).toArray⟩ : ByteArray) = G at *
            clear hb3
            go_wp2
            refine ⟨⟨pre ++ [32], d :: r2, true, _, by rw [unhide HTS]; simp, rfl, ?_, ?_, ?_, by rw [sane, if_neg (unhide HD)]; exact unhide HR2, fun e => (by cases e), unhide HB3⟩, ?_⟩
            · rw [expand_snoc, if_pos rfl, ByteArray.data_append, Array.toList_append, unhide HL, unhide HGE, Nat.zero_add]
              unfold spOf
              rw [unhide HGJ]
            · rw [c32_snoc, if_pos rfl]; rfl
            · rw [List.length_append]; rfl
            · have := unhide HSZ
              simp [intOf]
              omega
          · have hda : decide (((c32 pre : Nat) : Int) < (gs.length : Int)) = false := by simp; omega
            have HNO : Hid (gs.getD (c32 pre) 0 = 0) := by unfold Hid; rw [List.getD_eq_getElem?_getD, List.getElem?_eq_none (by omega)]; rfl
            go_wp2_with fail
            refine (gap_any 0 _ (by decide) (by decide)).mono ?_
            rintro e w3 ⟨rfl, hb3⟩
            have HB3 := hide ((unhide HBW).trans (hb3.mono (unhide HBW).size))
            have hGz : (⟨(gapL 0).toArray⟩ : ByteArray).size ≤ 2 := by
              show (gapL 0).toArray.size ≤ 2
              unfold gapL
              split <;> simp
            have HGE : Hid ((⟨(gapL 0).toArray⟩ : ByteArray).data.toList = gapL 0) := by unfold Hid; simp
            generalize (⟨(gapL 0).toArray⟩ : ByteArray) = G at *
            clear hb3
            go_wp2
            refine ⟨⟨pre ++ [32], d :: r2, true, _, by rw [unhide HTS]; simp, rfl, ?_, ?_, ?_, by rw [sane, if_neg (unhide HD)]; exact unhide HR2, fun e => (by cases e), unhide HB3⟩, ?_⟩
            · rw [expand_snoc, if_pos rfl, ByteArray.data_append, Array.toList_append, unhide HL, unhide HGE, Nat.zero_add]
              unfold spOf
              rw [unhide HNO]
            · rw [c32_snoc, if_pos rfl]; rfl
            · rw [List.length_append]; rfl
            · have := unhide HSZ
              simp [intOf]
              omega
      · have hq : ((c.toNat : Int) != 32) = true := by
          simp only [bne_iff_ne, ne_eq]
          intro e
          exact hc (UInt8.toNat_inj.1 (by have : (32 : UInt8).toNat = 32 := rfl; omega))
        have HC := hide hc
        clear hc
        have HP : Hid (sane false r = true) := by rw [sane, if_neg (unhide HC)] at hp; exact hp
        clear hp
        go_wp2
        refine ⟨⟨pre ++ [c], r, false, _, by rw [unhide HTS]; simp, rfl, ?_, ?_, ?_, unhide HP, fun _ => by simp, unhide HBW⟩, ?_⟩
        · rw [expand_snoc, if_neg (unhide HC), ByteArray.data_append, Array.toList_append, unhide HL, cut_at S pre r c (by rw [unhide HTE, unhide HTS])]
        · rw [c32_snoc, if_neg (unhide HC), Nat.add_zero]
        · rw [List.length_append]; rfl
        · have := unhide HSZ
          simp [intOf]
          omega

theorem told_len {s : ByteArray} {T : List UInt8} (h : tellP s = .ok T) (hs : s.size ≤ 1000) : T.length ≤ 2000 := by
  unfold tellP readP at h
  cases hsc : scanP s with
  | error e => rw [hsc] at h; cases h
  | ok ts =>
    rw [hsc] at h
    simp only at h
    cases hr : readT ts with
    | error e => rw [hr] at h; cases h
    | ok x =>
      rw [hr] at h
      have hT : tellQ x = T := by cases h; rfl
      obtain ⟨l, hl⟩ := scanP_shape hsc
      obtain ⟨_, _, _, _, heq, _⟩ := readT_ok hl hr
      have h1 := hl.sum
      have h2 := hl.len
      have h3 := layAll_len ([], false) (tkQuery x)
      rw [cost_of _ _ heq] at h3
      rw [← hT]
      unfold tellQ
      have h4 : (([], false) : Out).1.length = 0 := rfl
      omega
theorem anew_any (s : ByteArray) (gs : List Int) (a : Nat → Addr) (B : Nat) (w : World) (h : Env a B w) (ad : Option Addr) (cap : Nat) (hg : IntsAt w ad gs) :
    Calls Tryz.prog 4 #[.string s, .slice ad gs.length cap] w fun e w' => e = .returned (.bool true) ∧ Below w.heap.size w w' := by
  rcases Nat.lt_or_ge 1000 s.size with hs | hs
  · exact anew_long s _ a B w h hs ad gs.length cap rfl
  · cases ht : tellP s with
    | ok T => exact anew_ok s _ gs a B w h hs T ht (told_len ht hs) ad cap hg rfl
    | error e =>
      obtain ⟨p, k⟩ := e
      exact anew_err s _ a B w h hs p k ht ad gs.length cap rfl
end Go.Proofs.YtfkeddkfegaeiaaGreatDoor
