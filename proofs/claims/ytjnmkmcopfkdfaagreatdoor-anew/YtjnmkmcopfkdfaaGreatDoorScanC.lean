/-
  scanOne at a sign, and at a byte that is none.
-/
import Derived.Test.YtjnmkmcopfkdfaaGreatDoorScanB
namespace Go.Proofs.YtjnmkmcopfkdfaaGreatDoor
open Go.RowKit

set_option maxHeartbeats 400000 in
theorem scanOne_sign (s t : ByteArray) (i : Nat) (w : World) (hi : i < s.size) (hs : s.size ≤ 1000) (HT : Hid (t = (s.extract i s.size).extract 0 (signLen (s.extract i s.size).data.toList))) (HL : Hid (letterI (((s.extract i s.size).data.toList.headD 0).toNat : Int) = false)) (HD : Hid (digitI (((s.extract i s.size).data.toList.headD 0).toNat : Int) = false)) (hn : (t.toList == []) = false) :
    Calls Tryz.prog 33 #[.string s, .int .i64 i] w fun e w' => e = .returned (.tuple #[.agg #[.int .i64 i, .int .i64 1, .string t, .int .i64 0], .nilIface]) ∧ Below w.heap.size w w' := by
  have hz : (s.extract i s.size).size = s.size - i := rest_size s i
  have HZ := hide hz
  clear hz
  go_enter Tryz.func33, Tryz.ntmps33
  go_wp2_with fail
  have hz0 : 0 < (s.extract i s.size).size := by rw [unhide HZ]; omega
  have hc0 := head0 _ hz0
  generalize (s.extract i s.size)[0]'hz0 = c at *
  rw [hc0] at HL
  have hl := unhide HL
  clear HL hc0
  have hm : (s.extract i s.size).size ≤ maxLen := by rw [unhide HZ]; unfold maxLen; omega
  have HM := hide hm
  clear hm
  have HZ0 := hide hz0
  clear hz0
  generalize s.extract i s.size = r at *
  refine (isLetter_any _ _).mono ?_
  rintro e w' ⟨rfl, rfl⟩
  go_wp2_with fail
  have hd : digitI ((r[0]'(unhide HZ0)).toNat : Int) = false := by rw [← head0 _ (unhide HZ0)]; exact unhide HD
  refine (isDigit_any _ _).mono ?_
  rintro e w' ⟨rfl, rfl⟩
  go_wp2_with fail
  refine (leadingSign_any _ _ (unhide HZ0) (unhide HM)).mono ?_
  rintro e w' ⟨rfl, rfl⟩
  rw [← unhide HT]
  go_wp2
  refine bodyPost_ret (v := .tuple #[.agg #[.int .i64 i, .int .i64 1, .string t, .int .i64 0], .nilIface]) (by simp [results, Tryz.results33, go_sem]) rfl ⟨rfl, ?_⟩
  exact ((Below.refl _ _).alloc (Nat.le_refl _) _).alloc (by simp) _

set_option maxHeartbeats 400000 in
theorem scanOne_byte (s t : ByteArray) (i : Nat) (a : Nat → Addr) (B : Nat) (w : World) (HE : Hid (Env a B w)) (hi : i < s.size) (hs : s.size ≤ 1000) (HT : Hid (t = (s.extract i s.size).extract 0 (signLen (s.extract i s.size).data.toList))) (HL : Hid (letterI (((s.extract i s.size).data.toList.headD 0).toNat : Int) = false)) (HD : Hid (digitI (((s.extract i s.size).data.toList.headD 0).toNat : Int) = false)) (hn : (t.toList == []) = true) :
    Calls Tryz.prog 33 #[.string s, .int .i64 i] w fun e w' => ∃ b, e = .returned (.tuple #[tk0, .iface 64 (.pointer (some ⟨b, 0, none⟩))]) ∧ w.heap.size ≤ b ∧ b < w'.heap.size ∧ AtBlk w' b i (errV a eByte) ∧ Below w.heap.size w w' := by
  have hg := (unhide HE).cell 1 (by decide)
  have hlow : 1 < w.heap.size := by have := (unhide HE).low; have := (unhide HE).size; omega
  have hpos : 0 < w.heap.size := by omega
  have hz : (s.extract i s.size).size = s.size - i := rest_size s i
  have HZ := hide hz
  clear hz
  go_enter Tryz.func33, Tryz.ntmps33
  go_wp2_with fail
  have hz0 : 0 < (s.extract i s.size).size := by rw [unhide HZ]; omega
  have hc0 := head0 _ hz0
  generalize (s.extract i s.size)[0]'hz0 = c at *
  rw [hc0] at HL
  have hl := unhide HL
  clear HL hc0
  have hm : (s.extract i s.size).size ≤ maxLen := by rw [unhide HZ]; unfold maxLen; omega
  have HM := hide hm
  clear hm
  have HZ0 := hide hz0
  clear hz0
  generalize s.extract i s.size = r at *
  refine (isLetter_any _ _).mono ?_
  rintro e w' ⟨rfl, rfl⟩
  go_wp2_with fail
  have hd : digitI ((r[0]'(unhide HZ0)).toNat : Int) = false := by rw [← head0 _ (unhide HZ0)]; exact unhide HD
  refine (isDigit_any _ _).mono ?_
  rintro e w' ⟨rfl, rfl⟩
  go_wp2_with fail
  refine (leadingSign_any _ _ (unhide HZ0) (unhide HM)).mono ?_
  rintro e w' ⟨rfl, rfl⟩
  rw [← unhide HT]
  go_wp2_with fail
  refine (Wrong_any _ _ _ _).mono ?_
  rintro e w' ⟨rfl, rfl⟩
  go_wp2
  refine bodyPost_ret (v := .tuple #[tk0, .iface 64 (.pointer (some ⟨w.heap.size + 1 + 1 + 1, 0, none⟩))]) (by simp [results, Tryz.results33, go_sem]) rfl ⟨w.heap.size + 1 + 1 + 1, rfl, by omega, by simp, heap_last (by simp), ?_⟩
  exact ((((Below.refl _ _).alloc (Nat.le_refl _) _).alloc (by simp) _).alloc (by simp; omega) _).alloc (by simp; omega) _

theorem sizeL (r : ByteArray) : r.data.toList.length = r.size := by rw [Array.length_toList]; rfl
theorem ext_size (r : ByteArray) (k : Nat) (h : r.size ≤ 1000) : (r.extract 0 k).size ≤ 1000 := by
  rw [ByteArray.size_extract]; omega
theorem toList_size (t : ByteArray) : t.toList.length = t.size := by rw [ByteArray.toList_eq, sizeL]
theorem sign_cut (r : ByteArray) (h : 0 < r.size) : ((r.extract 0 (signLen r.data.toList)).toList == []) = decide (signLen r.data.toList = 0) := by
  have hk : signLen r.data.toList ≤ r.size := by
    unfold signLen
    split
    · rename_i h2
      have : ¬ ¬ 2 ≤ r.size := fun hn => by rw [sign2_short r hn] at h2; cases h2
      omega
    · split <;> omega
  have hsz : (r.extract 0 (signLen r.data.toList)).size = signLen r.data.toList := by rw [ByteArray.size_extract]; omega
  generalize r.extract 0 (signLen r.data.toList) = t at *
  generalize signLen r.data.toList = n at *
  have ht := toList_size t
  cases hl : t.toList with
  | nil => rw [hl] at ht; simp at ht; simp; omega
  | cons c q => rw [hl] at ht; simp at ht; simp; omega

/-- scanOne where it finds a token. -/
theorem scanOne_ok (s : ByteArray) (i : Nat) (t : Tk) (w : World) (hi : i < s.size) (hs : s.size ≤ 1000) (h : scanOneP s i = .ok t) :
    Calls Tryz.prog 33 #[.string s, .int .i64 i] w fun e w' => e = .returned (.tuple #[tkVal t, .nilIface]) ∧ Below w.heap.size w w' := by
  have hrs : (s.extract i s.size).size ≤ 1000 := by rw [rest_size]; omega
  have hr0 : 0 < (s.extract i s.size).size := by rw [rest_size]; omega
  unfold scanOneP at h
  simp only at h
  by_cases hl : letterI (((s.extract i s.size).data.toList.headD 0).toNat : Int) = true
  · rw [if_pos hl] at h
    by_cases hw : wordB ((s.extract i s.size).extract 0 (lead letterI (s.extract i s.size).data.toList)).data.toList = true
    · rw [if_pos hw] at h
      cases h
      refine (scanOne_word s _ i w hi hs rfl hl hw).mono ?_
      rintro e w' ⟨rfl, hb⟩
      exact ⟨rfl, hb⟩
    · rw [if_neg hw] at h
      by_cases h8 : 8 < ((s.extract i s.size).extract 0 (lead letterI (s.extract i s.size).data.toList)).size
      · rw [if_pos h8] at h; cases h
      · rw [if_neg h8] at h
        cases h
        refine (scanOne_name s _ i w hi hs rfl hl (hide (by simpa using hw)) (Nat.le_of_not_lt h8)).mono ?_
        rintro e w' ⟨rfl, hb⟩
        exact ⟨rfl, hb⟩
  · rw [if_neg hl] at h
    by_cases hd : digitI (((s.extract i s.size).data.toList.headD 0).toNat : Int) = true
    · rw [if_pos hd] at h
      cases hn : numOf ((s.extract i s.size).extract 0 (lead digitI (s.extract i s.size).data.toList)).data.toList with
      | none => rw [hn] at h; cases h
      | some v =>
        rw [hn] at h
        cases h
        refine (scanOne_num s _ i w hi hs rfl (hide (by simpa using hl)) hd v hn (ext_size _ _ hrs)).mono ?_
        rintro e w' ⟨rfl, hb⟩
        exact ⟨rfl, hb⟩
    · rw [if_neg hd] at h
      by_cases h0 : signLen (s.extract i s.size).data.toList = 0
      · rw [if_pos h0] at h; cases h
      · rw [if_neg h0] at h
        cases h
        refine (scanOne_sign s _ i w hi hs rfl (hide (by simpa using hl)) (hide (by simpa using hd)) (by rw [sign_cut _ hr0]; simpa using h0)).mono ?_
        rintro e w' ⟨rfl, hb⟩
        exact ⟨rfl, hb⟩

/-- scanOne where it finds an error. -/
theorem scanOne_err (s : ByteArray) (i : Nat) (p e : Nat) (a : Nat → Addr) (B : Nat) (w : World) (hE : Env a B w) (hi : i < s.size) (hs : s.size ≤ 1000) (h : scanOneP s i = .error (p, e)) :
    Calls Tryz.prog 33 #[.string s, .int .i64 i] w fun en w' => ∃ b, en = .returned (.tuple #[tk0, .iface 64 (.pointer (some ⟨b, 0, none⟩))]) ∧ w.heap.size ≤ b ∧ b < w'.heap.size ∧ AtBlk w' b p (errV a e) ∧ Below w.heap.size w w' := by
  have hrs : (s.extract i s.size).size ≤ 1000 := by rw [rest_size]; omega
  have hr0 : 0 < (s.extract i s.size).size := by rw [rest_size]; omega
  unfold scanOneP at h
  simp only at h
  by_cases hl : letterI (((s.extract i s.size).data.toList.headD 0).toNat : Int) = true
  · rw [if_pos hl] at h
    by_cases hw : wordB ((s.extract i s.size).extract 0 (lead letterI (s.extract i s.size).data.toList)).data.toList = true
    · rw [if_pos hw] at h; cases h
    · rw [if_neg hw] at h
      by_cases h8 : 8 < ((s.extract i s.size).extract 0 (lead letterI (s.extract i s.size).data.toList)).size
      · rw [if_pos h8] at h
        cases h
        exact scanOne_long s _ i a B w hE hi hs rfl hl (hide (by simpa using hw)) h8
      · rw [if_neg h8] at h; cases h
  · rw [if_neg hl] at h
    by_cases hd : digitI (((s.extract i s.size).data.toList.headD 0).toNat : Int) = true
    · rw [if_pos hd] at h
      cases hn : numOf ((s.extract i s.size).extract 0 (lead digitI (s.extract i s.size).data.toList)).data.toList with
      | none =>
        rw [hn] at h
        cases h
        exact scanOne_great s _ i a B w hE hi hs rfl (hide (by simpa using hl)) hd hn (ext_size _ _ hrs)
      | some v => rw [hn] at h; cases h
    · rw [if_neg hd] at h
      by_cases h0 : signLen (s.extract i s.size).data.toList = 0
      · rw [if_pos h0] at h
        cases h
        exact scanOne_byte s _ i a B w hE hi hs rfl (hide (by simpa using hl)) (hide (by simpa using hd)) (by rw [sign_cut _ hr0]; simpa using h0)
      · rw [if_neg h0] at h; cases h

end Go.Proofs.YtjnmkmcopfkdfaaGreatDoor
