/-
  Part 3.
-/
import Derived.Test.YtfkeddkfegaeiaaGreatDoorMvPure
import Derived.Test.YtfkeddkfegaeiaaGreatDoorMvEnv
namespace Go.Proofs.YtfkeddkfegaeiaaGreatDoor
open Go.RowKit
/-- the error that stands at a place: an At in block b. -/
def AtBlk (w : World) (b : Nat) (p : Int) (ev : Value) : Prop := w.heap[b]? = some (.cells #[.int .i64 p, ev] 113 (0, 0))
set_option maxHeartbeats 400000 in
theorem Wrong_any (p : Int) (u : TypeId) (x : Value) (w : World) :
    Calls Tryz.prog 99 #[.agg #[.int .i64 p], .iface u x] w fun e w' => e = .returned (.iface 110 (.pointer (some ⟨w.heap.size + 1, 0, none⟩))) ∧ w' = (w.alloc (.cells #[.int .i64 p] 170)).alloc (.cells #[.int .i64 p, .iface u x] 113) := by
  go_enter Tryz.func99, Tryz.ntmps99
  go_wp2
  go_ret
  exact ⟨rfl, rfl⟩
/-- .. as a fact on the world. -/
theorem Wrong_at (p : Int) (u : TypeId) (x : Value) (w : World) :
    Calls Tryz.prog 99 #[.agg #[.int .i64 p], .iface u x] w fun e w' => ∃ b, e = .returned (.iface 110 (.pointer (some ⟨b, 0, none⟩))) ∧ w.heap.size ≤ b ∧ b < w'.heap.size ∧ AtBlk w' b p (.iface u x) ∧ Below w.heap.size w w' := by
  refine (Wrong_any p u x w).mono ?_
  rintro e w' ⟨rfl, rfl⟩
  refine ⟨w.heap.size + 1, rfl, by omega, by simp, ?_, ?_⟩
  · show (((w.heap.push _).push _)[w.heap.size + 1]?) = _
    rw [Array.getElem?_push, if_pos (by simp)]
  · exact ((Below.refl _ _).alloc (Nat.le_refl _) _).alloc (by simp) _
theorem take2 (s : ByteArray) : (s.extract 0 2).toList = s.data.toList.take 2 := by
  rw [ByteArray.toList_eq, Lib.extract_data]; simp
theorem head0 (s : ByteArray) (h : 0 < s.size) : s.data.toList.headD 0 = s[0] := by
  obtain ⟨⟨l⟩⟩ := s
  match l, h with
  | c :: r, _ => rfl
theorem extract00 (s : ByteArray) : s.extract 0 0 = ⟨#[]⟩ := by apply Go.WideShapes.bytes_inj; simp
theorem sign_is2 (l : List UInt8) (h : sign2 l = true) : signLen l = 2 := by simp [signLen, h]
theorem sign_is0 (s : ByteArray) (h1 : 0 < s.size) (h : sign2 s.data.toList = false) (h' : Lib.indexByte [40, 41, 44, 46, 43, 45, 42, 61, 60, 62] s[0] < 0) : signLen s.data.toList = 0 := by
  unfold signLen; rw [head0 s h1, if_neg (by simp [h]), if_pos (by exact h')]
theorem sign_is1 (s : ByteArray) (h1 : 0 < s.size) (h : sign2 s.data.toList = false) (h' : 0 ≤ Lib.indexByte [40, 41, 44, 46, 43, 45, 42, 61, 60, 62] s[0]) : signLen s.data.toList = 1 := by
  unfold signLen; rw [head0 s h1, if_neg (by simp [h]), if_neg (by show ¬ (Lib.indexByte [40, 41, 44, 46, 43, 45, 42, 61, 60, 62] s[0] < 0); omega)]
theorem sign2_short (s : ByteArray) (h : ¬ 2 ≤ s.size) : sign2 s.data.toList = false := by
  have hl : s.data.toList.length < 2 := by rw [Array.length_toList]; exact Nat.lt_of_not_le h
  unfold sign2
  match s.data.toList, hl with
  | [], _ => rfl
  | [c], _ => simp
set_option maxHeartbeats 400000 in
theorem leadingSign_any (s : ByteArray) (w : World) (h1 : 0 < s.size) (hs : s.size ≤ maxLen) :
    Calls Tryz.prog 146 #[.string s] w fun e w' => e = .returned (.string (s.extract 0 (signLen s.data.toList))) ∧ w' = w := by
  unfold maxLen at hs
  by_cases h2 : 2 ≤ s.size
  · cases h3 : sign2 s.data.toList with
    | true =>
      have H : Hid (signLen s.data.toList = 2) := sign_is2 _ h3
      have hor : ((s.extract 0 2).toList == [60, 62]) = true ∨ ((s.extract 0 2).toList == [60, 62]) = false ∧ ((s.extract 0 2).toList == [60, 61]) = true ∨ ((s.extract 0 2).toList == [60, 62]) = false ∧ ((s.extract 0 2).toList == [60, 61]) = false ∧ ((s.extract 0 2).toList == [62, 61]) = true := by
        rw [take2]; unfold sign2 at h3
        have key : ∀ a b c : Bool, (a || b || c) = true → (a = true ∨ a = false ∧ b = true ∨ a = false ∧ b = false ∧ c = true) := by decide
        exact key _ _ _ h3
      clear h3
      rcases hor with ha | ⟨ha, hb⟩ | ⟨ha, hb, hc⟩
      all_goals
        go_enter Tryz.func146, Tryz.ntmps146
        go_wp2
        go_ret
        exact ⟨by rw [H.out]; rfl, rfl⟩
    | false =>
      have ha : ((s.extract 0 2).toList == [60, 62]) = false := by rw [take2]; unfold sign2 at h3; simp only [Bool.or_eq_false_iff] at h3; exact h3.1.1
      have hb : ((s.extract 0 2).toList == [60, 61]) = false := by rw [take2]; unfold sign2 at h3; simp only [Bool.or_eq_false_iff] at h3; exact h3.1.2
      have hc : ((s.extract 0 2).toList == [62, 61]) = false := by rw [take2]; unfold sign2 at h3; simp only [Bool.or_eq_false_iff] at h3; exact h3.2
      by_cases hi : Lib.indexByte [40, 41, 44, 46, 43, 45, 42, 61, 60, 62] s[0] < 0
      · have H : Hid (signLen s.data.toList = 0) := sign_is0 s h1 h3 hi
        clear h3
        go_enter Tryz.func146, Tryz.ntmps146
        go_wp2_with (go_at_call 215; refine (Tryz.strings_IndexByte _ _ _).mono ?_; rintro e w' ⟨rfl, rfl⟩)
        go_ret
        exact ⟨by rw [H.out, extract00]; rfl, rfl⟩
      · have H : Hid (signLen s.data.toList = 1) := sign_is1 s h1 h3 (by omega)
        clear h3
        go_enter Tryz.func146, Tryz.ntmps146
        go_wp2_with (go_at_call 215; refine (Tryz.strings_IndexByte _ _ _).mono ?_; rintro e w' ⟨rfl, rfl⟩)
        go_ret
        exact ⟨by rw [H.out]; rfl, rfl⟩
  · have h3 := sign2_short s h2
    by_cases hi : Lib.indexByte [40, 41, 44, 46, 43, 45, 42, 61, 60, 62] s[0] < 0
    · have H : Hid (signLen s.data.toList = 0) := sign_is0 s h1 h3 hi
      clear h3
      go_enter Tryz.func146, Tryz.ntmps146
      go_wp2_with (go_at_call 215; refine (Tryz.strings_IndexByte _ _ _).mono ?_; rintro e w' ⟨rfl, rfl⟩)
      go_ret
      exact ⟨by rw [H.out, extract00]; rfl, rfl⟩
    · have H : Hid (signLen s.data.toList = 1) := sign_is1 s h1 h3 (by omega)
      clear h3
      go_enter Tryz.func146, Tryz.ntmps146
      go_wp2_with (go_at_call 215; refine (Tryz.strings_IndexByte _ _ _).mono ?_; rintro e w' ⟨rfl, rfl⟩)
      go_ret
      exact ⟨by rw [H.out]; rfl, rfl⟩
set_option maxHeartbeats 400000 in
theorem letters_word (p : Int) (s : ByteArray) (w : World) (h : wordB s.data.toList = true) :
    Calls Tryz.prog 143 #[.agg #[.int .i64 p, .int .i64 0, .string ⟨#[]⟩, .int .i64 0], .string s] w fun e w' => e = .returned (.tuple #[.agg #[.int .i64 p, .int .i64 1, .string s, .int .i64 0], .nilIface]) ∧ Below w.heap.size w w' := by
  go_enter Tryz.func143, Tryz.ntmps143
  go_wp2_with (go_at_call 208; refine (isWord_any _ _).mono ?_; rintro e w' ⟨rfl, rfl⟩)
  refine bodyPost_ret (v := .tuple #[.agg #[.int .i64 p, .int .i64 1, .string s, .int .i64 0], .nilIface]) (by simp [results, Tryz.results143, go_sem]) rfl ⟨rfl, ?_⟩
  exact ((Below.refl _ _).alloc (Nat.le_refl _) _).alloc (by simp) _
set_option maxHeartbeats 400000 in
theorem letters_name (p : Int) (s : ByteArray) (w : World) (h : wordB s.data.toList = false) (hs : s.size ≤ 8) :
    Calls Tryz.prog 143 #[.agg #[.int .i64 p, .int .i64 0, .string ⟨#[]⟩, .int .i64 0], .string s] w fun e w' => e = .returned (.tuple #[.agg #[.int .i64 p, .int .i64 2, .string s, .int .i64 0], .nilIface]) ∧ Below w.heap.size w w' := by
  go_enter Tryz.func143, Tryz.ntmps143
  go_wp2_with (go_at_call 208; refine (isWord_any _ _).mono ?_; rintro e w' ⟨rfl, rfl⟩)
  refine bodyPost_ret (v := .tuple #[.agg #[.int .i64 p, .int .i64 2, .string s, .int .i64 0], .nilIface]) (by simp [results, Tryz.results143, go_sem]) rfl ⟨rfl, ?_⟩
  exact ((Below.refl _ _).alloc (Nat.le_refl _) _).alloc (by simp) _
set_option maxHeartbeats 400000 in
theorem letters_long (p : Int) (s : ByteArray) (a : Nat → Addr) (B : Nat) (w : World) (hE : Env a B w) (h : wordB s.data.toList = false) (hs : 8 < s.size) :
    Calls Tryz.prog 143 #[.agg #[.int .i64 p, .int .i64 0, .string ⟨#[]⟩, .int .i64 0], .string s] w fun e w' => ∃ b, e = .returned (.tuple #[.agg #[.int .i64 0, .int .i64 0, .string ⟨#[]⟩, .int .i64 0], .iface 110 (.pointer (some ⟨b, 0, none⟩))]) ∧ w.heap.size ≤ b ∧ b < w'.heap.size ∧ AtBlk w' b p (.iface 496 (.pointer (some (a 3)))) ∧ Below w.heap.size w w' := by
  have hg := hE.cell 3 (by decide)
  have hz : 3 < w.heap.size := by have := hE.low; have := hE.size; omega
  clear hE
  go_enter Tryz.func143, Tryz.ntmps143
  go_wp2_with (first | (go_at_call 208; refine (isWord_any _ _).mono ?_; rintro e w' ⟨rfl, rfl⟩) | (go_at_call 99; refine (Wrong_any _ _ _ _).mono ?_; rintro e w' ⟨rfl, rfl⟩))
  refine bodyPost_ret (v := .tuple #[.agg #[.int .i64 0, .int .i64 0, .string ⟨#[]⟩, .int .i64 0], .iface 110 (.pointer (some ⟨w.heap.size + 1 + 1 + 1, 0, none⟩))]) (by simp [results, Tryz.results143, go_sem]) rfl ⟨w.heap.size + 1 + 1 + 1, rfl, by omega, by simp, heap_last (by simp), ?_⟩
  exact ((((Below.refl _ _).alloc (Nat.le_refl _) _).alloc (by simp) _).alloc (by simp; omega) _).alloc (by simp; omega) _
/-- what digits are worth; none: too great. -/
def numOf (l : List UInt8) : Option Int := match Lib.atoiAll l with
  | .ok v => if 1000000000 < v then none else some v
  | _ => none
theorem atoi_world {w w' : World} (h : w' = w ∨ ∃ t, w' = Lib.bytesWorld w 5 t) : Below w.heap.size w w' := by
  rcases h with rfl | ⟨t, rfl⟩
  · exact Below.refl _ _
  · exact Lib.bytesWorld_below _ _ _
set_option maxHeartbeats 400000 in
theorem digits_ok (p : Int) (s : ByteArray) (a : Nat → Addr) (B : Nat) (w : World) (hE : Env a B w) (hs : s.size ≤ 1000) (v : Int) (h : Lib.atoiAll s.data.toList = .ok v) (hv : v ≤ 1000000000) :
    Calls Tryz.prog 145 #[.agg #[.int .i64 p, .int .i64 0, .string ⟨#[]⟩, .int .i64 0], .string s] w fun e w' => e = .returned (.tuple #[.agg #[.int .i64 p, .int .i64 3, .string s, .int .i64 v], .nilIface]) ∧ Below w.heap.size w w' := by
  have H : Hid (Lib.atoiAll s.data.toList = .ok v) := h
  clear h
  have HE := hide hE
  clear hE
  go_enter Tryz.func145, Tryz.ntmps145
  go_wp2_with fail
  refine (Tryz.strconv_Atoi_ok s (by omega) v H.out _).mono ?_
  rintro e w1 ⟨rfl, hw⟩
  have hb := atoi_world hw
  clear hw
  have hz : w.heap.size + 1 < w1.heap.size := by have := hb.size; simp at this; omega
  obtain ⟨hc0, hf0⟩ := blk ((hb.block w.heap.size (by simp; omega)).trans (heap_prev (heap_last rfl)))
  obtain ⟨hc1, hf1⟩ := blk ((hb.block (w.heap.size + 1) (by simp)).trans (heap_last (by simp)))
  have HB : Hid (Below w.heap.size w w1) := (((Below.refl _ _).alloc (Nat.le_refl _) _).alloc (by simp) _).trans (hb.mono (by simp; omega))
  have hgr := ((unhide HE).keep ((unhide HB).mono (unhide HE).size)).cell 11 (by decide)
  have hlr : 11 < w1.heap.size := by have := (unhide HE).low; have := (unhide HE).size; omega
  clear hb
  go_wp2_with fail
  refine (is_nil _ _).mono ?_
  rintro e wz ⟨rfl, hwz⟩
  obtain rfl := hwz.symm
  go_wp2
  refine bodyPost_ret (v := .tuple #[.agg #[.int .i64 p, .int .i64 3, .string s, .int .i64 v], .nilIface]) (by simp [results, Tryz.results145, go_sem, hc1]) rfl ⟨rfl, ?_⟩
  repeat (first | with_reducible exact HB.out | refine Below.setCell ?_ (by simp) _)
set_option maxHeartbeats 400000 in
theorem digits_great (p : Int) (s : ByteArray) (a : Nat → Addr) (B : Nat) (w : World) (hE : Env a B w) (hs : s.size ≤ 1000) (v : Int) (h : Lib.atoiAll s.data.toList = .ok v) (hv : 1000000000 < v) :
    Calls Tryz.prog 145 #[.agg #[.int .i64 p, .int .i64 0, .string ⟨#[]⟩, .int .i64 0], .string s] w fun e w' => ∃ b, e = .returned (.tuple #[.agg #[.int .i64 0, .int .i64 0, .string ⟨#[]⟩, .int .i64 0], .iface 110 (.pointer (some ⟨b, 0, none⟩))]) ∧ w.heap.size ≤ b ∧ b < w'.heap.size ∧ AtBlk w' b p (.iface 496 (.pointer (some (a 2)))) ∧ Below w.heap.size w w' := by
  have H := hide h
  clear h
  have HE := hide hE
  clear hE
  go_enter Tryz.func145, Tryz.ntmps145
  go_wp2_with fail
  refine (Tryz.strconv_Atoi_ok s (by omega) v (unhide H) _).mono ?_
  rintro e w1 ⟨rfl, hw⟩
  have hb := atoi_world hw
  clear hw
  have hz : w.heap.size + 1 < w1.heap.size := by have := hb.size; simp at this; omega
  obtain ⟨hc0, hf0⟩ := blk ((hb.block w.heap.size (by simp; omega)).trans (heap_prev (heap_last rfl)))
  obtain ⟨hc1, hf1⟩ := blk ((hb.block (w.heap.size + 1) (by simp)).trans (heap_last (by simp)))
  have hB : Below w.heap.size w w1 := (((Below.refl _ _).alloc (Nat.le_refl _) _).alloc (by simp) _).trans (hb.mono (by simp; omega))
  have hg := ((unhide HE).keep (hB.mono (unhide HE).size)).cell 2 (by decide)
  have hlow : 2 < w1.heap.size := by have := (unhide HE).low; have := (unhide HE).size; omega
  have HB := hide hB
  have hz1 : w.heap.size < w1.heap.size := by omega
  have hz2 : w.heap.size ≤ w1.heap.size := by omega
  clear hb hB
  have hgr := ((unhide HE).keep ((unhide HB).mono (unhide HE).size)).cell 11 (by decide)
  have hlr : 11 < w1.heap.size := by have := (unhide HE).low; have := (unhide HE).size; omega
  go_wp2_with fail
  refine (is_nil _ _).mono ?_
  rintro e wz ⟨rfl, hwz⟩
  obtain rfl := hwz.symm
  go_wp2_with (go_at_call 99; refine (Wrong_any _ _ _ _).mono ?_; rintro e w' ⟨rfl, rfl⟩)
  refine bodyPost_ret (v := .tuple #[.agg #[.int .i64 0, .int .i64 0, .string ⟨#[]⟩, .int .i64 0], .iface 110 (.pointer (some ⟨w1.heap.size + 1, 0, none⟩))]) (by simp [results, Tryz.results145, go_sem, hc1, hz, hz1]) rfl ⟨w1.heap.size + 1, rfl, by omega, by simp, heap_last (by simp), ?_⟩
  repeat (first | with_reducible exact HB.out | refine Below.setCell ?_ (by simp) _ | refine Below.alloc ?_ (by simp; omega) _)
set_option maxHeartbeats 400000 in
theorem digits_range (p : Int) (s : ByteArray) (a : Nat → Addr) (B : Nat) (w : World) (hE : Env a B w) (hs : s.size ≤ 1000) (h : Lib.atoiAll s.data.toList = .range) :
    Calls Tryz.prog 145 #[.agg #[.int .i64 p, .int .i64 0, .string ⟨#[]⟩, .int .i64 0], .string s] w fun e w' => ∃ b, e = .returned (.tuple #[.agg #[.int .i64 0, .int .i64 0, .string ⟨#[]⟩, .int .i64 0], .iface 110 (.pointer (some ⟨b, 0, none⟩))]) ∧ w.heap.size ≤ b ∧ b < w'.heap.size ∧ AtBlk w' b p (.iface 496 (.pointer (some (a 2)))) ∧ Below w.heap.size w w' := by
  have H := hide h
  clear h
  have HE := hide hE
  clear hE
  go_enter Tryz.func145, Tryz.ntmps145
  go_wp2_with fail
  refine (Tryz.strconv_Atoi_range s (by omega) (unhide H) (.iface 496 (.pointer (some (a 11)))) _ (((unhide HE).alloc _).alloc _ |>.cell 11 (by decide)) (Or.inr ⟨_, _, rfl⟩)).mono ?_
  rintro e w1 ⟨N, rfl, hNs, hN, hb⟩
  have hN2 : w1.cell? ⟨N, 2, none⟩ = some (.iface 496 (.pointer (some (a 11)))) := (blk hN).1 2
  clear hNs hN
  have hz : w.heap.size + 1 < w1.heap.size := by have := hb.size; simp at this; omega
  obtain ⟨hc0, hf0⟩ := blk ((hb.block w.heap.size (by simp; omega)).trans (heap_prev (heap_last rfl)))
  obtain ⟨hc1, hf1⟩ := blk ((hb.block (w.heap.size + 1) (by simp)).trans (heap_last (by simp)))
  have hB : Below w.heap.size w w1 := (((Below.refl _ _).alloc (Nat.le_refl _) _).alloc (by simp) _).trans (hb.mono (by simp; omega))
  have hg := ((unhide HE).keep (hB.mono (unhide HE).size)).cell 2 (by decide)
  have hlow : 2 < w1.heap.size := by have := (unhide HE).low; have := (unhide HE).size; omega
  have HB := hide hB
  have hz1 : w.heap.size < w1.heap.size := by omega
  have hz2 : w.heap.size ≤ w1.heap.size := by omega
  clear hb hB
  have hgr := ((unhide HE).keep ((unhide HB).mono (unhide HE).size)).cell 11 (by decide)
  have hlr : 11 < w1.heap.size := by have := (unhide HE).low; have := (unhide HE).size; omega
  have HN2 := hide hN2
  clear hN2
  go_wp2_with fail
  refine (is_num _ _ _ (unhide HN2)).mono ?_
  rintro e wz ⟨rfl, hwz⟩
  obtain rfl := hwz.symm
  go_wp2_with (go_at_call 99; refine (Wrong_any _ _ _ _).mono ?_; rintro e w' ⟨rfl, rfl⟩)
  refine bodyPost_ret (v := .tuple #[.agg #[.int .i64 0, .int .i64 0, .string ⟨#[]⟩, .int .i64 0], .iface 110 (.pointer (some ⟨w1.heap.size + 1, 0, none⟩))]) (by simp [results, Tryz.results145, go_sem, hc1, hz, hz1]) rfl ⟨w1.heap.size + 1, rfl, by omega, by simp, heap_last (by simp), ?_⟩
  repeat (first | with_reducible exact HB.out | refine Below.setCell ?_ (by simp) _ | refine Below.alloc ?_ (by simp; omega) _)
/-- digits that are worth no number that may be: ErrNumber at the place. -/
theorem digits_bad (p : Int) (s : ByteArray) (a : Nat → Addr) (B : Nat) (w : World) (hE : Env a B w) (hs : s.size ≤ 1000) (hns : Lib.atoiAll s.data.toList ≠ .«syntax») (h : numOf s.data.toList = none) :
    Calls Tryz.prog 145 #[.agg #[.int .i64 p, .int .i64 0, .string ⟨#[]⟩, .int .i64 0], .string s] w fun e w' => ∃ b, e = .returned (.tuple #[.agg #[.int .i64 0, .int .i64 0, .string ⟨#[]⟩, .int .i64 0], .iface 110 (.pointer (some ⟨b, 0, none⟩))]) ∧ w.heap.size ≤ b ∧ b < w'.heap.size ∧ AtBlk w' b p (.iface 496 (.pointer (some (a 2)))) ∧ Below w.heap.size w w' := by
  unfold numOf at h
  cases hn : Lib.atoiAll s.data.toList with
  | ok v =>
    rw [hn] at h
    by_cases hv : 1000000000 < v
    · exact digits_great p s a B w hE hs v hn hv
    · simp [hv] at h
  | range => exact digits_range p s a B w hE hs hn
  | «syntax» => exact (hns hn).elim
theorem digits_num (p : Int) (s : ByteArray) (a : Nat → Addr) (B : Nat) (w : World) (hE : Env a B w) (hs : s.size ≤ 1000) (v : Int) (h : numOf s.data.toList = some v) :
    Calls Tryz.prog 145 #[.agg #[.int .i64 p, .int .i64 0, .string ⟨#[]⟩, .int .i64 0], .string s] w fun e w' => e = .returned (.tuple #[.agg #[.int .i64 p, .int .i64 3, .string s, .int .i64 v], .nilIface]) ∧ Below w.heap.size w w' := by
  unfold numOf at h
  cases hn : Lib.atoiAll s.data.toList with
  | ok u =>
    rw [hn] at h
    by_cases hv : 1000000000 < u
    · simp [hv] at h
    · simp [hv] at h
      subst h
      exact digits_ok p s a B w hE hs u hn (by omega)
  | range => rw [hn] at h; simp at h
  | «syntax» => rw [hn] at h; simp at h
end Go.Proofs.YtfkeddkfegaeiaaGreatDoor
