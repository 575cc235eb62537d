/-
  Part 34.
-/
import Derived.Test.YtfkeddkfegaeiaaGreatDoorMRfA
import Derived.Deep.RegionWith
namespace Go.Proofs.YtfkeddkfegaeiaaGreatDoor
open Go.RowKit

def words18 : List ByteArray := wordList.map fun l => ⟨l.toArray⟩
theorem words_in (s : ByteArray) : Lib.containsS words18 s = wordB s.data.toList := by
  rw [Bool.eq_iff_iff, Lib.containsS_iff]
  unfold words18 wordB
  simp only [List.mem_map, List.any_eq_true, beq_iff_eq]
  constructor
  · rintro ⟨l, hl, rfl⟩
    exact ⟨l, hl, by simp⟩
  · rintro ⟨l, hl, e⟩
    exact ⟨l, hl, Go.WideShapes.bytes_inj (by simp [e])⟩

set_option maxRecDepth 100000 in
set_option maxHeartbeats 1000000 in
theorem Words_any (w : World) :
    Calls Tryz.prog 166 #[] w fun e w' => e = .returned (.slice (some ⟨w.heap.size, 0, none⟩) 18 18) ∧ Texts w' w.heap.size words18 ∧ Below w.heap.size w w' := by
  go_enter Tryz.func166, Tryz.ntmps166
  go_wp2
  go_ret
  refine ⟨rfl, ?_, (Below.refl _ _).alloc (Nat.le_refl _) _⟩
  exact texts_new rfl (fun j hj => by
    match j, hj with
    | 0, _ | 1, _ | 2, _ | 3, _ | 4, _ | 5, _ | 6, _ | 7, _ | 8, _ | 9, _ | 10, _ | 11, _ | 12, _ | 13, _ | 14, _ | 15, _ | 16, _ | 17, _ => rfl
    | _ + 18, h => exact absurd h (by simp [words18, wordList]))

set_option maxRecDepth 100000 in
set_option maxHeartbeats 1000000 in
theorem token_word (s : ByteArray) (i n : Nat) (c : UInt8) (L : List UInt8) (w : World) (hi : i < s.size) (hs : s.size ≤ 1000) (HL : Hid (s.data.toList.drop i = c :: L)) (hlet : letterI c.toNat = true) (HN : Hid (lead letterI (c :: L) = n)) (hn : i + n ≤ s.size) (hwd : wordB (s.extract i (i + n)).data.toList = true) :
    Calls Tryz.prog 108 #[.string s, .int .i64 i] w fun e w' => e = .returned (.tuple #[.agg #[.int .i64 1, .int .i64 i, .string (s.extract i (i + n))], .int .i64 0]) ∧ Below w.heap.size w w' := by
  have hSc : s[i] = c := by
    have : s.data.toList[i]? = some c := by
      have := congrArg (fun l => l[0]?) (unhide HL)
      simpa using this
    rw [Array.getElem?_toList] at this
    exact (Array.getElem?_eq_some_iff.1 this).2
  have hdig : digitI c.toNat = false := by
    have := letter_digit c
    rw [hlet] at this
    simpa using this
  have HW := hide hwd
  clear hwd
  go_enter Tryz.func108, Tryz.ntmps108
  go_wp2_with (first | (go_at_call 163; refine (rletter_any _ _).mono ?_; rintro e w' ⟨rfl, rfl⟩) | (go_at_call 164; refine (rdigit_any _ _).mono ?_; rintro e w' ⟨rfl, rfl⟩))
  refine (end_letter s i (c :: L) _ (by omega) hs (unhide HL)).mono ?_
  rintro e w' ⟨rfl, rfl⟩
  rw [unhide HN]
  go_wp2_with fail
  generalize hx : s.extract i (i + n) = x at *
  have HX := hide hx
  clear hx
  have K0 : Hid (((w.alloc (.cells #[.int .i64 0, .int .i64 0, .string ⟨#[]⟩] 100)).alloc (.cells #[.int .i64 2, .int .i64 i, .string x] 100)).heap[w.heap.size]? = some (.cells #[.int .i64 0, .int .i64 0, .string ⟨#[]⟩] 100 (0, 0))) := heap_prev (heap_last rfl)
  have K1 : Hid (((w.alloc (.cells #[.int .i64 0, .int .i64 0, .string ⟨#[]⟩] 100)).alloc (.cells #[.int .i64 2, .int .i64 i, .string x] 100)).heap[w.heap.size + 1]? = some (.cells #[.int .i64 2, .int .i64 i, .string x] 100 (0, 0))) := heap_last (by simp)
  have KB : Hid (Below w.heap.size w ((w.alloc (.cells #[.int .i64 0, .int .i64 0, .string ⟨#[]⟩] 100)).alloc (.cells #[.int .i64 2, .int .i64 i, .string x] 100))) := ((Below.refl _ _).alloc (Nat.le_refl _) _).alloc (by simp) _
  generalize (w.alloc (.cells #[.int .i64 0, .int .i64 0, .string ⟨#[]⟩] 100)).alloc (.cells #[.int .i64 2, .int .i64 i, .string x] 100) = W at *
  obtain ⟨k0, f0⟩ := blk (unhide K0)
  obtain ⟨k1, f1⟩ := blk (unhide K1)
  have z1 := lt_of_heap (unhide K1)
  have hin : Lib.containsS words18 x = true := by rw [words_in]; exact unhide HW
  go_region_with (first
    | (go_at_call 166; refine (Words_any _).mono ?_; rintro e w3 ⟨rfl, htx, hb3⟩; have HTX := hide htx; have HB3 := hide hb3; have K3 := hide ((hb3.block (w.heap.size + 1) (by simp; omega)).trans (by exact unhide K1)); have K4 := hide ((hb3.block w.heap.size (by simp; omega)).trans (by exact unhide K0)); obtain ⟨k3, f3⟩ := blk (unhide K3); obtain ⟨k4, f4⟩ := blk (unhide K4); have z3 := lt_of_heap (unhide K3); clear htx hb3)
    | (go_at_call 40; refine (in_any _ _ _ words18 (by exact unhide HTX) (by decide)).mono ?_; rintro e w4 ⟨rfl, rfl⟩))
  all_goals
    go_wp2
    refine bodyPost_ret (v := .tuple #[.agg #[.int .i64 1, .int .i64 i, .string x], .int .i64 0]) (by simp [results, Tryz.results108, go_sem, k4]) rfl ⟨by rw [unhide HX], ?_⟩
    have hb4 : Below w.heap.size w w4 := by
      first
        | exact (unhide KB).trans ((unhide HB3).mono (by have := (unhide KB).size; omega))
        | exact (unhide KB).drew.trans ((unhide HB3).mono (unhide KB).size)
    repeat (first | exact hb4 | apply Below.drew | refine Below.setCell ?_ (by first | exact Nat.le_refl _ | exact Nat.le_succ _) _)

set_option maxRecDepth 100000 in
set_option maxHeartbeats 1000000 in
theorem token_name (s : ByteArray) (i n : Nat) (c : UInt8) (L : List UInt8) (w : World) (hi : i < s.size) (hs : s.size ≤ 1000) (HL : Hid (s.data.toList.drop i = c :: L)) (hlet : letterI c.toNat = true) (HN : Hid (lead letterI (c :: L) = n)) (hn : i + n ≤ s.size) (hwd : wordB (s.extract i (i + n)).data.toList = false) (hsz : (s.extract i (i + n)).size ≤ 8) :
    Calls Tryz.prog 108 #[.string s, .int .i64 i] w fun e w' => e = .returned (.tuple #[.agg #[.int .i64 2, .int .i64 i, .string (s.extract i (i + n))], .int .i64 0]) ∧ Below w.heap.size w w' := by
  have hSc : s[i] = c := by
    have : s.data.toList[i]? = some c := by
      have := congrArg (fun l => l[0]?) (unhide HL)
      simpa using this
    rw [Array.getElem?_toList] at this
    exact (Array.getElem?_eq_some_iff.1 this).2
  have hdig : digitI c.toNat = false := by
    have := letter_digit c
    rw [hlet] at this
    simpa using this
  have HW := hide hwd
  have HZ := hide hsz
  clear hwd hsz
  go_enter Tryz.func108, Tryz.ntmps108
  go_wp2_with (first | (go_at_call 163; refine (rletter_any _ _).mono ?_; rintro e w' ⟨rfl, rfl⟩) | (go_at_call 164; refine (rdigit_any _ _).mono ?_; rintro e w' ⟨rfl, rfl⟩))
  refine (end_letter s i (c :: L) _ (by omega) hs (unhide HL)).mono ?_
  rintro e w' ⟨rfl, rfl⟩
  rw [unhide HN]
  go_wp2_with fail
  generalize hx : s.extract i (i + n) = x at *
  have HX := hide hx
  clear hx
  have K0 : Hid (((w.alloc (.cells #[.int .i64 0, .int .i64 0, .string ⟨#[]⟩] 100)).alloc (.cells #[.int .i64 2, .int .i64 i, .string x] 100)).heap[w.heap.size]? = some (.cells #[.int .i64 0, .int .i64 0, .string ⟨#[]⟩] 100 (0, 0))) := heap_prev (heap_last rfl)
  have K1 : Hid (((w.alloc (.cells #[.int .i64 0, .int .i64 0, .string ⟨#[]⟩] 100)).alloc (.cells #[.int .i64 2, .int .i64 i, .string x] 100)).heap[w.heap.size + 1]? = some (.cells #[.int .i64 2, .int .i64 i, .string x] 100 (0, 0))) := heap_last (by simp)
  have KB : Hid (Below w.heap.size w ((w.alloc (.cells #[.int .i64 0, .int .i64 0, .string ⟨#[]⟩] 100)).alloc (.cells #[.int .i64 2, .int .i64 i, .string x] 100))) := ((Below.refl _ _).alloc (Nat.le_refl _) _).alloc (by simp) _
  generalize (w.alloc (.cells #[.int .i64 0, .int .i64 0, .string ⟨#[]⟩] 100)).alloc (.cells #[.int .i64 2, .int .i64 i, .string x] 100) = W at *
  obtain ⟨k0, f0⟩ := blk (unhide K0)
  obtain ⟨k1, f1⟩ := blk (unhide K1)
  have z1 := lt_of_heap (unhide K1)
  have hin : Lib.containsS words18 x = false := by rw [words_in]; exact unhide HW
  have hz8 : x.size ≤ 8 := unhide HZ
  have hd8 : decide (8 < (x.size : Int)) = false := by simp; omega
  go_region_with (first
    | (go_at_call 166; refine (Words_any _).mono ?_; rintro e w3 ⟨rfl, htx, hb3⟩; have HTX := hide htx; have HB3 := hide hb3; have K3 := hide ((hb3.block (w.heap.size + 1) (by simp; omega)).trans (by exact unhide K1)); have K4 := hide ((hb3.block w.heap.size (by simp; omega)).trans (by exact unhide K0)); obtain ⟨k3, f3⟩ := blk (unhide K3); obtain ⟨k4, f4⟩ := blk (unhide K4); have z3 := lt_of_heap (unhide K3); clear htx hb3)
    | (go_at_call 40; refine (in_any _ _ _ words18 (by exact unhide HTX) (by decide)).mono ?_; rintro e w4 ⟨rfl, rfl⟩))
  all_goals
    go_wp2
    refine bodyPost_ret (v := .tuple #[.agg #[.int .i64 2, .int .i64 i, .string x], .int .i64 0]) (by simp [results, Tryz.results108, go_sem, k4]) rfl ⟨by rw [unhide HX], ?_⟩
    have hb4 : Below w.heap.size w w4 := by
      first
        | exact (unhide KB).trans ((unhide HB3).mono (by have := (unhide KB).size; omega))
        | exact (unhide KB).drew.trans ((unhide HB3).mono (unhide KB).size)
    repeat (first | exact hb4 | apply Below.drew | refine Below.setCell ?_ (by first | exact Nat.le_refl _ | exact Nat.le_succ _) _)

set_option maxRecDepth 100000 in
set_option maxHeartbeats 1000000 in
theorem token_long (s : ByteArray) (i n : Nat) (c : UInt8) (L : List UInt8) (w : World) (hi : i < s.size) (hs : s.size ≤ 1000) (HL : Hid (s.data.toList.drop i = c :: L)) (hlet : letterI c.toNat = true) (HN : Hid (lead letterI (c :: L) = n)) (hn : i + n ≤ s.size) (hwd : wordB (s.extract i (i + n)).data.toList = false) (hsz : 8 < (s.extract i (i + n)).size) :
    Calls Tryz.prog 108 #[.string s, .int .i64 i] w fun e w' => e = .returned (.tuple #[.agg #[.int .i64 2, .int .i64 i, .string (s.extract i (i + n))], .int .i64 4]) ∧ Below w.heap.size w w' := by
  have hSc : s[i] = c := by
    have : s.data.toList[i]? = some c := by
      have := congrArg (fun l => l[0]?) (unhide HL)
      simpa using this
    rw [Array.getElem?_toList] at this
    exact (Array.getElem?_eq_some_iff.1 this).2
  have hdig : digitI c.toNat = false := by
    have := letter_digit c
    rw [hlet] at this
    simpa using this
  have HW := hide hwd
  have HZ := hide hsz
  clear hwd hsz
  go_enter Tryz.func108, Tryz.ntmps108
  go_wp2_with (first | (go_at_call 163; refine (rletter_any _ _).mono ?_; rintro e w' ⟨rfl, rfl⟩) | (go_at_call 164; refine (rdigit_any _ _).mono ?_; rintro e w' ⟨rfl, rfl⟩))
  refine (end_letter s i (c :: L) _ (by omega) hs (unhide HL)).mono ?_
  rintro e w' ⟨rfl, rfl⟩
  rw [unhide HN]
  go_wp2_with fail
  generalize hx : s.extract i (i + n) = x at *
  have HX := hide hx
  clear hx
  have K0 : Hid (((w.alloc (.cells #[.int .i64 0, .int .i64 0, .string ⟨#[]⟩] 100)).alloc (.cells #[.int .i64 2, .int .i64 i, .string x] 100)).heap[w.heap.size]? = some (.cells #[.int .i64 0, .int .i64 0, .string ⟨#[]⟩] 100 (0, 0))) := heap_prev (heap_last rfl)
  have K1 : Hid (((w.alloc (.cells #[.int .i64 0, .int .i64 0, .string ⟨#[]⟩] 100)).alloc (.cells #[.int .i64 2, .int .i64 i, .string x] 100)).heap[w.heap.size + 1]? = some (.cells #[.int .i64 2, .int .i64 i, .string x] 100 (0, 0))) := heap_last (by simp)
  have KB : Hid (Below w.heap.size w ((w.alloc (.cells #[.int .i64 0, .int .i64 0, .string ⟨#[]⟩] 100)).alloc (.cells #[.int .i64 2, .int .i64 i, .string x] 100))) := ((Below.refl _ _).alloc (Nat.le_refl _) _).alloc (by simp) _
  generalize (w.alloc (.cells #[.int .i64 0, .int .i64 0, .string ⟨#[]⟩] 100)).alloc (.cells #[.int .i64 2, .int .i64 i, .string x] 100) = W at *
  obtain ⟨k0, f0⟩ := blk (unhide K0)
  obtain ⟨k1, f1⟩ := blk (unhide K1)
  have z1 := lt_of_heap (unhide K1)
  have hin : Lib.containsS words18 x = false := by rw [words_in]; exact unhide HW
  have hz8 : 8 < x.size := unhide HZ
  have hd8 : decide (8 < (x.size : Int)) = true := by simp; omega
  go_region_with (first
    | (go_at_call 166; refine (Words_any _).mono ?_; rintro e w3 ⟨rfl, htx, hb3⟩; have HTX := hide htx; have HB3 := hide hb3; have K3 := hide ((hb3.block (w.heap.size + 1) (by simp; omega)).trans (by exact unhide K1)); have K4 := hide ((hb3.block w.heap.size (by simp; omega)).trans (by exact unhide K0)); obtain ⟨k3, f3⟩ := blk (unhide K3); obtain ⟨k4, f4⟩ := blk (unhide K4); have z3 := lt_of_heap (unhide K3); clear htx hb3)
    | (go_at_call 40; refine (in_any _ _ _ words18 (by exact unhide HTX) (by decide)).mono ?_; rintro e w4 ⟨rfl, rfl⟩))
  all_goals
    go_wp2
    refine bodyPost_ret (v := .tuple #[.agg #[.int .i64 2, .int .i64 i, .string x], .int .i64 4]) (by simp [results, Tryz.results108, go_sem, k4]) rfl ⟨by rw [unhide HX], ?_⟩
    have hb4 : Below w.heap.size w w4 := by
      first
        | exact (unhide KB).trans ((unhide HB3).mono (by have := (unhide KB).size; omega))
        | exact (unhide KB).drew.trans ((unhide HB3).mono (unhide KB).size)
    repeat (first | exact hb4 | apply Below.drew | refine Below.setCell ?_ (by first | exact Nat.le_refl _ | exact Nat.le_succ _) _)

end Go.Proofs.YtfkeddkfegaeiaaGreatDoor
