/-
  Part 35.
-/
import Derived.Test.YtfkeddkfegaeiaaGreatDoorMRfB
import Derived.Test.YtfkeddkfegaeiaaGreatDoorJ29
namespace Go.Proofs.YtfkeddkfegaeiaaGreatDoor
open Go.RowKit

theorem byte_here {s : ByteArray} {i : Nat} {c : UInt8} {L : List UInt8} (hi : i < s.size) (h : s.data.toList.drop i = c :: L) : s[i] = c := by
  have : s.data.toList[i]? = some c := by
    have := congrArg (fun l => l[0]?) h
    simpa using this
  rw [Array.getElem?_toList] at this
  exact (Array.getElem?_eq_some_iff.1 this).2

set_option maxRecDepth 100000 in
set_option maxHeartbeats 1000000 in
theorem token_num (s : ByteArray) (i n : Nat) (c : UInt8) (L : List UInt8) (w : World) (hi : i < s.size) (hs : s.size ≤ 1000) (HL : Hid (s.data.toList.drop i = c :: L)) (hlet : letterI c.toNat = false) (hdig : digitI c.toNat = true) (HN : Hid (lead digitI (c :: L) = n)) (hn : i + n ≤ s.size) (HD : Hid (∀ c, c ∈ (s.extract i (i + n)).data.toList → digitI c.toNat = true)) (hz : (s.extract i (i + n)).size ≤ 1000) (v : Nat) (HW : Hid (worthL 0 (s.extract i (i + n)).data.toList = some v)) :
    Calls Tryz.prog 108 #[.string s, .int .i64 i] w fun e w' => e = .returned (.tuple #[.agg #[.int .i64 3, .int .i64 i, .string (s.extract i (i + n))], .int .i64 0]) ∧ Below w.heap.size w w' := by
  have hSc : s[i] = c := byte_here hi (unhide HL)
  go_enter Tryz.func108, Tryz.ntmps108
  go_wp2_with (first | (go_at_call 163; refine (rletter_any _ _).mono ?_; rintro e w' ⟨rfl, rfl⟩) | (go_at_call 164; refine (rdigit_any _ _).mono ?_; rintro e w' ⟨rfl, rfl⟩))
  refine (end_digit s i (c :: L) _ (by omega) hs (unhide HL)).mono ?_
  rintro e w' ⟨rfl, rfl⟩
  rw [unhide HN]
  go_wp2_with fail
  generalize hx : s.extract i (i + n) = x at *
  have HX := hide hx
  clear hx
  refine (worth_any x _ hz (unhide HD)).mono ?_
  rintro e w' ⟨rfl, rfl⟩
  rw [unhide HW]
  have hv : decide ((v : Int) < 0) = false := by simp
  unfold worthV
  go_wp2
  refine bodyPost_ret (v := .tuple #[.agg #[.int .i64 3, .int .i64 i, .string x], .int .i64 0]) (by simp [results, Tryz.results108, go_sem]) rfl ⟨by rw [unhide HX], ?_⟩
  exact ((Below.refl _ _).alloc (Nat.le_refl _) _).alloc (by simp) _

set_option maxRecDepth 100000 in
set_option maxHeartbeats 1000000 in
theorem token_great (s : ByteArray) (i n : Nat) (c : UInt8) (L : List UInt8) (w : World) (hi : i < s.size) (hs : s.size ≤ 1000) (HL : Hid (s.data.toList.drop i = c :: L)) (hlet : letterI c.toNat = false) (hdig : digitI c.toNat = true) (HN : Hid (lead digitI (c :: L) = n)) (hn : i + n ≤ s.size) (HD : Hid (∀ c, c ∈ (s.extract i (i + n)).data.toList → digitI c.toNat = true)) (hz : (s.extract i (i + n)).size ≤ 1000) (HW : Hid (worthL 0 (s.extract i (i + n)).data.toList = none)) :
    Calls Tryz.prog 108 #[.string s, .int .i64 i] w fun e w' => e = .returned (.tuple #[.agg #[.int .i64 3, .int .i64 i, .string (s.extract i (i + n))], .int .i64 3]) ∧ Below w.heap.size w w' := by
  have hSc : s[i] = c := byte_here hi (unhide HL)
  go_enter Tryz.func108, Tryz.ntmps108
  go_wp2_with (first | (go_at_call 163; refine (rletter_any _ _).mono ?_; rintro e w' ⟨rfl, rfl⟩) | (go_at_call 164; refine (rdigit_any _ _).mono ?_; rintro e w' ⟨rfl, rfl⟩))
  refine (end_digit s i (c :: L) _ (by omega) hs (unhide HL)).mono ?_
  rintro e w' ⟨rfl, rfl⟩
  rw [unhide HN]
  go_wp2_with fail
  generalize hx : s.extract i (i + n) = x at *
  have HX := hide hx
  clear hx
  refine (worth_any x _ hz (unhide HD)).mono ?_
  rintro e w' ⟨rfl, rfl⟩
  rw [unhide HW]
  unfold worthV
  go_wp2
  refine bodyPost_ret (v := .tuple #[.agg #[.int .i64 3, .int .i64 i, .string x], .int .i64 3]) (by simp [results, Tryz.results108, go_sem]) rfl ⟨by rw [unhide HX], ?_⟩
  exact ((Below.refl _ _).alloc (Nat.le_refl _) _).alloc (by simp) _

def twos : List ByteArray := [⟨#[60, 62]⟩, ⟨#[60, 61]⟩, ⟨#[62, 61]⟩]
def sigs : List ByteArray := [⟨#[40]⟩, ⟨#[41]⟩, ⟨#[44]⟩, ⟨#[46]⟩, ⟨#[43]⟩, ⟨#[45]⟩, ⟨#[42]⟩, ⟨#[61]⟩, ⟨#[60]⟩, ⟨#[62]⟩, ⟨#[60, 62]⟩, ⟨#[60, 61]⟩, ⟨#[62, 61]⟩]

set_option maxRecDepth 100000 in
set_option maxHeartbeats 1000000 in
theorem token_sign2 (s : ByteArray) (i : Nat) (c : UInt8) (L : List UInt8) (w : World) (hi : i < s.size) (hs : s.size ≤ 1000) (HL : Hid (s.data.toList.drop i = c :: L)) (hlet : letterI c.toNat = false) (hdig : digitI c.toNat = false) (hi2 : i + 1 < s.size) (HTWO : Hid (Lib.containsS twos (s.extract i (i + 2)) = true)) (HSIG : Hid (Lib.containsS sigs (s.extract i (i + 2)) = true)) :
    Calls Tryz.prog 108 #[.string s, .int .i64 i] w fun e w' => e = .returned (.tuple #[.agg #[.int .i64 4, .int .i64 i, .string (s.extract i (i + 2))], .int .i64 0]) ∧ Below w.heap.size w w' := by
  have hSc : s[i] = c := byte_here hi (unhide HL)
  have hd2 : decide ((i : Int) + 1 < (s.size : Int)) = true := by simp; omega
  go_enter Tryz.func108, Tryz.ntmps108
  go_wp2_with (first | (go_at_call 163; refine (rletter_any _ _).mono ?_; rintro e w' ⟨rfl, rfl⟩) | (go_at_call 164; refine (rdigit_any _ _).mono ?_; rintro e w' ⟨rfl, rfl⟩))
  refine (in_any _ _ _ twos (by exact texts_new (by first | rfl | simp) (fun j hj => by
    match j, hj with
    | 0, _ | 1, _ | 2, _ => rfl
    | _ + 3, h => exact absurd h (by simp [twos]))) (by decide)).mono ?_
  rintro e w' ⟨rfl, rfl⟩
  rw [unhide HTWO]
  go_wp2_with fail
  refine (in_any _ _ _ sigs (by exact texts_new (by first | rfl | simp) (fun j hj => by
    match j, hj with
    | 0, _ | 1, _ | 2, _ | 3, _ | 4, _ | 5, _ | 6, _ | 7, _ | 8, _ | 9, _ | 10, _ | 11, _ | 12, _ => rfl
    | _ + 13, h => exact absurd h (by simp [sigs]))) (by decide)).mono ?_
  rintro e w' ⟨rfl, rfl⟩
  rw [unhide HSIG]
  go_wp2
  refine bodyPost_ret (v := .tuple #[.agg #[.int .i64 4, .int .i64 i, .string (s.extract i (i + 2))], .int .i64 0]) (by simp [results, Tryz.results108, go_sem]) rfl ⟨rfl, ?_⟩
  repeat (first | exact Below.refl _ _ | refine Below.alloc ?_ (by first | exact Nat.le_refl _ | (simp; done) | (simp; omega)) _)

set_option maxRecDepth 100000 in
set_option maxHeartbeats 1000000 in
theorem token_sign1a (s : ByteArray) (i : Nat) (c : UInt8) (L : List UInt8) (w : World) (hi : i < s.size) (hs : s.size ≤ 1000) (HL : Hid (s.data.toList.drop i = c :: L)) (hlet : letterI c.toNat = false) (hdig : digitI c.toNat = false) (hi2 : i + 1 = s.size) (HSIG : Hid (Lib.containsS sigs (s.extract i (i + 1)) = true)) :
    Calls Tryz.prog 108 #[.string s, .int .i64 i] w fun e w' => e = .returned (.tuple #[.agg #[.int .i64 4, .int .i64 i, .string (s.extract i (i + 1))], .int .i64 0]) ∧ Below w.heap.size w w' := by
  have hSc : s[i] = c := byte_here hi (unhide HL)
  have hd2 : decide ((i : Int) + 1 < (s.size : Int)) = false := by simp; omega
  have hle2 : i + 1 ≤ s.size := by omega
  have hge2 : s.size ≤ i + 1 := by omega
  clear hi2
  go_enter Tryz.func108, Tryz.ntmps108
  go_wp2_with (first | (go_at_call 163; refine (rletter_any _ _).mono ?_; rintro e w' ⟨rfl, rfl⟩) | (go_at_call 164; refine (rdigit_any _ _).mono ?_; rintro e w' ⟨rfl, rfl⟩))
  refine (in_any _ _ _ sigs (by exact texts_new (by first | rfl | simp) (fun j hj => by
    match j, hj with
    | 0, _ | 1, _ | 2, _ | 3, _ | 4, _ | 5, _ | 6, _ | 7, _ | 8, _ | 9, _ | 10, _ | 11, _ | 12, _ => rfl
    | _ + 13, h => exact absurd h (by simp [sigs]))) (by decide)).mono ?_
  rintro e w' ⟨rfl, rfl⟩
  rw [unhide HSIG]
  go_wp2
  refine bodyPost_ret (v := .tuple #[.agg #[.int .i64 4, .int .i64 i, .string (s.extract i (i + 1))], .int .i64 0]) (by simp [results, Tryz.results108, go_sem]) rfl ⟨rfl, ?_⟩
  repeat (first | exact Below.refl _ _ | refine Below.alloc ?_ (by first | exact Nat.le_refl _ | (simp; done) | (simp; omega)) _)

set_option maxRecDepth 100000 in
set_option maxHeartbeats 1000000 in
theorem token_sign1b (s : ByteArray) (i : Nat) (c : UInt8) (L : List UInt8) (w : World) (hi : i < s.size) (hs : s.size ≤ 1000) (HL : Hid (s.data.toList.drop i = c :: L)) (hlet : letterI c.toNat = false) (hdig : digitI c.toNat = false) (hi2 : i + 1 < s.size) (HTWO : Hid (Lib.containsS twos (s.extract i (i + 2)) = false)) (HSIG : Hid (Lib.containsS sigs (s.extract i (i + 1)) = true)) :
    Calls Tryz.prog 108 #[.string s, .int .i64 i] w fun e w' => e = .returned (.tuple #[.agg #[.int .i64 4, .int .i64 i, .string (s.extract i (i + 1))], .int .i64 0]) ∧ Below w.heap.size w w' := by
  have hSc : s[i] = c := byte_here hi (unhide HL)
  have hd2 : decide ((i : Int) + 1 < (s.size : Int)) = true := by simp; omega
  go_enter Tryz.func108, Tryz.ntmps108
  go_wp2_with (first | (go_at_call 163; refine (rletter_any _ _).mono ?_; rintro e w' ⟨rfl, rfl⟩) | (go_at_call 164; refine (rdigit_any _ _).mono ?_; rintro e w' ⟨rfl, rfl⟩))
  refine (in_any _ _ _ twos (by exact texts_new (by first | rfl | simp) (fun j hj => by
    match j, hj with
    | 0, _ | 1, _ | 2, _ => rfl
    | _ + 3, h => exact absurd h (by simp [twos]))) (by decide)).mono ?_
  rintro e w' ⟨rfl, rfl⟩
  rw [unhide HTWO]
  go_wp2_with fail
  refine (in_any _ _ _ sigs (by exact texts_new (by first | rfl | simp) (fun j hj => by
    match j, hj with
    | 0, _ | 1, _ | 2, _ | 3, _ | 4, _ | 5, _ | 6, _ | 7, _ | 8, _ | 9, _ | 10, _ | 11, _ | 12, _ => rfl
    | _ + 13, h => exact absurd h (by simp [sigs]))) (by decide)).mono ?_
  rintro e w' ⟨rfl, rfl⟩
  rw [unhide HSIG]
  go_wp2
  refine bodyPost_ret (v := .tuple #[.agg #[.int .i64 4, .int .i64 i, .string (s.extract i (i + 1))], .int .i64 0]) (by simp [results, Tryz.results108, go_sem]) rfl ⟨rfl, ?_⟩
  repeat (first | exact Below.refl _ _ | refine Below.alloc ?_ (by first | exact Nat.le_refl _ | (simp; done) | (simp; omega)) _)

set_option maxRecDepth 100000 in
set_option maxHeartbeats 1000000 in
theorem token_bytea (s : ByteArray) (i : Nat) (c : UInt8) (L : List UInt8) (w : World) (hi : i < s.size) (hs : s.size ≤ 1000) (HL : Hid (s.data.toList.drop i = c :: L)) (hlet : letterI c.toNat = false) (hdig : digitI c.toNat = false) (hi2 : i + 1 = s.size) (HSIG : Hid (Lib.containsS sigs (s.extract i (i + 1)) = false)) :
    Calls Tryz.prog 108 #[.string s, .int .i64 i] w fun e w' => e = .returned (.tuple #[.agg #[.int .i64 4, .int .i64 i, .string (s.extract i (i + 1))], .int .i64 2]) ∧ Below w.heap.size w w' := by
  have hSc : s[i] = c := byte_here hi (unhide HL)
  have hd2 : decide ((i : Int) + 1 < (s.size : Int)) = false := by simp; omega
  have hle2 : i + 1 ≤ s.size := by omega
  have hge2 : s.size ≤ i + 1 := by omega
  clear hi2
  go_enter Tryz.func108, Tryz.ntmps108
  go_wp2_with (first | (go_at_call 163; refine (rletter_any _ _).mono ?_; rintro e w' ⟨rfl, rfl⟩) | (go_at_call 164; refine (rdigit_any _ _).mono ?_; rintro e w' ⟨rfl, rfl⟩))
  refine (in_any _ _ _ sigs (by exact texts_new (by first | rfl | simp) (fun j hj => by
    match j, hj with
    | 0, _ | 1, _ | 2, _ | 3, _ | 4, _ | 5, _ | 6, _ | 7, _ | 8, _ | 9, _ | 10, _ | 11, _ | 12, _ => rfl
    | _ + 13, h => exact absurd h (by simp [sigs]))) (by decide)).mono ?_
  rintro e w' ⟨rfl, rfl⟩
  rw [unhide HSIG]
  go_wp2
  refine bodyPost_ret (v := .tuple #[.agg #[.int .i64 4, .int .i64 i, .string (s.extract i (i + 1))], .int .i64 2]) (by simp [results, Tryz.results108, go_sem]) rfl ⟨rfl, ?_⟩
  repeat (first | exact Below.refl _ _ | refine Below.alloc ?_ (by first | exact Nat.le_refl _ | (simp; done) | (simp; omega)) _)

set_option maxRecDepth 100000 in
set_option maxHeartbeats 1000000 in
theorem token_byteb (s : ByteArray) (i : Nat) (c : UInt8) (L : List UInt8) (w : World) (hi : i < s.size) (hs : s.size ≤ 1000) (HL : Hid (s.data.toList.drop i = c :: L)) (hlet : letterI c.toNat = false) (hdig : digitI c.toNat = false) (hi2 : i + 1 < s.size) (HTWO : Hid (Lib.containsS twos (s.extract i (i + 2)) = false)) (HSIG : Hid (Lib.containsS sigs (s.extract i (i + 1)) = false)) :
    Calls Tryz.prog 108 #[.string s, .int .i64 i] w fun e w' => e = .returned (.tuple #[.agg #[.int .i64 4, .int .i64 i, .string (s.extract i (i + 1))], .int .i64 2]) ∧ Below w.heap.size w w' := by
  have hSc : s[i] = c := byte_here hi (unhide HL)
  have hd2 : decide ((i : Int) + 1 < (s.size : Int)) = true := by simp; omega
  go_enter Tryz.func108, Tryz.ntmps108
  go_wp2_with (first | (go_at_call 163; refine (rletter_any _ _).mono ?_; rintro e w' ⟨rfl, rfl⟩) | (go_at_call 164; refine (rdigit_any _ _).mono ?_; rintro e w' ⟨rfl, rfl⟩))
  refine (in_any _ _ _ twos (by exact texts_new (by first | rfl | simp) (fun j hj => by
    match j, hj with
    | 0, _ | 1, _ | 2, _ => rfl
    | _ + 3, h => exact absurd h (by simp [twos]))) (by decide)).mono ?_
  rintro e w' ⟨rfl, rfl⟩
  rw [unhide HTWO]
  go_wp2_with fail
  refine (in_any _ _ _ sigs (by exact texts_new (by first | rfl | simp) (fun j hj => by
    match j, hj with
    | 0, _ | 1, _ | 2, _ | 3, _ | 4, _ | 5, _ | 6, _ | 7, _ | 8, _ | 9, _ | 10, _ | 11, _ | 12, _ => rfl
    | _ + 13, h => exact absurd h (by simp [sigs]))) (by decide)).mono ?_
  rintro e w' ⟨rfl, rfl⟩
  rw [unhide HSIG]
  go_wp2
  refine bodyPost_ret (v := .tuple #[.agg #[.int .i64 4, .int .i64 i, .string (s.extract i (i + 1))], .int .i64 2]) (by simp [results, Tryz.results108, go_sem]) rfl ⟨rfl, ?_⟩
  repeat (first | exact Below.refl _ _ | refine Below.alloc ?_ (by first | exact Nat.le_refl _ | (simp; done) | (simp; omega)) _)
end Go.Proofs.YtfkeddkfegaeiaaGreatDoor
namespace Go.Proofs.YtfkeddkfegaeiaaGreatDoor
open Go.RowKit

def rkT (t : Tk) : Nat := if t.kind = 1 then (if letterI (t.text.data.toList.headD 0).toNat then 1 else 4) else if t.kind = 0 then 5 else t.kind
abbrev rtok (t : Tk) : Value := .agg #[.int .i64 (rkT t), .int .i64 t.place, .string t.text]

theorem cut2 (s : ByteArray) (i n : Nat) (h : i + n ≤ s.size) : (s.extract i s.size).extract 0 n = s.extract i (i + n) := by
  apply Go.WideShapes.bytes_inj
  rw [cut_list]
  simp only [ByteArray.data_extract, Array.toList_extract, List.extract_eq_take_drop]
  rw [List.take_take]
  congr 1
  omega
theorem cut_drop (s : ByteArray) (i n : Nat) : (s.extract i (i + n)).data.toList = (s.data.toList.drop i).take n := by
  simp only [ByteArray.data_extract, Array.toList_extract, List.extract_eq_take_drop]
  congr 1
  omega
theorem rest_drop (s : ByteArray) (a : Nat) : (s.extract a s.size).data.toList = s.data.toList.drop a := by
  simp only [ByteArray.data_extract, Array.toList_extract, List.extract_eq_take_drop]
  exact List.take_of_length_le (by rw [List.length_drop, sizeL]; exact Nat.le_refl _)
theorem twos_in (x : ByteArray) : Lib.containsS twos x = (x.data.toList == [60, 62] || x.data.toList == [60, 61] || x.data.toList == [62, 61]) := by
  rw [Bool.eq_iff_iff, Lib.containsS_iff]
  unfold twos
  simp only [List.mem_cons, List.mem_nil_iff, or_false, Bool.or_eq_true, beq_iff_eq]
  constructor
  · rintro (rfl | rfl | rfl) <;> simp
  · rintro ((h | h) | h)
    · exact Or.inl (Go.WideShapes.bytes_inj h)
    · exact Or.inr (Or.inl (Go.WideShapes.bytes_inj h))
    · exact Or.inr (Or.inr (Go.WideShapes.bytes_inj h))
theorem sigs_in (x : ByteArray) : Lib.containsS sigs x = signL.contains x.data.toList := by
  have e : sigs = signL.map fun l => (⟨l.toArray⟩ : ByteArray) := rfl
  rw [Bool.eq_iff_iff, Lib.containsS_iff, e]
  simp only [List.mem_map, List.contains_iff_mem]
  constructor
  · rintro ⟨l, hl, rfl⟩
    simpa using hl
  · intro h
    exact ⟨_, h, Go.WideShapes.bytes_inj (by simp)⟩
set_option maxRecDepth 100000 in
theorem sig_one (c : UInt8) : signL.contains [c] = !decide (Lib.indexByte signs1 c < 0) := by
  have := byte_all (fun c => signL.contains [c] == !decide (Lib.indexByte signs1 c < 0)) (by decide) c
  simpa using this

theorem token_ok (s : ByteArray) (i : Nat) (t : Tk) (w : World) (hi : i < s.size) (hs : s.size ≤ 1000) (h : scanOneP s i = .ok t) :
    Calls Tryz.prog 108 #[.string s, .int .i64 i] w fun e w' => e = .returned (.tuple #[rtok t, .int .i64 0]) ∧ Below w.heap.size w w' := by
  have hz := tok_size s i t hi h
  have ht := isTok_of_scan hi h
  have hpl := (scanOne_kind h).2
  obtain ⟨c, L, hL⟩ : ∃ c L, s.data.toList.drop i = c :: L := by
    cases hd : s.data.toList.drop i with
    | nil => have := congrArg List.length hd; rw [List.length_drop, sizeL] at this; simp at this; omega
    | cons c L => exact ⟨c, L, rfl⟩
  unfold scanOneP at h
  simp only at h
  rw [rest_drop, hL] at h
  have hhd : ∀ n, 0 < n → i + n ≤ s.size → ((s.extract i (i + n)).data.toList.headD 0) = c := fun n h0 hn => by
    rw [cut_drop, hL]
    match n, h0 with
    | n + 1, _ => rfl
  by_cases hlet0 : letterI ((c :: L).headD 0).toNat = true
  · have hlet : letterI c.toNat = true := hlet0
    rw [if_pos hlet0] at h
    have hle := lead_le letterI (c :: L)
    have hll : (c :: L).length = s.size - i := by rw [← hL, List.length_drop, sizeL]
    have hpos := lead_pos letterI (c :: L) hlet (by simp)
    rw [cut2 s i _ (by omega)] at h
    by_cases hw : wordB (s.extract i (i + lead letterI (c :: L))).data.toList = true
    · rw [if_pos hw] at h
      cases h
      have e : rkT ⟨i, 1, s.extract i (i + lead letterI (c :: L)), 0⟩ = 1 := by
        unfold rkT
        rw [if_pos rfl, if_pos (by rw [hhd _ hpos (by omega)]; exact hlet)]
      show Calls _ _ _ _ fun e w' => e = .returned (.tuple #[.agg #[.int .i64 ((rkT _ : Nat) : Int), _, _], _]) ∧ _
      rw [e]
      exact token_word s i _ c L w hi hs hL hlet rfl (by omega) hw
    · rw [if_neg hw] at h
      by_cases h8 : 8 < (s.extract i (i + lead letterI (c :: L))).size
      · rw [if_pos h8] at h; cases h
      · rw [if_neg h8] at h
        cases h
        exact token_name s i _ c L w hi hs hL hlet rfl (by omega) (by simpa using hw) (by omega)
  · have hlet : ¬ letterI c.toNat = true := hlet0
    rw [if_neg hlet0] at h
    by_cases hdig0 : digitI ((c :: L).headD 0).toNat = true
    · have hdig : digitI c.toNat = true := hdig0
      rw [if_pos hdig0] at h
      have hle := lead_le digitI (c :: L)
      have hll : (c :: L).length = s.size - i := by rw [← hL, List.length_drop, sizeL]
      have hpos := lead_pos digitI (c :: L) hdig (by simp)
      rw [cut2 s i _ (by omega)] at h
      have hall : ∀ d, d ∈ (s.extract i (i + lead digitI (c :: L))).data.toList → digitI d.toNat = true := fun d hd => by
        rw [cut_drop, hL, take_lead] at hd
        exact while_all _ _ d hd
      have hne : (s.extract i (i + lead digitI (c :: L))).data.toList ≠ [] := by
        rw [cut_drop, hL]
        intro e
        have := congrArg List.length e
        rw [List.length_take] at this
        simp at this
        omega
      have hnw := num_worth hall hne
      cases hwv : worthL 0 (s.extract i (i + lead digitI (c :: L))).data.toList with
      | none => rw [hnw, hwv] at h; cases h
      | some v =>
        rw [hnw, hwv] at h
        cases h
        exact token_num s i _ c L w hi hs hL (by simpa using hlet) hdig rfl (by omega) hall (by rw [← sizeL, cut_drop, List.length_take, hL]; omega) v hwv
    · have hdig : ¬ digitI c.toNat = true := hdig0
      rw [if_neg hdig0] at h
      have hll : (c :: L).length = s.size - i := by rw [← hL, List.length_drop, sizeL]
      by_cases h0 : signLen (c :: L) = 0
      · rw [if_pos h0] at h; cases h
      · rw [if_neg h0] at h
        have hrk : ∀ n, 0 < n → i + n ≤ s.size → rkT ⟨i, 1, s.extract i (i + n), 0⟩ = 4 := fun n hn1 hn2 => by
          unfold rkT
          rw [if_pos rfl, if_neg (by rw [hhd n hn1 hn2]; exact hlet)]
        by_cases h2 : sign2 (c :: L) = true
        · have hlen2 : i + 2 ≤ s.size := by
            cases L with
            | nil => exact absurd h2 (by unfold sign2; simp)
            | cons d r => simp at hll; omega
          have e2 : signLen (c :: L) = 2 := sign_is2 _ h2
          rw [e2, cut2 s i 2 hlen2] at h
          cases h
          show Calls _ _ _ _ fun e w' => e = .returned (.tuple #[.agg #[.int .i64 ((rkT _ : Nat) : Int), _, _], _]) ∧ _
          rw [hrk 2 (by omega) hlen2]
          have htw : Lib.containsS twos (s.extract i (i + 2)) = true := by
            rw [twos_in, cut_drop, hL]
            exact h2
          refine token_sign2 s i c L w hi hs hL (by simpa using hlet) (by simpa using hdig) (by omega) htw ?_
          unfold Hid
          rw [sigs_in]
          rw [twos_in] at htw
          simp only [Bool.or_eq_true, beq_iff_eq] at htw
          rcases htw with (e | e) | e <;> rw [e] <;> decide
        · have h2' : sign2 (c :: L) = false := by simpa using h2
          have hix : ¬ Lib.indexByte signs1 c < 0 := fun e => h0 (by unfold signLen; rw [if_neg h2, if_pos (show Lib.indexByte signs1 ((c :: L).headD 0) < 0 from e)])
          have e1 : signLen (c :: L) = 1 := by unfold signLen; rw [if_neg h2, if_neg (show ¬ Lib.indexByte signs1 ((c :: L).headD 0) < 0 from hix)]
          rw [e1, cut2 s i 1 (by omega)] at h
          cases h
          show Calls _ _ _ _ fun e w' => e = .returned (.tuple #[.agg #[.int .i64 ((rkT _ : Nat) : Int), _, _], _]) ∧ _
          rw [hrk 1 (by omega) (by omega)]
          have hsg : Lib.containsS sigs (s.extract i (i + 1)) = true := by
            rw [sigs_in, cut_drop, hL]
            show signL.contains [c] = true
            rw [sig_one]
            simpa using hix
          rcases Nat.lt_or_ge (i + 1) s.size with hq | hq
          · refine token_sign1b s i c L w hi hs hL (by simpa using hlet) (by simpa using hdig) hq ?_ hsg
            unfold Hid
            rw [twos_in, cut_drop, hL]
            exact h2'
          · exact token_sign1a s i c L w hi hs hL (by simpa using hlet) (by simpa using hdig) (by omega) hsg

theorem token_err (s : ByteArray) (i p k : Nat) (w : World) (hi : i < s.size) (hs : s.size ≤ 1000) (h : scanOneP s i = .error (p, k)) :
    Calls Tryz.prog 108 #[.string s, .int .i64 i] w fun e w' => (∃ kd x, e = .returned (.tuple #[.agg #[.int .i64 kd, .int .i64 i, .string x], .int .i64 (numN k)])) ∧ Below w.heap.size w w' := by
  obtain ⟨c, L, hL⟩ : ∃ c L, s.data.toList.drop i = c :: L := by
    cases hd : s.data.toList.drop i with
    | nil => have := congrArg List.length hd; rw [List.length_drop, sizeL] at this; simp at this; omega
    | cons c L => exact ⟨c, L, rfl⟩
  have hll : (c :: L).length = s.size - i := by rw [← hL, List.length_drop, sizeL]
  unfold scanOneP at h
  simp only at h
  rw [rest_drop, hL] at h
  by_cases hlet0 : letterI ((c :: L).headD 0).toNat = true
  · have hlet : letterI c.toNat = true := hlet0
    rw [if_pos hlet0] at h
    have hle := lead_le letterI (c :: L)
    rw [cut2 s i _ (by omega)] at h
    by_cases hw : wordB (s.extract i (i + lead letterI (c :: L))).data.toList = true
    · rw [if_pos hw] at h; cases h
    · rw [if_neg hw] at h
      by_cases h8 : 8 < (s.extract i (i + lead letterI (c :: L))).size
      · rw [if_pos h8] at h
        cases h
        exact (token_long s i _ c L w hi hs hL hlet rfl (by omega) (by simpa using hw) h8).mono fun e w' he => ⟨⟨_, _, he.1⟩, he.2⟩
      · rw [if_neg h8] at h; cases h
  · have hlet : ¬ letterI c.toNat = true := hlet0
    rw [if_neg hlet0] at h
    by_cases hdig0 : digitI ((c :: L).headD 0).toNat = true
    · have hdig : digitI c.toNat = true := hdig0
      rw [if_pos hdig0] at h
      have hle := lead_le digitI (c :: L)
      have hpos := lead_pos digitI (c :: L) hdig (by simp)
      rw [cut2 s i _ (by omega)] at h
      have hall : ∀ d, d ∈ (s.extract i (i + lead digitI (c :: L))).data.toList → digitI d.toNat = true := fun d hd => by
        rw [cut_drop, hL, take_lead] at hd
        exact while_all _ _ d hd
      have hne : (s.extract i (i + lead digitI (c :: L))).data.toList ≠ [] := by
        rw [cut_drop, hL]
        intro e
        have := congrArg List.length e
        rw [List.length_take] at this
        simp at this
        omega
      have hnw := num_worth hall hne
      cases hwv : worthL 0 (s.extract i (i + lead digitI (c :: L))).data.toList with
      | some v => rw [hnw, hwv] at h; cases h
      | none =>
        rw [hnw, hwv] at h
        cases h
        exact (token_great s i _ c L w hi hs hL (by simpa using hlet) hdig rfl (by omega) hall (by rw [← sizeL, cut_drop, List.length_take, hL]; omega) hwv).mono fun e w' he => ⟨⟨_, _, he.1⟩, he.2⟩
    · have hdig : ¬ digitI c.toNat = true := hdig0
      rw [if_neg hdig0] at h
      by_cases h0 : signLen (c :: L) = 0
      · rw [if_pos h0] at h
        cases h
        have h2 : ¬ sign2 (c :: L) = true := fun e => by rw [sign_is2 _ e] at h0; cases h0
        have hix : Lib.indexByte signs1 c < 0 := by
          by_cases hlt : Lib.indexByte signs1 c < 0
          · exact hlt
          · unfold signLen at h0
            rw [if_neg h2, if_neg (show ¬ Lib.indexByte signs1 ((c :: L).headD 0) < 0 from hlt)] at h0
            cases h0
        have hsg : Lib.containsS sigs (s.extract i (i + 1)) = false := by
          rw [sigs_in, cut_drop, hL]
          show signL.contains [c] = false
          rw [sig_one]
          simpa using hix
        rcases Nat.lt_or_ge (i + 1) s.size with hq | hq
        · refine (token_byteb s i c L w hi hs hL (by simpa using hlet) (by simpa using hdig) hq ?_ hsg).mono fun e w' he => ⟨⟨_, _, he.1⟩, he.2⟩
          unfold Hid
          rw [twos_in, cut_drop, hL]
          exact (Bool.not_eq_true _).mp h2
        · exact (token_bytea s i c L w hi hs hL (by simpa using hlet) (by simpa using hdig) (by omega) hsg).mono fun e w' he => ⟨⟨_, _, he.1⟩, he.2⟩
      · rw [if_neg h0] at h; cases h
end Go.Proofs.YtfkeddkfegaeiaaGreatDoor
namespace Go.Proofs.YtfkeddkfegaeiaaGreatDoor
open Go.RowKit

def rtCells (ts : List Tk) : List Value := ts.flatMap fun t => [.int .i64 (rkT t), .int .i64 t.place, .string t.text]
theorem rtCells_snoc (ts : List Tk) (t : Tk) : rtCells ts ++ [.int .i64 (rkT t), .int .i64 t.place, .string t.text] = rtCells (ts ++ [t]) := by simp [rtCells]
theorem infoRt : (Tryz.prog.info? 100).map (fun i => (i.zero, i.size, i.bytes)) = some (some (.agg #[.int .i64 0, .int .i64 0, .string ⟨#[]⟩]), 3, 32) := by kernel_rfl
def resO (ts : List Tk) : Except (Nat × Nat) (List Tk) → Except (Nat × Nat) (List Tk)
  | .error e => .error e
  | .ok r => .ok (ts ++ r)
theorem scan_skip (s : ByteArray) (f i : Nat) (c : UInt8) (L : List UInt8) (hL : s.data.toList.drop i = c :: L) (hc : blankI c.toNat = true) : scanFrom s (f + 1) i = scanFrom s (f + 1) (i + 1) := by
  have h1 : s.data.toList.drop (i + 1) = L := by
    rw [← List.drop_drop, hL]
    rfl
  have e : i + lead blankI (s.extract i s.size).data.toList = i + 1 + lead blankI (s.extract (i + 1) s.size).data.toList := by
    rw [rest_drop, rest_drop, hL, h1]
    unfold lead
    rw [List.takeWhile_cons, if_pos hc, List.length_cons]
    omega
  unfold scanFrom
  rw [e]
theorem scan_done (s : ByteArray) (f : Nat) : scanFrom s (f + 1) s.size = .ok [tkEnd s.size] := by
  have e : lead blankI (s.extract s.size s.size).data.toList = 0 := by
    rw [rest_drop, List.drop_of_length_le (by rw [sizeL]; exact Nat.le_refl _)]
    rfl
  unfold scanFrom
  rw [e]
  simp
def TokRel (s : ByteArray) (w : World) (R : Except (Nat × Nat) (List Tk)) (v : Value) (i : Nat) (wr : World) : Prop :=
  ∃ (f : Nat) (ts : List Tk), s.size < f + i ∧ ts.length ≤ i ∧ wr.ownsRow w.heap.size 100 3 v ts.length (rtCells ts) ∧ Below w.heap.size w wr ∧ R = resO ts (scanFrom s f i)
def TokPost (w : World) (R : Except (Nat × Nat) (List Tk)) (e : Ending) (w' : World) : Prop := Below w.heap.size w w' ∧ match R with
  | .ok ts => ∃ v, e = .returned (.tuple #[v, .agg #[.int .i64 0, .int .i64 0]]) ∧ w'.ownsRow w.heap.size 100 3 v ts.length (rtCells ts)
  | .error (p, k) => e = .returned (.tuple #[.slice none 0 0, .agg #[.int .i64 (numN k), .int .i64 p]])

theorem one3 (a b : Int) (s : ByteArray) : ∀ u ∈ [Value.int .i64 a, .int .i64 b, .string s], u.oneCell' = true := by
  intro u hu
  simp only [List.mem_cons, List.mem_nil_iff, or_false] at hu
  rcases hu with rfl | rfl | rfl <;> rfl
theorem row_slice' {w : World} {base : Nat} {e : TypeId} {size : Nat} {v : Value} {n : Nat} {xs : List Value} (h : w.ownsRow base e size v n xs) : ∃ a l c, v = .slice a l c := by
  rcases h.2 with ⟨hv, _⟩ | ⟨g, cap, cur, hv, _⟩
  · exact ⟨_, _, _, hv⟩
  · exact ⟨_, _, _, hv⟩

theorem row_off {w : World} {base : Nat} {e : TypeId} {size : Nat} {v : Value} {n b i : Nat} {u : Value} {xs : List Value} (h : w.ownsRow base e size v n xs) (hb : b < base) : (w.setCell ⟨b, i, none⟩ u).ownsRow base e size v n xs := by
  refine ⟨h.1, h.2.imp id ?_⟩
  rintro ⟨g, cap, cur, hv, hg, hh, r⟩
  exact ⟨g, cap, cur, hv, hg, (Below.heap_setCell _ _ _ _ (by show g ≠ b; omega)).trans hh, r⟩

set_option maxRecDepth 100000 in
set_option maxHeartbeats 2000000 in
theorem tokens_ref (s : ByteArray) (w : World) (hs : s.size ≤ 1000) (R : Except (Nat × Nat) (List Tk)) (HR : Hid (R = scanP s)) :
    Calls Tryz.prog 66 #[.string s] w fun e w' => TokPost w R e w' := by
  obtain ⟨i0, hi, hinf⟩ := Option.map_eq_some_iff.1 infoRt
  simp only [Prod.mk.injEq] at hinf
  obtain ⟨hz0, hz1, hz2⟩ := hinf
  have HI := hide hi
  have HZ0 := hide hz0
  have HZ1 := hide hz1
  have HZ2 := hide hz2
  clear hi hz0 hz1 hz2
  go_enter Tryz.func66, Tryz.ntmps66
  go_wp2_with fail
  have hW0 : (w.alloc (.cells #[.int .i64 0, .int .i64 0] 27)).heap[w.heap.size]? = some (.cells #[.int .i64 0, .int .i64 0] 27 (0, 0)) := heap_last rfl
  have hB0 : Below w.heap.size w (w.alloc (.cells #[.int .i64 0, .int .i64 0] 27)) := (Below.refl _ _).alloc (Nat.le_refl _) _
  have hZ0' : w.heap.size < (w.alloc (.cells #[.int .i64 0, .int .i64 0] 27)).heap.size := by simp
  generalize w.alloc (.cells #[.int .i64 0, .int .i64 0] 27) = W0 at *
  have HW0 := hide hW0
  have HB0 := hide hB0
  clear hW0 hB0
  go_loopw [4, 5] (fun v t wr => ∃ i : Nat, i ≤ s.size ∧ t = .int .i64 i ∧ TokRel s W0 R v i wr) (fun _ t _ => s.size - (intOf t).toNat)
  case atStart => exact ⟨0, Nat.zero_le _, rfl, s.size + 1, [], by omega, by simp, World.ownsRow_nil _ _ _ _, Below.refl _ _, by rw [unhide HR]; unfold scanP; cases scanFrom s (s.size + 1) 0 <;> rfl⟩
  case round =>
    obtain ⟨i, hi, rfl, hrel⟩ := hrel
    obtain ⟨f, ts, hf, htl, hown, hbl, hR⟩ := hrel
    have HRR := hide hR
    have HO := hide hown
    have HBL := hide hbl
    have KW := hide ((hbl.block w.heap.size hZ0').trans (unhide HW0))
    have zw : w.heap.size < wr.heap.size := Nat.lt_of_lt_of_le hZ0' hbl.size
    clear hR hown hbl
    match f, hf, HRR with
    | 0, hf, _ => exact absurd hf (by omega)
    | f + 1, hf, HRR =>
    by_cases hlt : i < s.size
    · have hd : decide ((i : Int) < (s.size : Int)) = true := by simp; omega
      obtain ⟨c, L, hL⟩ : ∃ c L, s.data.toList.drop i = c :: L := by
        cases hd : s.data.toList.drop i with
        | nil => have := congrArg List.length hd; rw [List.length_drop, sizeL] at this; simp at this; omega
        | cons c L => exact ⟨c, L, rfl⟩
      have hSc : s[i] = c := byte_here hlt hL
      have HL := hide hL
      clear hL
      by_cases hbk : blankI c.toNat = true
      · have hq : (c.toNat : Int) = 32 ∨ (c.toNat : Int) = 9 ∨ (c.toNat : Int) = 10 := by
          unfold blankI at hbk
          simp only [Bool.or_eq_true, beq_iff_eq] at hbk
          rcases hbk with (h | h) | h
          · exact Or.inl h
          · exact Or.inr (Or.inl h)
          · exact Or.inr (Or.inr h)
        have HNX := hide (show TokRel s W0 R _ (i + 1) wr from ⟨f + 1, ts, by omega, by omega, unhide HO, unhide HBL, by rw [unhide HRR, scan_skip s f i c L (unhide HL) hbk]⟩)
        clear HRR hbk
        rcases hq with hq | hq | hq
        all_goals
          go_wp2
          exact ⟨⟨i + 1, by omega, by go_num, unhide HNX⟩, by simp [intOf]; omega⟩
      · have hbf : blankI c.toNat = false := by simpa using hbk
        have hq : ((c.toNat : Int) == 32) = false ∧ ((c.toNat : Int) == 9) = false ∧ ((c.toNat : Int) == 10) = false := by
          unfold blankI at hbf
          simp only [Bool.or_eq_false_iff] at hbf
          exact ⟨hbf.1.1, hbf.1.2, hbf.2⟩
        obtain ⟨q1, q2, q3⟩ := hq
        have HN : Hid (R = resO ts (match scanOneP s i with
            | .error e => .error e
            | .ok t => match scanFrom s f (i + t.text.size) with
              | .error e => .error e
              | .ok r => .ok (t :: r) : Except (Nat × Nat) (List Tk))) := by
          have e0 : lead blankI (s.extract i s.size).data.toList = 0 := by
            rw [rest_drop, unhide HL]
            unfold lead
            rw [List.takeWhile_cons, if_neg hbk]
            rfl
          unfold Hid
          rw [unhide HRR]
          conv => lhs; unfold scanFrom
          rw [e0]
          simp only [Nat.add_zero]
          rw [if_neg (by omega)]
          rfl
        clear HRR hbk hbf
        cases hsc : scanOneP s i with
        | error pk =>
          obtain ⟨p, k⟩ := pk
          have hp := (scanOne_bad hsc).1
          subst hp
          have HX : Hid (R = .error (p, k)) := by unfold Hid; rw [unhide HN, hsc]; rfl
          have hnk : (numN k != 0) = true := by
            rcases (scanOne_bad hsc).2 with rfl | rfl | rfl <;> rfl
          have HSC := hide hsc
          clear HN hsc
          go_wp2_with fail
          refine (token_err s p p k _ hlt hs (unhide HSC)).mono ?_
          rintro e w1 ⟨⟨kd, x, rfl⟩, hbe⟩
          have KW1 := hide ((hbe.block w.heap.size zw).trans (unhide KW))
          have HB1 := hide ((unhide HBL).trans (hbe.mono (unhide HBL).size))
          obtain ⟨kw, fw⟩ := blk (unhide KW1)
          have zw1 := lt_of_heap (unhide KW1)
          clear hbe
          generalize hnk2 : numN k = nk at *
          have HNK := hide hnk2
          clear hnk2
          go_wp2
          refine bodyPost_ret (v := .tuple #[.slice none 0 0, .agg #[.int .i64 nk, .int .i64 p]]) (by simp [results, Tryz.results66, go_sem, kw, zw1]) rfl ?_
          rw [unhide HX]
          refine ⟨?_, by show Ending.returned _ = Ending.returned (.tuple #[.slice none 0 0, .agg #[.int .i64 (numN k), .int .i64 p]]); rw [unhide HNK]⟩
          have hb1 : Below w.heap.size w w1 := (unhide HB0).trans ((unhide HB1).mono (by omega))
          repeat (first | exact hb1 | refine Below.setCell ?_ (by exact Nat.le_refl _) _ | refine Below.alloc ?_ (by have := hb1.size; first | omega | (simp; omega)) _)
        | ok t =>
          have HX : Hid (R = resO ts (match scanFrom s f (i + t.text.size) with
              | .error e => .error e
              | .ok r => .ok (t :: r) : Except (Nat × Nat) (List Tk))) := by unfold Hid; rw [unhide HN, hsc]
          have htz := tok_size s i t hlt hsc
          have HSC := hide hsc
          clear HN hsc
          go_wp2_with fail
          refine (token_ok s i t _ hlt hs (unhide HSC)).mono ?_
          rintro e w1 ⟨rfl, hbe⟩
          have HBE := hide hbe
          have zw1 := Nat.lt_of_lt_of_le zw hbe.size
          clear hbe
          go_wp2_with (at_builtin; refine wpList_append_own _ rfl _ _ 101 rfl W0.heap.size 100 i0 (.agg #[.int .i64 0, .int .i64 0, .string ⟨#[]⟩]) 3 32 Tryz.underlying101 (unhide HI) (unhide HZ0) (unhide HZ1) (unhide HZ2) rfl (by decide) _ _ _ rfl (((ownsRow_keep (unhide HO) (unhide HBE)).alloc _).alloc _) ⟨w1.heap.size + 1, 0, none⟩ 1 1 [.int .i64 (rkT t), .int .i64 t.place, .string t.text] rfl rfl ?c1 ?c2 ?c3 ?c4 ?c5 ?_)
          case c1 => exact cell_new (by first | rfl | simp)
          case c2 => exact one3 _ _ _
          case c3 => unfold maxLen; omega
          case c4 => omega
          case c5 => have := (unhide HBL).size; have := (unhide HBE).size; simp; omega
          intro v' w2 ho hg _
          have HO1 := hide ho
          have KT := hide ((hg.block w1.heap.size (by simp; omega) (fun e => by have := ((unhide HO).lt _ e.symm).2; have := (unhide HBE).size; omega)).trans (heap_prev (heap_last rfl)))
          have HB1 : Hid (Below W0.heap.size W0 w2) := ((((unhide HBL).trans ((unhide HBE).mono (unhide HBL).size)).alloc (by have := (unhide HBL).size; have := (unhide HBE).size; omega) _).alloc (by have := (unhide HBL).size; have := (unhide HBE).size; simp; omega) _).grown hg (by have := (unhide HBL).size; have := (unhide HBE).size; simp; omega) (fun k hk => ((unhide HO).lt k hk).1)
          obtain ⟨kt, ft⟩ := blk (unhide KT)
          have zt := lt_of_heap (unhide KT)
          clear ho hg
          go_wp2
          refine ⟨⟨i + t.text.size, by omega, by go_num, f, ts ++ [t], by omega, by simp; omega, ?_, unhide HB1, ?_⟩, by simp [intOf]; omega⟩
          · rw [← rtCells_snoc, List.length_append]
            exact unhide HO1
          · rw [unhide HX]
            cases scanFrom s f (i + t.text.size) with
            | error e => rfl
            | ok r => simp [resO]
    · have hie : s.size ≤ i := by omega
      have hd : decide ((i : Int) < (s.size : Int)) = false := by simp; omega
      have HX : Hid (R = .ok (ts ++ [tkEnd s.size])) := by
        have e : i = s.size := by omega
        unfold Hid
        rw [unhide HRR, e, scan_done]
        rfl
      clear HRR
      go_wp2_with (at_builtin; refine wpList_append_own _ rfl _ _ 101 rfl W0.heap.size 100 i0 (.agg #[.int .i64 0, .int .i64 0, .string ⟨#[]⟩]) 3 32 Tryz.underlying101 (unhide HI) (unhide HZ0) (unhide HZ1) (unhide HZ2) rfl (by decide) _ _ _ rfl ((unhide HO).alloc _) ⟨wr.heap.size, 0, none⟩ 1 1 [.int .i64 5, .int .i64 s.size, .string ⟨#[]⟩] rfl rfl ?c1 ?c2 ?c3 ?c4 ?c5 ?_)
      case c1 => exact cell_new rfl
      case c2 => exact one3 _ _ _
      case c3 => unfold maxLen; omega
      case c4 => omega
      case c5 => have := (unhide HBL).size; simp; omega
      intro v' w1 ho hg _
      have HO1 := hide ho
      have KW1 := hide ((hg.block w.heap.size (by simp; omega) (fun e => by have := ((unhide HO).lt _ e.symm).1; omega)).trans (heap_prev (unhide KW)))
      have HB1 : Hid (Below W0.heap.size W0 w1) := ((unhide HBL).alloc (unhide HBL).size _).grown hg (by have := (unhide HBL).size; simp; omega) (fun k hk => ((unhide HO).lt k hk).1)
      obtain ⟨kw, fw⟩ := blk (unhide KW1)
      have zw1 := lt_of_heap (unhide KW1)
      obtain ⟨av, lv, cv, hv'⟩ := row_slice' ho
      subst hv'
      clear ho hg
      go_wp2
      refine bodyPost_ret (v := .tuple #[.slice av lv cv, .agg #[.int .i64 0, .int .i64 0]]) (by simp [results, Tryz.results66, go_sem, kw]) rfl ?_
      rw [unhide HX]
      refine ⟨?_, _, rfl, ?_⟩
      · have hb1 : Below w.heap.size w w1 := (unhide HB0).trans ((unhide HB1).mono (by omega))
        exact (hb1.setCell (by exact Nat.le_refl _) _).setCell (by exact Nat.le_refl _) _
      · have e : rtCells (ts ++ [tkEnd s.size]) = rtCells ts ++ [.int .i64 5, .int .i64 s.size, .string ⟨#[]⟩] := by rw [← rtCells_snoc]; rfl
        rw [e, List.length_append]
        exact ownsRow_low (row_off (row_off (unhide HO1) hZ0') hZ0') (by omega)
end Go.Proofs.YtfkeddkfegaeiaaGreatDoor
