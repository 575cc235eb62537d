/-
  Part 1.
-/
import Derived.Below
import Derived.Lib.Bytealg
import Derived.Lib.Strings
import Derived.Test.YtfkeddkfegaeiaaGreatDoorRows
import Derived.WalkKit
import Derived.WalkSpells
import Derived.WalkLawsBesides
import Derived.Stop.Asserts
import Derived.LaidEql
import Derived.RowKitTokens
namespace Go.Proofs.YtfkeddkfegaeiaaGreatDoor
def blankI (n : Int) : Bool := n == 32 || n == 9 || n == 10
def letterI (n : Int) : Bool := (decide (97 ≤ n) && decide (n ≤ 122)) || n == 95
def digitI (n : Int) : Bool := decide (48 ≤ n) && decide (n ≤ 57)
/-- how many of a text's first bytes are of one kind. -/
def lead (p : Int → Bool) (l : List UInt8) : Nat := (l.takeWhile fun c => p c.toNat).length
theorem lead_le (p : Int → Bool) (l : List UInt8) : lead p l ≤ l.length := by
  unfold lead
  induction l with
  | nil => simp
  | cons c r ih => simp only [List.takeWhile_cons]; split <;> simp <;> omega
/-- all bytes ahead of k are of the kind, and the one at k is not, or the text ends. -/
theorem lead_eq (p : Int → Bool) (l : List UInt8) (k : Nat) (hk : k ≤ l.length) (h : ∀ j (hj : j < k), p (l[j]'(by omega)).toNat = true) (he : ∀ hlt : k < l.length, p (l[k]).toNat = false) : lead p l = k := by
  induction l generalizing k with
  | nil => simp at hk; subst hk; rfl
  | cons c r ih =>
    match k with
    | 0 =>
      have := he (by simp)
      simp only [List.getElem_cons_zero] at this
      simp [lead, this]
    | k + 1 =>
      have h0 := h 0 (by omega)
      simp only [List.getElem_cons_zero] at h0
      have := ih k (by simpa using hk) (fun j hj => by simpa using h (j + 1) (by omega)) (fun hlt => he (by simpa using hlt))
      unfold lead at this ⊢
      simp [h0, this]
/-- the words that are no names. -/
def wordList : List (List UInt8) := [[97, 110, 100], [97, 115], [98, 121], [99, 111, 117, 110, 116], [102, 114, 111, 109], [109, 97, 120], [109, 105, 110], [111, 114, 100, 101, 114], [111, 118, 101, 114], [112, 97, 114, 116, 105, 116, 105, 111, 110], [112, 114, 101, 99, 101, 100, 105, 110, 103], [114, 111, 119, 95, 110, 117, 109, 98, 101, 114], [114, 111, 119, 115], [115, 101, 108, 101, 99, 116], [115, 117, 109], [117, 110, 105, 111, 110], [119, 104, 101, 114, 101], [119, 105, 116, 104]]
def wordB (l : List UInt8) : Bool := wordList.any fun x => l == x
def signs1 : List UInt8 := [40, 41, 44, 46, 43, 45, 42, 61, 60, 62]
def sign2 (l : List UInt8) : Bool := (l.take 2 == [60, 62]) || (l.take 2 == [60, 61]) || (l.take 2 == [62, 61])
/-- how long the sign is that a text (not empty) begins with; 0: there is none. -/
def signLen (l : List UInt8) : Nat :=
  if sign2 l then 2 else if Lib.indexByte signs1 (l.headD 0) < 0 then 0 else 1
/-- a token: its place, its kind (0 the end, 1 a word or sign, 2 a name, 3 a number), its text, its value. -/
structure Tk where
  place : Nat
  kind : Nat
  text : ByteArray
  value : Int
end Go.Proofs.YtfkeddkfegaeiaaGreatDoor
namespace Go.Proofs.YtfkeddkfegaeiaaGreatDoor
open Go.RowKit
set_option maxHeartbeats 400000 in
theorem isBlank_any (n : Int) (w : World) : Calls Tryz.prog 94 #[.int .u8 n] w fun e w' => e = .returned (.bool (blankI n)) ∧ w' = w := by
  by_cases h1 : n = 32
  · have b1 : (n == 32) = true := by simp [h1]
    go_enter Tryz.func94, Tryz.ntmps94
    go_wp2
    go_ret
    exact ⟨by simp [blankI, b1], rfl⟩
  · have b1 : (n == 32) = false := by simp [h1]
    by_cases h2 : n = 9
    · have b2 : (n == 9) = true := by simp [h2]
      go_enter Tryz.func94, Tryz.ntmps94
      go_wp2
      go_ret
      exact ⟨by simp [blankI, b1, b2], rfl⟩
    · have b2 : (n == 9) = false := by simp [h2]
      go_enter Tryz.func94, Tryz.ntmps94
      go_wp2
      go_ret
      exact ⟨by simp [blankI, b1, b2], rfl⟩
set_option maxHeartbeats 400000 in
theorem isLetter_any (n : Int) (w : World) : Calls Tryz.prog 142 #[.int .u8 n] w fun e w' => e = .returned (.bool (letterI n)) ∧ w' = w := by
  by_cases h1 : 97 ≤ n
  · have b1 : decide (97 ≤ n) = true := by simp [h1]
    by_cases h2 : n ≤ 122
    · have b2 : decide (n ≤ 122) = true := by simp [h2]
      go_enter Tryz.func142, Tryz.ntmps142
      go_wp2
      go_ret
      exact ⟨by simp [letterI, h1, h2], rfl⟩
    · have b2 : decide (n ≤ 122) = false := by simp; omega
      go_enter Tryz.func142, Tryz.ntmps142
      go_wp2
      go_ret
      exact ⟨by simp [letterI, b2], rfl⟩
  · have b1 : decide (97 ≤ n) = false := by simp; omega
    go_enter Tryz.func142, Tryz.ntmps142
    go_wp2
    go_ret
    exact ⟨by simp [letterI, b1], rfl⟩
set_option maxHeartbeats 400000 in
theorem isDigit_any (n : Int) (w : World) : Calls Tryz.prog 144 #[.int .u8 n] w fun e w' => e = .returned (.bool (digitI n)) ∧ w' = w := by
  by_cases h1 : 48 ≤ n
  · have b1 : decide (48 ≤ n) = true := by simp [h1]
    go_enter Tryz.func144, Tryz.ntmps144
    go_wp2
    go_ret
    exact ⟨by simp [digitI, h1], rfl⟩
  · have b1 : decide (48 ≤ n) = false := by simp; omega
    go_enter Tryz.func144, Tryz.ntmps144
    go_wp2
    go_ret
    exact ⟨by simp [digitI, b1], rfl⟩
set_option maxHeartbeats 1000000 in
theorem isWord_any (s : ByteArray) (w : World) : Calls Tryz.prog 208 #[.string s] w fun e w' => e = .returned (.bool (wordB s.data.toList)) ∧ w' = w := by
  go_enter Tryz.func208, Tryz.ntmps208
  go_wp2
  all_goals first
    | (exfalso; simp_all; done)
    | (go_ret; refine ⟨?_, rfl⟩; rw [← ByteArray.toList_eq]; simp only [wordB, wordList, List.any_cons, List.any_nil, *, Bool.or_true, Bool.true_or, Bool.or_false]; rfl)
set_option maxHeartbeats 400000 in
theorem leading_blank (s : ByteArray) (w : World) (hs : s.size ≤ maxLen) :
    Calls Tryz.prog 93 #[.string s, .func (.func 94) #[] #[]] w fun e w' => e = .returned (.string (s.extract 0 (lead blankI s.data.toList))) ∧ w' = w := by
  unfold maxLen at hs
  go_enter Tryz.func93, Tryz.ntmps93
  go_wp2
  go_loop [5] (fun i => ∃ k : Nat, k ≤ s.size ∧ (∀ j (hj : j < k) (hj' : j < s.data.toList.length), blankI (s.data.toList[j]).toNat = true) ∧ i = .int .i64 k) (fun i => s.size - (intOf i).toNat)
  case atStart => exact ⟨0, Nat.zero_le _, fun j hj => absurd hj (Nat.not_lt_zero _), rfl⟩
  case round =>
    obtain ⟨k, hk, hall, rfl⟩ := hrel
    have HA : Hid (∀ j (hj : j < k) (hj' : j < s.data.toList.length), blankI (s.data.toList[j]).toNat = true) := hall
    clear hall
    have hsz : s.data.toList.length = s.size := by rw [Array.length_toList]; rfl
    have HZ : Hid (s.data.toList.length = s.size) := hsz
    clear hsz
    by_cases hlt : k < s.size
    · have hb : ((s[k]).toNat : Int) = ((s.data.toList[k]'(by rw [HZ.out]; exact hlt)).toNat : Int) := rfl
      have HB : Hid (((s[k]).toNat : Int) = ((s.data.toList[k]'(by rw [HZ.out]; exact hlt)).toNat : Int)) := hb
      clear hb
      cases hp : blankI (s[k]).toNat with
      | true =>
        have HP : Hid (blankI (s[k]).toNat = true) := hp
        go_wp2_with (go_at_call 94; refine (isBlank_any _ _).mono ?_; rintro e w' ⟨rfl, rfl⟩)
        go_round
        case rel =>
          refine ⟨k + 1, by omega, fun j hj hj' => ?_, by go_num⟩
          rcases Nat.lt_or_ge j k with h | h
          · exact HA.out j h hj'
          · obtain rfl : j = k := by omega
            exact HP.out
        case measure => simp [intOf]; omega
      | false =>
        have HP : Hid (blankI (s[k]).toNat = false) := hp
        go_wp2_with (go_at_call 94; refine (isBlank_any _ _).mono ?_; rintro e w' ⟨rfl, rfl⟩)
        go_ret
        have e1 : lead blankI s.data.toList = k := lead_eq _ _ k (by rw [HZ.out]; exact hk) (fun j hj => HA.out j hj (by rw [HZ.out]; omega)) (fun _ => HP.out)
        exact ⟨by rw [e1]; rfl, rfl⟩
    · go_wp2
      go_ret
      have e1 : lead blankI s.data.toList = k := lead_eq _ _ k (by rw [HZ.out]; exact hk) (fun j hj => HA.out j hj (by rw [HZ.out]; omega)) (fun h => absurd h (by rw [HZ.out]; omega))
      exact ⟨by rw [e1]; rfl, rfl⟩
set_option maxHeartbeats 400000 in
theorem leading_letter (s : ByteArray) (w : World) (hs : s.size ≤ maxLen) :
    Calls Tryz.prog 93 #[.string s, .func (.func 142) #[] #[]] w fun e w' => e = .returned (.string (s.extract 0 (lead letterI s.data.toList))) ∧ w' = w := by
  unfold maxLen at hs
  go_enter Tryz.func93, Tryz.ntmps93
  go_wp2
  go_loop [5] (fun i => ∃ k : Nat, k ≤ s.size ∧ (∀ j (hj : j < k) (hj' : j < s.data.toList.length), letterI (s.data.toList[j]).toNat = true) ∧ i = .int .i64 k) (fun i => s.size - (intOf i).toNat)
  case atStart => exact ⟨0, Nat.zero_le _, fun j hj => absurd hj (Nat.not_lt_zero _), rfl⟩
  case round =>
    obtain ⟨k, hk, hall, rfl⟩ := hrel
    have HA : Hid (∀ j (hj : j < k) (hj' : j < s.data.toList.length), letterI (s.data.toList[j]).toNat = true) := hall
    clear hall
    have hsz : s.data.toList.length = s.size := by rw [Array.length_toList]; rfl
    have HZ : Hid (s.data.toList.length = s.size) := hsz
    clear hsz
    by_cases hlt : k < s.size
    · have hb : ((s[k]).toNat : Int) = ((s.data.toList[k]'(by rw [HZ.out]; exact hlt)).toNat : Int) := rfl
      have HB : Hid (((s[k]).toNat : Int) = ((s.data.toList[k]'(by rw [HZ.out]; exact hlt)).toNat : Int)) := hb
      clear hb
      cases hp : letterI (s[k]).toNat with
      | true =>
        have HP : Hid (letterI (s[k]).toNat = true) := hp
        go_wp2_with (go_at_call 142; refine (isLetter_any _ _).mono ?_; rintro e w' ⟨rfl, rfl⟩)
        go_round
        case rel =>
          refine ⟨k + 1, by omega, fun j hj hj' => ?_, by go_num⟩
          rcases Nat.lt_or_ge j k with h | h
          · exact HA.out j h hj'
          · obtain rfl : j = k := by omega
            exact HP.out
        case measure => simp [intOf]; omega
      | false =>
        have HP : Hid (letterI (s[k]).toNat = false) := hp
        go_wp2_with (go_at_call 142; refine (isLetter_any _ _).mono ?_; rintro e w' ⟨rfl, rfl⟩)
        go_ret
        have e1 : lead letterI s.data.toList = k := lead_eq _ _ k (by rw [HZ.out]; exact hk) (fun j hj => HA.out j hj (by rw [HZ.out]; omega)) (fun _ => HP.out)
        exact ⟨by rw [e1]; rfl, rfl⟩
    · go_wp2
      go_ret
      have e1 : lead letterI s.data.toList = k := lead_eq _ _ k (by rw [HZ.out]; exact hk) (fun j hj => HA.out j hj (by rw [HZ.out]; omega)) (fun h => absurd h (by rw [HZ.out]; omega))
      exact ⟨by rw [e1]; rfl, rfl⟩
set_option maxHeartbeats 400000 in
theorem leading_digit (s : ByteArray) (w : World) (hs : s.size ≤ maxLen) :
    Calls Tryz.prog 93 #[.string s, .func (.func 144) #[] #[]] w fun e w' => e = .returned (.string (s.extract 0 (lead digitI s.data.toList))) ∧ w' = w := by
  unfold maxLen at hs
  go_enter Tryz.func93, Tryz.ntmps93
  go_wp2
  go_loop [5] (fun i => ∃ k : Nat, k ≤ s.size ∧ (∀ j (hj : j < k) (hj' : j < s.data.toList.length), digitI (s.data.toList[j]).toNat = true) ∧ i = .int .i64 k) (fun i => s.size - (intOf i).toNat)
  case atStart => exact ⟨0, Nat.zero_le _, fun j hj => absurd hj (Nat.not_lt_zero _), rfl⟩
  case round =>
    obtain ⟨k, hk, hall, rfl⟩ := hrel
    have HA : Hid (∀ j (hj : j < k) (hj' : j < s.data.toList.length), digitI (s.data.toList[j]).toNat = true) := hall
    clear hall
    have hsz : s.data.toList.length = s.size := by rw [Array.length_toList]; rfl
    have HZ : Hid (s.data.toList.length = s.size) := hsz
    clear hsz
    by_cases hlt : k < s.size
    · have hb : ((s[k]).toNat : Int) = ((s.data.toList[k]'(by rw [HZ.out]; exact hlt)).toNat : Int) := rfl
      have HB : Hid (((s[k]).toNat : Int) = ((s.data.toList[k]'(by rw [HZ.out]; exact hlt)).toNat : Int)) := hb
      clear hb
      cases hp : digitI (s[k]).toNat with
      | true =>
        have HP : Hid (digitI (s[k]).toNat = true) := hp
        go_wp2_with (go_at_call 144; refine (isDigit_any _ _).mono ?_; rintro e w' ⟨rfl, rfl⟩)
        go_round
        case rel =>
          refine ⟨k + 1, by omega, fun j hj hj' => ?_, by go_num⟩
          rcases Nat.lt_or_ge j k with h | h
          · exact HA.out j h hj'
          · obtain rfl : j = k := by omega
            exact HP.out
        case measure => simp [intOf]; omega
      | false =>
        have HP : Hid (digitI (s[k]).toNat = false) := hp
        go_wp2_with (go_at_call 144; refine (isDigit_any _ _).mono ?_; rintro e w' ⟨rfl, rfl⟩)
        go_ret
        have e1 : lead digitI s.data.toList = k := lead_eq _ _ k (by rw [HZ.out]; exact hk) (fun j hj => HA.out j hj (by rw [HZ.out]; omega)) (fun _ => HP.out)
        exact ⟨by rw [e1]; rfl, rfl⟩
    · go_wp2
      go_ret
      have e1 : lead digitI s.data.toList = k := lead_eq _ _ k (by rw [HZ.out]; exact hk) (fun j hj => HA.out j hj (by rw [HZ.out]; omega)) (fun h => absurd h (by rw [HZ.out]; omega))
      exact ⟨by rw [e1]; rfl, rfl⟩
end Go.Proofs.YtfkeddkfegaeiaaGreatDoor
namespace Go.Proofs.YtfkeddkfegaeiaaGreatDoor
open Go.RowKit
theorem hide {p : Prop} (h : p) : Hid p := h
theorem unhide {p : Prop} (h : Hid p) : p := h
/-- the errors that reading a text may meet: the program's five and strconv's two. -/
def seven (j : Nat) : Bool := j == 0 || j == 1 || j == 2 || j == 3 || j == 4 || j == 11 || j == 12
theorem seven_lt {j : Nat} (h : seven j = true) : j < 13 := by
  unfold seven at h
  simp only [Bool.or_eq_true, beq_iff_eq] at h
  omega
/-- variable j holds a pointer into a plain row; all of it lies below block B. -/
structure Env (a : Nat → Addr) (B : Nat) (w : World) : Prop where
  low : 13 ≤ B
  size : B ≤ w.heap.size
  cell : ∀ j, seven j = true → w.cell? ⟨j, 0, none⟩ = some (.iface 496 (.pointer (some (a j))))
  below : ∀ j, seven j = true → (a j).block < B
  row : ∀ j, seven j = true → ∃ c t, w.heap[(a j).block]? = some (.cells c t (0, 0))
  ne : ∀ i j, seven i = true → seven j = true → i ≠ j → a i ≠ a j
theorem Env.keep {a : Nat → Addr} {B : Nat} {w w' : World} (h : Env a B w) (hb : Below B w w') : Env a B w' := by
  refine ⟨h.low, Nat.le_trans h.size hb.size, fun j hj => ?_, h.below, fun j hj => ?_, h.ne⟩
  · rw [hb.cell (p := ⟨j, 0, none⟩) (Nat.lt_of_lt_of_le (seven_lt hj) h.low)]; exact h.cell j hj
  · obtain ⟨c, t, hr⟩ := h.row j hj
    exact ⟨c, t, by rw [hb.block _ (h.below j hj)]; exact hr⟩
theorem Env.alloc {a : Nat → Addr} {B : Nat} {w : World} (h : Env a B w) (o : Obj) : Env a B (w.alloc o) :=
  h.keep ((Below.refl _ _).alloc h.size _)
theorem Env.drew {a : Nat → Addr} {B : Nat} {w : World} (h : Env a B w) : Env a B w.drew := h.keep (Below.refl _ _).drew
/-- Of what was there only block r may have turned. -/
structure Kp (r : Nat) (w w' : World) : Prop where
  os : w'.os = w.os
  tape : w'.tape = w.tape
  output : w'.output = w.output
  size : w.heap.size ≤ w'.heap.size
  block : ∀ k, k < w.heap.size → k ≠ r → w'.heap[k]? = w.heap[k]?
theorem Kp.refl (r : Nat) (w : World) : Kp r w w := ⟨rfl, rfl, rfl, Nat.le_refl _, fun _ _ _ => rfl⟩
theorem Kp.trans {r : Nat} {a b c : World} (h : Kp r a b) (k : Kp r b c) : Kp r a c :=
  ⟨k.os.trans h.os, k.tape.trans h.tape, k.output.trans h.output, Nat.le_trans h.size k.size, fun i hi hr => (k.block i (Nat.lt_of_lt_of_le hi h.size) hr).trans (h.block i hi hr)⟩
theorem Kp.ofBelow {r : Nat} {w w' : World} (h : Below w.heap.size w w') : Kp r w w' := ⟨h.os, h.tape, h.output, h.size, fun k hk _ => h.block k hk⟩
theorem Kp.drew {r : Nat} {a w : World} (h : Kp r a w) : Kp r a w.drew := ⟨h.os, h.tape, h.output, h.size, h.block⟩
theorem Kp.alloc {r : Nat} {a w : World} (h : Kp r a w) (o : Obj) : Kp r a (w.alloc o) :=
  h.trans ⟨rfl, rfl, rfl, by simp, fun k hk _ => Below.heap_alloc _ _ _ hk⟩
theorem Kp.setCell {r : Nat} {a w : World} (h : Kp r a w) (off : Nat) (u : Value) : Kp r a (w.setCell ⟨r, off, none⟩ u) :=
  h.trans ⟨rfl, rfl, rfl, by simp [World.setCell], fun k _ hr => Below.heap_setCell _ _ _ _ hr⟩
/-- a store into a block that is new since a. -/
theorem Kp.setNew {r : Nat} {a w : World} (h : Kp r a w) {p : Addr} (hp : a.heap.size ≤ p.block) (u : Value) : Kp r a (w.setCell p u) :=
  ⟨h.os, h.tape, h.output, Nat.le_trans h.size (by simp [World.setCell]), fun k hk hr => (Below.heap_setCell _ _ _ _ (by omega)).trans (h.block k hk hr)⟩
theorem Kp.below {r B : Nat} {w w' : World} (h : Kp r w w') (hr : B ≤ r) (hB : B ≤ w.heap.size) : Below B w w' :=
  ⟨h.os, h.tape, h.output, h.size, fun k hk => h.block k (by omega) (by omega)⟩
theorem Env.kp {a : Nat → Addr} {B r : Nat} {w w' : World} (h : Env a B w) (hk : Kp r w w') (hr : B ≤ r) : Env a B w' := h.keep (hk.below hr h.size)
theorem Kp.cell {r : Nat} {w w' : World} (h : Kp r w w') {p : Addr} (hp : p.block < w.heap.size) (hr : p.block ≠ r) : w'.cell? p = w.cell? p := World.cell?_of_block (w := w) (h.block p.block hp hr)
theorem Kp.frozen {r : Nat} {w w' : World} (h : Kp r w w') {p : Addr} (hp : p.block < w.heap.size) (hr : p.block ≠ r) : w'.frozen? p = w.frozen? p := World.frozen?_of_block (w := w) (h.block p.block hp hr)
theorem heap_last {w : World} {o : Obj} {n : Nat} (h : n = w.heap.size) : (w.alloc o).heap[n]? = some o := by
  subst h
  show (w.heap.push o)[w.heap.size]? = _
  rw [Array.getElem?_push, if_pos rfl]
theorem blk {w : World} {b : Nat} {c : Array Value} {t : TypeId} (h : w.heap[b]? = some (.cells c t (0, 0))) : (∀ o, w.cell? ⟨b, o, none⟩ = c[o]?) ∧ ∀ o, w.frozen? ⟨b, o, none⟩ = false := by
  refine ⟨fun o => by simp [World.cell?, h], fun o => by simp [World.frozen?, h]⟩
theorem heap_prev {w : World} {o : Obj} {n : Nat} {x : Obj} (h : w.heap[n]? = some x) : (w.alloc o).heap[n]? = some x := by
  have hn : n < w.heap.size := by
    rcases Nat.lt_or_ge n w.heap.size with h' | h'
    · exact h'
    · rw [Array.getElem?_eq_none h'] at h; cases h
  rw [Below.heap_alloc _ _ _ hn]; exact h
end Go.Proofs.YtfkeddkfegaeiaaGreatDoor
namespace Go.Proofs.YtfkeddkfegaeiaaGreatDoor
open Go.RowKit Go.Extern.Stop Go.Stop Go.Extern
theorem isTypeOf (v : Value) (w : World) : (Extern.ReflectliteType.typeOf #[.iface 496 v]).run Tryz.prog w = .ok (.iface 192 (.agg #[.pointer (some ⟨17, 496, none⟩)])) w := by kernel_rfl
def cmpE : Array Value → Sem Value := Extern.ReflectliteType.method fun t => do Rtype.noPackHeld "Comparable" t; pure (.bool (← typeInfo t).comparable)
theorem isComparable (w : World) : (cmpE #[.agg #[.pointer (some ⟨17, 496, none⟩)]]).run Tryz.prog w = .ok (.bool true) w := by kernel_rfl
theorem isComp : (Tryz.prog.info? 496).map (·.comparable) = some true := by kernel_rfl
theorem isSize : (Tryz.prog.info? 498).map (·.size) = some 1 := by kernel_rfl
theorem noIsE (v : Value) (xT : TypeId) (w : World) : (Instr.typeAssert (.iface 496 v) xT 194 true).run Tryz.prog w = .ok (.tuple #[.nilIface, .bool false]) w := run_typeAssert_lacksB Tryz.underlying194 (by kernel_rfl) (by kernel_rfl) v xT w
theorem noUnwrapE (v : Value) (xT : TypeId) (w : World) : (Instr.typeAssert (.iface 496 v) xT 197 true).run Tryz.prog w = .ok (.tuple #[.nilIface, .bool false]) w := run_typeAssert_lacksB Tryz.underlying197 (by kernel_rfl) (by kernel_rfl) v xT w
theorem noUnwrapsE (v : Value) (xT : TypeId) (w : World) : (Instr.typeAssert (.iface 496 v) xT 199 true).run Tryz.prog w = .ok (.tuple #[.nilIface, .bool false]) w := run_typeAssert_lacksB Tryz.underlying199 (by kernel_rfl) (by kernel_rfl) v xT w
theorem isMethodComparable (v : Value) (w : World) : (Go.method 639 192 v "Comparable").run Tryz.prog w = .ok (376, v) w := by kernel_rfl
theorem noIsN (v : Value) (xT : TypeId) (w : World) : (Instr.typeAssert (.iface 471 v) xT 194 true).run Tryz.prog w = .ok (.tuple #[.nilIface, .bool false]) w := run_typeAssert_lacksB Tryz.underlying194 (by kernel_rfl) (by kernel_rfl) v xT w
theorem hasUnwrapN (v : Value) (xT : TypeId) (w : World) : (Instr.typeAssert (.iface 471 v) xT 197 true).run Tryz.prog w = .ok (.tuple #[.iface 471 v, .bool true]) w := run_typeAssert_hasB Tryz.underlying197 (by kernel_rfl) v xT w
theorem methodUnwrapN (v : Value) (w : World) : (Go.method 639 471 v "Unwrap").run Tryz.prog w = .ok (390, v) w := by kernel_rfl
theorem run_eql_nil_other (u : TypeId) (x : Value) (w : World) : (binOp .eql 23 .nilIface (.iface u x)).run Tryz.prog w = .ok (.bool false) w := by
  have h : (Op.equalIn (9999 + 1) 23 .nilIface (.iface u x)).run Tryz.prog w = .ok false w := by
    rw [Op.equalIn]
    simp [run_underlying Tryz.underlying23]
  simp only [binOp]
  simp [Op.equal, Op.maxDepth, h]
set_option maxRecDepth 100000 in
set_option maxHeartbeats 1000000 in
theorem is_nil (v : Value) (w : World) :
    Calls Tryz.prog 18 #[.nilIface, .iface 496 v] w fun e w' => e = .returned (.bool false) ∧ w' = w := by
  have heq := run_eql_nil_other
  go_enter Tryz.func18, Tryz.ntmps18
  go_wp2
  go_ret
  exact ⟨rfl, rfl⟩
set_option maxRecDepth 100000 in
set_option maxHeartbeats 1000000 in
theorem is_num (pb : Nat) (b : Addr) (w : World) (h1 : w.cell? ⟨pb, 2, none⟩ = some (.iface 496 (.pointer (some b)))) :
    Calls Tryz.prog 18 #[.iface 471 (.pointer (some ⟨pb, 0, none⟩)), .iface 496 (.pointer (some b))] w fun e w' => e = .returned (.bool true) ∧ w' = w := by
  obtain ⟨i, hi, hcmp⟩ := Option.map_eq_some_iff.1 isComp
  obtain ⟨j, hj, hjs⟩ := Option.map_eq_some_iff.1 isSize
  have h8 := @run_callFunc_extern Tryz.prog 42 _ Extern.ReflectliteType.typeOf Tryz.func42 (by kernel_rfl) (by kernel_rfl) (by kernel_rfl) (by kernel_rfl)
  have h32 := @run_callFunc_extern Tryz.prog 376 _ cmpE Tryz.func376 (by kernel_rfl) (by kernel_rfl) (by kernel_rfl) (by kernel_rfl)
  have tT := isTypeOf
  have cT := isComparable
  have mR := isMethodComparable
  have nE := noIsE
  have uE := noUnwrapE
  have vE := noUnwrapsE
  have nW := noIsN
  have uW := hasUnwrapN
  have mU := methodUnwrapN
  have heq := run_eql_iface_ptr_same (P := Tryz.prog) w b Tryz.underlying23 Tryz.underlying496 hi hcmp hj
  have hty := run_eql_iface_types (P := Tryz.prog) 471 496 (.pointer (some ⟨pb, 0, none⟩)) (.pointer (some b)) Tryz.underlying23 (by decide) w
  go_enter Tryz.func18, Tryz.ntmps18
  go_wp2
  refine wp_loop_rounds 2 ?_
  rw [rounds_succ]
  go_wp2
  rw [rounds_succ]
  go_wp2
  go_ret
  exact ⟨rfl, rfl⟩
end Go.Proofs.YtfkeddkfegaeiaaGreatDoor
