/-
  Part 1.
-/
import Derived.Below
import Derived.Lib.Bytealg
import Derived.Lib.Strings
namespace Go.Proofs.YtfkeddkfegaeiaaDoor

def blankI (n : Int) : Bool := n == 32 || n == 9 || n == 10
def letterI (n : Int) : Bool := (decide (97 ≤ n) && decide (n ≤ 122)) || n == 95
def digitI (n : Int) : Bool := decide (48 ≤ n) && decide (n ≤ 57)

/-- how many of a text's first bytes are of one kind. -/
def lead (p : Int → Bool) (l : List UInt8) : Nat := (l.takeWhile fun c => p c.toNat).length

theorem lead_le (p : Int → Bool) (l : List UInt8) : lead p l ≤ l.length := by
  unfold lead
  induction l with
  | nil => simp
  | cons c r ih => simp only [List.takeWhile_cons]; split <;> simp <;> omega

/-- all bytes ahead of k are of the kind, and the one at k is not, or the text ends. -/
theorem lead_eq (p : Int → Bool) (l : List UInt8) (k : Nat) (hk : k ≤ l.length) (h : ∀ j (hj : j < k), p (l[j]'(by omega)).toNat = true) (he : ∀ hlt : k < l.length, p (l[k]).toNat = false) : lead p l = k := by
  induction l generalizing k with
  | nil => simp at hk; subst hk; rfl
  | cons c r ih =>
    match k with
    | 0 =>
      have := he (by simp)
      simp only [List.getElem_cons_zero] at this
      simp [lead, this]
    | k + 1 =>
      have h0 := h 0 (by omega)
      simp only [List.getElem_cons_zero] at h0
      have := ih k (by simpa using hk) (fun j hj => by simpa using h (j + 1) (by omega)) (fun hlt => he (by simpa using hlt))
      unfold lead at this ⊢
      simp [h0, this]

/-- the words that are no names. -/
def wordList : List (List UInt8) := [[97, 110, 100], [97, 115], [98, 121], [99, 111, 117, 110, 116], [102, 114, 111, 109], [109, 97, 120], [109, 105, 110], [111, 114, 100, 101, 114], [111, 118, 101, 114], [112, 97, 114, 116, 105, 116, 105, 111, 110], [112, 114, 101, 99, 101, 100, 105, 110, 103], [114, 111, 119, 95, 110, 117, 109, 98, 101, 114], [114, 111, 119, 115], [115, 101, 108, 101, 99, 116], [115, 117, 109], [117, 110, 105, 111, 110], [119, 104, 101, 114, 101], [119, 105, 116, 104]]
def wordB (l : List UInt8) : Bool := wordList.any fun x => l == x

def signs1 : List UInt8 := [40, 41, 44, 46, 43, 45, 42, 61, 60, 62]
def sign2 (l : List UInt8) : Bool := (l.take 2 == [60, 62]) || (l.take 2 == [60, 61]) || (l.take 2 == [62, 61])
/-- how long the sign is that a text (not empty) begins with; 0: there is none. -/
def signLen (l : List UInt8) : Nat :=
  if sign2 l then 2 else if Lib.indexByte signs1 (l.headD 0) < 0 then 0 else 1

/-- a token: its place, its kind (0 the end, 1 a word or sign, 2 a name, 3 a number), its text, its value. -/
structure Tk where
  place : Nat
  kind : Nat
  text : ByteArray
  value : Int
end Go.Proofs.YtfkeddkfegaeiaaDoor
