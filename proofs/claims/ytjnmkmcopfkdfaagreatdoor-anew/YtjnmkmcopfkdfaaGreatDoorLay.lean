/-
  Telling, plain: tokens laid one behind the other.
-/
import Derived.Test.YtjnmkmcopfkdfaaGreatDoorPure
namespace Go.Proofs.YtjnmkmcopfkdfaaGreatDoor
open Go.RowKit

/-- a token as it is told: its text; is it a minus of one factor? -/
abbrev TT := ByteArray × Bool
def tightA (s : ByteArray) : Bool := s.toList == [41] || s.toList == [44] || s.toList == [46]
def tightB (s : ByteArray) : Bool := s.toList == [40] || s.toList == [46] || s.toList == [114, 111, 119, 95, 110, 117, 109, 98, 101, 114] || s.toList == [99, 111, 117, 110, 116] || s.toList == [115, 117, 109] || s.toList == [109, 105, 110] || s.toList == [109, 97, 120]
abbrev Out := List UInt8 × Bool
def gapped (o : Out) (s : ByteArray) : Bool := decide (0 < o.1.length) && !o.2 && !tightA s
def lay (o : Out) (t : TT) : Out := (o.1 ++ (if gapped o t.1 then [32] else []) ++ t.1.data.toList, t.2 || tightB t.1)
def layAll (o : Out) (l : List TT) : Out := l.foldl lay o
def cost (l : List TT) : Nat := (l.map fun t => t.1.size + 1).sum
def tx (s : ByteArray) : TT := (s, false)

theorem layAll_nil (o : Out) : layAll o [] = o := rfl
theorem layAll_append (o : Out) (l m : List TT) : layAll o (l ++ m) = layAll (layAll o l) m := List.foldl_append
theorem layAll_cons (o : Out) (t : TT) (l : List TT) : layAll o (t :: l) = layAll (lay o t) l := rfl
theorem cost_append (l m : List TT) : cost (l ++ m) = cost l + cost m := by simp [cost]
theorem cost_cons (t : TT) (l : List TT) : cost (t :: l) = t.1.size + 1 + cost l := by simp [cost]
theorem cost_nil : cost [] = 0 := rfl
theorem lay_len (o : Out) (t : TT) : (lay o t).1.length ≤ o.1.length + (t.1.size + 1) := by
  unfold lay
  split
  · simp
  · simp
theorem layAll_len (o : Out) : ∀ l : List TT, (layAll o l).1.length ≤ o.1.length + cost l := by
  intro l
  induction l generalizing o with
  | nil => simp [layAll, cost]
  | cons t l ih =>
    rw [layAll_cons, cost_cons]
    have := ih (lay o t)
    have := lay_len o t
    omega
/-- parts with commas between them. -/
def commas : List (List TT) → List TT
  | [] => []
  | [a] => a
  | a :: b :: r => a ++ tx ⟨#[44]⟩ :: commas (b :: r)
theorem commas_snoc : ∀ (l : List (List TT)) (a : List TT), commas (l ++ [a]) = commas l ++ (if l = [] then [] else [tx ⟨#[44]⟩]) ++ a
  | [], a => by simp [commas]
  | [x], a => by simp [commas]
  | x :: y :: r, a => by
    have ih := commas_snoc (y :: r) a
    simp only [List.cons_append] at ih ⊢
    rw [commas, ih, commas]
    simp
end Go.Proofs.YtjnmkmcopfkdfaaGreatDoor
