/-
  What able asks, plainly.
-/
import Derived.Test.YtjnmkmcopfkdfaaGreatDoorTel
import Derived.KernelRfl
namespace Go.Proofs.YtjnmkmcopfkdfaaGreatDoor
def ableS : ByteArray := ⟨#[115, 101, 108, 101, 99, 116, 32, 45, 32, 32, 45, 32, 50, 42, 40, 32, 32, 120, 32, 46, 32, 97, 32, 41, 102, 114, 111, 109, 32, 101, 32, 120]⟩
def ableT : List UInt8 := [115, 101, 108, 101, 99, 116, 32, 45, 45, 50, 32, 42, 32, 40, 120, 46, 97, 41, 32, 102, 114, 111, 109, 32, 101, 32, 120]
def okEq : Except (Nat × Nat) (List UInt8) → List UInt8 → Bool
  | .ok l, m => l == m
  | .error _, _ => false
set_option maxRecDepth 100000 in
theorem able_okB : okEq (tellP ableS) ableT = true := by kernel_rfl
theorem able_ok : tellP ableS = .ok ableT := by
  have h := able_okB
  cases ht : tellP ableS with
  | error e => rw [ht] at h; cases h
  | ok l =>
    rw [ht] at h
    have : l = ableT := by simpa [okEq] using h
    rw [this]
end Go.Proofs.YtjnmkmcopfkdfaaGreatDoor
