/-
  What able asks, plainly.
-/
import Derived.Test.YtjnmkmcopfkdfaaGreatDoorTel
import Derived.KernelRfl
namespace Go.Proofs.YtjnmkmcopfkdfaaGreatDoor
def ableS : ByteArray := ⟨#[115, 101, 108, 101, 99, 116, 32, 45, 32, 32, 45, 32, 50, 42, 40, 32, 32, 120, 32, 46, 32, 97, 32, 41, 102, 114, 111, 109, 32, 101, 32, 120]⟩
def ableT : List UInt8 := [115, 101, 108, 101, 99, 116, 32, 45, 45, 50, 32, 42, 32, 40, 120, 46, 97, 41, 32, 102, 114, 111, 109, 32, 101, 32, 120]
def okEq : Except (Nat × Nat) (List UInt8) → List UInt8 → Bool
  | .ok l, m => l == m
  | .error _, _ => false
set_option maxRecDepth 100000 in
theorem able_okB : okEq (tellP ableS) ableT = true := by kernel_rfl
theorem able_ok : tellP ableS = .ok ableT := by
  have h := able_okB
  cases ht : tellP ableS with
  | error e => rw [ht] at h; cases h
  | ok l =>
    rw [ht] at h
    have : l = ableT := by simpa [okEq] using h
    rw [this]
open Go.RowKit
theorem TellPost.err {a : Nat → Addr} {w w' : World} {R : Except (Nat × Nat) (List UInt8)} {e : Ending} {p k : Nat} (h : TellPost a w R e w') (hR : R = .error (p, k)) : ∃ b, e = .returned (.tuple #[.string ⟨#[]⟩, .iface 64 (.pointer (some ⟨b, 0, none⟩))]) ∧ AtBlk w' b p (errV a k) ∧ Below w.heap.size w w' := by
  subst hR
  obtain ⟨b, h1, h2⟩ := h.2
  exact ⟨b, h1, h2, h.1⟩
theorem TellPost.ok {a : Nat → Addr} {w w' : World} {R : Except (Nat × Nat) (List UInt8)} {e : Ending} {l : List UInt8} (h : TellPost a w R e w') (hR : R = .ok l) : e = .returned (.tuple #[.string ⟨l.toArray⟩, .nilIface]) ∧ Below w.heap.size w w' := by
  subst hR
  exact ⟨h.2, h.1⟩
theorem tell_able (a : Nat → Addr) (B : Nat) (w : World) (h : Env a B w) :
    Calls Tryz.prog 6 #[.string ableS] w fun e w' => e = .returned (.tuple #[.string ⟨ableT.toArray⟩, .nilIface]) ∧ Below w.heap.size w w' :=
  (tell_any ableS a B w h (by decide)).mono fun _ _ hp => hp.ok able_ok

set_option maxRecDepth 100000 in
set_option maxHeartbeats 1000000 in
theorem able_any (a : Nat → Addr) (B : Nat) (w : World) (h : Env a B w) :
    Calls Tryz.prog 9 #[] w fun e w' => e = .returned (.bool true) ∧ Below w.heap.size w w' := by
  have HC := hide (tell_able a B w h)
  clear h
  unfold ableS ableT at HC
  go_enter Tryz.func9, Tryz.ntmps9
  go_wp2_with fail
  refine (unhide HC).mono ?_
  rintro e w1 ⟨rfl, h1⟩
  go_wp2
  go_ret
  exact ⟨rfl, h1⟩
end Go.Proofs.YtjnmkmcopfkdfaaGreatDoor
