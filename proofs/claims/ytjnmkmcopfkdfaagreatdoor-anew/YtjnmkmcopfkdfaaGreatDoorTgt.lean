/-
  Whether a space stands ahead of a token, or behind it.
-/
import Derived.Test.YtjnmkmcopfkdfaaGreatDoorRows
import Derived.Test.YtjnmkmcopfkdfaaGreatDoorLay
import Derived.WalkKit
import Derived.WalkSpells
import Derived.WalkLawsBesides
namespace Go.Proofs.YtjnmkmcopfkdfaaGreatDoor
open Go.RowKit

set_option maxHeartbeats 1000000 in
theorem tightAhead_any (s : ByteArray) (w : World) : Calls Tryz.prog 68 #[.string s] w fun e w' => e = .returned (.bool (tightA s)) ∧ w' = w := by
  cases h1 : (s.toList == [41]) with
  | true =>
    go_enter Tryz.func68, Tryz.ntmps68
    go_wp2
    go_ret
    exact ⟨by simp only [tightA, *, Bool.true_or]; rfl, rfl⟩
  | false =>
    cases h2 : (s.toList == [44]) with
    | true =>
      go_enter Tryz.func68, Tryz.ntmps68
      go_wp2
      go_ret
      exact ⟨by simp only [tightA, *, Bool.true_or, Bool.or_true]; rfl, rfl⟩
    | false =>
      go_enter Tryz.func68, Tryz.ntmps68
      go_wp2
      go_ret
      exact ⟨by simp only [tightA, *, Bool.false_or]; rfl, rfl⟩

set_option maxHeartbeats 1000000 in
theorem tightBehind_any (s : ByteArray) (w : World) : Calls Tryz.prog 71 #[.string s] w fun e w' => e = .returned (.bool (tightB s)) ∧ w' = w := by
  go_enter Tryz.func71, Tryz.ntmps71
  go_wp2
  all_goals first
    | (exfalso; simp_all; done)
    | (go_ret; refine ⟨?_, rfl⟩; simp only [tightB, *, Bool.or_true, Bool.true_or, Bool.or_false]; rfl)
end Go.Proofs.YtjnmkmcopfkdfaaGreatDoor
