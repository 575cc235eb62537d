/-
  The walk of behind; windows.
-/
import Derived.Test.YtjnmkmcopfkdfaaGreatDoorLsX
namespace Go.Proofs.YtjnmkmcopfkdfaaGreatDoor
open Go.RowKit

def xBy : ByteArray := ⟨#[98, 121]⟩
def behP (ts : List Tk) (st : St) (x : ByteArray) : List (List Nd) × St := if hitP ts st [x] then listP ts (exprP ts) 1000 (wantP ts (adv st) [⟨#[98, 121]⟩]) else ([], st)
theorem onw_beh {ts : List Tk} (hl : Lst ts) {st : St} (h : st.nx < ts.length) (x : ByteArray) : Onw ts st (behP ts st x).2 := by
  unfold behP
  split
  · rename_i hh
    have h1 := onw_adv hl h (hit_kind hh)
    have h2 := onw_want hl h1.lt [⟨#[98, 121]⟩]
    exact h1.trans (h2.trans (onw_list hl (onw_exprP hl) 1000 _ h2.lt))
  · exact Onw.refl h

theorem ownsRow_low {w : World} {base base' : Nat} {e : TypeId} {size : Nat} {v : Value} {n : Nat} {xs : List Value} (h : w.ownsRow base e size v n xs) (hb : base' ≤ base) : w.ownsRow base' e size v n xs := by
  obtain ⟨h1, h2⟩ := h
  refine ⟨h1, ?_⟩
  rcases h2 with h2 | ⟨g, cap, cur, hv, hg, q⟩
  · exact Or.inl h2
  · exact Or.inr ⟨g, cap, cur, hv, by omega, q⟩

/-- a slice of exprs. -/
def XsOk (w : World) (lo : Nat) (v : Value) (l : List (List Nd)) : Prop := ∃ vs : List Value, w.ownsRow lo 128 1 v l.length vs ∧ vs.length = l.length ∧ ∀ (i : Nat) (x : Value) (k : List Nd), vs[i]? = some x → l[i]? = some k → ExOk w lo x k

set_option maxRecDepth 100000 in
set_option maxHeartbeats 400000 in
theorem behind_any (c : Cx) (w : World) (st : St) (ev : Value) (x : ByteArray) (R : List (List Nd) × St) (h : RS c w st ev) (hd0 : st.dp = 0) (hx : (x.toList == []) = false) (HR : Hid (R = behP c.ts st x)) :
    Calls Tryz.prog 97 #[.pointer (some ⟨c.rb, 0, none⟩), .string x] w fun e w' => ∃ v a len cap, e = .returned v ∧ v = .slice a len cap ∧ Aft c w R.2 w' ∧ (R.2.er = none → XsOk w' w.heap.size v R.1) := by
  have HL := hide h.last
  have HH := hide h
  clear h
  unfold behP at HR
  cases hh : hitP c.ts st [x] with
  | false =>
    have HHIT := hide hh
    clear hh
    go_enter Tryz.func97, Tryz.ntmps97
    go_wp2_with fail
    refine (take_no c _ st ev x (by exact unhide HH) (by exact unhide HHIT)).mono ?_
    rintro e w1 ⟨rfl, hb1⟩
    have HB1 := hide hb1
    clear hb1
    go_wp2
    go_ret
    have hR : R = ([], st) := by rw [unhide HR, unhide HHIT]; rfl
    subst hR
    exact ⟨.slice none 0 0, none, 0, 0, rfl, rfl, Aft.same (unhide HH) (unhide HB1), fun _ => ⟨[], World.ownsRow_nil _ _ _ _, rfl, fun i x k hx => by simp at hx⟩⟩
  | true =>
    have HHIT := hide hh
    clear hh
    go_enter Tryz.func97, Tryz.ntmps97
    go_wp2_with fail
    refine (take_yes c _ st ev x (by exact unhide HH) hx (by exact unhide HHIT)).mono ?_
    rintro e w1 ⟨rfl, ⟨ev1, hs1⟩, hk1⟩
    have HS1 := hide hs1
    have HK1 := hide hk1
    clear hs1 hk1
    go_wp2_with fail
    refine (want_any c _ (adv st) ev1 w1.heap.size [⟨#[98, 121]⟩] (by exact (unhide HS1).alloc _) (by exact texts_new rfl (fun j hj => by match j, hj with | 0, _ => rfl)) (by simp) (nonE_ok (by decide))).mono ?_
    rintro e w2 ⟨rfl, ⟨ev2, hs2⟩, hk2⟩
    have HS2 := hide hs2
    have HK2 := hide (((unhide HK1).alloc _).trans hk2)
    clear hs2 hk2
    have hd2 : (wantP c.ts (adv st) [⟨#[98, 121]⟩]).dp = 0 := ((onw_want (unhide HL) (unhide HS1).nx _).dp).trans hd0
    go_wp2_with fail
    refine (list_expr c _ _ ev2 1000 R (by exact unhide HS2) hd2 (by decide) (by rw [unhide HHIT] at HR; exact HR)).mono ?_
    rintro e w3 ⟨v, vs, rfl, hrow, hlen, hpos, ⟨⟨ev3, hs3⟩, hk3⟩, hex⟩
    obtain ⟨g, cap, hv⟩ := ownsRow_slice hrow hpos
    have HROW := hide hrow
    have HEX := hide hex
    have HS3 := hide hs3
    have HK3 := hide ((unhide HK2).trans hk3)
    subst hv
    clear hrow hex hs3 hk3
    go_wp2
    go_ret
    refine ⟨_, _, _, _, rfl, rfl, ⟨⟨ev3, unhide HS3⟩, unhide HK3⟩, fun he => ⟨vs, ?_, hlen, fun i x k hx hk => (unhide HEX he i x k hx hk).keep (unhide HK2).size (NodeKeep.ofBelow (Below.refl _ _))⟩⟩
    exact ownsRow_low (unhide HROW) (unhide HK2).size
end Go.Proofs.YtjnmkmcopfkdfaaGreatDoor
