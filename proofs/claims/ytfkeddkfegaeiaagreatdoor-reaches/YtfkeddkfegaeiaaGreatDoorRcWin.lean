/-
  Part 10.
-/
import Derived.Test.YtfkeddkfegaeiaaGreatDoorRcLs
import Derived.Lib.Builder
import Derived.Lib.AppendStr
import Derived.Lib.UnsafeStr
import Derived.Laws.Externs
import Derived.Test.YtfkeddkfegaeiaaGreatDoorRcPure
import Derived.Test.YtfkeddkfegaeiaaGreatDoorRows
import Derived.WalkKit
import Derived.WalkSpells
import Derived.WalkLawsBesides
import Derived.Shelf.Strings.Builder1
namespace Go.Proofs.YtfkeddkfegaeiaaGreatDoor
open Go.RowKit
def behP (ts : List Tk) (st : St) (x : ByteArray) : List (List Nd) × St := if hitP ts st [x] then listP ts (exprP ts) 1000 (wantP ts (adv st) [⟨#[98, 121]⟩]) else ([], st)
theorem onw_beh {ts : List Tk} (hl : Lst ts) {st : St} (h : st.nx < ts.length) (x : ByteArray) : Onw ts st (behP ts st x).2 := by
  unfold behP
  split
  · rename_i hh
    have h1 := onw_adv hl h (hit_kind hh)
    have h2 := onw_want hl h1.lt [⟨#[98, 121]⟩]
    exact h1.trans (h2.trans (onw_list hl (onw_exprP hl) 1000 _ h2.lt))
  · exact Onw.refl h
theorem ownsRow_low {w : World} {base base' : Nat} {e : TypeId} {size : Nat} {v : Value} {n : Nat} {xs : List Value} (h : w.ownsRow base e size v n xs) (hb : base' ≤ base) : w.ownsRow base' e size v n xs := by
  obtain ⟨h1, h2⟩ := h
  refine ⟨h1, ?_⟩
  rcases h2 with h2 | ⟨g, cap, cur, hv, hg, q⟩
  · exact Or.inl h2
  · exact Or.inr ⟨g, cap, cur, hv, by omega, q⟩
/-- a slice of exprs. -/
def XsOk (w : World) (lo : Nat) (v : Value) (l : List (List Nd)) : Prop := ∃ vs : List Value, w.ownsRow lo 248 1 v l.length vs ∧ vs.length = l.length ∧ ∀ (i : Nat) (x : Value) (k : List Nd), vs[i]? = some x → l[i]? = some k → ExOk w lo x k
set_option maxRecDepth 100000 in
set_option maxHeartbeats 400000 in
theorem behind_any (c : Cx) (w : World) (st : St) (ev : Value) (x : ByteArray) (R : List (List Nd) × St) (h : RS c w st ev) (hd0 : st.dp = 0) (hx : (x.toList == []) = false) (HR : Hid (R = behP c.ts st x)) :
    Calls Tryz.prog 272 #[.pointer (some ⟨c.rb, 0, none⟩), .string x] w fun e w' => ∃ v a len cap, e = .returned v ∧ v = .slice a len cap ∧ Aft c w R.2 w' ∧ (R.2.er = none → XsOk w' w.heap.size v R.1) := by
  have HL := hide h.last
  have HH := hide h
  clear h
  unfold behP at HR
  cases hh : hitP c.ts st [x] with
  | false =>
    have HHIT := hide hh
    clear hh
    go_enter Tryz.func272, Tryz.ntmps272
    go_wp2_with fail
    refine (take_no c _ st ev x (by exact unhide HH) (by exact unhide HHIT)).mono ?_
    rintro e w1 ⟨rfl, hb1⟩
    have HB1 := hide hb1
    clear hb1
    go_wp2
    go_ret
    have hR : R = ([], st) := by rw [unhide HR, unhide HHIT]; rfl
    subst hR
    exact ⟨.slice none 0 0, none, 0, 0, rfl, rfl, Aft.same (unhide HH) (unhide HB1), fun _ => ⟨[], World.ownsRow_nil _ _ _ _, rfl, fun i x k hx => by simp at hx⟩⟩
  | true =>
    have HHIT := hide hh
    clear hh
    go_enter Tryz.func272, Tryz.ntmps272
    go_wp2_with fail
    refine (take_yes c _ st ev x (by exact unhide HH) hx (by exact unhide HHIT)).mono ?_
    rintro e w1 ⟨rfl, ⟨ev1, hs1⟩, hk1⟩
    have HS1 := hide hs1
    have HK1 := hide hk1
    clear hs1 hk1
    go_wp2_with fail
    refine (want_any c _ (adv st) ev1 w1.heap.size [⟨#[98, 121]⟩] (by exact (unhide HS1).alloc _) (by exact texts_new rfl (fun j hj => by match j, hj with | 0, _ => rfl)) (by simp) (nonE_ok (by decide))).mono ?_
    rintro e w2 ⟨rfl, ⟨ev2, hs2⟩, hk2⟩
    have HS2 := hide hs2
    have HK2 := hide (((unhide HK1).alloc _).trans hk2)
    clear hs2 hk2
    have hd2 : (wantP c.ts (adv st) [⟨#[98, 121]⟩]).dp = 0 := ((onw_want (unhide HL) (unhide HS1).nx _).dp).trans hd0
    go_wp2_with fail
    refine (list_expr c _ _ ev2 1000 R (by exact unhide HS2) hd2 (by decide) (by rw [unhide HHIT] at HR; exact HR)).mono ?_
    rintro e w3 ⟨v, vs, rfl, hrow, hlen, hpos, ⟨⟨ev3, hs3⟩, hk3⟩, hex⟩
    obtain ⟨g, cap, hv⟩ := ownsRow_slice hrow hpos
    have HROW := hide hrow
    have HEX := hide hex
    have HS3 := hide hs3
    have HK3 := hide ((unhide HK2).trans hk3)
    subst hv
    clear hrow hex hs3 hk3
    go_wp2
    go_ret
    refine ⟨_, _, _, _, rfl, rfl, ⟨⟨ev3, unhide HS3⟩, unhide HK3⟩, fun he => ⟨vs, ?_, hlen, fun i x k hx hk => (unhide HEX he i x k hx hk).keep (unhide HK2).size (NodeKeep.ofBelow (Below.refl _ _))⟩⟩
    exact ownsRow_low (unhide HROW) (unhide HK2).size
end Go.Proofs.YtfkeddkfegaeiaaGreatDoor
namespace Go.Proofs.YtfkeddkfegaeiaaGreatDoor
open Go.RowKit
/-- a window: its place, its call, what it is of, parts, order, rows. -/
structure WinA where
  place : Nat
  call : ByteArray
  of : Option (List Nd)
  part : List (List Nd)
  ord : List (List Nd)
  rows : Option Tk
def takesOf (call : ByteArray) : Bool := !(call.toList == [114, 111, 119, 95, 110, 117, 109, 98, 101, 114]) && !(call.toList == [99, 111, 117, 110, 116])
def wOf (ts : List Tk) (st : St) (call : ByteArray) : Option (List Nd) × St := if takesOf call then (some (exprP ts (wantP ts st [⟨#[40]⟩])).1, (exprP ts (wantP ts st [⟨#[40]⟩])).2) else (none, wantP ts st [⟨#[40]⟩])
def wOpen (ts : List Tk) (st : St) : St := wantP ts (wantP ts (wantP ts st [⟨#[41]⟩]) [⟨#[111, 118, 101, 114]⟩]) [⟨#[40]⟩]
def wPart (ts : List Tk) (st : St) : List (List Nd) × St := behP ts st ⟨#[112, 97, 114, 116, 105, 116, 105, 111, 110]⟩
def wOrd (ts : List Tk) (st : St) : List (List Nd) × St := behP ts st ⟨#[111, 114, 100, 101, 114]⟩
def wRows (ts : List Tk) (st : St) : Option Tk × St := if hitP ts st [⟨#[114, 111, 119, 115]⟩] then (some (wkT ts (adv st) 3), wantP ts (wkP ts (adv st) 3) [⟨#[112, 114, 101, 99, 101, 100, 105, 110, 103]⟩]) else (none, st)
def winP (ts : List Tk) (st : St) (p : Nat) (call : ByteArray) : WinA × St :=
  let o := wOf ts st call
  let a := wPart ts (wOpen ts o.2)
  let b := wOrd ts a.2
  let r := wRows ts b.2
  (⟨p, call, o.1, a.1, b.1, r.1⟩, wantP ts r.2 [⟨#[41]⟩])
theorem onw_wOf {ts : List Tk} (hl : Lst ts) {st : St} (h : st.nx < ts.length) (call : ByteArray) : Onw ts st (wOf ts st call).2 := by
  have h1 := onw_want hl h [⟨#[40]⟩]
  unfold wOf
  split
  · exact h1.trans (onw_exprP hl _ h1.lt)
  · exact h1
theorem onw_wOpen {ts : List Tk} (hl : Lst ts) {st : St} (h : st.nx < ts.length) : Onw ts st (wOpen ts st) := by
  have h1 := onw_want hl h [⟨#[41]⟩]
  have h2 := onw_want hl h1.lt [⟨#[111, 118, 101, 114]⟩]
  exact h1.trans (h2.trans (onw_want hl h2.lt _))
theorem onw_wRows {ts : List Tk} (hl : Lst ts) {st : St} (h : st.nx < ts.length) : Onw ts st (wRows ts st).2 := by
  unfold wRows
  split
  · rename_i hh
    have h1 := onw_adv hl h (hit_kind hh)
    have h2 := onw_wk hl h1.lt (k := 3) (by decide)
    exact h1.trans (h2.trans (onw_want hl h2.lt _))
  · exact Onw.refl h
theorem onw_win {ts : List Tk} (hl : Lst ts) {st : St} (h : st.nx < ts.length) (p : Nat) (call : ByteArray) : Onw ts st (winP ts st p call).2 := by
  have h1 := onw_wOf hl h call
  have h2 := onw_wOpen hl h1.lt
  have h3 := onw_beh hl h2.lt ⟨#[112, 97, 114, 116, 105, 116, 105, 111, 110]⟩
  have h4 := onw_beh hl h3.lt ⟨#[111, 114, 100, 101, 114]⟩
  have h5 := onw_wRows hl h4.lt
  exact h1.trans (h2.trans (h3.trans (h4.trans (h5.trans (onw_want hl h5.lt _)))))
/-- the parts of a window as they lie. -/
def OfOk (w : World) (lo : Nat) (v : Value) : Option (List Nd) → Prop
  | none => v = .nilIface
  | some l => ExOk w lo v l
def RowsOk (w : World) (lo : Nat) (v : Value) : Option Tk → Prop
  | none => v = .pointer none
  | some t => ∃ b, v = .pointer (some ⟨b, 0, none⟩) ∧ lo ≤ b ∧ w.heap[b]? = some (.cells #[.int .i64 t.place, .int .i64 t.value, .string t.text] 391 (0, 0))
def WinOk (w : World) (lo : Nat) (v : Value) (x : WinA) : Prop := ∃ b o a d r, v = .pointer (some ⟨b, 0, none⟩) ∧ lo ≤ b ∧ w.heap[b]? = some (.cells #[.int .i64 x.place, .string x.call, o, a, d, r] 388 (0, 0)) ∧ OfOk w lo o x.of ∧ XsOk w lo a x.part ∧ XsOk w lo d x.ord ∧ RowsOk w lo r x.rows
/-- blocks of exprs, of lists of exprs and of windows. -/
def winT (t : TypeId) : Bool := nodeT t || t == 248 || t == 388
def Keeps (S : TypeId → Bool) (lo : Nat) (w w' : World) : Prop := ∀ (k : Nat) (cs : Array Value) (t : TypeId), lo ≤ k → w.heap[k]? = some (.cells cs t (0, 0)) → S t = true → w'.heap[k]? = w.heap[k]?
theorem Keeps.mono {S S' : TypeId → Bool} {lo lo' : Nat} {w w' : World} (h : Keeps S lo w w') (hS : ∀ t, S' t = true → S t = true) (hlo : lo ≤ lo') : Keeps S' lo' w w' := fun k cs t h0 hk ht => h k cs t (Nat.le_trans hlo h0) hk (hS t ht)
theorem Keeps.ofBelow {S : TypeId → Bool} {lo : Nat} {w w' : World} (h : Below w.heap.size w w') : Keeps S lo w w' := fun k _ _ _ hk _ => h.block k (lt_of_heap hk)
theorem Keeps.ofKp {S : TypeId → Bool} {lo r : Nat} {w w' : World} (h : Kp r w w') (hr : r < lo ∨ ∀ (cs : Array Value) (t : TypeId), w.heap[r]? = some (.cells cs t (0, 0)) → S t = false) : Keeps S lo w w' := fun k cs t hlo hk ht =>
  h.block k (lt_of_heap hk) (fun e => by
    subst e
    rcases hr with hr | hr
    · omega
    · rw [hr cs t hk] at ht; cases ht)
theorem Keeps.trans {S : TypeId → Bool} {lo : Nat} {a b c : World} (h : Keeps S lo a b) (k : Keeps S lo b c) : Keeps S lo a c := fun i cs t h0 hi ht => by
  have e := h i cs t h0 hi ht
  exact (k i cs t h0 (e.trans hi) ht).trans e
theorem RS.keeps {c : Cx} {S : TypeId → Bool} {lo : Nat} {w w' : World} {st : St} {ev : Value} (h : RS c w st ev) (hk : Kp c.rb w w') (hS : S 167 = false) : Keeps S lo w w' :=
  Keeps.ofKp hk (Or.inr fun cs t e => by rw [h.reader] at e; cases e; exact hS)
theorem Keeps.node {lo : Nat} {w w' : World} (h : Keeps winT lo w w') : NodeKeep lo w w' := fun k cs t h0 hk ht => h k cs t h0 hk (by unfold winT; rw [ht]; rfl)
theorem ownsRow_keeps {S : TypeId → Bool} {w w' : World} {lo : Nat} {e : TypeId} {size : Nat} {v : Value} {n : Nat} {xs : List Value} (h : w.ownsRow lo e size v n xs) (hk : Keeps S lo w w') (hS : S e = true) : w'.ownsRow lo e size v n xs := by
  obtain ⟨h1, h2⟩ := h
  refine ⟨h1, ?_⟩
  rcases h2 with h2 | ⟨g, cap, cur, hv, hg, hh, q⟩
  · exact Or.inl h2
  · exact Or.inr ⟨g, cap, cur, hv, hg, by rw [hk g _ _ hg hh hS]; exact hh, q⟩
theorem XsOk.keep {w w' : World} {lo lo' : Nat} {v : Value} {l : List (List Nd)} (h : XsOk w lo v l) (hlo : lo' ≤ lo) (hk : Keeps winT lo w w') : XsOk w' lo' v l := by
  obtain ⟨vs, h1, h2, h3⟩ := h
  exact ⟨vs, ownsRow_low (ownsRow_keeps h1 hk rfl) hlo, h2, fun i x k hx hkk => (h3 i x k hx hkk).keep hlo hk.node⟩
theorem OfOk.keep {w w' : World} {lo lo' : Nat} {v : Value} {o : Option (List Nd)} (h : OfOk w lo v o) (hlo : lo' ≤ lo) (hk : Keeps winT lo w w') : OfOk w' lo' v o := by
  match o, h with
  | none, h => exact h
  | some l, h => exact ExOk.keep h hlo hk.node
theorem RowsOk.keep {w w' : World} {lo lo' : Nat} {v : Value} {o : Option Tk} (h : RowsOk w lo v o) (hlo : lo' ≤ lo) (hk : Keeps winT lo w w') : RowsOk w' lo' v o := by
  match o, h with
  | none, h => exact h
  | some t, ⟨b, h1, h2, h3⟩ => exact ⟨b, h1, Nat.le_trans hlo h2, (hk b _ _ h2 h3 rfl).trans h3⟩
theorem WinOk.keep {w w' : World} {lo lo' : Nat} {v : Value} {x : WinA} (h : WinOk w lo v x) (hlo : lo' ≤ lo) (hk : Keeps winT lo w w') : WinOk w' lo' v x := by
  obtain ⟨b, o, a, d, r, h1, h2, h3, h4, h5, h6, h7⟩ := h
  exact ⟨b, o, a, d, r, h1, Nat.le_trans hlo h2, (hk b _ _ h2 h3 rfl).trans h3, h4.keep hlo hk, h5.keep hlo hk, h6.keep hlo hk, h7.keep hlo hk⟩
end Go.Proofs.YtfkeddkfegaeiaaGreatDoor
namespace Go.Proofs.YtfkeddkfegaeiaaGreatDoor
open Go.RowKit
/-- what the telling leaves: all but rows of bytes and the teller itself. -/
def tkT (t : TypeId) : Bool := !(t == 5) && !(t == 93)
structure TSt (tl : Nat) (w w' : World) : Prop where
  below : Below tl w w'
  keep : Keeps tkT 0 w w'
theorem TSt.refl (tl : Nat) (w : World) : TSt tl w w := ⟨Below.refl _ _, fun _ _ _ _ _ _ => rfl⟩
theorem TSt.trans {tl : Nat} {a b c : World} (h : TSt tl a b) (k : TSt tl b c) : TSt tl a c := ⟨h.below.trans k.below, h.keep.trans k.keep⟩
theorem TSt.alloc {tl : Nat} {a w : World} (h : TSt tl a w) (hl : tl ≤ w.heap.size) (o : Obj) : TSt tl a (w.alloc o) := h.trans ⟨(Below.refl _ _).alloc hl _, Keeps.ofBelow ((Below.refl _ _).alloc (Nat.le_refl _) _)⟩
theorem TSt.drew {tl : Nat} {a w : World} (h : TSt tl a w) : TSt tl a w.drew := h.trans ⟨(Below.refl _ _).drew, fun _ _ _ _ _ _ => rfl⟩
theorem TSt.new {tl : Nat} {w w' : World} (h : Below w.heap.size w w') (hl : tl ≤ w.heap.size) : TSt tl w w' := ⟨h.mono hl, Keeps.ofBelow h⟩
theorem TSt.kp {tl : Nat} {w w' : World} {cs : Array Value} (hb : w.heap[tl]? = some (.cells cs 93 (0, 0))) (h : Kp tl w w') : TSt tl w w' :=
  ⟨h.below (Nat.le_refl _) (Nat.le_of_lt (lt_of_heap hb)), Keeps.ofKp h (Or.inr fun cs t e => by rw [hb] at e; cases e; rfl)⟩
theorem TSt.grown {tl : Nat} {w w' : World} {v : Value} {n : Nat} {xs : List Value} (hrow : w.ownsRow (tl + 1) 5 1 v n xs) (hg : w.grownBy w' v.ownBlock) (hl : tl ≤ w.heap.size) : TSt tl w w' := by
  refine ⟨(Below.refl tl w).grown hg hl (fun k hk => by have := (hrow.lt k hk).1; omega), fun k cs t _ hk ht => ?_⟩
  refine hg.block k (lt_of_heap hk) (fun e => ?_)
  rcases hrow.2 with ⟨hv, _⟩ | ⟨g, cap, cur, hv, hg1, hg2, _⟩
  · subst hv; cases e
  · subst hv
    simp only [Value.ownBlock, Option.some.injEq] at e
    subst e
    rw [hg2] at hk; cases hk; cases ht
/-- the teller: what it has told, and whether it is tight. -/
def TL (tl : Nat) (W : World) (o : List UInt8) (g : Bool) : Prop := ∃ p v, (p = .pointer none ∨ p = .pointer (some ⟨tl, 0, none⟩)) ∧ W.heap[tl]? = some (.cells #[p, v, .bool g] 93 (0, 0)) ∧ W.ownsRow (tl + 1) 5 1 v o.length (Lib.byteCells o)
/-- the buffer's row where only the teller's own block turned. -/
theorem row_kp {tl : Nat} {w w' : World} {v : Value} {n : Nat} {xs : List Value} (h : w.ownsRow (tl + 1) 5 1 v n xs) (hk : Kp tl w w') : w'.ownsRow (tl + 1) 5 1 v n xs := ownsRow_kp h hk (Nat.lt_succ_self _)
/-- a new buffer laid into the teller. -/
theorem TL.put {tl : Nat} {w : World} {v v' : Value} {o : List UInt8} {g : Bool} (hb : w.heap[tl]? = some (.cells #[.pointer (some ⟨tl, 0, none⟩), v, .bool g] 93 (0, 0))) (ho : w.ownsRow (tl + 1) 5 1 v' o.length (Lib.byteCells o)) :
    TL tl (w.setCell ⟨tl, 1, none⟩ v') o g :=
  ⟨_, v', Or.inr rfl, (heap_set hb v').trans rfl, row_kp ho ((Kp.refl _ _).setCell _ _)⟩
end Go.Proofs.YtfkeddkfegaeiaaGreatDoor
namespace Go.Proofs.YtfkeddkfegaeiaaGreatDoor
open Go.RowKit
/-- a token as it is told: its text; is it a minus of one factor? -/
abbrev TT := ByteArray × Bool
def tightA (s : ByteArray) : Bool := s.toList == [41] || s.toList == [44] || s.toList == [46]
def tightB (s : ByteArray) : Bool := s.toList == [40] || s.toList == [46] || s.toList == [114, 111, 119, 95, 110, 117, 109, 98, 101, 114] || s.toList == [99, 111, 117, 110, 116] || s.toList == [115, 117, 109] || s.toList == [109, 105, 110] || s.toList == [109, 97, 120]
abbrev Out := List UInt8 × Bool
def gapped (o : Out) (s : ByteArray) : Bool := decide (0 < o.1.length) && !o.2 && !tightA s
def lay (o : Out) (t : TT) : Out := (o.1 ++ (if gapped o t.1 then [32] else []) ++ t.1.data.toList, t.2 || tightB t.1)
def layAll (o : Out) (l : List TT) : Out := l.foldl lay o
def cost (l : List TT) : Nat := (l.map fun t => t.1.size + 1).sum
def tx (s : ByteArray) : TT := (s, false)
theorem layAll_cons (o : Out) (t : TT) (l : List TT) : layAll o (t :: l) = layAll (lay o t) l := rfl
theorem cost_append (l m : List TT) : cost (l ++ m) = cost l + cost m := by simp [cost]
theorem cost_cons (t : TT) (l : List TT) : cost (t :: l) = t.1.size + 1 + cost l := by simp [cost]
theorem lay_len (o : Out) (t : TT) : (lay o t).1.length ≤ o.1.length + (t.1.size + 1) := by
  unfold lay
  split
  · simp
  · simp
theorem layAll_len (o : Out) : ∀ l : List TT, (layAll o l).1.length ≤ o.1.length + cost l := by
  intro l
  induction l generalizing o with
  | nil => simp [layAll, cost]
  | cons t l ih =>
    rw [layAll_cons, cost_cons]
    have := ih (lay o t)
    have := lay_len o t
    omega
end Go.Proofs.YtfkeddkfegaeiaaGreatDoor
namespace Go.Proofs.YtfkeddkfegaeiaaGreatDoor
open Go.RowKit
theorem TL.ts {tl : Nat} {W : World} {o : List UInt8} {g : Bool} (h : TL tl W o g) : tl < W.heap.size := let ⟨_, _, _, hb, _⟩ := h; lt_of_heap hb
end Go.Proofs.YtfkeddkfegaeiaaGreatDoor
namespace Go.Proofs.YtfkeddkfegaeiaaGreatDoor
open Go.RowKit
/-- the tokens of an expr, off its nodes (from the right: a pile of what is told). -/
def tkStep (n : Nd) (S : List (List TT)) : List (List TT) := match n.tag with
  | 0 => [tx n.s1] :: S
  | 1 => match S with
    | a :: S' => ((⟨#[45]⟩, true) :: a) :: S'
    | [] => []
  | 2 => [tx n.s1, tx ⟨#[46]⟩, tx n.s2] :: S
  | 3 => match S with
    | a :: S' => (tx ⟨#[40]⟩ :: (a ++ [tx ⟨#[41]⟩])) :: S'
    | [] => []
  | _ => match S with
    | a :: b :: S' => (a ++ tx n.s1 :: b) :: S'
    | _ => []
def tkS (l : List Nd) (S : List (List TT)) : List (List TT) := l.foldr tkStep S
def tkE (l : List Nd) : List TT := (tkS l []).headD []
def WfE (l : List Nd) : Prop := ∀ S, tkS l S = tkE l :: S
theorem tkS_append (k m : List Nd) (S : List (List TT)) : tkS (k ++ m) S = tkS k (tkS m S) := List.foldr_append
theorem wf_of {l : List Nd} {t : List TT} (h : ∀ S, tkS l S = t :: S) : WfE l ∧ tkE l = t := by
  have e : tkE l = t := by unfold tkE; rw [h]; rfl
  exact ⟨fun S => by rw [h, e], e⟩
theorem wf_num (t : Tk) : WfE [ndNum t] ∧ tkE [ndNum t] = [tx t.text] := wf_of fun _ => rfl
theorem wf_col (t u : Tk) : WfE [ndCol t u] ∧ tkE [ndCol t u] = [tx t.text, tx ⟨#[46]⟩, tx u.text] := wf_of fun _ => rfl
theorem wf_minus {k : List Nd} (h : WfE k) (p : Nat) : WfE (ndMinus p :: k) ∧ tkE (ndMinus p :: k) = (⟨#[45]⟩, true) :: tkE k := wf_of fun S => by
  show tkStep (ndMinus p) (tkS k S) = _
  rw [h S]; rfl
theorem wf_br {k : List Nd} (h : WfE k) (p : Nat) : WfE (ndBr p :: k) ∧ tkE (ndBr p :: k) = tx ⟨#[40]⟩ :: (tkE k ++ [tx ⟨#[41]⟩]) := wf_of fun S => by
  show tkStep (ndBr p) (tkS k S) = _
  rw [h S]; rfl
theorem wf_pair {k m : List Nd} (h : WfE k) (h' : WfE m) (p : Nat) (sg : ByteArray) : WfE (ndPair p sg :: (k ++ m)) ∧ tkE (ndPair p sg :: (k ++ m)) = tkE k ++ tx sg :: tkE m := wf_of fun S => by
  show tkStep (ndPair p sg) (tkS (k ++ m) S) = _
  rw [tkS_append, h' S, h]; rfl
theorem ExP.wf {w : World} {P : Nat → Prop} : ∀ (n : Nat) (v : Value) (l : List Nd), ExP w P n v l → WfE l
  | 0, _, _, h => h.elim
  | n + 1, v, l, h => by
    rcases h with ⟨b, t, _, _, _, rfl⟩ | ⟨b, p, x, k, _, _, _, h3, rfl⟩ | ⟨b, t, u, _, _, _, rfl⟩ | ⟨b, p, x, k, _, _, _, h3, rfl⟩ | ⟨b, p, x, sg, y, k, m, _, _, _, h3, h4, rfl⟩
    · exact (wf_num t).1
    · exact (wf_minus (ExP.wf n x k h3) p).1
    · exact (wf_col t u).1
    · exact (wf_br (ExP.wf n x k h3) p).1
    · exact (wf_pair (ExP.wf n x k h3) (ExP.wf n y m h4) p sg).1
def Told (tl : Nat) (w : World) (o : Out) (l : List TT) (e : Ending) (w' : World) : Prop := e = .returned (.tuple #[]) ∧ TL tl w' (layAll o l).1 (layAll o l).2 ∧ TSt tl w w'
def big : Nat := 1099511627776
theorem TL.alloc {tl : Nat} {w : World} {o : List UInt8} {g : Bool} (h : TL tl w o g) (x : Obj) : TL tl (w.alloc x) o g := by
  obtain ⟨p, v, hp, hb, ho⟩ := h
  exact ⟨p, v, hp, heap_prev hb, ho.alloc x⟩
theorem TL.drew {tl : Nat} {w : World} {o : List UInt8} {g : Bool} (h : TL tl w o g) : TL tl w.drew o g := h
theorem Told.len {tl : Nat} {w w1 : World} {o : Out} {l m : List TT} {e : Ending} (_ : Told tl w o l e w1) (hl : o.1.length + cost (l ++ m) ≤ big) : (layAll o l).1.length + cost m ≤ big := by
  have := layAll_len o l
  rw [cost_append] at hl
  omega
theorem TSt.nodes {tl lo : Nat} {w w' : World} (h : TSt tl w w') : NodeKeep lo w w' := fun k cs t _ hk ht => h.keep k cs t (Nat.zero_le _) hk (by
  unfold tkT
  cases h1 : (t == 5) with
  | true => rw [beq_iff_eq.1 h1] at ht; cases ht
  | false =>
    cases h2 : (t == 93) with
    | true => rw [beq_iff_eq.1 h2] at ht; cases ht
    | false => rfl)
theorem ExP.ts {tl : Nat} {w w' : World} {P : Nat → Prop} {n : Nat} {v : Value} {l : List Nd} (h : ExP w P n v l) (ht : TSt tl w w') : ExP w' P n v l := ExP.keep (fun _ h => h) (fun k cs t _ hk hn => ht.nodes (lo := 0) k cs t (Nat.zero_le _) hk hn) n v l h
theorem no_Minus_Number (a : Option Addr) (w : World) : Sem.run Tryz.prog (Instr.typeAssert (.iface 392 (.pointer a)) 248 386 true) w = .ok (.tuple #[.pointer none, .bool false]) w := by kernel_rfl
theorem no_Column_Number (a : Option Addr) (w : World) : Sem.run Tryz.prog (Instr.typeAssert (.iface 395 (.pointer a)) 248 386 true) w = .ok (.tuple #[.pointer none, .bool false]) w := by kernel_rfl
theorem no_Column_Minus (a : Option Addr) (w : World) : Sem.run Tryz.prog (Instr.typeAssert (.iface 395 (.pointer a)) 248 392 true) w = .ok (.tuple #[.pointer none, .bool false]) w := by kernel_rfl
theorem no_Bracket_Number (a : Option Addr) (w : World) : Sem.run Tryz.prog (Instr.typeAssert (.iface 398 (.pointer a)) 248 386 true) w = .ok (.tuple #[.pointer none, .bool false]) w := by kernel_rfl
theorem no_Bracket_Minus (a : Option Addr) (w : World) : Sem.run Tryz.prog (Instr.typeAssert (.iface 398 (.pointer a)) 248 392 true) w = .ok (.tuple #[.pointer none, .bool false]) w := by kernel_rfl
theorem no_Bracket_Column (a : Option Addr) (w : World) : Sem.run Tryz.prog (Instr.typeAssert (.iface 398 (.pointer a)) 248 395 true) w = .ok (.tuple #[.pointer none, .bool false]) w := by kernel_rfl
theorem no_Pair_Number (a : Option Addr) (w : World) : Sem.run Tryz.prog (Instr.typeAssert (.iface 265 (.pointer a)) 248 386 true) w = .ok (.tuple #[.pointer none, .bool false]) w := by kernel_rfl
theorem no_Pair_Minus (a : Option Addr) (w : World) : Sem.run Tryz.prog (Instr.typeAssert (.iface 265 (.pointer a)) 248 392 true) w = .ok (.tuple #[.pointer none, .bool false]) w := by kernel_rfl
theorem no_Pair_Column (a : Option Addr) (w : World) : Sem.run Tryz.prog (Instr.typeAssert (.iface 265 (.pointer a)) 248 395 true) w = .ok (.tuple #[.pointer none, .bool false]) w := by kernel_rfl
theorem no_Pair_Bracket (a : Option Addr) (w : World) : Sem.run Tryz.prog (Instr.typeAssert (.iface 265 (.pointer a)) 248 398 true) w = .ok (.tuple #[.pointer none, .bool false]) w := by kernel_rfl
theorem yes_Number (a : Option Addr) (w : World) : Sem.run Tryz.prog (Instr.typeAssert (.iface 386 (.pointer a)) 248 386 true) w = .ok (.tuple #[.pointer a, .bool true]) w := by kernel_rfl
theorem yes_Minus (a : Option Addr) (w : World) : Sem.run Tryz.prog (Instr.typeAssert (.iface 392 (.pointer a)) 248 392 true) w = .ok (.tuple #[.pointer a, .bool true]) w := by kernel_rfl
theorem yes_Column (a : Option Addr) (w : World) : Sem.run Tryz.prog (Instr.typeAssert (.iface 395 (.pointer a)) 248 395 true) w = .ok (.tuple #[.pointer a, .bool true]) w := by kernel_rfl
theorem yes_Bracket (a : Option Addr) (w : World) : Sem.run Tryz.prog (Instr.typeAssert (.iface 398 (.pointer a)) 248 398 true) w = .ok (.tuple #[.pointer a, .bool true]) w := by kernel_rfl
theorem yes_Pair (a : Option Addr) (w : World) : Sem.run Tryz.prog (Instr.typeAssert (.iface 265 (.pointer a)) 248 265 true) w = .ok (.tuple #[.pointer a, .bool true]) w := by kernel_rfl
end Go.Proofs.YtfkeddkfegaeiaaGreatDoor
