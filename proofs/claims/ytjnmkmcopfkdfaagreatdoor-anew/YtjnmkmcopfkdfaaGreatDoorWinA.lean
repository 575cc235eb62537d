/-
  The walk of window.
-/
import Derived.Test.YtjnmkmcopfkdfaaGreatDoorWin
namespace Go.Proofs.YtjnmkmcopfkdfaaGreatDoor
open Go.RowKit

/-- a window: its place, its call, what it is of, parts, order, rows. -/
structure WinA where
  place : Nat
  call : ByteArray
  of : Option (List Nd)
  part : List (List Nd)
  ord : List (List Nd)
  rows : Option Tk

def takesOf (call : ByteArray) : Bool := !(call.toList == [114, 111, 119, 95, 110, 117, 109, 98, 101, 114]) && !(call.toList == [99, 111, 117, 110, 116])
def wOf (ts : List Tk) (st : St) (call : ByteArray) : Option (List Nd) × St := if takesOf call then (some (exprP ts (wantP ts st [⟨#[40]⟩])).1, (exprP ts (wantP ts st [⟨#[40]⟩])).2) else (none, wantP ts st [⟨#[40]⟩])
def wOpen (ts : List Tk) (st : St) : St := wantP ts (wantP ts (wantP ts st [⟨#[41]⟩]) [⟨#[111, 118, 101, 114]⟩]) [⟨#[40]⟩]
def wPart (ts : List Tk) (st : St) : List (List Nd) × St := behP ts st ⟨#[112, 97, 114, 116, 105, 116, 105, 111, 110]⟩
def wOrd (ts : List Tk) (st : St) : List (List Nd) × St := behP ts st ⟨#[111, 114, 100, 101, 114]⟩
def wRows (ts : List Tk) (st : St) : Option Tk × St := if hitP ts st [⟨#[114, 111, 119, 115]⟩] then (some (wkT ts (adv st) 3), wantP ts (wkP ts (adv st) 3) [⟨#[112, 114, 101, 99, 101, 100, 105, 110, 103]⟩]) else (none, st)
def winP (ts : List Tk) (st : St) (p : Nat) (call : ByteArray) : WinA × St :=
  let o := wOf ts st call
  let a := wPart ts (wOpen ts o.2)
  let b := wOrd ts a.2
  let r := wRows ts b.2
  (⟨p, call, o.1, a.1, b.1, r.1⟩, wantP ts r.2 [⟨#[41]⟩])

theorem onw_wOf {ts : List Tk} (hl : Lst ts) {st : St} (h : st.nx < ts.length) (call : ByteArray) : Onw ts st (wOf ts st call).2 := by
  have h1 := onw_want hl h [⟨#[40]⟩]
  unfold wOf
  split
  · exact h1.trans (onw_exprP hl _ h1.lt)
  · exact h1
theorem onw_wOpen {ts : List Tk} (hl : Lst ts) {st : St} (h : st.nx < ts.length) : Onw ts st (wOpen ts st) := by
  have h1 := onw_want hl h [⟨#[41]⟩]
  have h2 := onw_want hl h1.lt [⟨#[111, 118, 101, 114]⟩]
  exact h1.trans (h2.trans (onw_want hl h2.lt _))
theorem onw_wRows {ts : List Tk} (hl : Lst ts) {st : St} (h : st.nx < ts.length) : Onw ts st (wRows ts st).2 := by
  unfold wRows
  split
  · rename_i hh
    have h1 := onw_adv hl h (hit_kind hh)
    have h2 := onw_wk hl h1.lt (k := 3) (by decide)
    exact h1.trans (h2.trans (onw_want hl h2.lt _))
  · exact Onw.refl h
theorem onw_win {ts : List Tk} (hl : Lst ts) {st : St} (h : st.nx < ts.length) (p : Nat) (call : ByteArray) : Onw ts st (winP ts st p call).2 := by
  have h1 := onw_wOf hl h call
  have h2 := onw_wOpen hl h1.lt
  have h3 := onw_beh hl h2.lt ⟨#[112, 97, 114, 116, 105, 116, 105, 111, 110]⟩
  have h4 := onw_beh hl h3.lt ⟨#[111, 114, 100, 101, 114]⟩
  have h5 := onw_wRows hl h4.lt
  exact h1.trans (h2.trans (h3.trans (h4.trans (h5.trans (onw_want hl h5.lt _)))))

/-- the parts of a window as they lie. -/
def OfOk (w : World) (lo : Nat) (v : Value) : Option (List Nd) → Prop
  | none => v = .nilIface
  | some l => ExOk w lo v l
def RowsOk (w : World) (lo : Nat) (v : Value) : Option Tk → Prop
  | none => v = .pointer none
  | some t => ∃ b, v = .pointer (some ⟨b, 0, none⟩) ∧ lo ≤ b ∧ w.heap[b]? = some (.cells #[.int .i64 t.place, .int .i64 t.value, .string t.text] 187 (0, 0))
def WinOk (w : World) (lo : Nat) (v : Value) (x : WinA) : Prop := ∃ b o a d r, v = .pointer (some ⟨b, 0, none⟩) ∧ lo ≤ b ∧ w.heap[b]? = some (.cells #[.int .i64 x.place, .string x.call, o, a, d, r] 184 (0, 0)) ∧ OfOk w lo o x.of ∧ XsOk w lo a x.part ∧ XsOk w lo d x.ord ∧ RowsOk w lo r x.rows

/-- blocks of exprs, of lists of exprs and of windows. -/
def winT (t : TypeId) : Bool := nodeT t || t == 128 || t == 184
def Keeps (S : TypeId → Bool) (lo : Nat) (w w' : World) : Prop := ∀ (k : Nat) (cs : Array Value) (t : TypeId), lo ≤ k → w.heap[k]? = some (.cells cs t (0, 0)) → S t = true → w'.heap[k]? = w.heap[k]?
theorem Keeps.mono {S S' : TypeId → Bool} {lo lo' : Nat} {w w' : World} (h : Keeps S lo w w') (hS : ∀ t, S' t = true → S t = true) (hlo : lo ≤ lo') : Keeps S' lo' w w' := fun k cs t h0 hk ht => h k cs t (Nat.le_trans hlo h0) hk (hS t ht)
theorem Keeps.ofBelow {S : TypeId → Bool} {lo : Nat} {w w' : World} (h : Below w.heap.size w w') : Keeps S lo w w' := fun k _ _ _ hk _ => h.block k (lt_of_heap hk)
theorem Keeps.ofKp {S : TypeId → Bool} {lo r : Nat} {w w' : World} (h : Kp r w w') (hr : r < lo ∨ ∀ (cs : Array Value) (t : TypeId), w.heap[r]? = some (.cells cs t (0, 0)) → S t = false) : Keeps S lo w w' := fun k cs t hlo hk ht =>
  h.block k (lt_of_heap hk) (fun e => by
    subst e
    rcases hr with hr | hr
    · omega
    · rw [hr cs t hk] at ht; cases ht)
theorem Keeps.trans {S : TypeId → Bool} {lo : Nat} {a b c : World} (h : Keeps S lo a b) (k : Keeps S lo b c) : Keeps S lo a c := fun i cs t h0 hi ht => by
  have e := h i cs t h0 hi ht
  exact (k i cs t h0 (e.trans hi) ht).trans e
theorem RS.keeps {c : Cx} {S : TypeId → Bool} {lo : Nat} {w w' : World} {st : St} {ev : Value} (h : RS c w st ev) (hk : Kp c.rb w w') (hS : S 77 = false) : Keeps S lo w w' :=
  Keeps.ofKp hk (Or.inr fun cs t e => by rw [h.reader] at e; cases e; exact hS)
theorem Keeps.node {lo : Nat} {w w' : World} (h : Keeps winT lo w w') : NodeKeep lo w w' := fun k cs t h0 hk ht => h k cs t h0 hk (by unfold winT; rw [ht]; rfl)
theorem winT_expr : winT 128 = true := rfl

theorem ownsRow_keeps {S : TypeId → Bool} {w w' : World} {lo : Nat} {e : TypeId} {size : Nat} {v : Value} {n : Nat} {xs : List Value} (h : w.ownsRow lo e size v n xs) (hk : Keeps S lo w w') (hS : S e = true) : w'.ownsRow lo e size v n xs := by
  obtain ⟨h1, h2⟩ := h
  refine ⟨h1, ?_⟩
  rcases h2 with h2 | ⟨g, cap, cur, hv, hg, hh, q⟩
  · exact Or.inl h2
  · exact Or.inr ⟨g, cap, cur, hv, hg, by rw [hk g _ _ hg hh hS]; exact hh, q⟩
theorem XsOk.keep {w w' : World} {lo lo' : Nat} {v : Value} {l : List (List Nd)} (h : XsOk w lo v l) (hlo : lo' ≤ lo) (hk : Keeps winT lo w w') : XsOk w' lo' v l := by
  obtain ⟨vs, h1, h2, h3⟩ := h
  exact ⟨vs, ownsRow_low (ownsRow_keeps h1 hk rfl) hlo, h2, fun i x k hx hkk => (h3 i x k hx hkk).keep hlo hk.node⟩
theorem OfOk.keep {w w' : World} {lo lo' : Nat} {v : Value} {o : Option (List Nd)} (h : OfOk w lo v o) (hlo : lo' ≤ lo) (hk : Keeps winT lo w w') : OfOk w' lo' v o := by
  match o, h with
  | none, h => exact h
  | some l, h => exact ExOk.keep h hlo hk.node
theorem RowsOk.keep {w w' : World} {lo lo' : Nat} {v : Value} {o : Option Tk} (h : RowsOk w lo v o) (hlo : lo' ≤ lo) (hk : Keeps winT lo w w') : RowsOk w' lo' v o := by
  match o, h with
  | none, h => exact h
  | some t, ⟨b, h1, h2, h3⟩ => exact ⟨b, h1, Nat.le_trans hlo h2, (hk b _ _ h2 h3 rfl).trans h3⟩
theorem WinOk.keep {w w' : World} {lo lo' : Nat} {v : Value} {x : WinA} (h : WinOk w lo v x) (hlo : lo' ≤ lo) (hk : Keeps winT lo w w') : WinOk w' lo' v x := by
  obtain ⟨b, o, a, d, r, h1, h2, h3, h4, h5, h6, h7⟩ := h
  exact ⟨b, o, a, d, r, h1, Nat.le_trans hlo h2, (hk b _ _ h2 h3 rfl).trans h3, h4.keep hlo hk, h5.keep hlo hk, h6.keep hlo hk, h7.keep hlo hk⟩

end Go.Proofs.YtjnmkmcopfkdfaaGreatDoor
