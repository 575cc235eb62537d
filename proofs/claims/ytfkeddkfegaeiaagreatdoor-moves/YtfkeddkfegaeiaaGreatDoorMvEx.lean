/-
  Part 7.
-/
import Derived.Test.YtfkeddkfegaeiaaGreatDoorMvRdB
import Derived.Deep.LoopGhost
namespace Go.Proofs.YtfkeddkfegaeiaaGreatDoor
open Go.RowKit
/-- a node: 0 a number, 1 a minus, 2 a column, 3 a bracket, 4 a pair; its place; texts and places of its own; a number's value. -/
structure Nd where
  tag : Nat
  place : Nat
  s1 : ByteArray
  s2 : ByteArray
  p1 : Nat
  p2 : Nat
  v : Int
def ndNum (t : Tk) : Nd := ⟨0, t.place, t.text, ⟨#[]⟩, 0, 0, t.value⟩
def ndMinus (p : Nat) : Nd := ⟨1, p, ⟨#[]⟩, ⟨#[]⟩, 0, 0, 0⟩
def ndCol (t u : Tk) : Nd := ⟨2, t.place, t.text, u.text, t.place, u.place, 0⟩
def ndBr (p : Nat) : Nd := ⟨3, p, ⟨#[]⟩, ⟨#[]⟩, 0, 0, 0⟩
def ndPair (p : Nat) (sg : ByteArray) : Nd := ⟨4, p, sg, ⟨#[]⟩, 0, 0, 0⟩
/-- the types of the nodes' blocks. -/
def nodeT (t : TypeId) : Bool := t == 391 || t == 394 || t == 397 || t == 399 || t == 263
/-- value v is the expr whose nodes are l (so deep at most), each in a block of which P holds. -/
def ExP (w : World) (P : Nat → Prop) : Nat → Value → List Nd → Prop
  | 0, _, _ => False
  | n + 1, v, l =>
    (∃ b t, v = .iface 386 (.pointer (some ⟨b, 0, none⟩)) ∧ P b ∧ w.heap[b]? = some (.cells #[.int .i64 t.place, .int .i64 t.value, .string t.text] 391 (0, 0)) ∧ l = [ndNum t]) ∨
    (∃ b p x k, v = .iface 392 (.pointer (some ⟨b, 0, none⟩)) ∧ P b ∧ w.heap[b]? = some (.cells #[.int .i64 (p : Nat), x] 394 (0, 0)) ∧ ExP w P n x k ∧ l = ndMinus p :: k) ∨
    (∃ b t u, v = .iface 395 (.pointer (some ⟨b, 0, none⟩)) ∧ P b ∧ w.heap[b]? = some (.cells #[.int .i64 (t : Tk).place, .int .i64 t.place, .string t.text, .int .i64 (u : Tk).place, .string u.text] 397 (0, 0)) ∧ l = [ndCol t u]) ∨
    (∃ b p x k, v = .iface 398 (.pointer (some ⟨b, 0, none⟩)) ∧ P b ∧ w.heap[b]? = some (.cells #[.int .i64 (p : Nat), x] 399 (0, 0)) ∧ ExP w P n x k ∧ l = ndBr p :: k) ∨
    (∃ b p x sg y k m, v = .iface 265 (.pointer (some ⟨b, 0, none⟩)) ∧ P b ∧ w.heap[b]? = some (.cells #[.int .i64 (p : Nat), x, .string sg, y] 263 (0, 0)) ∧ ExP w P n x k ∧ ExP w P n y m ∧ l = ndPair p sg :: (k ++ m))
/-- .. in blocks from lo on. -/
abbrev ExAt (w : World) (lo : Nat) (n : Nat) (v : Value) (l : List Nd) : Prop := ExP w (fun k => lo ≤ k) n v l
/-- every node's block from lo on is as it was. -/
def NodeKeep (lo : Nat) (w w' : World) : Prop := ∀ (k : Nat) (cs : Array Value) (t : TypeId), lo ≤ k → w.heap[k]? = some (.cells cs t (0, 0)) → nodeT t = true → w'.heap[k]? = w.heap[k]?
theorem NodeKeep.ofKp {lo r : Nat} {w w' : World} (h : Kp r w w') (hr : r < lo ∨ ∀ (cs : Array Value) (t : TypeId), w.heap[r]? = some (.cells cs t (0, 0)) → nodeT t = false) : NodeKeep lo w w' := fun k cs t hlo hk ht =>
  h.block k (lt_of_heap hk) (fun e => by
    subst e
    rcases hr with hr | hr
    · omega
    · rw [hr cs t hk] at ht; cases ht)
theorem NodeKeep.ofBelow {lo : Nat} {w w' : World} (h : Below w.heap.size w w') : NodeKeep lo w w' := fun k _ _ _ hk _ => h.block k (lt_of_heap hk)
theorem NodeKeep.trans {lo : Nat} {a b c : World} (h : NodeKeep lo a b) (k : NodeKeep lo b c) : NodeKeep lo a c := fun i cs t h0 hi ht => by
  have e := h i cs t h0 hi ht
  exact (k i cs t h0 (e.trans hi) ht).trans e
theorem RS.nodes {c : Cx} {lo : Nat} {w w' : World} {st : St} {ev : Value} (h : RS c w st ev) (hk : Kp c.rb w w') : NodeKeep lo w w' :=
  NodeKeep.ofKp hk (Or.inr fun cs t e => by rw [h.reader] at e; cases e; rfl)
theorem ExP.keep {w w' : World} {P P' : Nat → Prop} (hP : ∀ k, P k → P' k) (hk : ∀ (k : Nat) (cs : Array Value) (t : TypeId), P k → w.heap[k]? = some (.cells cs t (0, 0)) → nodeT t = true → w'.heap[k]? = w.heap[k]?) : ∀ (n : Nat) (v : Value) (l : List Nd), ExP w P n v l → ExP w' P' n v l
  | 0, _, _, h => h
  | n + 1, v, l, h => by
    rcases h with ⟨b, t, h1, h0, h2, h3⟩ | ⟨b, p, x, k, h1, h0, h2, h3, h4⟩ | ⟨b, t, u, h1, h0, h2, h3⟩ | ⟨b, p, x, k, h1, h0, h2, h3, h4⟩ | ⟨b, p, x, sg, y, k, m, h1, h0, h2, h3, h4, h5⟩
    · exact Or.inl ⟨b, t, h1, hP _ h0, (hk _ _ _ h0 h2 rfl).trans h2, h3⟩
    · exact Or.inr (Or.inl ⟨b, p, x, k, h1, hP _ h0, (hk _ _ _ h0 h2 rfl).trans h2, ExP.keep hP hk n x k h3, h4⟩)
    · exact Or.inr (Or.inr (Or.inl ⟨b, t, u, h1, hP _ h0, (hk _ _ _ h0 h2 rfl).trans h2, h3⟩))
    · exact Or.inr (Or.inr (Or.inr (Or.inl ⟨b, p, x, k, h1, hP _ h0, (hk _ _ _ h0 h2 rfl).trans h2, ExP.keep hP hk n x k h3, h4⟩)))
    · exact Or.inr (Or.inr (Or.inr (Or.inr ⟨b, p, x, sg, y, k, m, h1, hP _ h0, (hk _ _ _ h0 h2 rfl).trans h2, ExP.keep hP hk n x k h3, ExP.keep hP hk n y m h4, h5⟩)))
theorem ExAt.keep {w w' : World} {lo lo' : Nat} (hlo : lo' ≤ lo) (hk : NodeKeep lo w w') (n : Nat) (v : Value) (l : List Nd) (h : ExAt w lo n v l) : ExAt w' lo' n v l := ExP.keep (fun _ h0 => Nat.le_trans hlo h0) hk n v l h
theorem ExP.up {w : World} {P : Nat → Prop} : ∀ (n m : Nat) (v : Value) (l : List Nd), n ≤ m → ExP w P n v l → ExP w P m v l
  | 0, _, _, _, _, h => h.elim
  | n + 1, m, v, l, hm, h => by
    obtain ⟨m, rfl⟩ : ∃ q, m = q + 1 := ⟨m - 1, by omega⟩
    have hn : n ≤ m := by omega
    rcases h with h | ⟨b, p, x, k, h1, h0, h2, h3, h4⟩ | h | ⟨b, p, x, k, h1, h0, h2, h3, h4⟩ | ⟨b, p, x, sg, y, k, q, h1, h0, h2, h3, h4, h5⟩
    · exact Or.inl h
    · exact Or.inr (Or.inl ⟨b, p, x, k, h1, h0, h2, ExP.up n m x k hn h3, h4⟩)
    · exact Or.inr (Or.inr (Or.inl h))
    · exact Or.inr (Or.inr (Or.inr (Or.inl ⟨b, p, x, k, h1, h0, h2, ExP.up n m x k hn h3, h4⟩)))
    · exact Or.inr (Or.inr (Or.inr (Or.inr ⟨b, p, x, sg, y, k, q, h1, h0, h2, ExP.up n m x k hn h3, ExP.up n m y q hn h4, h5⟩)))
def ExOk (w : World) (lo : Nat) (v : Value) (l : List Nd) : Prop := ∃ n, ExAt w lo n v l
theorem ExOk.keep {w w' : World} {lo lo' : Nat} {v : Value} {l : List Nd} (h : ExOk w lo v l) (hlo : lo' ≤ lo) (hk : NodeKeep lo w w') : ExOk w' lo' v l := let ⟨n, hn⟩ := h; ⟨n, ExAt.keep hlo hk n v l hn⟩
theorem ExOk.pair {w : World} {lo b p : Nat} {x y : Value} {sg : ByteArray} {k m : List Nd} (h0 : lo ≤ b) (hb : w.heap[b]? = some (.cells #[.int .i64 p, x, .string sg, y] 263 (0, 0))) (hx : ExOk w lo x k) (hy : ExOk w lo y m) : ExOk w lo (.iface 265 (.pointer (some ⟨b, 0, none⟩))) (ndPair p sg :: (k ++ m)) := by
  obtain ⟨n1, h1⟩ := hx
  obtain ⟨n2, h2⟩ := hy
  exact ⟨max n1 n2 + 1, Or.inr (Or.inr (Or.inr (Or.inr ⟨b, p, x, sg, y, k, m, rfl, h0, hb, ExP.up _ _ _ _ (by omega) h1, ExP.up _ _ _ _ (by omega) h2, rfl⟩)))⟩
/-- an expr, wherever its nodes lie, but only where P holds. -/
def ExIn (w : World) (P : Nat → Prop) (v : Value) (l : List Nd) : Prop := ∃ n, ExP w P n v l
theorem ExIn.keep {w w' : World} {P P' : Nat → Prop} {v : Value} {l : List Nd} (h : ExIn w P v l) (hP : ∀ k, P k → P' k) (hk : ∀ (k : Nat) (cs : Array Value) (t : TypeId), P k → w.heap[k]? = some (.cells cs t (0, 0)) → nodeT t = true → w'.heap[k]? = w.heap[k]?) : ExIn w' P' v l := let ⟨n, hn⟩ := h; ⟨n, ExP.keep hP hk n v l hn⟩
/-- the nodes of an expr lie below the heap's end. -/
theorem ExP.bound {w : World} {P : Nat → Prop} : ∀ (n : Nat) (v : Value) (l : List Nd), ExP w P n v l → ExP w (fun k => P k ∧ k < w.heap.size) n v l
  | 0, _, _, h => h
  | n + 1, v, l, h => by
    rcases h with ⟨b, t, h1, h0, h2, h3⟩ | ⟨b, p, x, k, h1, h0, h2, h3, h4⟩ | ⟨b, t, u, h1, h0, h2, h3⟩ | ⟨b, p, x, k, h1, h0, h2, h3, h4⟩ | ⟨b, p, x, sg, y, k, m, h1, h0, h2, h3, h4, h5⟩
    · exact Or.inl ⟨b, t, h1, ⟨h0, lt_of_heap h2⟩, h2, h3⟩
    · exact Or.inr (Or.inl ⟨b, p, x, k, h1, ⟨h0, lt_of_heap h2⟩, h2, ExP.bound n x k h3, h4⟩)
    · exact Or.inr (Or.inr (Or.inl ⟨b, t, u, h1, ⟨h0, lt_of_heap h2⟩, h2, h3⟩))
    · exact Or.inr (Or.inr (Or.inr (Or.inl ⟨b, p, x, k, h1, ⟨h0, lt_of_heap h2⟩, h2, ExP.bound n x k h3, h4⟩)))
    · exact Or.inr (Or.inr (Or.inr (Or.inr ⟨b, p, x, sg, y, k, m, h1, ⟨h0, lt_of_heap h2⟩, h2, ExP.bound n x k h3, ExP.bound n y m h4, h5⟩)))
theorem ExOk.bound {w : World} {lo : Nat} {v : Value} {l : List Nd} (h : ExOk w lo v l) : ExIn w (fun k => lo ≤ k ∧ k < w.heap.size) v l := let ⟨n, hn⟩ := h; ⟨n, ExP.bound n v l hn⟩
/-- what an expr's value can be: nothing, or a pointer of some type. -/
def IsI (v : Value) : Prop := v = .nilIface ∨ ∃ u x, v = .iface u x
abbrev Rx := List Nd × St
def chainLoop (ts : List Tk) (one : St → Rx) (xs : List ByteArray) (pl : Nat) : Nat → List Nd → St → Rx
  | 0, l, st => (l, st)
  | f + 1, l, st => if hitP ts st xs then chainLoop ts one xs pl f (ndPair pl (tkAt ts st.nx).text :: (l ++ (one (adv st)).1)) (one (adv st)).2 else (l, st)
def chainP (ts : List Tk) (one : St → Rx) (xs : List ByteArray) (st : St) : Rx :=
  chainLoop ts one xs (tkAt ts st.nx).place ts.length (one st).1 (one st).2
def xMul : List ByteArray := [⟨#[42]⟩]
def xAdd : List ByteArray := [⟨#[43]⟩, ⟨#[45]⟩]
def xMin : List ByteArray := [⟨#[45]⟩]
def xOpen : List ByteArray := [⟨#[40]⟩]
def xClose : List ByteArray := [⟨#[41]⟩]
def termOf (ts : List Tk) (fac : St → Rx) : St → Rx := chainP ts fac xMul
def exprOf (ts : List Tk) (fac : St → Rx) : St → Rx := chainP ts (termOf ts fac) xAdd
def deepP (one : St → Rx) (st : St) : Rx :=
  ((one { st with dp := st.dp + 1 }).1, { (one { st with dp := st.dp + 1 }).2 with dp := (one { st with dp := st.dp + 1 }).2.dp - 1 })
/-- a factor; n: how much deeper it may go. -/
def factorP (ts : List Tk) : Nat → St → Rx
  | 0, st => ([], failP ts st eMany)
  | n + 1, st =>
    if hitP ts st xMin then (ndMinus (tkAt ts st.nx).place :: (deepP (factorP ts n) (adv st)).1, (deepP (factorP ts n) (adv st)).2)
    else if hitP ts st xOpen then (ndBr (tkAt ts st.nx).place :: (deepP (exprOf ts (factorP ts n)) (adv st)).1, wantP ts (deepP (exprOf ts (factorP ts n)) (adv st)).2 xClose)
    else if (tkAt ts st.nx).kind = 3 then ([ndNum (wkT ts st 3)], wkP ts st 3)
    else ([ndCol (wkT ts st 2) (wkT ts (wantP ts (wkP ts st 2) [⟨#[46]⟩]) 2)], colP ts st)
/-- a reading goes on, and comes back as deep as it was; an error stays. -/
structure Onw (ts : List Tk) (st st' : St) : Prop where
  nx : st.nx ≤ st'.nx
  lt : st'.nx < ts.length
  dp : st'.dp = st.dp
  er : st'.er = none → st.er = none
  erp : ∀ x, st'.er = some x → st.er = some x ∨ ((∃ i, i < ts.length ∧ x.1 = (tkAt ts i).place) ∧ (x.2 = eSyntax ∨ x.2 = eMany))
theorem Onw.refl {ts : List Tk} {st : St} (h : st.nx < ts.length) : Onw ts st st := ⟨Nat.le_refl _, h, rfl, id, fun _ => Or.inl⟩
theorem Onw.trans {ts : List Tk} {a b c : St} (h : Onw ts a b) (k : Onw ts b c) : Onw ts a c := ⟨Nat.le_trans h.nx k.nx, k.lt, k.dp.trans h.dp, fun e => h.er (k.er e), fun x e => (k.erp x e).elim (h.erp x) Or.inr⟩
theorem onw_fail {ts : List Tk} {st : St} (h : st.nx < ts.length) (k : Nat) (hk : k = eSyntax ∨ k = eMany := by first | exact Or.inl rfl | exact Or.inr rfl) : Onw ts st (failP ts st k) := by
  refine ⟨by show st.nx ≤ ts.length - 1; omega, by show ts.length - 1 < ts.length; omega, rfl, fun e => ?_, fun x e => ?_⟩
  · unfold failP at e
    cases hr : st.er with
    | none => rfl
    | some x => rw [hr] at e; cases e
  · unfold failP at e
    cases hr : st.er with
    | none => rw [hr] at e; cases e; exact Or.inr ⟨⟨st.nx, h, rfl⟩, hk⟩
    | some y => rw [hr] at e; exact Or.inl e
/-- the last token alone is the end. -/
def Lst (ts : List Tk) : Prop := ∀ i, i < ts.length → (tkAt ts i).kind ≠ 0 → i + 1 < ts.length
theorem onw_adv {ts : List Tk} (hl : Lst ts) {st : St} (h : st.nx < ts.length) (hk : (tkAt ts st.nx).kind ≠ 0) : Onw ts st (adv st) :=
  ⟨by show st.nx ≤ st.nx + 1; omega, hl _ h hk, rfl, id, fun _ => Or.inl⟩
theorem hit_kind {ts : List Tk} {st : St} {xs : List ByteArray} (h : hitP ts st xs = true) : (tkAt ts st.nx).kind ≠ 0 := by
  unfold hitP at h
  rw [Bool.and_eq_true] at h
  have := h.1
  simp at this
  omega
theorem onw_want {ts : List Tk} (hl : Lst ts) {st : St} (h : st.nx < ts.length) (xs : List ByteArray) : Onw ts st (wantP ts st xs) := by
  unfold wantP
  split
  · rename_i hh; exact onw_adv hl h (hit_kind hh)
  · exact onw_fail h _
theorem onw_wk {ts : List Tk} (hl : Lst ts) {st : St} (h : st.nx < ts.length) {k : Nat} (hk : k ≠ 0) : Onw ts st (wkP ts st k) := by
  unfold wkP
  split
  · rename_i hh; exact onw_adv hl h (by omega)
  · exact onw_fail h _
theorem onw_col {ts : List Tk} (hl : Lst ts) {st : St} (h : st.nx < ts.length) : Onw ts st (colP ts st) := by
  have h1 := onw_wk hl h (k := 2) (by decide)
  have h2 := onw_want hl h1.lt [⟨#[46]⟩]
  exact h1.trans (h2.trans (onw_wk hl h2.lt (by decide)))
def OnwF (ts : List Tk) (f : St → Rx) : Prop := ∀ st, st.nx < ts.length → Onw ts st (f st).2
theorem onw_loop {ts : List Tk} (hl : Lst ts) {one : St → Rx} (ho : OnwF ts one) (xs : List ByteArray) (pl : Nat) : ∀ (f : Nat) (l : List Nd) (st : St), st.nx < ts.length → Onw ts st (chainLoop ts one xs pl f l st).2
  | 0, _, st, h => Onw.refl h
  | f + 1, l, st, h => by
    unfold chainLoop
    split
    · rename_i hh
      have h1 := onw_adv hl h (hit_kind hh)
      have h2 := ho _ h1.lt
      exact h1.trans (h2.trans (onw_loop hl ho xs pl f _ _ h2.lt))
    · exact Onw.refl h
theorem onw_chain {ts : List Tk} (hl : Lst ts) {one : St → Rx} (ho : OnwF ts one) (xs : List ByteArray) : OnwF ts (chainP ts one xs) := fun st h => (ho st h).trans (onw_loop hl ho xs _ _ _ _ (ho st h).lt)
theorem onw_expr {ts : List Tk} (hl : Lst ts) {fac : St → Rx} (ho : OnwF ts fac) : OnwF ts (exprOf ts fac) := onw_chain hl (onw_chain hl ho _) _
theorem onw_deep {ts : List Tk} {one : St → Rx} (ho : OnwF ts one) : OnwF ts (deepP one) := fun st h => by
  have h1 := ho { st with dp := st.dp + 1 } h
  refine ⟨h1.nx, h1.lt, ?_, h1.er, h1.erp⟩
  show (one { st with dp := st.dp + 1 }).2.dp - 1 = st.dp
  rw [h1.dp]; rfl
theorem onw_factor {ts : List Tk} (hl : Lst ts) : ∀ n, OnwF ts (factorP ts n)
  | 0 => fun st h => onw_fail h _
  | n + 1 => fun st h => by
    unfold factorP
    split
    · rename_i hh
      have h1 := onw_adv hl h (hit_kind hh)
      exact h1.trans (onw_deep (onw_factor hl n) _ h1.lt)
    · split
      · rename_i hh
        have h1 := onw_adv hl h (hit_kind hh)
        have h2 := onw_deep (onw_expr hl (onw_factor hl n)) _ h1.lt
        exact h1.trans (h2.trans (onw_want hl h2.lt _))
      · split
        · exact onw_wk hl h (by decide)
        · exact onw_col hl h
end Go.Proofs.YtfkeddkfegaeiaaGreatDoor
namespace Go.Proofs.YtfkeddkfegaeiaaGreatDoor
open Go.RowKit
def ExPost (c : Cx) (w : World) (r : Rx) (e : Ending) (w' : World) : Prop := ∃ v, e = .returned v ∧ IsI v ∧ Aft c w r.2 w' ∧ (r.2.er = none → ExOk w' w.heap.size v r.1)
/-- function number K reads by fn, at depth d. -/
def Spec (c : Cx) (K d : Nat) (fn : St → Rx) : Prop := ∀ (w : World) (st : St) (ev : Value), RS c w st ev → st.dp = d → Calls Tryz.prog K #[.pointer (some ⟨c.rb, 0, none⟩)] w fun e w' => ExPost c w (fn st) e w'
theorem ExPost.of {c : Cx} {w0 w w' : World} {r : Rx} {e : Ending} (h : ExPost c w r e w') (hk : Kp c.rb w0 w) : ExPost c w0 r e w' := let ⟨v, h1, h2, h3, h4⟩ := h; ⟨v, h1, h2, Aft.trans hk h3, fun he => (h4 he).keep hk.size (NodeKeep.ofBelow (Below.refl _ _))⟩
set_option maxRecDepth 100000 in
set_option maxHeartbeats 400000 in
theorem deeper_factor (c : Cx) (w : World) (st : St) (ev : Value) (fn : St → Rx) (h : RS c w st ev) (hd : st.dp ≤ 16) (ho : OnwF c.ts fn) (hf : Spec c 310 (st.dp + 1) fn) :
    Calls Tryz.prog 328 #[.pointer (some ⟨c.rb, 0, none⟩), .func (.func 310) #[.pointer (some ⟨c.rb, 0, none⟩)] #[]] w fun e w' => ExPost c w (deepP fn st) e w' := by
  obtain ⟨r0, r1, r2, r3, hfr, hrb⟩ := h.facts
  have HH := hide h
  have HF := hide hf
  have HO := hide ho
  clear h hf ho
  unfold deepP
  go_enter Tryz.func328, Tryz.ntmps328
  go_wp2_with fail
  have hs1 := (unhide HH).setDp (st.dp + 1) (by omega)
  rw [show (((st.dp + 1 : Nat) : Int)) = ((st.dp : Int) + 1) from by omega] at hs1
  refine (unhide HF _ _ ev hs1 rfl).mono ?_
  rintro e w1 ⟨v, rfl, hv, ⟨⟨ev1, hs2⟩, hk⟩, hex⟩
  have hon := unhide HO { st with dp := st.dp + 1 } (unhide HH).nx
  generalize hr : fn { st with dp := st.dp + 1 } = r at *
  have HR := hide hr
  have hdp : r.2.dp = st.dp + 1 := hon.dp
  have HDP := hide hdp
  clear r0 r1 r2 r3 hfr hr hon hdp
  obtain ⟨r0, r1, r2, r3, hfr, hrb2⟩ := hs2.facts
  rw [unhide HDP] at r2
  have HS2 := hide hs2
  have HK := hide (((Kp.refl c.rb w).setCell 2 (.int .i64 ((st.dp : Int) + 1))).trans hk)
  have HEX := hide hex
  have HV := hide hv
  clear hs1 hs2 hk hex hv
  go_wp2
  go_ret
  rw [unhide HR]
  have hs3 := (unhide HS2).setDp (r.2.dp - 1) (by rw [unhide HDP]; omega)
  rw [show (((r.2.dp - 1 : Nat) : Int)) = (st.dp : Int) from by rw [unhide HDP]; omega] at hs3
  refine ⟨v, rfl, unhide HV, ⟨⟨ev1, hs3⟩, (unhide HK).setCell _ _⟩, fun he => (unhide HEX he).keep (by simp [World.setCell]) ((unhide HS2).nodes ((Kp.refl _ _).setCell _ _))⟩
set_option maxRecDepth 100000 in
set_option maxHeartbeats 400000 in
theorem deeper_expr (c : Cx) (w : World) (st : St) (ev : Value) (fn : St → Rx) (h : RS c w st ev) (hd : st.dp ≤ 16) (ho : OnwF c.ts fn) (hf : Spec c 218 (st.dp + 1) fn) :
    Calls Tryz.prog 328 #[.pointer (some ⟨c.rb, 0, none⟩), .func (.func 218) #[.pointer (some ⟨c.rb, 0, none⟩)] #[]] w fun e w' => ExPost c w (deepP fn st) e w' := by
  obtain ⟨r0, r1, r2, r3, hfr, hrb⟩ := h.facts
  have HH := hide h
  have HF := hide hf
  have HO := hide ho
  clear h hf ho
  unfold deepP
  go_enter Tryz.func328, Tryz.ntmps328
  go_wp2_with fail
  have hs1 := (unhide HH).setDp (st.dp + 1) (by omega)
  rw [show (((st.dp + 1 : Nat) : Int)) = ((st.dp : Int) + 1) from by omega] at hs1
  refine (unhide HF _ _ ev hs1 rfl).mono ?_
  rintro e w1 ⟨v, rfl, hv, ⟨⟨ev1, hs2⟩, hk⟩, hex⟩
  have hon := unhide HO { st with dp := st.dp + 1 } (unhide HH).nx
  generalize hr : fn { st with dp := st.dp + 1 } = r at *
  have HR := hide hr
  have hdp : r.2.dp = st.dp + 1 := hon.dp
  have HDP := hide hdp
  clear r0 r1 r2 r3 hfr hr hon hdp
  obtain ⟨r0, r1, r2, r3, hfr, hrb2⟩ := hs2.facts
  rw [unhide HDP] at r2
  have HS2 := hide hs2
  have HK := hide (((Kp.refl c.rb w).setCell 2 (.int .i64 ((st.dp : Int) + 1))).trans hk)
  have HEX := hide hex
  have HV := hide hv
  clear hs1 hs2 hk hex hv
  go_wp2
  go_ret
  rw [unhide HR]
  have hs3 := (unhide HS2).setDp (r.2.dp - 1) (by rw [unhide HDP]; omega)
  rw [show (((r.2.dp - 1 : Nat) : Int)) = (st.dp : Int) from by rw [unhide HDP]; omega] at hs3
  refine ⟨v, rfl, unhide HV, ⟨⟨ev1, hs3⟩, (unhide HK).setCell _ _⟩, fun he => (unhide HEX he).keep (by simp [World.setCell]) ((unhide HS2).nodes ((Kp.refl _ _).setCell _ _))⟩
end Go.Proofs.YtfkeddkfegaeiaaGreatDoor
namespace Go.Proofs.YtfkeddkfegaeiaaGreatDoor
open Go.RowKit
theorem Texts.kp {w w' : World} {r b : Nat} {xs : List ByteArray} (h : Texts w b xs) (hk : Kp r w w') (hb : b ≠ r) : Texts w' b xs :=
  ⟨Nat.lt_of_lt_of_le h.1 hk.size, fun j hj => (hk.cell (p := ⟨b, 0 + j, none⟩) h.1 hb).trans (h.2 j hj)⟩
theorem IsI.cells {v : Value} (h : IsI v) : v.cells = #[v] := by rcases h with rfl | ⟨u, x, rfl⟩ <;> rfl
/-- chain's loop: so far the nodes l (value v), at state st'; f rounds at most; sb: the block of the place where it began. -/
structure ChRel (c : Cx) (w : World) (fn : St → Rx) (xs : List ByteArray) (d sb pl : Nat) (R : Rx) (f : Nat) (v : Value) (wr : World) (l : List Nd) (st' : St) (ev' : Value) : Prop where
  isI : IsI v
  rs : RS c wr st' ev'
  kp : Kp c.rb w wr
  ex : st'.er = none → ExOk wr w.heap.size v l
  eq : R = chainLoop c.ts fn xs pl f l st'
  fuel : c.ts.length ≤ f + st'.nx
  dp : st'.dp = d
  start : wr.heap[sb]? = some (.cells #[.int .i64 pl] 170 (0, 0))
theorem chain_next {c : Cx} {w wr w3 w4 : World} {fn : St → Rx} {xs : List ByteArray} {d sb pl gk : Nat} {R : Rx} {v v4 : Value} {l : List Nd} {st' : St} {ev' ev3 ev4 : Value} (hr : ChRel c w fn xs d sb pl R (gk + 1) v wr l st' ev') (hh : hitP c.ts st' xs = true)
    (h3 : RS c w3 (adv st') ev3) (hk3 : Kp c.rb wr w3) (ho : OnwF c.ts fn) (h4 : RS c w4 (fn (adv st')).2 ev4) (hk4 : Kp c.rb w3.drew w4) (_hv4 : IsI v4) (hex : (fn (adv st')).2.er = none → ExOk w4 w3.drew.heap.size v4 (fn (adv st')).1) (hsb : sb ≠ c.rb) :
    ChRel c w fn xs d sb pl R gk (.iface 265 (.pointer (some ⟨w4.heap.size, 0, none⟩))) (w4.alloc (.cells #[.int .i64 pl, v, .string (tkAt c.ts st'.nx).text, v4] 263)) (ndPair pl (tkAt c.ts st'.nx).text :: (l ++ (fn (adv st')).1)) (fn (adv st')).2 ev4 := by
  have hon := ho (adv st') h3.nx
  have hk34 : Kp c.rb wr w4 := hk3.drew.trans hk4
  refine ⟨Or.inr ⟨_, _, rfl⟩, h4.alloc _, (hr.kp.trans hk34).alloc _, fun he => ?_, ?_, ?_, hon.dp.trans hr.dp, heap_prev ((hk34.block _ (lt_of_heap hr.start) hsb).trans hr.start)⟩
  · refine ExOk.pair (Nat.le_trans hr.kp.size hk34.size) (heap_last rfl) ((hr.ex (hon.er he)).keep (Nat.le_refl _) ?_) ((hex he).keep (Nat.le_trans hr.kp.size hk3.size) (NodeKeep.ofBelow ((Below.refl _ _).alloc (Nat.le_refl _) _)))
    exact (hr.rs.nodes hk34).trans (NodeKeep.ofBelow ((Below.refl _ _).alloc (Nat.le_refl _) _))
  · have e := hr.eq
    unfold chainLoop at e
    rw [if_pos hh] at e
    exact e
  · have h1 := hr.fuel
    have h2 : st'.nx + 1 ≤ (fn (adv st')).2.nx := hon.nx
    omega
set_option maxRecDepth 100000 in
set_option maxHeartbeats 1000000 in
theorem chain_term (c : Cx) (w : World) (st : St) (ev : Value) (fn : St → Rx) (b : Nat) (xs : List ByteArray) (R : Rx) (h : RS c w st ev) (HX : Hid (Texts w b xs)) (hbr : b ≠ c.rb) (hl : xs.length ≤ 100) (HN : Hid (nonE xs = true)) (HO : Hid (OnwF c.ts fn)) (HF : Hid (Spec c 275 st.dp fn)) (HR : Hid (R = chainP c.ts fn xs st)) :
    Calls Tryz.prog 274 #[.pointer (some ⟨c.rb, 0, none⟩), .func (.func 275) #[.pointer (some ⟨c.rb, 0, none⟩)] #[], .slice (some ⟨b, 0, none⟩) xs.length xs.length] w fun e w' => ExPost c w R e w' := by
  have HH := hide h
  clear h
  have hfp := field_part
  go_enter Tryz.func274, Tryz.ntmps274
  go_wp2_with fail
  refine (peek_any c _ st ev (by exact unhide HH)).mono ?_
  rintro e w1 ⟨rfl, hb1⟩
  have HB1 := hide hb1
  have HH1 := hide ((unhide HH).keep hb1)
  clear hb1
  generalize hpl : (tkAt c.ts st.nx).place = pl at *
  have HPL := hide hpl
  clear hpl
  go_wp2_with fail
  refine (unhide HF _ st ev (by exact (unhide HH1).alloc _) rfl).mono ?_
  rintro e w2 ⟨v, rfl, hv, ⟨⟨ev2, hs2⟩, hk2⟩, hex2⟩
  have hne1 : w1.heap.size ≠ c.rb := by have := lt_of_heap (unhide HH1).reader; omega
  have REL : Hid (ChRel c w fn xs st.dp w1.heap.size pl R c.ts.length v w2 (fn st).1 (fn st).2 ev2) := by
    refine ⟨hv, hs2, ((Kp.ofBelow (unhide HB1)).alloc _).trans hk2, fun he => (hex2 he).keep (Nat.le_trans (unhide HB1).size (by simp)) (NodeKeep.ofBelow (Below.refl _ _)), ?_, by omega, (unhide HO st (unhide HH).nx).dp, (hk2.block w1.heap.size (by simp) hne1).trans (heap_last rfl)⟩
    rw [unhide HR, ← unhide HPL]; rfl
  clear hv hs2 hk2 hex2
  go_wp2_with fail
  go_loopg [8] c.ts.length (fun f s8 wr => ∃ l st' ev', ChRel c w fn xs st.dp w1.heap.size pl R f s8 wr l st' ev')
  case atStart => exact ⟨_, _, _, unhide REL⟩
  case round =>
    obtain ⟨l, st', ev', hrel⟩ := hrel
    have HREL := hide hrel
    have hsz := hrel.kp.size
    obtain ⟨k0, f0⟩ := blk hrel.start
    clear hrel REL
    match gk, HREL with
    | 0, HREL => exact absurd (unhide HREL).fuel (by have := (unhide HREL).rs.nx; omega)
    | gk + 1, HREL =>
    cases hh : hitP c.ts st' xs with
    | false =>
      have HHIT := hide hh
      clear hh
      go_wp2_with fail
      refine (takeOne_no c _ st' ev' b xs (by exact (unhide HREL).rs) ((unhide HX).kp (unhide HREL).kp hbr) hl (unhide HHIT)).mono ?_
      rintro e w3 ⟨rfl, hb3⟩
      have HB3 := hide hb3
      clear hb3
      go_wp2
      go_ret
      have hr := (unhide HREL).eq
      unfold chainLoop at hr
      rw [if_neg (by rw [unhide HHIT]; decide)] at hr
      subst hr
      exact ⟨_, rfl, (unhide HREL).isI, ⟨⟨ev', (unhide HREL).rs.keep (unhide HB3)⟩, (unhide HREL).kp.trans (Kp.ofBelow (unhide HB3))⟩, fun he => ((unhide HREL).ex he).keep (Nat.le_refl _) (NodeKeep.ofBelow (unhide HB3))⟩
    | true =>
      have htx := hit_text hh (nonE_ok (unhide HN))
      have HHIT := hide hh
      clear hh
      go_wp2_with fail
      refine (takeOne_yes c _ st' ev' b xs (by exact (unhide HREL).rs) ((unhide HX).kp (unhide HREL).kp hbr) hl (unhide HHIT)).mono ?_
      rintro e w3 ⟨rfl, ⟨ev3, hs3⟩, hk3⟩
      have HS3 := hide hs3
      have HK3 := hide hk3
      have K3 := hide ((hk3.block w1.heap.size (lt_of_heap (unhide HREL).start) hne1).trans (unhide HREL).start)
      obtain ⟨k3, f3⟩ := blk (unhide K3)
      have hz3 := lt_of_heap (unhide K3)
      clear hs3 hk3 k0 f0
      go_wp2_with fail
      go_region_with (go_at_call 275; refine (unhide HF _ (adv st') ev3 (by exact (unhide HS3).drew) (by exact (unhide HREL).dp)).mono ?_; rintro e w4 ⟨v4, rfl, hv4, ⟨⟨ev4, hs4⟩, hk4⟩, hex4⟩; obtain ⟨k4, f4⟩ := blk ((hk4.block w1.heap.size (by simp; omega) hne1).trans (by exact unhide K3)); have hcv := hv4.cells; have hcu := (unhide HREL).isI.cells; unfold Value.cells at hcv hcu; have HV4 := hide hv4; have HS4 := hide hs4; have HK4 := hide hk4; have HEX4 := hide hex4; clear hv4 hs4 hk4 hex4)
      all_goals
        go_wp2
        go_roundg gk
        case measure => omega
        case rel =>
          refine ⟨_, _, ev4, chain_next (unhide HREL) (unhide HHIT) (unhide HS3) (unhide HK3) (unhide HO) (unhide HS4) (unhide HK4) (unhide HV4) (unhide HEX4) hne1⟩
set_option maxRecDepth 100000 in
set_option maxHeartbeats 1000000 in
theorem chain_factor (c : Cx) (w : World) (st : St) (ev : Value) (fn : St → Rx) (b : Nat) (xs : List ByteArray) (R : Rx) (h : RS c w st ev) (HX : Hid (Texts w b xs)) (hbr : b ≠ c.rb) (hl : xs.length ≤ 100) (HN : Hid (nonE xs = true)) (HO : Hid (OnwF c.ts fn)) (HF : Hid (Spec c 310 st.dp fn)) (HR : Hid (R = chainP c.ts fn xs st)) :
    Calls Tryz.prog 274 #[.pointer (some ⟨c.rb, 0, none⟩), .func (.func 310) #[.pointer (some ⟨c.rb, 0, none⟩)] #[], .slice (some ⟨b, 0, none⟩) xs.length xs.length] w fun e w' => ExPost c w R e w' := by
  have HH := hide h
  clear h
  have hfp := field_part
  go_enter Tryz.func274, Tryz.ntmps274
  go_wp2_with fail
  refine (peek_any c _ st ev (by exact unhide HH)).mono ?_
  rintro e w1 ⟨rfl, hb1⟩
  have HB1 := hide hb1
  have HH1 := hide ((unhide HH).keep hb1)
  clear hb1
  generalize hpl : (tkAt c.ts st.nx).place = pl at *
  have HPL := hide hpl
  clear hpl
  go_wp2_with fail
  refine (unhide HF _ st ev (by exact (unhide HH1).alloc _) rfl).mono ?_
  rintro e w2 ⟨v, rfl, hv, ⟨⟨ev2, hs2⟩, hk2⟩, hex2⟩
  have hne1 : w1.heap.size ≠ c.rb := by have := lt_of_heap (unhide HH1).reader; omega
  have REL : Hid (ChRel c w fn xs st.dp w1.heap.size pl R c.ts.length v w2 (fn st).1 (fn st).2 ev2) := by
    refine ⟨hv, hs2, ((Kp.ofBelow (unhide HB1)).alloc _).trans hk2, fun he => (hex2 he).keep (Nat.le_trans (unhide HB1).size (by simp)) (NodeKeep.ofBelow (Below.refl _ _)), ?_, by omega, (unhide HO st (unhide HH).nx).dp, (hk2.block w1.heap.size (by simp) hne1).trans (heap_last rfl)⟩
    rw [unhide HR, ← unhide HPL]; rfl
  clear hv hs2 hk2 hex2
  go_wp2_with fail
  go_loopg [8] c.ts.length (fun f s8 wr => ∃ l st' ev', ChRel c w fn xs st.dp w1.heap.size pl R f s8 wr l st' ev')
  case atStart => exact ⟨_, _, _, unhide REL⟩
  case round =>
    obtain ⟨l, st', ev', hrel⟩ := hrel
    have HREL := hide hrel
    have hsz := hrel.kp.size
    obtain ⟨k0, f0⟩ := blk hrel.start
    clear hrel REL
    match gk, HREL with
    | 0, HREL => exact absurd (unhide HREL).fuel (by have := (unhide HREL).rs.nx; omega)
    | gk + 1, HREL =>
    cases hh : hitP c.ts st' xs with
    | false =>
      have HHIT := hide hh
      clear hh
      go_wp2_with fail
      refine (takeOne_no c _ st' ev' b xs (by exact (unhide HREL).rs) ((unhide HX).kp (unhide HREL).kp hbr) hl (unhide HHIT)).mono ?_
      rintro e w3 ⟨rfl, hb3⟩
      have HB3 := hide hb3
      clear hb3
      go_wp2
      go_ret
      have hr := (unhide HREL).eq
      unfold chainLoop at hr
      rw [if_neg (by rw [unhide HHIT]; decide)] at hr
      subst hr
      exact ⟨_, rfl, (unhide HREL).isI, ⟨⟨ev', (unhide HREL).rs.keep (unhide HB3)⟩, (unhide HREL).kp.trans (Kp.ofBelow (unhide HB3))⟩, fun he => ((unhide HREL).ex he).keep (Nat.le_refl _) (NodeKeep.ofBelow (unhide HB3))⟩
    | true =>
      have htx := hit_text hh (nonE_ok (unhide HN))
      have HHIT := hide hh
      clear hh
      go_wp2_with fail
      refine (takeOne_yes c _ st' ev' b xs (by exact (unhide HREL).rs) ((unhide HX).kp (unhide HREL).kp hbr) hl (unhide HHIT)).mono ?_
      rintro e w3 ⟨rfl, ⟨ev3, hs3⟩, hk3⟩
      have HS3 := hide hs3
      have HK3 := hide hk3
      have K3 := hide ((hk3.block w1.heap.size (lt_of_heap (unhide HREL).start) hne1).trans (unhide HREL).start)
      obtain ⟨k3, f3⟩ := blk (unhide K3)
      have hz3 := lt_of_heap (unhide K3)
      clear hs3 hk3 k0 f0
      go_wp2_with fail
      go_region_with (go_at_call 310; refine (unhide HF _ (adv st') ev3 (by exact (unhide HS3).drew) (by exact (unhide HREL).dp)).mono ?_; rintro e w4 ⟨v4, rfl, hv4, ⟨⟨ev4, hs4⟩, hk4⟩, hex4⟩; obtain ⟨k4, f4⟩ := blk ((hk4.block w1.heap.size (by simp; omega) hne1).trans (by exact unhide K3)); have hcv := hv4.cells; have hcu := (unhide HREL).isI.cells; unfold Value.cells at hcv hcu; have HV4 := hide hv4; have HS4 := hide hs4; have HK4 := hide hk4; have HEX4 := hide hex4; clear hv4 hs4 hk4 hex4)
      all_goals
        go_wp2
        go_roundg gk
        case measure => omega
        case rel =>
          refine ⟨_, _, ev4, chain_next (unhide HREL) (unhide HHIT) (unhide HS3) (unhide HK3) (unhide HO) (unhide HS4) (unhide HK4) (unhide HV4) (unhide HEX4) hne1⟩
end Go.Proofs.YtfkeddkfegaeiaaGreatDoor
