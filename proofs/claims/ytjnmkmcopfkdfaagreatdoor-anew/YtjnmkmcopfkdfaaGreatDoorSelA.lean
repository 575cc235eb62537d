/-
  Selects: plain, and as they lie.
-/
import Derived.Test.YtjnmkmcopfkdfaaGreatDoorTst
import Derived.Test.YtjnmkmcopfkdfaaGreatDoorLsS
import Derived.Deep.RegionLaw
namespace Go.Proofs.YtjnmkmcopfkdfaaGreatDoor
open Go.RowKit

/-- append to a row of the call's own, as one step of a region that draws. -/
theorem step_append_own {P : Program} {ops : Array Oper} {o : Oper} {a : Act} {w : World} {K : Act → World → Prop} {Q : Exit → Act → World → Prop} {E : Prop}
    (hg : o.guard = none) (s x : Operand) (t : TypeId) (hop : o.op = Op.call { callee := Callee.builtin Builtin.append, args := #[s, x], argTypes := #[t, t] })
    (base : Nat) (e : TypeId) (i : TypeInfo) (z : Value) (size bytes : Nat) (h1 : P.underlying t = some (.slice e)) (h2 : P.info? e = some i) (h3 : i.zero = some z) (h4 : i.size = size) (h5 : i.bytes = bytes) (h6 : z.cells.size = size) (h7 : 0 < size)
    (v : Value) (n : Nat) (xs : List Value) (hs : a.eval s = v) (hown : w.ownsRow base e size v n xs)
    (ad : Addr) (m c : Nat) (news : List Value) (hx : a.eval x = .slice (some ad) m c) (hn : news.length = m * size) (hc : ∀ j u, news[j]? = some u → w.cell? (ad.add j) = some u) (h1c : ∀ u ∈ news, u.oneCell' = true)
    (b1 : n + m ≤ maxLen) (b2 : (n + m) * bytes ≤ 140737488355328) (hbase : base ≤ w.heap.size)
    (hK : ∀ v' w', w'.ownsRow base e size v' (n + m) (xs ++ news) → w.grownBy w' v.ownBlock → K (a.put o.dst v') w') :
    if Region.wanted o (yielded ops a.tmps) = true then Oper.wp P o a w K Q else E := by
  have hw : Region.wanted o (yielded ops a.tmps) = true := by simp [Region.wanted, hg]
  rw [if_pos hw]
  obtain ⟨v', w', hrun, r1, r2, _⟩ := run_append_own (P := P) w base t o.type e i z size bytes h1 h2 h3 h4 h5 h6 h7 v n xs hown ad m c news hn hc h1c b1 b2 hbase
  unfold Oper.wp
  simp [execOp, hop, resolve, invoke, builtin, hs, hx, hrun, Result.andThen]
  exact hK v' w' r1 r2
theorem infoPr : (Tryz.prog.info? 143).map (fun i => (i.zero, i.size, i.bytes)) = some (some (.agg #[.int .i64 0, .nilIface, .string ⟨#[]⟩, .nilIface]), 4, 56) := by kernel_rfl
theorem one4v {p : Int} {x y : Value} {s : ByteArray} (hx : IsI x) (hy : IsI y) : ∀ u ∈ [Value.int .i64 p, x, .string s, y], u.oneCell' = true := by
  intro u hu
  simp only [List.mem_cons, List.mem_nil_iff, or_false] at hu
  rcases hu with rfl | rfl | rfl | rfl
  · rfl
  · exact hx.one
  · rfl
  · exact hy.one

structure SelX where
  place : Nat
  items : List ItemA
  srcs : List (Tk × Tk)
  tests : List TestA
def andLoop (ts : List Tk) : Nat → List TestA → St → List TestA × St
  | 0, l, st => (l, st)
  | f + 1, l, st => if hitP ts st [⟨#[97, 110, 100]⟩] then andLoop ts f (l ++ [(testP ts (adv st)).1]) (testP ts (adv st)).2 else (l, st)
def whereP (ts : List Tk) (st : St) : List TestA × St := if hitP ts st [⟨#[119, 104, 101, 114, 101]⟩] then andLoop ts ts.length [(testP ts (adv st)).1] (testP ts (adv st)).2 else ([], st)
def selI (ts : List Tk) (st : St) : List ItemA × St := listP ts (itemP ts) 6 (wantP ts st [⟨#[115, 101, 108, 101, 99, 116]⟩])
def selS (ts : List Tk) (st : St) : List (Tk × Tk) × St := listP ts (srcP ts) 3 (wantP ts st [⟨#[102, 114, 111, 109]⟩])
def selP (ts : List Tk) (st : St) : SelX × St :=
  (⟨(tkAt ts st.nx).place, (selI ts st).1, (selS ts (selI ts st).2).1, (whereP ts (selS ts (selI ts st).2).2).1⟩, (whereP ts (selS ts (selI ts st).2).2).2)

theorem onw_and {ts : List Tk} (hl : Lst ts) : ∀ (f : Nat) (l : List TestA) (st : St), st.nx < ts.length → Onw ts st (andLoop ts f l st).2
  | 0, _, st, h => Onw.refl h
  | f + 1, l, st, h => by
    unfold andLoop
    split
    · rename_i hh
      have h1 := onw_adv hl h (hit_kind hh)
      have h2 := onw_test hl _ h1.lt
      exact h1.trans (h2.trans (onw_and hl f _ _ h2.lt))
    · exact Onw.refl h
theorem onw_where {ts : List Tk} (hl : Lst ts) {st : St} (h : st.nx < ts.length) : Onw ts st (whereP ts st).2 := by
  unfold whereP
  split
  · rename_i hh
    have h1 := onw_adv hl h (hit_kind hh)
    have h2 := onw_test hl _ h1.lt
    exact h1.trans (h2.trans (onw_and hl _ _ _ h2.lt))
  · exact Onw.refl h
theorem onw_selI {ts : List Tk} (hl : Lst ts) {st : St} (h : st.nx < ts.length) : Onw ts st (selI ts st).2 := by
  have h1 := onw_want hl h [⟨#[115, 101, 108, 101, 99, 116]⟩]
  exact h1.trans (onw_list hl (onw_item hl) 6 _ h1.lt)
theorem onw_selS {ts : List Tk} (hl : Lst ts) {st : St} (h : st.nx < ts.length) : Onw ts st (selS ts st).2 := by
  have h1 := onw_want hl h [⟨#[102, 114, 111, 109]⟩]
  exact h1.trans (onw_list hl (onw_src hl) 3 _ h1.lt)
theorem onw_sel {ts : List Tk} (hl : Lst ts) {st : St} (h : st.nx < ts.length) : Onw ts st (selP ts st).2 := by
  have h1 := onw_selI hl h
  have h2 := onw_selS hl h1.lt
  exact h1.trans (h2.trans (onw_where hl h2.lt))

/-- a test as it lies in a row: with the values of its two exprs. -/
def tsCells (us : List (TestA × Value × Value)) : List Value := us.flatMap fun u => [.int .i64 u.1.place, u.2.1, .string u.1.sg, u.2.2]
theorem tsCells_snoc (us : List (TestA × Value × Value)) (u : TestA × Value × Value) : tsCells us ++ [.int .i64 u.1.place, u.2.1, .string u.1.sg, u.2.2] = tsCells (us ++ [u]) := by simp [tsCells]

theorem ExP.refine {w : World} {P Q : Nat → Prop} (hQ : ∀ (k : Nat) (cs : Array Value) (t : TypeId), P k → w.heap[k]? = some (.cells cs t (0, 0)) → cs.size ≤ 5 → Q k) : ∀ (n : Nat) (v : Value) (l : List Nd), ExP w P n v l → ExP w Q n v l
  | 0, _, _, h => h
  | n + 1, v, l, h => by
    rcases h with ⟨b, t, h1, h0, h2, h3⟩ | ⟨b, p, x, k, h1, h0, h2, h3, h4⟩ | ⟨b, t, u, h1, h0, h2, h3⟩ | ⟨b, p, x, k, h1, h0, h2, h3, h4⟩ | ⟨b, p, x, sg, y, k, m, h1, h0, h2, h3, h4, h5⟩
    · exact Or.inl ⟨b, t, h1, hQ _ _ _ h0 h2 (by simp), h2, h3⟩
    · exact Or.inr (Or.inl ⟨b, p, x, k, h1, hQ _ _ _ h0 h2 (by simp), h2, ExP.refine hQ n x k h3, h4⟩)
    · exact Or.inr (Or.inr (Or.inl ⟨b, t, u, h1, hQ _ _ _ h0 h2 (by simp), h2, h3⟩))
    · exact Or.inr (Or.inr (Or.inr (Or.inl ⟨b, p, x, k, h1, hQ _ _ _ h0 h2 (by simp), h2, ExP.refine hQ n x k h3, h4⟩)))
    · exact Or.inr (Or.inr (Or.inr (Or.inr ⟨b, p, x, sg, y, k, m, h1, hQ _ _ _ h0 h2 (by simp), h2, ExP.refine hQ n x k h3, ExP.refine hQ n y m h4, h5⟩)))
theorem ExP.refineT {w : World} {P Q : Nat → Prop} (hQ : ∀ (k : Nat) (cs : Array Value) (t : TypeId), P k → w.heap[k]? = some (.cells cs t (0, 0)) → nodeT t = true → Q k) : ∀ (n : Nat) (v : Value) (l : List Nd), ExP w P n v l → ExP w Q n v l
  | 0, _, _, h => h
  | n + 1, v, l, h => by
    rcases h with ⟨b, t, h1, h0, h2, h3⟩ | ⟨b, p, x, k, h1, h0, h2, h3, h4⟩ | ⟨b, t, u, h1, h0, h2, h3⟩ | ⟨b, p, x, k, h1, h0, h2, h3, h4⟩ | ⟨b, p, x, sg, y, k, m, h1, h0, h2, h3, h4, h5⟩
    · exact Or.inl ⟨b, t, h1, hQ _ _ _ h0 h2 rfl, h2, h3⟩
    · exact Or.inr (Or.inl ⟨b, p, x, k, h1, hQ _ _ _ h0 h2 rfl, h2, ExP.refineT hQ n x k h3, h4⟩)
    · exact Or.inr (Or.inr (Or.inl ⟨b, t, u, h1, hQ _ _ _ h0 h2 rfl, h2, h3⟩))
    · exact Or.inr (Or.inr (Or.inr (Or.inl ⟨b, p, x, k, h1, hQ _ _ _ h0 h2 rfl, h2, ExP.refineT hQ n x k h3, h4⟩)))
    · exact Or.inr (Or.inr (Or.inr (Or.inr ⟨b, p, x, sg, y, k, m, h1, hQ _ _ _ h0 h2 rfl, h2, ExP.refineT hQ n x k h3, ExP.refineT hQ n y m h4, h5⟩)))
theorem ExIn.refine {w : World} {P Q : Nat → Prop} {v : Value} {l : List Nd} (h : ExIn w P v l) (hQ : ∀ (k : Nat) (cs : Array Value) (t : TypeId), P k → w.heap[k]? = some (.cells cs t (0, 0)) → cs.size ≤ 5 → Q k) : ExIn w Q v l := let ⟨n, hn⟩ := h; ⟨n, ExP.refine hQ n v l hn⟩

/-- where the nodes of tests may lie: from lo on, and not in the row of tests. -/
def offRow (lo : Nat) (vt : Value) (k : Nat) : Prop := lo ≤ k ∧ some k ≠ vt.ownBlock
/-- the tests of a select as they lie. -/
def TsOk (w : World) (lo : Nat) (vt : Value) (us : List (TestA × Value × Value)) : Prop := ∀ u ∈ us, ExIn w (offRow lo vt) u.2.1 u.1.l ∧ ExIn w (offRow lo vt) u.2.2 u.1.r
theorem TsOk.keep {w w' : World} {lo : Nat} {vt : Value} {us : List (TestA × Value × Value)} (h : TsOk w lo vt us) (hk : ∀ (k : Nat) (cs : Array Value) (t : TypeId), offRow lo vt k → w.heap[k]? = some (.cells cs t (0, 0)) → nodeT t = true → w'.heap[k]? = w.heap[k]?) : TsOk w' lo vt us := fun u hu =>
  ⟨(h u hu).1.keep (fun _ h => h) hk, (h u hu).2.keep (fun _ h => h) hk⟩

/-- blocks of exprs, windows, and lists of items, sources and names. -/
def lstT (t : TypeId) : Bool := winT t || t == 131 || t == 140 || t == 120
theorem Keeps.win {lo : Nat} {w w' : World} (h : Keeps lstT lo w w') : Keeps winT lo w w' := h.mono (fun t ht => by unfold lstT; rw [ht]; rfl) (Nat.le_refl _)

/-- a select as it lies. -/
def SelOk (w : World) (lo : Nat) (v : Value) (x : SelX) : Prop := ∃ b vi vs vt es us, v = .pointer (some ⟨b, 0, none⟩) ∧ lo ≤ b ∧ w.heap[b]? = some (.cells #[.int .i64 x.place, vi, vs, vt] 136 (0, 0)) ∧
  (w.ownsRow lo 131 5 vi es.length (itCells es) ∧ es.map (·.1) = x.items ∧ ∀ e ∈ es, ItV w lo e.2.1 (.pointer e.2.2) e.1.win e.1.val) ∧
  w.ownsRow lo 140 5 vs x.srcs.length (srCells x.srcs) ∧
  (w.ownsRow lo 143 4 vt us.length (tsCells us) ∧ us.map (·.1) = x.tests ∧ TsOk w lo vt us)
end Go.Proofs.YtjnmkmcopfkdfaaGreatDoor
