/-
  Part 18.
-/
import Derived.Test.YtfkeddkfegaeiaaGreatDoorMvNwA
import Derived.Test.YtfkeddkfegaeiaaGreatDoorMvTlx
import Derived.Test.YtfkeddkfegaeiaaGreatDoorMvTli
import Derived.Test.YtfkeddkfegaeiaaGreatDoorMvEnv
import Derived.Stop.Asserts
import Derived.LaidEql
import Derived.RowKitTokens
namespace Go.Proofs.YtfkeddkfegaeiaaGreatDoor
open Go.RowKit
abbrev beyondB : ByteArray := ⟨#[98, 101, 121, 111, 110, 100]⟩
/-- a list of texts as it is lent. -/
def LTexts (F : Fx) (g : Nat) (ts : List ByteArray) : Prop := F g = some (.cells (textsV (ts ++ List.replicate 8 beyondB)).toArray 9 (0, 0))
/-- a list of numbers as it is lent. -/
def LInts (F : Fx) (g : Nat) (zs : List Int) : Prop := F g = some (.cells (intsV (zs ++ List.replicate 8 (-77))).toArray 3 (0, 0))
/-- the elements of a list of rows: the rows themselves, and the lists that they are cut from. -/
inductive LRows (F : Fx) : List (List Int) → List Value → List Value → Prop
  | nil : LRows F [] [] []
  | snoc {rs : List (List Int)} {es ls : List Value} (z : List Int) (g : Nat) : LRows F rs es ls → LInts F g z → LRows F (rs ++ [z]) (es ++ [.slice (some ⟨g, 0, none⟩) z.length (z.length + 8)]) (ls ++ [.slice (some ⟨g, 0, none⟩) (z.length + 8) (z.length + 8)])
theorem LRows.mono {F F' : Fx} (hF : F.le F') {rs : List (List Int)} {es ls : List Value} (h : LRows F rs es ls) : LRows F' rs es ls := by
  induction h with
  | nil => exact .nil
  | snoc z g _ hi ih => exact .snoc z g ih (hF _ _ hi)
theorem LRows.len {F : Fx} {rs : List (List Int)} {es ls : List Value} (h : LRows F rs es ls) : es.length = rs.length ∧ ls.length = rs.length := by
  induction h with
  | nil => exact ⟨rfl, rfl⟩
  | snoc z g _ hi ih => simp [ih.1, ih.2]
theorem LRows.at {F : Fx} {rs : List (List Int)} {es ls : List Value} (h : LRows F rs es ls) : ∀ (k : Nat) (z : List Int), rs[k]? = some z → ∃ g, LInts F g z ∧ es[k]? = some (.slice (some ⟨g, 0, none⟩) z.length (z.length + 8)) ∧ ls[k]? = some (.slice (some ⟨g, 0, none⟩) (z.length + 8) (z.length + 8)) := by
  induction h with
  | nil => intro k z e; simp at e
  | @snoc rs es ls z g hr hi ih =>
    intro k y e
    have hl := hr.len
    rcases Nat.lt_trichotomy k rs.length with hk | hk | hk
    · rw [List.getElem?_append_left hk] at e
      obtain ⟨g', h1, h2, h3⟩ := ih k y e
      exact ⟨g', h1, by rw [List.getElem?_append_left (by omega)]; exact h2, by rw [List.getElem?_append_left (by omega)]; exact h3⟩
    · subst hk
      rw [List.getElem?_append_right (Nat.le_refl _), Nat.sub_self] at e
      simp at e
      subst e
      refine ⟨g, hi, ?_, ?_⟩
      · rw [← hl.1, List.getElem?_append_right (Nat.le_refl _), Nat.sub_self]; rfl
      · rw [← hl.2, List.getElem?_append_right (Nat.le_refl _), Nat.sub_self]; rfl
    · rw [List.getElem?_eq_none (by simp; omega)] at e
      cases e
/-- what stands behind the rows. -/
def LPad (F : Fx) (v : Value) : Prop := ∃ q, v = .slice (some ⟨q, 0, none⟩) 1 1 ∧ F q = some (.cells #[.int .i64 (-77)] 3 (0, 0))
theorem LPad.mono {F F' : Fx} (hF : F.le F') {v : Value} (h : LPad F v) : LPad F' v := by
  obtain ⟨q, h1, h2⟩ := h
  exact ⟨q, h1, hF _ _ h2⟩
/-- a table as it is lent: its three cells, its columns, its rows, its lists. -/
structure LTab (F : Fx) (t : Tb) (gc gr capr : Nat) (cur : Array Value) (ls : List Value) : Prop where
  cols : LTexts F gc t.cols
  rows : F gr = some (.cells cur 32 (0, 0))
  els : ∃ es ps, LRows F t.rows es ls ∧ ps.length = 8 ∧ (∀ v ∈ ps, LPad F v) ∧ cur.toList.take (t.rows.length + 8) = es ++ ps
theorem LTab.mono {F F' : Fx} (hF : F.le F') {t : Tb} {gc gr capr : Nat} {cur : Array Value} {ls : List Value} (h : LTab F t gc gr capr cur ls) : LTab F' t gc gr capr cur ls := by
  obtain ⟨h1, h2, es, ps, h3, h4, h5, h6⟩ := h
  exact ⟨hF _ _ h1, hF _ _ h2, es, ps, h3.mono hF, h4, fun v hv => (h5 v hv).mono hF, h6⟩
/-- tables as they are lent: the cells of the tables, of the columns, of the rows, of the lists. -/
inductive LTabs (F : Fx) : List Tb → List Value → List Value → List Value → List Value → Prop
  | nil : LTabs F [] [] [] [] []
  | snoc {l : List Tb} {ts cs rs ls ls2 : List Value} (t : Tb) (gc gr capr : Nat) (cur : Array Value) : LTabs F l ts cs rs ls → LTab F t gc gr capr cur ls2 →
      LTabs F (l ++ [t]) (ts ++ [.string t.name, .slice (some ⟨gc, 0, none⟩) t.cols.length (t.cols.length + 8), .slice (some ⟨gr, 0, none⟩) t.rows.length capr]) (cs ++ [.slice (some ⟨gc, 0, none⟩) (t.cols.length + 8) (t.cols.length + 8)]) (rs ++ [.slice (some ⟨gr, 0, none⟩) (t.rows.length + 8) capr]) (ls ++ ls2)
theorem LTabs.mono {F F' : Fx} (hF : F.le F') {l : List Tb} {ts cs rs ls : List Value} (h : LTabs F l ts cs rs ls) : LTabs F' l ts cs rs ls := by
  induction h with
  | nil => exact .nil
  | snoc t gc gr capr cur _ ht ih => exact .snoc t gc gr capr cur ih (ht.mono hF)
/-- how many rows tables have. -/
def nrows : List Tb → Nat
  | [] => 0
  | t :: r => t.rows.length + nrows r
theorem nrows_append (a b : List Tb) : nrows (a ++ b) = nrows a + nrows b := by
  induction a with
  | nil => simp [nrows]
  | cons t r ih => simp only [List.cons_append, nrows, ih]; omega
theorem LTabs.len {F : Fx} {l : List Tb} {ts cs rs ls : List Value} (h : LTabs F l ts cs rs ls) : ts.length = l.length * 3 ∧ cs.length = l.length ∧ rs.length = l.length ∧ ls.length = nrows l := by
  induction h with
  | nil => exact ⟨rfl, rfl, rfl, rfl⟩
  | snoc t gc gr capr cur _ ht ih =>
    obtain ⟨_, _, es, ps, h3, _⟩ := ht
    refine ⟨?_, ?_, ?_, ?_⟩
    · simp; omega
    · simp [ih.2.1]
    · simp [ih.2.2.1]
    · rw [List.length_append, nrows_append, ih.2.2.2, h3.len.2]; simp [nrows]
/-- the table at a place. -/
theorem LTabs.at {F : Fx} {l : List Tb} {ts cs rs ls : List Value} (h : LTabs F l ts cs rs ls) : ∀ (pre suf : List Tb) (t : Tb), l = pre ++ t :: suf → ∃ gc gr capr cur ls1 ls2 ls3, LTab F t gc gr capr cur ls2 ∧ ls = ls1 ++ (ls2 ++ ls3) ∧ ls1.length = nrows pre ∧
    ts[pre.length * 3]? = some (.string t.name) ∧ ts[pre.length * 3 + 1]? = some (.slice (some ⟨gc, 0, none⟩) t.cols.length (t.cols.length + 8)) ∧ ts[pre.length * 3 + 2]? = some (.slice (some ⟨gr, 0, none⟩) t.rows.length capr) ∧
    cs[pre.length]? = some (.slice (some ⟨gc, 0, none⟩) (t.cols.length + 8) (t.cols.length + 8)) ∧ rs[pre.length]? = some (.slice (some ⟨gr, 0, none⟩) (t.rows.length + 8) capr) := by
  induction h with
  | nil => intro pre suf t e; simp at e
  | @snoc l ts cs rs ls ls2 u gc gr capr cur hr ht ih =>
    intro pre suf t e
    have hl := hr.len
    rcases List.eq_nil_or_concat suf with rfl | ⟨suf', x, rfl⟩
    · obtain ⟨rfl, e2⟩ := List.append_inj' e rfl
      injection e2 with e2
      subst e2
      refine ⟨gc, gr, capr, cur, ls, ls2, [], ht, by simp, hl.2.2.2, ?_, ?_, ?_, ?_, ?_⟩
      · rw [← hl.1, List.getElem?_append_right (Nat.le_refl _), Nat.sub_self]; rfl
      · rw [← hl.1, List.getElem?_append_right (by omega), Nat.add_sub_cancel_left]; rfl
      · rw [← hl.1, List.getElem?_append_right (by omega), Nat.add_sub_cancel_left]; rfl
      · rw [← hl.2.1, List.getElem?_append_right (Nat.le_refl _), Nat.sub_self]; rfl
      · rw [← hl.2.2.1, List.getElem?_append_right (Nat.le_refl _), Nat.sub_self]; rfl
    · have e' : l ++ [u] = (pre ++ t :: suf') ++ [x] := by rw [e]; simp
      obtain ⟨e1, e2⟩ := List.append_inj' e' rfl
      obtain ⟨gc', gr', capr', cur', l1, l2, l3, k1, k2, k3, k4, k5, k6, k7, k8⟩ := ih pre suf' t e1
      have hlen : pre.length < l.length := by rw [e1]; simp
      refine ⟨gc', gr', capr', cur', l1, l2, l3 ++ ls2, k1, by rw [k2]; simp, k3, ?_, ?_, ?_, ?_, ?_⟩
      · rw [List.getElem?_append_left (by omega)]; exact k4
      · rw [List.getElem?_append_left (by omega)]; exact k5
      · rw [List.getElem?_append_left (by omega)]; exact k6
      · rw [List.getElem?_append_left (by omega)]; exact k7
      · rw [List.getElem?_append_left (by omega)]; exact k8
end Go.Proofs.YtfkeddkfegaeiaaGreatDoor
namespace Go.Proofs.YtfkeddkfegaeiaaGreatDoor
open Go.RowKit
def eTable : Nat := 5
def eColumn : Nat := 6
def eTwice : Nat := 7
def tb0 : Tb := ⟨⟨#[]⟩, [], []⟩
/-- a source: the name that its rows are spoken by, its table's number, where its numbers begin. -/
structure Sr where
  alias : ByteArray
  tab : Nat
  first : Nat
def spoken (ss : List Sr) (a : ByteArray) : Option Sr := ss.find? fun s => s.alias.toList == a.toList
def tabNo (T : List Tb) (a : ByteArray) : Option Nat := T.findIdx? fun t => t.name.toList == a.toList
def colsOf (T : List Tb) (s : Sr) : List ByteArray := (T.getD s.tab tb0).cols
/-- where a column's number stands. -/
def colAt (T : List Tb) (ss : List Sr) (a c : ByteArray) : Int := match spoken ss a with
  | none => 0
  | some s => s.first + Lib.idxOfS (colsOf T s) c
/-- what is wrong with a node. -/
def ndErr (T : List Tb) (ss : List Sr) (n : Nd) : Option (Nat × Nat) :=
  if n.tag = 2 then
    match spoken ss n.s1 with
    | none => some (n.p1, eTable)
    | some s => if Lib.idxOfS (colsOf T s) n.s2 < 0 then some (n.p2, eColumn) else none
  else none
def exErr (T : List Tb) (ss : List Sr) (l : List Nd) : Option (Nat × Nat) := l.findSome? (ndErr T ss)
/-- the first of two errors. -/
def orE (a b : Option (Nat × Nat)) : Option (Nat × Nat) := match a with
  | some x => some x
  | none => b
theorem orE_none (a : Option (Nat × Nat)) : orE a none = a := by cases a <;> rfl
theorem orE_assoc (a b c : Option (Nat × Nat)) : orE (orE a b) c = orE a (orE b c) := by cases a <;> rfl
theorem orE_eq_none {a b : Option (Nat × Nat)} (h : orE a b = none) : a = none ∧ b = none := by
  cases a with
  | none => exact ⟨rfl, h⟩
  | some x => cases h
theorem exErr_cons (T : List Tb) (ss : List Sr) (n : Nd) (l : List Nd) : exErr T ss (n :: l) = orE (ndErr T ss n) (exErr T ss l) := by
  unfold exErr
  rw [List.findSome?_cons]
  cases ndErr T ss n <;> rfl
theorem exErr_append (T : List Tb) (ss : List Sr) (k l : List Nd) : exErr T ss (k ++ l) = orE (exErr T ss k) (exErr T ss l) := by
  induction k with
  | nil => rfl
  | cons n k ih => rw [List.cons_append, exErr_cons, exErr_cons, ih, orE_assoc]
/-- what two numbers come to by a sign. -/
def opOf (sg : ByteArray) (a b : Int) : Int := if sg.toList == [43] then wrap64 (a + b) else if sg.toList == [45] then wrap64 (a - b) else wrap64 (a * b)
/-- what an expr comes to, off its nodes (from the right). -/
def evStep (at' : ByteArray → ByteArray → Int) (n : Nd) (S : List (List Int → Int)) : List (List Int → Int) := match n.tag with
  | 0 => (fun _ => n.v) :: S
  | 1 => match S with
    | a :: S' => (fun r => wrap64 (-(a r))) :: S'
    | [] => []
  | 2 => (fun r => r.getD (at' n.s1 n.s2).toNat 0) :: S
  | 3 => match S with
    | a :: S' => a :: S'
    | [] => []
  | _ => match S with
    | a :: b :: S' => (fun r => opOf n.s1 (a r) (b r)) :: S'
    | _ => []
def evS (at' : ByteArray → ByteArray → Int) (l : List Nd) (S : List (List Int → Int)) : List (List Int → Int) := l.foldr (evStep at') S
def evE (at' : ByteArray → ByteArray → Int) (l : List Nd) : List Int → Int := (evS at' l []).headD (fun _ => 0)
def WfV (at' : ByteArray → ByteArray → Int) (l : List Nd) : Prop := ∀ S, evS at' l S = evE at' l :: S
theorem evS_append (at' : ByteArray → ByteArray → Int) (k m : List Nd) (S : List (List Int → Int)) : evS at' (k ++ m) S = evS at' k (evS at' m S) := List.foldr_append
theorem wfv_of {at' : ByteArray → ByteArray → Int} {l : List Nd} {t : List Int → Int} (h : ∀ S, evS at' l S = t :: S) : WfV at' l ∧ evE at' l = t := by
  have e : evE at' l = t := by unfold evE; rw [h]; rfl
  exact ⟨fun S => by rw [h, e], e⟩
theorem ev_num (at' : ByteArray → ByteArray → Int) (t : Tk) : WfV at' [ndNum t] ∧ evE at' [ndNum t] = fun _ => t.value := wfv_of fun _ => rfl
theorem ev_col (at' : ByteArray → ByteArray → Int) (t u : Tk) : WfV at' [ndCol t u] ∧ evE at' [ndCol t u] = fun r => r.getD (at' t.text u.text).toNat 0 := wfv_of fun _ => rfl
theorem ev_minus {at' : ByteArray → ByteArray → Int} {k : List Nd} (h : WfV at' k) (p : Nat) : WfV at' (ndMinus p :: k) ∧ evE at' (ndMinus p :: k) = fun r => wrap64 (-(evE at' k r)) := wfv_of fun S => by
  show evStep at' (ndMinus p) (evS at' k S) = _
  rw [h S]; rfl
theorem ev_br {at' : ByteArray → ByteArray → Int} {k : List Nd} (h : WfV at' k) (p : Nat) : WfV at' (ndBr p :: k) ∧ evE at' (ndBr p :: k) = evE at' k := wfv_of fun S => by
  show evStep at' (ndBr p) (evS at' k S) = _
  rw [h S]; rfl
theorem ev_pair {at' : ByteArray → ByteArray → Int} {k m : List Nd} (h : WfV at' k) (h' : WfV at' m) (p : Nat) (sg : ByteArray) : WfV at' (ndPair p sg :: (k ++ m)) ∧ evE at' (ndPair p sg :: (k ++ m)) = fun r => opOf sg (evE at' k r) (evE at' m r) := wfv_of fun S => by
  show evStep at' (ndPair p sg) (evS at' (k ++ m) S) = _
  rw [evS_append, h' S, h]; rfl
theorem ExP.wfv {w : World} {P : Nat → Prop} (at' : ByteArray → ByteArray → Int) : ∀ (n : Nat) (v : Value) (l : List Nd), ExP w P n v l → WfV at' l
  | 0, _, _, h => h.elim
  | n + 1, v, l, h => by
    rcases h with ⟨b, t, _, _, _, rfl⟩ | ⟨b, p, x, k, _, _, _, h3, rfl⟩ | ⟨b, t, u, _, _, _, rfl⟩ | ⟨b, p, x, k, _, _, _, h3, rfl⟩ | ⟨b, p, x, sg, y, k, m, _, _, _, h3, h4, rfl⟩
    · exact (ev_num at' t).1
    · exact (ev_minus (ExP.wfv at' n x k h3) p).1
    · exact (ev_col at' t u).1
    · exact (ev_br (ExP.wfv at' n x k h3) p).1
    · exact (ev_pair (ExP.wfv at' n x k h3) (ExP.wfv at' n y m h4) p sg).1
/-- what lay in w0, and the blocks F. -/
structure Fits (w0 : World) (F : Fx) (W : World) : Prop where
  old : Below w0.heap.size w0 W
  new : ∀ b o, F b = some o → W.heap[b]? = some o
theorem Fits.below {w0 W W' : World} {F : Fx} (h : Fits w0 F W) (hb : Below W.heap.size W W') : Fits w0 F W' :=
  ⟨h.old.trans (hb.mono h.old.size), fun b o e => by rw [hb.block b (lt_size (h.new b o e))]; exact h.new b o e⟩
theorem Fits.mono {w0 W : World} {F F' : Fx} (h : Fits w0 F' W) (hF : F.le F') : Fits w0 F W := ⟨h.old, fun b o e => h.new b o (hF b o e)⟩
/-- without the blocks of which X holds. -/
def Fx.off (F : Fx) (X : Nat → Bool) : Fx := fun b => if X b then none else F b
theorem Fx.off_mono {F F' : Fx} (h : F.le F') (X : Nat → Bool) : (F.off X).le (F'.off X) := fun b o e => by
  unfold Fx.off at e ⊢
  split at e
  · cases e
  · rename_i hx; rw [if_neg hx]; exact h b o e
theorem Fx.off_some {F : Fx} {X : Nat → Bool} {b : Nat} {o : Obj} (h : F b = some o) (hx : X b = false) : F.off X b = some o := by
  unfold Fx.off; rw [hx]; exact h
abbrev Enters (g : Nat) : Prop := ∀ args w, (callFunc g args).run Tryz.prog w = .ok (.enter g args) w
/-- a function value that gives f of a row of n numbers. -/
def FnV (w0 : World) (F : Fx) (n : Nat) (v : Value) (f : List Int → Int) : Prop := ∃ g cb, v = .func (.func g) #[] cb ∧ Enters g ∧ ∀ (W : World) (rv : Value) (row : List Int), Fits w0 F W → row.length = n → RowAt W rv (intsV row) → Calls Tryz.prog g (#[rv] ++ cb) W fun e W' => e = .returned (.int .i64 (f row)) ∧ Below W.heap.size W W'
theorem FnV.mono {w0 : World} {F F' : Fx} {n : Nat} {v : Value} {f : List Int → Int} (h : FnV w0 F n v f) (hF : F.le F') : FnV w0 F' n v f := by
  obtain ⟨g, cb, h1, h2, h3⟩ := h
  exact ⟨g, cb, h1, h2, fun W rv row hW => h3 W rv row (hW.mono hF)⟩
/-- one that tells p of a row. -/
def TsV (w0 : World) (F : Fx) (n : Nat) (v : Value) (p : List Int → Bool) : Prop := ∃ g cb, v = .func (.func g) #[] cb ∧ Enters g ∧ ∀ (W : World) (rv : Value) (row : List Int), Fits w0 F W → row.length = n → RowAt W rv (intsV row) → Calls Tryz.prog g (#[rv] ++ cb) W fun e W' => e = .returned (.bool (p row)) ∧ Below W.heap.size W W'
theorem TsV.mono {w0 : World} {F F' : Fx} {n : Nat} {v : Value} {p : List Int → Bool} (h : TsV w0 F n v p) (hF : F.le F') : TsV w0 F' n v p := by
  obtain ⟨g, cb, h1, h2, h3⟩ := h
  exact ⟨g, cb, h1, h2, fun W rv row hW => h3 W rv row (hW.mono hF)⟩
end Go.Proofs.YtfkeddkfegaeiaaGreatDoor
namespace Go.Proofs.YtfkeddkfegaeiaaGreatDoor
open Go.RowKit
/-- the variables that hold errors. -/
def tw (j : Nat) : Bool := decide (j < 13) && j != 10
theorem tw_lt {j : Nat} (h : tw j = true) : j < 13 := by
  unfold tw at h
  simp only [Bool.and_eq_true, decide_eq_true_eq] at h
  exact h.1
/-- all twelve errors. -/
structure EnvX (a : Nat → Addr) (B : Nat) (w : World) : Prop where
  env : Env a B w
  cell : ∀ j, tw j = true → w.cell? ⟨j, 0, none⟩ = some (.iface 496 (.pointer (some (a j))))
  below : ∀ j, tw j = true → (a j).block < B
  row : ∀ j, tw j = true → ∃ c t, w.heap[(a j).block]? = some (.cells c t (0, 0))
  ne : ∀ i j, tw i = true → tw j = true → i ≠ j → a i ≠ a j
theorem EnvX.keep {a : Nat → Addr} {B : Nat} {w w' : World} (h : EnvX a B w) (hb : Below B w w') : EnvX a B w' := by
  refine ⟨h.env.keep hb, fun j hj => ?_, h.below, fun j hj => ?_, h.ne⟩
  · rw [hb.cell (p := ⟨j, 0, none⟩) (Nat.lt_of_lt_of_le (tw_lt hj) h.env.low)]; exact h.cell j hj
  · obtain ⟨c, t, hr⟩ := h.row j hj
    exact ⟨c, t, by rw [hb.block _ (h.below j hj)]; exact hr⟩
theorem EnvX.alloc {a : Nat → Addr} {B : Nat} {w : World} (h : EnvX a B w) (o : Obj) : EnvX a B (w.alloc o) := h.keep ((Below.refl _ _).alloc h.env.size _)
theorem EnvX.other {a : Nat → Addr} {B : Nat} {w : World} (h : EnvX a B w) (i j : Nat) (hi : tw i = true) (hj : tw j = true) (hij : i ≠ j) :
    (binOp .eql 23 (errV a i) (errV a j)).run Tryz.prog w = .ok (.bool false) w := by
  obtain ⟨x, hx, hcmp⟩ := Option.map_eq_some_iff.1 isComp
  obtain ⟨y, hy, hys⟩ := Option.map_eq_some_iff.1 isSize
  obtain ⟨c, t, hr⟩ := h.row i hi
  obtain ⟨c', t', hr'⟩ := h.row j hj
  exact run_eql_iface_ptr_other w Tryz.underlying23 Tryz.underlying496 hx hcmp hy (by rw [hys]; decide) (h.ne i j hi hj hij) hr hr'
end Go.Proofs.YtfkeddkfegaeiaaGreatDoor
namespace Go.Proofs.YtfkeddkfegaeiaaGreatDoor
open Go.RowKit
/-- the finder's surroundings: the world it began in, the errors, its block, where the tables lie, the tables, the blocks that may turn later, whether no window may be. -/
structure Fc where
  w0 : World
  a : Nat → Addr
  fb : Nat
  tb : Nat
  tof : Nat
  tc : Nat
  T : List Tb
  X : Nat → Bool
  iw : Bool
def Fc.tabs (c : Fc) : Value := .slice (some ⟨c.tb, c.tof, none⟩) c.T.length c.tc
/-- the cells of sources. -/
def srP (c : Fc) (ss : List Sr) : List Value := ss.flatMap fun s => [.string s.alias, .pointer (some ⟨c.tb, c.tof + s.tab * 3, none⟩), .int .i64 s.first]
theorem srP_snoc (c : Fc) (ss : List Sr) (s : Sr) : srP c ss ++ [.string s.alias, .pointer (some ⟨c.tb, c.tof + s.tab * 3, none⟩), .int .i64 s.first] = srP c (ss ++ [s]) := by simp [srP]
theorem srP_len (c : Fc) (ss : List Sr) : (srP c ss).length = ss.length * 3 := by
  induction ss with
  | nil => rfl
  | cons s r ih => simp only [srP, List.flatMap_cons, List.length_append, List.length_cons, List.length_nil] at ih ⊢; omega
theorem srP_at (c : Fc) (pre suf : List Sr) (s : Sr) : (srP c (pre ++ s :: suf))[pre.length * 3]? = some (.string s.alias) ∧ (srP c (pre ++ s :: suf))[pre.length * 3 + 1]? = some (.pointer (some ⟨c.tb, c.tof + s.tab * 3, none⟩)) ∧ (srP c (pre ++ s :: suf))[pre.length * 3 + 2]? = some (.int .i64 s.first) := by
  have e : srP c (pre ++ s :: suf) = srP c pre ++ ([.string s.alias, .pointer (some ⟨c.tb, c.tof + s.tab * 3, none⟩), .int .i64 s.first] ++ srP c suf) := by simp [srP]
  have hl := srP_len c pre
  rw [e]
  refine ⟨?_, ?_, ?_⟩
  · rw [List.getElem?_append_right (by omega), hl, Nat.sub_self]; rfl
  · rw [List.getElem?_append_right (by omega), hl, Nat.add_sub_cancel_left]; rfl
  · rw [List.getElem?_append_right (by omega), hl, Nat.add_sub_cancel_left]; rfl
/-- the first error. -/
def ErrF (F : Fx) (a : Nat → Addr) (ev : Value) : Option (Nat × Nat) → Prop
  | none => ev = .nilIface
  | some (p, k) => ∃ b, ev = .iface 110 (.pointer (some ⟨b, 0, none⟩)) ∧ F b = some (.cells #[.int .i64 (p : Nat), errV a k] 113 (0, 0))
theorem ErrF.mono {F F' : Fx} (hF : F.le F') {a : Nat → Addr} {ev : Value} {er : Option (Nat × Nat)} (h : ErrF F a ev er) : ErrF F' a ev er := by
  match er, h with
  | none, h => exact h
  | some (p, k), ⟨b, h1, h2⟩ => exact ⟨b, h1, hF _ _ h2⟩
/-- the finder, in the making. -/
structure FS (c : Fc) (F : Fx) (W : World) (sv iv tv ev : Value) (wd : Nat) (ss : List Sr) (er : Option (Nat × Nat)) : Prop where
  env : EnvX c.a c.w0.heap.size W
  old : Below c.w0.heap.size c.w0 W
  grow : Grow c.w0.heap.size F c.fb [sv, iv, tv] W
  box : W.heap[c.fb]? = some (.cells #[c.tabs, .bool c.iw, sv, .int .i64 wd, iv, tv, ev] 299 (0, 0))
  err : ErrF F c.a ev er
  tabs : ∀ W', Fits c.w0 F W' → TabsAt W' c.tabs c.T
  srcs : W.ownsRow c.w0.heap.size 423 3 sv ss.length (srP c ss)
  few : ss.length ≤ 3
  ok : ∀ s ∈ ss, s.tab < c.T.length
  wide : wd ≤ 6 * ss.length ∧ (∀ s ∈ ss, s.first + (colsOf c.T s).length ≤ wd) ∧ ∀ t ∈ c.T, t.cols.length ≤ 6
  fbX : ∀ b, c.X b = true → b < W.heap.size
  low : c.w0.heap.size ≤ c.fb
/-- what a step of the finder leaves of the fixed blocks. -/
structure Ext (n : Nat) (F F' : Fx) : Prop where
  le : F.le F'
  old : ∀ b, b < n → F' b = F b
theorem Ext.refl (n : Nat) (F : Fx) : Ext n F F := ⟨Fx.le.refl F, fun _ _ => rfl⟩
theorem Ext.trans {n m : Nat} {F F' F'' : Fx} (h : Ext n F F') (k : Ext m F' F'') (hn : n ≤ m) : Ext n F F'' := ⟨h.le.trans k.le, fun b hb => (k.old b (by omega)).trans (h.old b hb)⟩
theorem Ext.mono {n m : Nat} {F F' : Fx} (h : Ext m F F') (hn : n ≤ m) : Ext n F F' := ⟨h.le, fun b hb => h.old b (by omega)⟩
theorem Ext.set {n : Nat} {F : Fx} {b : Nat} (o : Obj) (hb : n ≤ b) (h : F b = none) : Ext n F (F.set b o) := ⟨Fx.le_set o h, fun k hk => Fx.set_other F o (by omega)⟩
theorem FS.fits {c : Fc} {F : Fx} {W : World} {sv iv tv ev : Value} {wd : Nat} {ss : List Sr} {er : Option (Nat × Nat)} (h : FS c F W sv iv tv ev wd ss er) : Fits c.w0 F W := ⟨h.old, fun b o e => (h.grow.fits b o e).2⟩
/-- new blocks. -/
theorem FS.below {c : Fc} {F : Fx} {W W' : World} {sv iv tv ev : Value} {wd : Nat} {ss : List Sr} {er : Option (Nat × Nat)} (h : FS c F W sv iv tv ev wd ss er) (hb : Below W.heap.size W W') : FS c F W' sv iv tv ev wd ss er :=
  ⟨h.env.keep (hb.mono h.old.size), h.old.trans (hb.mono h.old.size), h.grow.below hb, (hb.block _ h.grow.ltp).trans h.box, h.err, h.tabs, owns_below h.srcs hb, h.few, h.ok, h.wide, fun b e => Nat.lt_of_lt_of_le (h.fbX b e) hb.size, h.low⟩
theorem FS.alloc {c : Fc} {F : Fx} {W : World} {sv iv tv ev : Value} {wd : Nat} {ss : List Sr} {er : Option (Nat × Nat)} (h : FS c F W sv iv tv ev wd ss er) (o : Obj) : FS c F (W.alloc o) sv iv tv ev wd ss er := h.below ((Below.refl _ _).alloc (Nat.le_refl _) _)
theorem FS.drew {c : Fc} {F : Fx} {W : World} {sv iv tv ev : Value} {wd : Nat} {ss : List Sr} {er : Option (Nat × Nat)} (h : FS c F W sv iv tv ev wd ss er) : FS c F W.drew sv iv tv ev wd ss er := h.below (Below.refl _ _).drew
/-- a new block is laid down for good. -/
theorem FS.fix {c : Fc} {F : Fx} {W : World} {sv iv tv ev : Value} {wd : Nat} {ss : List Sr} {er : Option (Nat × Nat)} (h : FS c F W sv iv tv ev wd ss er) {b : Nat} {o : Obj} (hb : W.heap[b]? = some o) (hlo : c.w0.heap.size ≤ b) (hp : b ≠ c.fb) (hv : ∀ v ∈ [sv, iv, tv], v.ownBlock ≠ some b) (hn : F b = none) : FS c (F.set b o) W sv iv tv ev wd ss er :=
  ⟨h.env, h.old, h.grow.fix hlo hb hp hv, h.box, h.err.mono (Fx.le_set o hn), fun W' hW' => h.tabs W' (hW'.mono (Fx.le_set o hn)), h.srcs, h.few, h.ok, h.wide, h.fbX, h.low⟩
/-- .. one that is newer than W0. -/
theorem FS.fixNew {c : Fc} {F F0 : Fx} {W0 W : World} {sv iv tv ev ev0 : Value} {wd : Nat} {ss : List Sr} {er er0 : Option (Nat × Nat)} (h : FS c F W sv iv tv ev wd ss er) (h0 : FS c F0 W0 sv iv tv ev0 wd ss er0) {b : Nat} {o : Obj} (hb : W.heap[b]? = some o) (hlo : W0.heap.size ≤ b) (hn : F b = none) : FS c (F.set b o) W sv iv tv ev wd ss er :=
  h.fix hb (Nat.le_trans h0.old.size hlo) (fun e => by have := h0.grow.ltp; omega) (fun v hv e => by have := (h0.grow.off v hv b e).2.2.2; omega) hn
theorem FS.facts {c : Fc} {F : Fx} {W : World} {sv iv tv ev : Value} {wd : Nat} {ss : List Sr} {er : Option (Nat × Nat)} (h : FS c F W sv iv tv ev wd ss er) : (∀ o, W.cell? ⟨c.fb, o, none⟩ = #[c.tabs, .bool c.iw, sv, .int .i64 wd, iv, tv, ev][o]?) ∧ (∀ o, W.frozen? ⟨c.fb, o, none⟩ = false) ∧ c.fb < W.heap.size :=
  ⟨(blk h.box).1, (blk h.box).2, h.grow.ltp⟩
/-- the error is set. -/
theorem FS.setErr {c : Fc} {F : Fx} {W : World} {sv iv tv ev ev' : Value} {wd : Nat} {ss : List Sr} {er er' : Option (Nat × Nat)} (h : FS c F W sv iv tv ev wd ss er) (he : ErrF F c.a ev' er') : FS c F (W.setCell ⟨c.fb, 6, none⟩ ev') sv iv tv ev' wd ss er' := by
  have hlo := h.low
  refine ⟨h.env.keep ((Below.refl _ _).setCell hlo _), h.old.setCell hlo _, h.grow.box _ _, (heap_set h.box _).trans rfl, he, h.tabs, ?_, h.few, h.ok, h.wide, fun b e => by simpa using h.fbX b e, hlo⟩
  refine owns_set h.srcs (fun e => ?_)
  exact (h.grow.off sv List.mem_cons_self _ e).2.1 rfl
set_option maxRecDepth 100000 in
set_option maxHeartbeats 1000000 in
theorem ffail_any (c : Fc) (F : Fx) (W : World) (sv iv tv ev : Value) (wd : Nat) (ss : List Sr) (er : Option (Nat × Nat)) (h : FS c F W sv iv tv ev wd ss er) (b p k : Nat) (hb : F b = some (.cells #[.int .i64 (p : Nat), errV c.a k] 113 (0, 0))) :
    Calls Tryz.prog 244 #[.pointer (some ⟨c.fb, 0, none⟩), .iface 110 (.pointer (some ⟨b, 0, none⟩))] W fun e W' => e = .returned (.tuple #[]) ∧ Kp c.fb W W' ∧ ∃ ev', FS c F W' sv iv tv ev' wd ss (orE er (some (p, k))) := by
  obtain ⟨j, fz, z⟩ := h.facts
  have HH := hide h
  have he := h.err
  have HB := hide hb
  clear h hb
  match er, he, HH with
  | none, he, HH =>
    obtain rfl : ev = .nilIface := he
    go_enter Tryz.func244, Tryz.ntmps244
    go_wp2
    go_end0
    exact ⟨rfl, (Kp.refl _ _).setCell _ _, _, (unhide HH).setErr (er' := some (p, k)) ⟨b, rfl, unhide HB⟩⟩
  | some (p', k'), he, HH =>
    obtain ⟨b', rfl, he'⟩ := he
    clear he'
    go_enter Tryz.func244, Tryz.ntmps244
    go_wp2
    go_end0
    exact ⟨rfl, Kp.refl _ _, _, unhide HH⟩
end Go.Proofs.YtfkeddkfegaeiaaGreatDoor
