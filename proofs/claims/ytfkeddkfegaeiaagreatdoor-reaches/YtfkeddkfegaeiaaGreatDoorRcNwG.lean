/-
  Part 19.
-/
import Derived.Test.YtfkeddkfegaeiaaGreatDoorRcTel
import Derived.Test.YtfkeddkfegaeiaaGreatDoorRcWin
import Derived.Test.YtfkeddkfegaeiaaGreatDoorRcTll
import Derived.Test.YtfkeddkfegaeiaaGreatDoorRcPure
import Derived.WalkLawsBesides
import Derived.Lib.SlBytesRow
import Derived.Deep.RegionWith
namespace Go.Proofs.YtfkeddkfegaeiaaGreatDoor
open Go.RowKit
abbrev beyondB : ByteArray := ⟨#[98, 101, 121, 111, 110, 100]⟩
/-- a list of texts as it is lent. -/
def LTexts (F : Fx) (g : Nat) (ts : List ByteArray) : Prop := F g = some (.cells (textsV (ts ++ List.replicate 8 beyondB)).toArray 9 (0, 0))
/-- a list of numbers as it is lent. -/
def LInts (F : Fx) (g : Nat) (zs : List Int) : Prop := F g = some (.cells (intsV (zs ++ List.replicate 8 (-77))).toArray 3 (0, 0))
/-- the elements of a list of rows: the rows themselves, and the lists that they are cut from. -/
inductive LRows (F : Fx) : List (List Int) → List Value → List Value → Prop
  | nil : LRows F [] [] []
  | snoc {rs : List (List Int)} {es ls : List Value} (z : List Int) (g : Nat) : LRows F rs es ls → LInts F g z → LRows F (rs ++ [z]) (es ++ [.slice (some ⟨g, 0, none⟩) z.length (z.length + 8)]) (ls ++ [.slice (some ⟨g, 0, none⟩) (z.length + 8) (z.length + 8)])
theorem LRows.mono {F F' : Fx} (hF : F.le F') {rs : List (List Int)} {es ls : List Value} (h : LRows F rs es ls) : LRows F' rs es ls := by
  induction h with
  | nil => exact .nil
  | snoc z g _ hi ih => exact .snoc z g ih (hF _ _ hi)
theorem LRows.len {F : Fx} {rs : List (List Int)} {es ls : List Value} (h : LRows F rs es ls) : es.length = rs.length ∧ ls.length = rs.length := by
  induction h with
  | nil => exact ⟨rfl, rfl⟩
  | snoc z g _ hi ih => simp [ih.1, ih.2]
theorem LRows.at {F : Fx} {rs : List (List Int)} {es ls : List Value} (h : LRows F rs es ls) : ∀ (k : Nat) (z : List Int), rs[k]? = some z → ∃ g, LInts F g z ∧ es[k]? = some (.slice (some ⟨g, 0, none⟩) z.length (z.length + 8)) ∧ ls[k]? = some (.slice (some ⟨g, 0, none⟩) (z.length + 8) (z.length + 8)) := by
  induction h with
  | nil => intro k z e; simp at e
  | @snoc rs es ls z g hr hi ih =>
    intro k y e
    have hl := hr.len
    rcases Nat.lt_trichotomy k rs.length with hk | hk | hk
    · rw [List.getElem?_append_left hk] at e
      obtain ⟨g', h1, h2, h3⟩ := ih k y e
      exact ⟨g', h1, by rw [List.getElem?_append_left (by omega)]; exact h2, by rw [List.getElem?_append_left (by omega)]; exact h3⟩
    · subst hk
      rw [List.getElem?_append_right (Nat.le_refl _), Nat.sub_self] at e
      simp at e
      subst e
      refine ⟨g, hi, ?_, ?_⟩
      · rw [← hl.1, List.getElem?_append_right (Nat.le_refl _), Nat.sub_self]; rfl
      · rw [← hl.2, List.getElem?_append_right (Nat.le_refl _), Nat.sub_self]; rfl
    · rw [List.getElem?_eq_none (by simp; omega)] at e
      cases e
/-- what stands behind the rows. -/
def LPad (F : Fx) (v : Value) : Prop := ∃ q, v = .slice (some ⟨q, 0, none⟩) 1 1 ∧ F q = some (.cells #[.int .i64 (-77)] 3 (0, 0))
theorem LPad.mono {F F' : Fx} (hF : F.le F') {v : Value} (h : LPad F v) : LPad F' v := by
  obtain ⟨q, h1, h2⟩ := h
  exact ⟨q, h1, hF _ _ h2⟩
/-- a table as it is lent: its three cells, its columns, its rows, its lists. -/
structure LTab (F : Fx) (t : Tb) (gc gr capr : Nat) (cur : Array Value) (ls : List Value) : Prop where
  cols : LTexts F gc t.cols
  rows : F gr = some (.cells cur 32 (0, 0))
  els : ∃ es ps, LRows F t.rows es ls ∧ ps.length = 8 ∧ (∀ v ∈ ps, LPad F v) ∧ cur.toList.take (t.rows.length + 8) = es ++ ps
theorem LTab.mono {F F' : Fx} (hF : F.le F') {t : Tb} {gc gr capr : Nat} {cur : Array Value} {ls : List Value} (h : LTab F t gc gr capr cur ls) : LTab F' t gc gr capr cur ls := by
  obtain ⟨h1, h2, es, ps, h3, h4, h5, h6⟩ := h
  exact ⟨hF _ _ h1, hF _ _ h2, es, ps, h3.mono hF, h4, fun v hv => (h5 v hv).mono hF, h6⟩
/-- tables as they are lent: the cells of the tables, of the columns, of the rows, of the lists. -/
inductive LTabs (F : Fx) : List Tb → List Value → List Value → List Value → List Value → Prop
  | nil : LTabs F [] [] [] [] []
  | snoc {l : List Tb} {ts cs rs ls ls2 : List Value} (t : Tb) (gc gr capr : Nat) (cur : Array Value) : LTabs F l ts cs rs ls → LTab F t gc gr capr cur ls2 →
      LTabs F (l ++ [t]) (ts ++ [.string t.name, .slice (some ⟨gc, 0, none⟩) t.cols.length (t.cols.length + 8), .slice (some ⟨gr, 0, none⟩) t.rows.length capr]) (cs ++ [.slice (some ⟨gc, 0, none⟩) (t.cols.length + 8) (t.cols.length + 8)]) (rs ++ [.slice (some ⟨gr, 0, none⟩) (t.rows.length + 8) capr]) (ls ++ ls2)
theorem LTabs.mono {F F' : Fx} (hF : F.le F') {l : List Tb} {ts cs rs ls : List Value} (h : LTabs F l ts cs rs ls) : LTabs F' l ts cs rs ls := by
  induction h with
  | nil => exact .nil
  | snoc t gc gr capr cur _ ht ih => exact .snoc t gc gr capr cur ih (ht.mono hF)
/-- how many rows tables have. -/
def nrows : List Tb → Nat
  | [] => 0
  | t :: r => t.rows.length + nrows r
theorem nrows_append (a b : List Tb) : nrows (a ++ b) = nrows a + nrows b := by
  induction a with
  | nil => simp [nrows]
  | cons t r ih => simp only [List.cons_append, nrows, ih]; omega
theorem LTabs.len {F : Fx} {l : List Tb} {ts cs rs ls : List Value} (h : LTabs F l ts cs rs ls) : ts.length = l.length * 3 ∧ cs.length = l.length ∧ rs.length = l.length ∧ ls.length = nrows l := by
  induction h with
  | nil => exact ⟨rfl, rfl, rfl, rfl⟩
  | snoc t gc gr capr cur _ ht ih =>
    obtain ⟨_, _, es, ps, h3, _⟩ := ht
    refine ⟨?_, ?_, ?_, ?_⟩
    · simp; omega
    · simp [ih.2.1]
    · simp [ih.2.2.1]
    · rw [List.length_append, nrows_append, ih.2.2.2, h3.len.2]; simp [nrows]
/-- the table at a place. -/
theorem LTabs.at {F : Fx} {l : List Tb} {ts cs rs ls : List Value} (h : LTabs F l ts cs rs ls) : ∀ (pre suf : List Tb) (t : Tb), l = pre ++ t :: suf → ∃ gc gr capr cur ls1 ls2 ls3, LTab F t gc gr capr cur ls2 ∧ ls = ls1 ++ (ls2 ++ ls3) ∧ ls1.length = nrows pre ∧
    ts[pre.length * 3]? = some (.string t.name) ∧ ts[pre.length * 3 + 1]? = some (.slice (some ⟨gc, 0, none⟩) t.cols.length (t.cols.length + 8)) ∧ ts[pre.length * 3 + 2]? = some (.slice (some ⟨gr, 0, none⟩) t.rows.length capr) ∧
    cs[pre.length]? = some (.slice (some ⟨gc, 0, none⟩) (t.cols.length + 8) (t.cols.length + 8)) ∧ rs[pre.length]? = some (.slice (some ⟨gr, 0, none⟩) (t.rows.length + 8) capr) := by
  induction h with
  | nil => intro pre suf t e; simp at e
  | @snoc l ts cs rs ls ls2 u gc gr capr cur hr ht ih =>
    intro pre suf t e
    have hl := hr.len
    rcases List.eq_nil_or_concat suf with rfl | ⟨suf', x, rfl⟩
    · obtain ⟨rfl, e2⟩ := List.append_inj' e rfl
      injection e2 with e2
      subst e2
      refine ⟨gc, gr, capr, cur, ls, ls2, [], ht, by simp, hl.2.2.2, ?_, ?_, ?_, ?_, ?_⟩
      · rw [← hl.1, List.getElem?_append_right (Nat.le_refl _), Nat.sub_self]; rfl
      · rw [← hl.1, List.getElem?_append_right (by omega), Nat.add_sub_cancel_left]; rfl
      · rw [← hl.1, List.getElem?_append_right (by omega), Nat.add_sub_cancel_left]; rfl
      · rw [← hl.2.1, List.getElem?_append_right (Nat.le_refl _), Nat.sub_self]; rfl
      · rw [← hl.2.2.1, List.getElem?_append_right (Nat.le_refl _), Nat.sub_self]; rfl
    · have e' : l ++ [u] = (pre ++ t :: suf') ++ [x] := by rw [e]; simp
      obtain ⟨e1, e2⟩ := List.append_inj' e' rfl
      obtain ⟨gc', gr', capr', cur', l1, l2, l3, k1, k2, k3, k4, k5, k6, k7, k8⟩ := ih pre suf' t e1
      have hlen : pre.length < l.length := by rw [e1]; simp
      refine ⟨gc', gr', capr', cur', l1, l2, l3 ++ ls2, k1, by rw [k2]; simp, k3, ?_, ?_, ?_, ?_, ?_⟩
      · rw [List.getElem?_append_left (by omega)]; exact k4
      · rw [List.getElem?_append_left (by omega)]; exact k5
      · rw [List.getElem?_append_left (by omega)]; exact k6
      · rw [List.getElem?_append_left (by omega)]; exact k7
      · rw [List.getElem?_append_left (by omega)]; exact k8
end Go.Proofs.YtfkeddkfegaeiaaGreatDoor
namespace Go.Proofs.YtfkeddkfegaeiaaGreatDoor
open Go.RowKit
def eTable : Nat := 5
def eColumn : Nat := 6
def eTwice : Nat := 7
def eShape : Nat := 9
def tb0 : Tb := ⟨⟨#[]⟩, [], []⟩
/-- a source: the name that its rows are spoken by, its table's number, where its numbers begin. -/
structure Sr where
  alias : ByteArray
  tab : Nat
  first : Nat
def spoken (ss : List Sr) (a : ByteArray) : Option Sr := ss.find? fun s => s.alias.toList == a.toList
def tabNo (T : List Tb) (a : ByteArray) : Option Nat := T.findIdx? fun t => t.name.toList == a.toList
def colsOf (T : List Tb) (s : Sr) : List ByteArray := (T.getD s.tab tb0).cols
/-- where a column's number stands. -/
def colAt (T : List Tb) (ss : List Sr) (a c : ByteArray) : Int := match spoken ss a with
  | none => 0
  | some s => s.first + Lib.idxOfS (colsOf T s) c
/-- what is wrong with a node. -/
def ndErr (T : List Tb) (ss : List Sr) (n : Nd) : Option (Nat × Nat) :=
  if n.tag = 2 then
    match spoken ss n.s1 with
    | none => some (n.p1, eTable)
    | some s => if Lib.idxOfS (colsOf T s) n.s2 < 0 then some (n.p2, eColumn) else none
  else none
def exErr (T : List Tb) (ss : List Sr) (l : List Nd) : Option (Nat × Nat) := l.findSome? (ndErr T ss)
/-- the first of two errors. -/
def orE (a b : Option (Nat × Nat)) : Option (Nat × Nat) := match a with
  | some x => some x
  | none => b
theorem orE_none (a : Option (Nat × Nat)) : orE a none = a := by cases a <;> rfl
theorem orE_assoc (a b c : Option (Nat × Nat)) : orE (orE a b) c = orE a (orE b c) := by cases a <;> rfl
theorem orE_eq_none {a b : Option (Nat × Nat)} (h : orE a b = none) : a = none ∧ b = none := by
  cases a with
  | none => exact ⟨rfl, h⟩
  | some x => cases h
theorem exErr_cons (T : List Tb) (ss : List Sr) (n : Nd) (l : List Nd) : exErr T ss (n :: l) = orE (ndErr T ss n) (exErr T ss l) := by
  unfold exErr
  rw [List.findSome?_cons]
  cases ndErr T ss n <;> rfl
theorem exErr_append (T : List Tb) (ss : List Sr) (k l : List Nd) : exErr T ss (k ++ l) = orE (exErr T ss k) (exErr T ss l) := by
  induction k with
  | nil => rfl
  | cons n k ih => rw [List.cons_append, exErr_cons, exErr_cons, ih, orE_assoc]
/-- what two numbers come to by a sign. -/
def opOf (sg : ByteArray) (a b : Int) : Int := if sg.toList == [43] then wrap64 (a + b) else if sg.toList == [45] then wrap64 (a - b) else wrap64 (a * b)
/-- what an expr comes to, off its nodes (from the right). -/
def evStep (at' : ByteArray → ByteArray → Int) (n : Nd) (S : List (List Int → Int)) : List (List Int → Int) := match n.tag with
  | 0 => (fun _ => n.v) :: S
  | 1 => match S with
    | a :: S' => (fun r => wrap64 (-(a r))) :: S'
    | [] => []
  | 2 => (fun r => r.getD (at' n.s1 n.s2).toNat 0) :: S
  | 3 => match S with
    | a :: S' => a :: S'
    | [] => []
  | _ => match S with
    | a :: b :: S' => (fun r => opOf n.s1 (a r) (b r)) :: S'
    | _ => []
def evS (at' : ByteArray → ByteArray → Int) (l : List Nd) (S : List (List Int → Int)) : List (List Int → Int) := l.foldr (evStep at') S
def evE (at' : ByteArray → ByteArray → Int) (l : List Nd) : List Int → Int := (evS at' l []).headD (fun _ => 0)
def WfV (at' : ByteArray → ByteArray → Int) (l : List Nd) : Prop := ∀ S, evS at' l S = evE at' l :: S
theorem evS_append (at' : ByteArray → ByteArray → Int) (k m : List Nd) (S : List (List Int → Int)) : evS at' (k ++ m) S = evS at' k (evS at' m S) := List.foldr_append
theorem wfv_of {at' : ByteArray → ByteArray → Int} {l : List Nd} {t : List Int → Int} (h : ∀ S, evS at' l S = t :: S) : WfV at' l ∧ evE at' l = t := by
  have e : evE at' l = t := by unfold evE; rw [h]; rfl
  exact ⟨fun S => by rw [h, e], e⟩
theorem ev_num (at' : ByteArray → ByteArray → Int) (t : Tk) : WfV at' [ndNum t] ∧ evE at' [ndNum t] = fun _ => t.value := wfv_of fun _ => rfl
theorem ev_col (at' : ByteArray → ByteArray → Int) (t u : Tk) : WfV at' [ndCol t u] ∧ evE at' [ndCol t u] = fun r => r.getD (at' t.text u.text).toNat 0 := wfv_of fun _ => rfl
theorem ev_minus {at' : ByteArray → ByteArray → Int} {k : List Nd} (h : WfV at' k) (p : Nat) : WfV at' (ndMinus p :: k) ∧ evE at' (ndMinus p :: k) = fun r => wrap64 (-(evE at' k r)) := wfv_of fun S => by
  show evStep at' (ndMinus p) (evS at' k S) = _
  rw [h S]; rfl
theorem ev_br {at' : ByteArray → ByteArray → Int} {k : List Nd} (h : WfV at' k) (p : Nat) : WfV at' (ndBr p :: k) ∧ evE at' (ndBr p :: k) = evE at' k := wfv_of fun S => by
  show evStep at' (ndBr p) (evS at' k S) = _
  rw [h S]; rfl
theorem ev_pair {at' : ByteArray → ByteArray → Int} {k m : List Nd} (h : WfV at' k) (h' : WfV at' m) (p : Nat) (sg : ByteArray) : WfV at' (ndPair p sg :: (k ++ m)) ∧ evE at' (ndPair p sg :: (k ++ m)) = fun r => opOf sg (evE at' k r) (evE at' m r) := wfv_of fun S => by
  show evStep at' (ndPair p sg) (evS at' (k ++ m) S) = _
  rw [evS_append, h' S, h]; rfl
theorem ExP.wfv {w : World} {P : Nat → Prop} (at' : ByteArray → ByteArray → Int) : ∀ (n : Nat) (v : Value) (l : List Nd), ExP w P n v l → WfV at' l
  | 0, _, _, h => h.elim
  | n + 1, v, l, h => by
    rcases h with ⟨b, t, _, _, _, rfl⟩ | ⟨b, p, x, k, _, _, _, h3, rfl⟩ | ⟨b, t, u, _, _, _, rfl⟩ | ⟨b, p, x, k, _, _, _, h3, rfl⟩ | ⟨b, p, x, sg, y, k, m, _, _, _, h3, h4, rfl⟩
    · exact (ev_num at' t).1
    · exact (ev_minus (ExP.wfv at' n x k h3) p).1
    · exact (ev_col at' t u).1
    · exact (ev_br (ExP.wfv at' n x k h3) p).1
    · exact (ev_pair (ExP.wfv at' n x k h3) (ExP.wfv at' n y m h4) p sg).1
/-- what lay in w0, and the blocks F. -/
structure Fits (w0 : World) (F : Fx) (W : World) : Prop where
  old : Below w0.heap.size w0 W
  new : ∀ b o, F b = some o → W.heap[b]? = some o
theorem Fits.below {w0 W W' : World} {F : Fx} (h : Fits w0 F W) (hb : Below W.heap.size W W') : Fits w0 F W' :=
  ⟨h.old.trans (hb.mono h.old.size), fun b o e => by rw [hb.block b (lt_size (h.new b o e))]; exact h.new b o e⟩
theorem Fits.mono {w0 W : World} {F F' : Fx} (h : Fits w0 F' W) (hF : F.le F') : Fits w0 F W := ⟨h.old, fun b o e => h.new b o (hF b o e)⟩
/-- without the blocks of which X holds. -/
def Fx.off (F : Fx) (X : Nat → Bool) : Fx := fun b => if X b then none else F b
theorem Fx.off_le (F : Fx) (X : Nat → Bool) : (F.off X).le F := fun b o e => by
  unfold Fx.off at e
  split at e
  · cases e
  · exact e
theorem Fx.off_mono {F F' : Fx} (h : F.le F') (X : Nat → Bool) : (F.off X).le (F'.off X) := fun b o e => by
  unfold Fx.off at e ⊢
  split at e
  · cases e
  · rename_i hx; rw [if_neg hx]; exact h b o e
theorem Fx.off_some {F : Fx} {X : Nat → Bool} {b : Nat} {o : Obj} (h : F b = some o) (hx : X b = false) : F.off X b = some o := by
  unfold Fx.off; rw [hx]; exact h
abbrev Enters (g : Nat) : Prop := ∀ args w, (callFunc g args).run Tryz.prog w = .ok (.enter g args) w
/-- a function value that gives f of a row of n numbers. -/
def FnV (w0 : World) (F : Fx) (n : Nat) (v : Value) (f : List Int → Int) : Prop := ∃ g cb, v = .func (.func g) #[] cb ∧ Enters g ∧ ∀ (W : World) (rv : Value) (row : List Int), Fits w0 F W → row.length = n → RowAt W rv (intsV row) → Calls Tryz.prog g (#[rv] ++ cb) W fun e W' => e = .returned (.int .i64 (f row)) ∧ Below W.heap.size W W'
theorem FnV.mono {w0 : World} {F F' : Fx} {n : Nat} {v : Value} {f : List Int → Int} (h : FnV w0 F n v f) (hF : F.le F') : FnV w0 F' n v f := by
  obtain ⟨g, cb, h1, h2, h3⟩ := h
  exact ⟨g, cb, h1, h2, fun W rv row hW => h3 W rv row (hW.mono hF)⟩
/-- one that tells p of a row. -/
def TsV (w0 : World) (F : Fx) (n : Nat) (v : Value) (p : List Int → Bool) : Prop := ∃ g cb, v = .func (.func g) #[] cb ∧ Enters g ∧ ∀ (W : World) (rv : Value) (row : List Int), Fits w0 F W → row.length = n → RowAt W rv (intsV row) → Calls Tryz.prog g (#[rv] ++ cb) W fun e W' => e = .returned (.bool (p row)) ∧ Below W.heap.size W W'
theorem TsV.mono {w0 : World} {F F' : Fx} {n : Nat} {v : Value} {p : List Int → Bool} (h : TsV w0 F n v p) (hF : F.le F') : TsV w0 F' n v p := by
  obtain ⟨g, cb, h1, h2, h3⟩ := h
  exact ⟨g, cb, h1, h2, fun W rv row hW => h3 W rv row (hW.mono hF)⟩
end Go.Proofs.YtfkeddkfegaeiaaGreatDoor
namespace Go.Proofs.YtfkeddkfegaeiaaGreatDoor
def spr (l : List (List UInt8 × Tk)) : List UInt8 := l.flatMap fun x => x.1 ++ x.2.text.data.toList
theorem spr_cons (x : List UInt8 × Tk) (r : List (List UInt8 × Tk)) : spr (x :: r) = x.1 ++ (x.2.text.data.toList ++ spr r) := by simp [spr]
def FitT : List (List UInt8 × Tk) → Prop
  | [] => True
  | [_] => True
  | x :: y :: r => (y.1 = [] → okNext x.2.text.data.toList (y.2.text.data.toList.headD 0) = true) ∧ FitT (y :: r)
def Blank (l : List UInt8) : Prop := ∀ c, c ∈ l → blankI c.toNat = true
set_option maxRecDepth 100000 in
theorem letter_blank (c : UInt8) : (!(letterI c.toNat && blankI c.toNat)) = true := byte_all (fun c => !(letterI c.toNat && blankI c.toNat)) (by decide) c
set_option maxRecDepth 100000 in
theorem digit_blank (c : UInt8) : (!(digitI c.toNat && blankI c.toNat)) = true := byte_all (fun c => !(digitI c.toNat && blankI c.toNat)) (by decide) c
/-- blanks, and what is tight ahead. -/
def softB (c : UInt8) : Bool := blankI c.toNat || c == 41 || c == 44 || c == 46
set_option maxRecDepth 100000 in
theorem soft_letter (c : UInt8) : (!softB c || !letterI c.toNat) = true := byte_all (fun c => !softB c || !letterI c.toNat) (by decide) c
set_option maxRecDepth 100000 in
theorem soft_digit (c : UInt8) : (!softB c || !digitI c.toNat) = true := byte_all (fun c => !softB c || !digitI c.toNat) (by decide) c
set_option maxRecDepth 100000 in
theorem soft_sign (c : UInt8) : (!softB c || signL.all fun l => okNext l c) = true := byte_all (fun c => !softB c || signL.all fun l => okNext l c) (by decide) c
theorem IsTok.ne {t : Tk} (h : IsTok t) : t.text.data.toList ≠ [] := by
  rcases h with ⟨h1, _, _, _, _⟩ | ⟨h1, _, _, _, _, _⟩ | ⟨h1, _, _, _⟩ | ⟨h1, _, _⟩
  · exact h1
  · exact h1
  · exact h1
  · intro e; rw [e] at h1; revert h1; decide
theorem ok_soft {t : Tk} (h : IsTok t) {c : UInt8} (hc : softB c = true) : okNext t.text.data.toList c = true := by
  have hl := soft_letter c
  have hd := soft_digit c
  have hs := soft_sign c
  rw [hc] at hl hd hs
  simp only [Bool.not_true, Bool.false_or] at hl hd hs
  rcases h with ⟨h1, h2, _, _, _⟩ | ⟨h1, h2, _, _, _, _⟩ | ⟨h1, h2, _, _⟩ | ⟨h1, _, _⟩
  · unfold okNext; rw [if_pos (h2 _ (head_mem h1))]; exact hl
  · unfold okNext; rw [if_pos (h2 _ (head_mem h1))]; exact hl
  · have h4 := h2 _ (head_mem h1)
    have hn : ¬ letterI (t.text.data.toList.headD 0).toNat = true := fun e => by have := letter_digit (t.text.data.toList.headD 0); rw [e, h4] at this; cases this
    unfold okNext; rw [if_neg hn, if_pos h4]; exact hd
  · exact List.all_eq_true.1 hs _ h1
theorem sign_blank : ∀ l, l ∈ signL → blankI (l.headD 0).toNat = false := by decide
theorem tok_nb {t : Tk} (h : IsTok t) : blankI (t.text.data.toList.headD 0).toNat = false := by
  rcases h with ⟨h1, h2, _, _, _⟩ | ⟨h1, h2, _, _, _, _⟩ | ⟨h1, h2, _, _⟩ | ⟨h1, _, _⟩
  · have := letter_blank (t.text.data.toList.headD 0); rw [h2 _ (head_mem h1)] at this; simpa using this
  · have := letter_blank (t.text.data.toList.headD 0); rw [h2 _ (head_mem h1)] at this; simpa using this
  · have := digit_blank (t.text.data.toList.headD 0); rw [h2 _ (head_mem h1)] at this; simpa using this
  · exact sign_blank _ h1
theorem rest_list (s : ByteArray) (a : Nat) : (s.extract a s.size).data.toList = s.data.toList.drop a := by
  simp only [ByteArray.data_extract, Array.toList_extract, List.extract_eq_take_drop]
  exact List.take_of_length_le (by rw [List.length_drop, sizeL]; exact Nat.le_refl _)
theorem drop_pre {s : ByteArray} {pre b : List UInt8} (h : s.data.toList = pre ++ b) : (s.extract pre.length s.size).data.toList = b := by
  rw [rest_list, h, List.drop_left]
theorem size_list (s : ByteArray) {l : List UInt8} (h : s.data.toList = l) : s.size = l.length := by rw [← sizeL, h]
end Go.Proofs.YtfkeddkfegaeiaaGreatDoor
namespace Go.Proofs.YtfkeddkfegaeiaaGreatDoor
open Go.RowKit
/-- a number below 1000, as digits. -/
def dig (n : Nat) : List UInt8 := if n < 10 then [UInt8.ofNat (48 + n)] else if n < 100 then [UInt8.ofNat (48 + n / 10), UInt8.ofNat (48 + n % 10)] else [UInt8.ofNat (48 + n / 100), UInt8.ofNat (48 + n / 10 % 10), UInt8.ofNat (48 + n % 10)]
def pickI (c n : Int) : Int := (if c < 0 then -(c + 1) else c) % n
set_option maxRecDepth 100000 in
set_option maxHeartbeats 1000000 in
theorem pick_any (c n : Int) (h0 : -9223372036854775808 ≤ c) (h1 : c < 9223372036854775808) (hn : 0 < n) (hn2 : n < 9223372036854775808) (w : World) : Calls Tryz.prog 31 #[.int .i64 c, .int .i64 n] w fun e w' => e = .returned (.int .i64 (pickI c n)) ∧ w' = w := by
  have hz : ¬ n = 0 := by omega
  by_cases hc : c < 0
  · have hd : decide (c < 0) = true := by simp; omega
    have e1 : wrap64 (-wrap64 (c + 1)) = -(c + 1) := by unfold wrap64; omega
    have e2 : (-(c + 1)).tmod n = pickI c n := by unfold pickI; rw [if_pos hc, Int.tmod_eq_emod_of_nonneg (by omega)]
    have e3 : wrap64 (pickI c n) = pickI c n := by
      have := Int.emod_nonneg (-(c + 1)) hz
      have := Int.emod_lt_of_pos (-(c + 1)) hn
      unfold pickI; rw [if_pos hc]; unfold wrap64; omega
    go_enter Tryz.func31, Tryz.ntmps31
    go_wp2_with fail
    go_ret
    exact ⟨rfl, rfl⟩
  · have hd : decide (c < 0) = false := by simp; omega
    have e2 : c.tmod n = pickI c n := by unfold pickI; rw [if_neg hc, Int.tmod_eq_emod_of_nonneg (by omega)]
    have e3 : wrap64 (pickI c n) = pickI c n := by
      have := Int.emod_nonneg c hz
      have := Int.emod_lt_of_pos c hn
      unfold pickI; rw [if_neg hc]; unfold wrap64; omega
    go_enter Tryz.func31, Tryz.ntmps31
    go_wp2_with fail
    go_ret
    exact ⟨rfl, rfl⟩
end Go.Proofs.YtfkeddkfegaeiaaGreatDoor
namespace Go.Proofs.YtfkeddkfegaeiaaGreatDoor
open Go.RowKit
def InR (x : Int) : Prop := -9223372036854775808 ≤ x ∧ x < 9223372036854775808
theorem wrap_id {n : Int} (h : InR n) : wrap64 n = n := by unfold InR at h; unfold wrap64; omega
abbrev tkW (l : List UInt8) : Tk := ⟨0, 1, ⟨l.toArray⟩, 0⟩
abbrev tkM (l : List UInt8) : Tk := ⟨0, 2, ⟨l.toArray⟩, 0⟩
abbrev tkD (n : Nat) : Tk := ⟨0, 3, ⟨(dig n).toArray⟩, n⟩
inductive Bex where
  | num (v : Fin 1000)
  | cola
  | colb
  | neg (e : Bex)
  | mul (e f : Bex)
  | sub (e f : Bex)
  | add (e f : Bex)
/-- a blank ahead of the first. -/
def sp1 : List (List UInt8 × Tk) → List (List UInt8 × Tk)
  | [] => []
  | x :: r => (32 :: x.1, x.2) :: r
def Bex.tks : Bex → List (List UInt8 × Tk)
  | .num v => [([], tkD v.1)]
  | .cola => [([], tkM [120]), ([], tkW [46]), ([], tkM [97])]
  | .colb => [([], tkM [120]), ([32], tkW [46]), ([32], tkM [98])]
  | .neg e => ([], tkW [45]) :: ([], tkW [40]) :: (e.tks ++ [([], tkW [41])])
  | .mul e f => ([], tkW [40]) :: (e.tks ++ ([], tkW [41]) :: ([32], tkW [42]) :: ([], tkW [40]) :: (f.tks ++ [([], tkW [41])]))
  | .sub e f => e.tks ++ ([32], tkW [45]) :: ([32], tkW [40]) :: (f.tks ++ [([], tkW [41])])
  | .add e f => e.tks ++ ([], tkW [43]) :: sp1 f.tks
def Bex.val (A B : Int) : Bex → Int
  | .num v => v.1
  | .cola => A
  | .colb => B
  | .neg e => wrap64 (-(e.val A B))
  | .mul e f => wrap64 (e.val A B * f.val A B)
  | .sub e f => wrap64 (e.val A B - f.val A B)
  | .add e f => wrap64 (e.val A B + f.val A B)
section
variable (at' : ByteArray → ByteArray → Int) (T : List Tb) (ss : List Sr) (r : List Int)
end
section
variable {at' : ByteArray → ByteArray → Int} {T : List Tb} {ss : List Sr} {r : List Int}
end
end Go.Proofs.YtfkeddkfegaeiaaGreatDoor
