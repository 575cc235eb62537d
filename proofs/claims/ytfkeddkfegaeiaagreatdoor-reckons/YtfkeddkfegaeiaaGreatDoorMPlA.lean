/-
  Part 39.
-/
import Derived.Test.YtfkeddkfegaeiaaGreatDoorMNwD
import Derived.Test.YtfkeddkfegaeiaaGreatDoorJ20
import Derived.Test.YtfkeddkfegaeiaaGreatDoorJ17
import Derived.Test.YtfkeddkfegaeiaaGreatDoorJ29
import Derived.Test.YtfkeddkfegaeiaaGreatDoorMNwJ
namespace Go.Proofs.YtfkeddkfegaeiaaGreatDoor
open Go.RowKit

def eTable : Nat := 5
def eColumn : Nat := 6
def eTwice : Nat := 7
def eWindow : Nat := 8
def eShape : Nat := 9

def tb0 : Tb := ⟨⟨#[]⟩, [], []⟩

/-- a source: the name that its rows are spoken by, its table's number, where its numbers begin. -/
structure Sr where
  alias : ByteArray
  tab : Nat
  first : Nat

def spoken (ss : List Sr) (a : ByteArray) : Option Sr := ss.find? fun s => s.alias.toList == a.toList
def tabNo (T : List Tb) (a : ByteArray) : Option Nat := T.findIdx? fun t => t.name.toList == a.toList
def colsOf (T : List Tb) (s : Sr) : List ByteArray := (T.getD s.tab tb0).cols
/-- where a column's number stands. -/
def colAt (T : List Tb) (ss : List Sr) (a c : ByteArray) : Int := match spoken ss a with
  | none => 0
  | some s => s.first + Lib.idxOfS (colsOf T s) c
/-- what is wrong with a node. -/
def ndErr (T : List Tb) (ss : List Sr) (n : Nd) : Option (Nat × Nat) :=
  if n.tag = 2 then
    match spoken ss n.s1 with
    | none => some (n.p1, eTable)
    | some s => if Lib.idxOfS (colsOf T s) n.s2 < 0 then some (n.p2, eColumn) else none
  else none
def exErr (T : List Tb) (ss : List Sr) (l : List Nd) : Option (Nat × Nat) := l.findSome? (ndErr T ss)

/-- the first of two errors. -/
def orE (a b : Option (Nat × Nat)) : Option (Nat × Nat) := match a with
  | some x => some x
  | none => b
theorem orE_none (a : Option (Nat × Nat)) : orE a none = a := by cases a <;> rfl
theorem orE_nil (b : Option (Nat × Nat)) : orE none b = b := rfl
theorem orE_assoc (a b c : Option (Nat × Nat)) : orE (orE a b) c = orE a (orE b c) := by cases a <;> rfl
theorem orE_eq_none {a b : Option (Nat × Nat)} (h : orE a b = none) : a = none ∧ b = none := by
  cases a with
  | none => exact ⟨rfl, h⟩
  | some x => cases h
theorem exErr_cons (T : List Tb) (ss : List Sr) (n : Nd) (l : List Nd) : exErr T ss (n :: l) = orE (ndErr T ss n) (exErr T ss l) := by
  unfold exErr
  rw [List.findSome?_cons]
  cases ndErr T ss n <;> rfl
theorem exErr_append (T : List Tb) (ss : List Sr) (k l : List Nd) : exErr T ss (k ++ l) = orE (exErr T ss k) (exErr T ss l) := by
  induction k with
  | nil => rfl
  | cons n k ih => rw [List.cons_append, exErr_cons, exErr_cons, ih, orE_assoc]

/-- what two numbers come to by a sign. -/
def opOf (sg : ByteArray) (a b : Int) : Int := if sg.toList == [43] then wrap64 (a + b) else if sg.toList == [45] then wrap64 (a - b) else wrap64 (a * b)
/-- what an expr comes to, off its nodes (from the right). -/
def evStep (at' : ByteArray → ByteArray → Int) (n : Nd) (S : List (List Int → Int)) : List (List Int → Int) := match n.tag with
  | 0 => (fun _ => n.v) :: S
  | 1 => match S with
    | a :: S' => (fun r => wrap64 (-(a r))) :: S'
    | [] => []
  | 2 => (fun r => r.getD (at' n.s1 n.s2).toNat 0) :: S
  | 3 => match S with
    | a :: S' => a :: S'
    | [] => []
  | _ => match S with
    | a :: b :: S' => (fun r => opOf n.s1 (a r) (b r)) :: S'
    | _ => []
def evS (at' : ByteArray → ByteArray → Int) (l : List Nd) (S : List (List Int → Int)) : List (List Int → Int) := l.foldr (evStep at') S
def evE (at' : ByteArray → ByteArray → Int) (l : List Nd) : List Int → Int := (evS at' l []).headD (fun _ => 0)
def WfV (at' : ByteArray → ByteArray → Int) (l : List Nd) : Prop := ∀ S, evS at' l S = evE at' l :: S
theorem evS_append (at' : ByteArray → ByteArray → Int) (k m : List Nd) (S : List (List Int → Int)) : evS at' (k ++ m) S = evS at' k (evS at' m S) := List.foldr_append
theorem wfv_of {at' : ByteArray → ByteArray → Int} {l : List Nd} {t : List Int → Int} (h : ∀ S, evS at' l S = t :: S) : WfV at' l ∧ evE at' l = t := by
  have e : evE at' l = t := by unfold evE; rw [h]; rfl
  exact ⟨fun S => by rw [h, e], e⟩
theorem ev_num (at' : ByteArray → ByteArray → Int) (t : Tk) : WfV at' [ndNum t] ∧ evE at' [ndNum t] = fun _ => t.value := wfv_of fun _ => rfl
theorem ev_col (at' : ByteArray → ByteArray → Int) (t u : Tk) : WfV at' [ndCol t u] ∧ evE at' [ndCol t u] = fun r => r.getD (at' t.text u.text).toNat 0 := wfv_of fun _ => rfl
theorem ev_minus {at' : ByteArray → ByteArray → Int} {k : List Nd} (h : WfV at' k) (p : Nat) : WfV at' (ndMinus p :: k) ∧ evE at' (ndMinus p :: k) = fun r => wrap64 (-(evE at' k r)) := wfv_of fun S => by
  show evStep at' (ndMinus p) (evS at' k S) = _
  rw [h S]; rfl
theorem ev_br {at' : ByteArray → ByteArray → Int} {k : List Nd} (h : WfV at' k) (p : Nat) : WfV at' (ndBr p :: k) ∧ evE at' (ndBr p :: k) = evE at' k := wfv_of fun S => by
  show evStep at' (ndBr p) (evS at' k S) = _
  rw [h S]; rfl
theorem ev_pair {at' : ByteArray → ByteArray → Int} {k m : List Nd} (h : WfV at' k) (h' : WfV at' m) (p : Nat) (sg : ByteArray) : WfV at' (ndPair p sg :: (k ++ m)) ∧ evE at' (ndPair p sg :: (k ++ m)) = fun r => opOf sg (evE at' k r) (evE at' m r) := wfv_of fun S => by
  show evStep at' (ndPair p sg) (evS at' (k ++ m) S) = _
  rw [evS_append, h' S, h]; rfl
theorem ExP.wfv {w : World} {P : Nat → Prop} (at' : ByteArray → ByteArray → Int) : ∀ (n : Nat) (v : Value) (l : List Nd), ExP w P n v l → WfV at' l
  | 0, _, _, h => h.elim
  | n + 1, v, l, h => by
    rcases h with ⟨b, t, _, _, _, rfl⟩ | ⟨b, p, x, k, _, _, _, h3, rfl⟩ | ⟨b, t, u, _, _, _, rfl⟩ | ⟨b, p, x, k, _, _, _, h3, rfl⟩ | ⟨b, p, x, sg, y, k, m, _, _, _, h3, h4, rfl⟩
    · exact (ev_num at' t).1
    · exact (ev_minus (ExP.wfv at' n x k h3) p).1
    · exact (ev_col at' t u).1
    · exact (ev_br (ExP.wfv at' n x k h3) p).1
    · exact (ev_pair (ExP.wfv at' n x k h3) (ExP.wfv at' n y m h4) p sg).1

/-! ### function values -/
/-- what lay in w0, and the blocks F. -/
structure Fits (w0 : World) (F : Fx) (W : World) : Prop where
  old : Below w0.heap.size w0 W
  new : ∀ b o, F b = some o → W.heap[b]? = some o
theorem Fits.below {w0 W W' : World} {F : Fx} (h : Fits w0 F W) (hb : Below W.heap.size W W') : Fits w0 F W' :=
  ⟨h.old.trans (hb.mono h.old.size), fun b o e => by rw [hb.block b (lt_size (h.new b o e))]; exact h.new b o e⟩
theorem Fits.mono {w0 W : World} {F F' : Fx} (h : Fits w0 F' W) (hF : F.le F') : Fits w0 F W := ⟨h.old, fun b o e => h.new b o (hF b o e)⟩
/-- without the blocks of which X holds. -/
def Fx.off (F : Fx) (X : Nat → Bool) : Fx := fun b => if X b then none else F b
theorem Fx.off_le (F : Fx) (X : Nat → Bool) : (F.off X).le F := fun b o e => by
  unfold Fx.off at e
  split at e
  · cases e
  · exact e
theorem Fx.off_mono {F F' : Fx} (h : F.le F') (X : Nat → Bool) : (F.off X).le (F'.off X) := fun b o e => by
  unfold Fx.off at e ⊢
  split at e
  · cases e
  · rename_i hx; rw [if_neg hx]; exact h b o e
theorem Fx.off_some {F : Fx} {X : Nat → Bool} {b : Nat} {o : Obj} (h : F b = some o) (hx : X b = false) : F.off X b = some o := by
  unfold Fx.off; rw [hx]; exact h
abbrev Enters (g : Nat) : Prop := ∀ args w, (callFunc g args).run Tryz.prog w = .ok (.enter g args) w
/-- a function value that gives f of a row of n numbers. -/
def FnV (w0 : World) (F : Fx) (n : Nat) (v : Value) (f : List Int → Int) : Prop := ∃ g cb, v = .func (.func g) #[] cb ∧ Enters g ∧ ∀ (W : World) (rv : Value) (row : List Int), Fits w0 F W → row.length = n → RowAt W rv (intsV row) → Calls Tryz.prog g (#[rv] ++ cb) W fun e W' => e = .returned (.int .i64 (f row)) ∧ Below W.heap.size W W'
theorem FnV.mono {w0 : World} {F F' : Fx} {n : Nat} {v : Value} {f : List Int → Int} (h : FnV w0 F n v f) (hF : F.le F') : FnV w0 F' n v f := by
  obtain ⟨g, cb, h1, h2, h3⟩ := h
  exact ⟨g, cb, h1, h2, fun W rv row hW => h3 W rv row (hW.mono hF)⟩
/-- one that tells p of a row. -/
def TsV (w0 : World) (F : Fx) (n : Nat) (v : Value) (p : List Int → Bool) : Prop := ∃ g cb, v = .func (.func g) #[] cb ∧ Enters g ∧ ∀ (W : World) (rv : Value) (row : List Int), Fits w0 F W → row.length = n → RowAt W rv (intsV row) → Calls Tryz.prog g (#[rv] ++ cb) W fun e W' => e = .returned (.bool (p row)) ∧ Below W.heap.size W W'
theorem TsV.mono {w0 : World} {F F' : Fx} {n : Nat} {v : Value} {p : List Int → Bool} (h : TsV w0 F n v p) (hF : F.le F') : TsV w0 F' n v p := by
  obtain ⟨g, cb, h1, h2, h3⟩ := h
  exact ⟨g, cb, h1, h2, fun W rv row hW => h3 W rv row (hW.mono hF)⟩
end Go.Proofs.YtfkeddkfegaeiaaGreatDoor
namespace Go.Proofs.YtfkeddkfegaeiaaGreatDoor
open Go.RowKit

abbrev Er := Option (Nat × Nat)
/-- the sources found so far, how wide their rows are, the first error. -/
structure Fs where
  ss : List Sr
  wd : Nat
  er : Er
def srcStep (T : List Tb) (f : Fs) (x : Tk × Tk) : Fs := match tabNo T x.1.text with
  | none => { f with er := orE f.er (some (x.1.place, eTable)) }
  | some j => ⟨f.ss ++ [⟨x.2.text, j, f.wd⟩], f.wd + (T.getD j tb0).cols.length, orE f.er (if (spoken f.ss x.2.text).isSome then some (x.2.place, eTwice) else none)⟩
def srcsM (T : List Tb) (l : List (Tk × Tk)) : Fs := l.foldl (srcStep T) ⟨[], 0, none⟩
/-- the errors of a list of exprs. -/
def xsErr (T : List Tb) (ss : List Sr) (l : List (List Nd)) : Er := l.findSome? (exErr T ss)
def winErr (T : List Tb) (iw : Bool) (ss : List Sr) (x : WinA) : Er :=
  orE (if iw then some (x.place, eWindow) else none) (orE (x.of.bind (exErr T ss)) (orE (xsErr T ss x.part) (xsErr T ss x.ord)))
def itErr (T : List Tb) (iw : Bool) (ss : List Sr) (x : ItemA) : Er := match x.win with
  | some q => winErr T iw ss q
  | none => exErr T ss x.val
def tsErr (T : List Tb) (ss : List Sr) (x : TestA) : Er := orE (exErr T ss x.l) (exErr T ss x.r)
/-- the first error of a select. -/
def selErr (T : List Tb) (iw : Bool) (x : SelX) : Er :=
  orE (orE (srcsM T x.srcs).er (x.items.findSome? (itErr T iw (srcsM T x.srcs).ss))) (x.tests.findSome? (tsErr T (srcsM T x.srcs).ss))

/-! ### what it gives -/
def cmpOf (sg : ByteArray) (a b : Int) : Bool :=
  if sg.toList == [61] then a == b else if sg.toList == [60, 62] then a != b else if sg.toList == [60] then decide (a < b) else if sg.toList == [60, 61] then decide (a ≤ b) else if sg.toList == [62] then decide (b < a) else decide (b ≤ a)
def tsHolds (at' : ByteArray → ByteArray → Int) (x : TestA) (r : List Int) : Bool := cmpOf x.sg (evE at' x.l r) (evE at' x.r r)
/-- how many rows can be put together. -/
def madeN (rs : List (List (List Int))) : Nat := (rs.map List.length).foldl (· * ·) 1
/-- the row of this number. -/
def togR : List (List (List Int)) → Nat → List Int
  | [], _ => []
  | l :: ls, n => (l.getD (n / madeN ls % l.length) []) ++ togR ls n
def rowsOf (T : List Tb) (ss : List Sr) : List (List (List Int)) := ss.map fun s => (T.getD s.tab tb0).rows
def chosenR (T : List Tb) (ss : List Sr) (ts : List (List Int → Bool)) : List (List Int) :=
  ((List.range (madeN (rowsOf T ss))).map (togR (rowsOf T ss))).filter fun r => ts.all fun t => t r
/-- each row's numbers, of the columns of numbers. -/
def turned (n : Nat) (cs : List (List Int)) : List (List Int) := (List.range n).map fun i => cs.map fun c => c.getD i 0
def selRows (T : List Tb) (ss : List Sr) (is : List (List (List Int) → List Int)) (ts : List (List Int → Bool)) : Option (List (List Int)) :=
  if 4000 < madeN (rowsOf T ss) then none else some (turned (chosenR T ss ts).length (is.map fun f => f (chosenR T ss ts)))
end Go.Proofs.YtfkeddkfegaeiaaGreatDoor
namespace Go.Proofs.YtfkeddkfegaeiaaGreatDoor
open Go.RowKit

/-- the finder's surroundings: the world it began in, the errors, its block, where the tables lie, the tables, the blocks that may turn later, whether no window may be. -/
structure Fc where
  w0 : World
  a : Nat → Addr
  fb : Nat
  tb : Nat
  tof : Nat
  tc : Nat
  T : List Tb
  X : Nat → Bool
  iw : Bool
def Fc.tabs (c : Fc) : Value := .slice (some ⟨c.tb, c.tof, none⟩) c.T.length c.tc
/-- the cells of sources. -/
def srP (c : Fc) (ss : List Sr) : List Value := ss.flatMap fun s => [.string s.alias, .pointer (some ⟨c.tb, c.tof + s.tab * 3, none⟩), .int .i64 s.first]
theorem srP_snoc (c : Fc) (ss : List Sr) (s : Sr) : srP c ss ++ [.string s.alias, .pointer (some ⟨c.tb, c.tof + s.tab * 3, none⟩), .int .i64 s.first] = srP c (ss ++ [s]) := by simp [srP]
theorem srP_len (c : Fc) (ss : List Sr) : (srP c ss).length = ss.length * 3 := by
  induction ss with
  | nil => rfl
  | cons s r ih => simp only [srP, List.flatMap_cons, List.length_append, List.length_cons, List.length_nil] at ih ⊢; omega
theorem srP_at (c : Fc) (pre suf : List Sr) (s : Sr) : (srP c (pre ++ s :: suf))[pre.length * 3]? = some (.string s.alias) ∧ (srP c (pre ++ s :: suf))[pre.length * 3 + 1]? = some (.pointer (some ⟨c.tb, c.tof + s.tab * 3, none⟩)) ∧ (srP c (pre ++ s :: suf))[pre.length * 3 + 2]? = some (.int .i64 s.first) := by
  have e : srP c (pre ++ s :: suf) = srP c pre ++ ([.string s.alias, .pointer (some ⟨c.tb, c.tof + s.tab * 3, none⟩), .int .i64 s.first] ++ srP c suf) := by simp [srP]
  have hl := srP_len c pre
  rw [e]
  refine ⟨?_, ?_, ?_⟩
  · rw [List.getElem?_append_right (by omega), hl, Nat.sub_self]; rfl
  · rw [List.getElem?_append_right (by omega), hl, Nat.add_sub_cancel_left]; rfl
  · rw [List.getElem?_append_right (by omega), hl, Nat.add_sub_cancel_left]; rfl
/-- the first error. -/
def ErrF (F : Fx) (a : Nat → Addr) (ev : Value) : Option (Nat × Nat) → Prop
  | none => ev = .nilIface
  | some (p, k) => ∃ b, ev = .iface 110 (.pointer (some ⟨b, 0, none⟩)) ∧ F b = some (.cells #[.int .i64 (p : Nat), errV a k] 113 (0, 0))
theorem ErrF.mono {F F' : Fx} (hF : F.le F') {a : Nat → Addr} {ev : Value} {er : Option (Nat × Nat)} (h : ErrF F a ev er) : ErrF F' a ev er := by
  match er, h with
  | none, h => exact h
  | some (p, k), ⟨b, h1, h2⟩ => exact ⟨b, h1, hF _ _ h2⟩
/-- the finder, in the making. -/
structure FS (c : Fc) (F : Fx) (W : World) (sv iv tv ev : Value) (wd : Nat) (ss : List Sr) (er : Option (Nat × Nat)) : Prop where
  env : EnvX c.a c.w0.heap.size W
  old : Below c.w0.heap.size c.w0 W
  grow : Grow c.w0.heap.size F c.fb [sv, iv, tv] W
  box : W.heap[c.fb]? = some (.cells #[c.tabs, .bool c.iw, sv, .int .i64 wd, iv, tv, ev] 299 (0, 0))
  err : ErrF F c.a ev er
  tabs : ∀ W', Fits c.w0 F W' → TabsAt W' c.tabs c.T
  srcs : W.ownsRow c.w0.heap.size 423 3 sv ss.length (srP c ss)
  few : ss.length ≤ 3
  ok : ∀ s ∈ ss, s.tab < c.T.length
  wide : wd ≤ 6 * ss.length ∧ (∀ s ∈ ss, s.first + (colsOf c.T s).length ≤ wd) ∧ ∀ t ∈ c.T, t.cols.length ≤ 6
  fbX : ∀ b, c.X b = true → b < W.heap.size
  low : c.w0.heap.size ≤ c.fb
/-- what a step of the finder leaves of the fixed blocks. -/
structure Ext (n : Nat) (F F' : Fx) : Prop where
  le : F.le F'
  old : ∀ b, b < n → F' b = F b
theorem Ext.refl (n : Nat) (F : Fx) : Ext n F F := ⟨Fx.le.refl F, fun _ _ => rfl⟩
theorem Ext.trans {n m : Nat} {F F' F'' : Fx} (h : Ext n F F') (k : Ext m F' F'') (hn : n ≤ m) : Ext n F F'' := ⟨h.le.trans k.le, fun b hb => (k.old b (by omega)).trans (h.old b hb)⟩
theorem Ext.mono {n m : Nat} {F F' : Fx} (h : Ext m F F') (hn : n ≤ m) : Ext n F F' := ⟨h.le, fun b hb => h.old b (by omega)⟩
theorem Ext.set {n : Nat} {F : Fx} {b : Nat} (o : Obj) (hb : n ≤ b) (h : F b = none) : Ext n F (F.set b o) := ⟨Fx.le_set o h, fun k hk => Fx.set_other F o (by omega)⟩
theorem FS.fits {c : Fc} {F : Fx} {W : World} {sv iv tv ev : Value} {wd : Nat} {ss : List Sr} {er : Option (Nat × Nat)} (h : FS c F W sv iv tv ev wd ss er) : Fits c.w0 F W := ⟨h.old, fun b o e => (h.grow.fits b o e).2⟩
/-- new blocks. -/
theorem FS.below {c : Fc} {F : Fx} {W W' : World} {sv iv tv ev : Value} {wd : Nat} {ss : List Sr} {er : Option (Nat × Nat)} (h : FS c F W sv iv tv ev wd ss er) (hb : Below W.heap.size W W') : FS c F W' sv iv tv ev wd ss er :=
  ⟨h.env.keep (hb.mono h.old.size), h.old.trans (hb.mono h.old.size), h.grow.below hb, (hb.block _ h.grow.ltp).trans h.box, h.err, h.tabs, owns_below h.srcs hb, h.few, h.ok, h.wide, fun b e => Nat.lt_of_lt_of_le (h.fbX b e) hb.size, h.low⟩
theorem FS.alloc {c : Fc} {F : Fx} {W : World} {sv iv tv ev : Value} {wd : Nat} {ss : List Sr} {er : Option (Nat × Nat)} (h : FS c F W sv iv tv ev wd ss er) (o : Obj) : FS c F (W.alloc o) sv iv tv ev wd ss er := h.below ((Below.refl _ _).alloc (Nat.le_refl _) _)
theorem FS.drew {c : Fc} {F : Fx} {W : World} {sv iv tv ev : Value} {wd : Nat} {ss : List Sr} {er : Option (Nat × Nat)} (h : FS c F W sv iv tv ev wd ss er) : FS c F W.drew sv iv tv ev wd ss er := h.below (Below.refl _ _).drew
/-- a new block is laid down for good. -/
theorem FS.fix {c : Fc} {F : Fx} {W : World} {sv iv tv ev : Value} {wd : Nat} {ss : List Sr} {er : Option (Nat × Nat)} (h : FS c F W sv iv tv ev wd ss er) {b : Nat} {o : Obj} (hb : W.heap[b]? = some o) (hlo : c.w0.heap.size ≤ b) (hp : b ≠ c.fb) (hv : ∀ v ∈ [sv, iv, tv], v.ownBlock ≠ some b) (hn : F b = none) : FS c (F.set b o) W sv iv tv ev wd ss er :=
  ⟨h.env, h.old, h.grow.fix hlo hb hp hv, h.box, h.err.mono (Fx.le_set o hn), fun W' hW' => h.tabs W' (hW'.mono (Fx.le_set o hn)), h.srcs, h.few, h.ok, h.wide, h.fbX, h.low⟩
/-- .. one that is newer than W0. -/
theorem FS.fixNew {c : Fc} {F F0 : Fx} {W0 W : World} {sv iv tv ev ev0 : Value} {wd : Nat} {ss : List Sr} {er er0 : Option (Nat × Nat)} (h : FS c F W sv iv tv ev wd ss er) (h0 : FS c F0 W0 sv iv tv ev0 wd ss er0) {b : Nat} {o : Obj} (hb : W.heap[b]? = some o) (hlo : W0.heap.size ≤ b) (hn : F b = none) : FS c (F.set b o) W sv iv tv ev wd ss er :=
  h.fix hb (Nat.le_trans h0.old.size hlo) (fun e => by have := h0.grow.ltp; omega) (fun v hv e => by have := (h0.grow.off v hv b e).2.2.2; omega) hn
theorem FS.facts {c : Fc} {F : Fx} {W : World} {sv iv tv ev : Value} {wd : Nat} {ss : List Sr} {er : Option (Nat × Nat)} (h : FS c F W sv iv tv ev wd ss er) : (∀ o, W.cell? ⟨c.fb, o, none⟩ = #[c.tabs, .bool c.iw, sv, .int .i64 wd, iv, tv, ev][o]?) ∧ (∀ o, W.frozen? ⟨c.fb, o, none⟩ = false) ∧ c.fb < W.heap.size :=
  ⟨(blk h.box).1, (blk h.box).2, h.grow.ltp⟩
/-- the error is set. -/
theorem FS.setErr {c : Fc} {F : Fx} {W : World} {sv iv tv ev ev' : Value} {wd : Nat} {ss : List Sr} {er er' : Option (Nat × Nat)} (h : FS c F W sv iv tv ev wd ss er) (he : ErrF F c.a ev' er') : FS c F (W.setCell ⟨c.fb, 6, none⟩ ev') sv iv tv ev' wd ss er' := by
  have hlo := h.low
  refine ⟨h.env.keep ((Below.refl _ _).setCell hlo _), h.old.setCell hlo _, h.grow.box _ _, (heap_set h.box _).trans rfl, he, h.tabs, ?_, h.few, h.ok, h.wide, fun b e => by simpa using h.fbX b e, hlo⟩
  refine owns_set h.srcs (fun e => ?_)
  exact (h.grow.off sv List.mem_cons_self _ e).2.1 rfl

set_option maxRecDepth 100000 in
set_option maxHeartbeats 1000000 in
theorem ffail_any (c : Fc) (F : Fx) (W : World) (sv iv tv ev : Value) (wd : Nat) (ss : List Sr) (er : Option (Nat × Nat)) (h : FS c F W sv iv tv ev wd ss er) (b p k : Nat) (hb : F b = some (.cells #[.int .i64 (p : Nat), errV c.a k] 113 (0, 0))) :
    Calls Tryz.prog 244 #[.pointer (some ⟨c.fb, 0, none⟩), .iface 110 (.pointer (some ⟨b, 0, none⟩))] W fun e W' => e = .returned (.tuple #[]) ∧ Kp c.fb W W' ∧ ∃ ev', FS c F W' sv iv tv ev' wd ss (orE er (some (p, k))) := by
  obtain ⟨j, fz, z⟩ := h.facts
  have HH := hide h
  have he := h.err
  have HB := hide hb
  clear h hb
  match er, he, HH with
  | none, he, HH =>
    obtain rfl : ev = .nilIface := he
    go_enter Tryz.func244, Tryz.ntmps244
    go_wp2
    go_end0
    exact ⟨rfl, (Kp.refl _ _).setCell _ _, _, (unhide HH).setErr (er' := some (p, k)) ⟨b, rfl, unhide HB⟩⟩
  | some (p', k'), he, HH =>
    obtain ⟨b', rfl, he'⟩ := he
    clear he'
    go_enter Tryz.func244, Tryz.ntmps244
    go_wp2
    go_end0
    exact ⟨rfl, Kp.refl _ _, _, unhide HH⟩
end Go.Proofs.YtfkeddkfegaeiaaGreatDoor
namespace Go.Proofs.YtfkeddkfegaeiaaGreatDoor
open Go.RowKit

theorem tabNo_skip {pre : List Tb} {s : ByteArray} (h : pre.all (fun t => !(t.name.toList == s.toList)) = true) : ∀ suf : List Tb, tabNo (pre ++ suf) s = (tabNo suf s).map (· + pre.length) := by
  intro suf
  unfold tabNo
  rw [List.findIdx?_append]
  have e : pre.findIdx? (fun t => t.name.toList == s.toList) = none := by
    rw [List.findIdx?_eq_none_iff]
    intro x hx
    have := List.all_eq_true.1 h x hx
    simpa using this
  rw [e]
  rfl

set_option maxRecDepth 100000 in
set_option maxHeartbeats 1000000 in
theorem tableNamed_any (b o cap : Nat) (T : List Tb) (s : ByteArray) (w : World) (h : TabsAt w (.slice (some ⟨b, o, none⟩) T.length cap) T) :
    Calls Tryz.prog 242 #[.slice (some ⟨b, o, none⟩) T.length cap, .string s] w fun e w' => e = .returned (.pointer ((tabNo T s).map fun j => ⟨b, o + j * 3, none⟩)) ∧ w' = w := by
  obtain ⟨ad, cap', e0, ml, mc, cl⟩ := h
  injection e0 with e1 e2 e3
  subst e1 e3
  unfold maxLen at ml
  have HCL := hide cl
  clear cl e2
  go_enter Tryz.func242, Tryz.ntmps242
  go_wp2_with fail
  go_loopg [5, 8] T.length (fun f _ i W => ∃ pre suf, T = pre ++ suf ∧ f = suf.length ∧ i = .int .i64 (pre.length : Nat) ∧ pre.all (fun t => !(t.name.toList == s.toList)) = true ∧ W = w)
  case atStart => exact ⟨[], T, rfl, rfl, rfl, rfl, rfl⟩
  case round =>
    obtain ⟨pre, suf, h1, rfl, rfl, hal, hw⟩ := hrel
    obtain rfl := hw.symm
    have l1 : pre.length + suf.length = T.length := by rw [h1, List.length_append]
    have HZ := hide h1
    have HAL := hide hal
    clear h1 hal
    cases suf with
    | nil =>
      have hlt : decide (pre.length < T.length) = false := by simp at l1 ⊢; omega
      go_wp2
      go_ret
      refine ⟨?_, rfl⟩
      have e : tabNo T s = none := by rw [unhide HZ, tabNo_skip (unhide HAL)]; rfl
      rw [e]; rfl
    | cons t suf =>
      rw [List.length_cons] at l1
      have hlt : decide (pre.length < T.length) = true := by simp; omega
      obtain ⟨b1, o1, e1, z1, c1⟩ := (unhide HCL) (by omega)
      injection e1 with e1
      injection e1 with e1 e2
      subst e1 e2
      obtain ⟨cv, rv, htb, k1, k2, k3⟩ := c1 pre.length t (by rw [unhide HZ]; simp)
      have HZ2 : Hid (T = (pre ++ [t]) ++ suf) := by unfold Hid; rw [unhide HZ]; simp
      clear c1 htb k2 k3
      cases hzy : (t.name.toList == s.toList) with
      | true =>
        have HY := hide hzy
        go_wp2
        go_ret
        refine ⟨?_, rfl⟩
        have e : tabNo T s = some pre.length := by
          rw [unhide HZ, tabNo_skip (unhide HAL)]
          unfold tabNo
          rw [List.findIdx?_cons, unhide HY]
          simp
        rw [e]; rfl
      | false =>
        have HY := hide hzy
        go_wp2
        go_roundg suf.length
        case measure => simp
        case rel =>
          refine ⟨pre ++ [t], suf, unhide HZ2, rfl, ?_, ?_, rfl⟩
          · rw [List.length_append]; go_num
          · rw [List.all_append, unhide HAL, List.all_cons, unhide HY]; rfl

theorem owns_shape {W : World} {base n : Nat} {e : TypeId} {size : Nat} {v : Value} {xs : List Value} (h : W.ownsRow base e size v n xs) : ∃ ad cap, v = .slice ad n cap := by
  rcases h.2 with ⟨h1, h2⟩ | ⟨g, cap, cur, hv, _⟩
  · exact ⟨none, 0, by rw [h1, h2]⟩
  · exact ⟨_, cap, hv⟩
theorem spoken_skip {pre : List Sr} {s : ByteArray} (h : pre.all (fun t => !(t.alias.toList == s.toList)) = true) : ∀ suf : List Sr, spoken (pre ++ suf) s = spoken suf s := by
  intro suf
  unfold spoken
  rw [List.find?_append]
  have e : pre.find? (fun t => t.alias.toList == s.toList) = none := by
    rw [List.find?_eq_none]
    intro x hx
    have := List.all_eq_true.1 h x hx
    simpa using this
  rw [e]
  rfl
/-- a source's three cells. -/
theorem FS.srcAt {c : Fc} {F : Fx} {W : World} {sv iv tv ev : Value} {wd : Nat} {ss : List Sr} {er : Option (Nat × Nat)} (h : FS c F W sv iv tv ev wd ss er) {pre suf : List Sr} {s : Sr} (hz : ss = pre ++ s :: suf) : ∃ g cap, sv = .slice (some ⟨g, 0, none⟩) ss.length cap ∧ g < W.heap.size ∧ W.cell? ⟨g, pre.length * 3, none⟩ = some (.string s.alias) ∧ W.cell? ⟨g, pre.length * 3 + 1, none⟩ = some (.pointer (some ⟨c.tb, c.tof + s.tab * 3, none⟩)) ∧ W.cell? ⟨g, pre.length * 3 + 2, none⟩ = some (.int .i64 s.first) := by
  have hn : 0 < ss.length := by rw [hz, List.length_append, List.length_cons]; omega
  have ho := h.srcs
  obtain ⟨g, cap, rfl, _, hlt⟩ := ho.form hn
  refine ⟨g, cap, rfl, hlt, ?_, ?_, ?_⟩
  · rw [ho.cellAt _ (by rw [hz, List.length_append, List.length_cons]; omega), hz]; exact (srP_at c pre suf s).1
  · rw [ho.cellAt _ (by rw [hz, List.length_append, List.length_cons]; omega), hz]; exact (srP_at c pre suf s).2.1
  · rw [ho.cellAt _ (by rw [hz, List.length_append, List.length_cons]; omega), hz]; exact (srP_at c pre suf s).2.2

/-- where the source of a name lies. -/
def SpAt (c : Fc) (w : World) (sv : Value) (ss : List Sr) (s : ByteArray) (ad : Option Addr) : Prop := match spoken ss s with
  | none => ad = none
  | some x => x ∈ ss ∧ ∃ g k, ad = some ⟨g, k, none⟩ ∧ g < w.heap.size ∧ w.cell? ⟨g, k + 1, none⟩ = some (.pointer (some ⟨c.tb, c.tof + x.tab * 3, none⟩)) ∧ w.cell? ⟨g, k + 2, none⟩ = some (.int .i64 x.first) ∧ sv.ownBlock = some g
theorem SpAt.no {c : Fc} {w : World} {sv : Value} {ss : List Sr} {s : ByteArray} {ad : Option Addr} (h : SpAt c w sv ss s ad) (hs : spoken ss s = none) : ad = none := by
  unfold SpAt at h; rw [hs] at h; exact h
theorem SpAt.yes {c : Fc} {w : World} {sv : Value} {ss : List Sr} {s : ByteArray} {ad : Option Addr} (h : SpAt c w sv ss s ad) {x : Sr} (hs : spoken ss s = some x) : x ∈ ss ∧ ∃ g k, ad = some ⟨g, k, none⟩ ∧ g < w.heap.size ∧ w.cell? ⟨g, k + 1, none⟩ = some (.pointer (some ⟨c.tb, c.tof + x.tab * 3, none⟩)) ∧ w.cell? ⟨g, k + 2, none⟩ = some (.int .i64 x.first) ∧ sv.ownBlock = some g := by
  unfold SpAt at h; rw [hs] at h; exact h

set_option maxRecDepth 100000 in
set_option maxHeartbeats 1000000 in
theorem spokenOf_any (c : Fc) (F : Fx) (w : World) (sv iv tv ev : Value) (wd : Nat) (ss : List Sr) (er : Option (Nat × Nat)) (h : FS c F w sv iv tv ev wd ss er) (s : ByteArray) :
    Calls Tryz.prog 245 #[.pointer (some ⟨c.fb, 0, none⟩), .string s] w fun e w' => (∃ ad, e = .returned (.pointer ad) ∧ SpAt c w sv ss s ad) ∧ w' = w := by
  obtain ⟨j, fz, z⟩ := h.facts
  have few := h.few
  have HH := hide h
  obtain ⟨ads, caps, hsv⟩ := owns_shape h.srcs
  subst hsv
  clear h
  go_enter Tryz.func245, Tryz.ntmps245
  go_wp2_with fail
  go_loopg [5, 12] ss.length (fun f _ i W => ∃ pre suf, ss = pre ++ suf ∧ f = suf.length ∧ i = .int .i64 (pre.length : Nat) ∧ pre.all (fun t => !(t.alias.toList == s.toList)) = true ∧ W = w)
  case atStart => exact ⟨[], ss, rfl, rfl, rfl, rfl, rfl⟩
  case round =>
    obtain ⟨pre, suf, h1, rfl, rfl, hal, hw⟩ := hrel
    obtain rfl := hw.symm
    have l1 : pre.length + suf.length = ss.length := by rw [h1, List.length_append]
    have HZ := hide h1
    have HAL := hide hal
    clear h1 hal
    cases suf with
    | nil =>
      have hlt : decide (pre.length < ss.length) = false := by simp at l1 ⊢; omega
      go_wp2
      go_ret
      refine ⟨⟨none, rfl, ?_⟩, rfl⟩
      have e : spoken ss s = none := by rw [unhide HZ, spoken_skip (unhide HAL)]; rfl
      unfold SpAt
      rw [e]
    | cons t suf =>
      rw [List.length_cons] at l1
      have hlt : decide (pre.length < ss.length) = true := by simp; omega
      obtain ⟨g, cap, e1, z1, k1, k2, k3⟩ := (unhide HH).srcAt (unhide HZ)
      injection e1 with e1 _ e2
      subst e1 e2
      have HZ2 : Hid (ss = (pre ++ [t]) ++ suf) := by unfold Hid; rw [unhide HZ]; simp
      have HK2 := hide k2
      have HK3 := hide k3
      clear k2 k3
      cases hzy : (t.alias.toList == s.toList) with
      | true =>
        have HY := hide hzy
        go_wp2
        go_ret
        refine ⟨⟨_, rfl, ?_⟩, rfl⟩
        have e : spoken ss s = some t := by
          rw [unhide HZ, spoken_skip (unhide HAL)]
          unfold spoken
          rw [List.find?_cons, unhide HY]
        unfold SpAt
        rw [e]
        exact ⟨by rw [unhide HZ]; simp, g, pre.length * 3, by simp, z1, unhide HK2, unhide HK3, rfl⟩
      | false =>
        have HY := hide hzy
        go_wp2
        go_roundg suf.length
        case measure => simp
        case rel =>
          refine ⟨pre ++ [t], suf, unhide HZ2, rfl, ?_, ?_, rfl⟩
          · rw [List.length_append]; go_num
          · rw [List.all_append, unhide HAL, List.all_cons, unhide HY]; rfl
end Go.Proofs.YtfkeddkfegaeiaaGreatDoor
namespace Go.Proofs.YtfkeddkfegaeiaaGreatDoor
open Go.RowKit

/-- what a step of the finder leaves. -/
def FA (c : Fc) (F : Fx) (w : World) (sv iv tv : Value) (wd : Nat) (ss : List Sr) (er : Option (Nat × Nat)) (w' : World) (F' : Fx) : Prop := Ext w.heap.size F F' ∧ Kp c.fb w w' ∧ ∃ ev', FS c F' w' sv iv tv ev' wd ss er

/-- an error at a place, told to the finder. -/
theorem told_at {c : Fc} {F : Fx} {w w1 : World} {sv iv tv ev : Value} {wd : Nat} {ss : List Sr} {er : Option (Nat × Nat)} (h : FS c F w sv iv tv ev wd ss er) {b p k : Nat} (h1 : w.heap.size ≤ b) (hat : AtBlk w1 b p (errV c.a k)) (hb : Below w.heap.size w w1) :
    Ext w.heap.size F (F.set b (.cells #[.int .i64 (p : Nat), errV c.a k] 113 (0, 0))) ∧ Kp c.fb w w1 ∧ FS c (F.set b (.cells #[.int .i64 (p : Nat), errV c.a k] 113 (0, 0))) w1 sv iv tv ev wd ss er := by
  have hn : F b = none := h.grow.noneF h1
  exact ⟨Ext.set _ h1 hn, Kp.ofBelow hb, (h.below hb).fixNew h hat h1 hn⟩

set_option maxRecDepth 100000 in
set_option maxHeartbeats 1000000 in
theorem fcolumn_none (c : Fc) (F : Fx) (w : World) (sv iv tv ev : Value) (wd : Nat) (ss : List Sr) (er : Option (Nat × Nat)) (h : FS c F w sv iv tv ev wd ss er) (b : Nat) (pl : Int) (t u : Tk) (hb : c.w0.heap[b]? = some (.cells #[.int .i64 pl, .int .i64 t.place, .string t.text, .int .i64 u.place, .string u.text] 397 (0, 0))) (hsp : spoken ss t.text = none) :
    Calls Tryz.prog 288 #[.pointer (some ⟨c.fb, 0, none⟩), .pointer (some ⟨b, 0, none⟩)] w fun e w' => e = .returned (.int .i64 0) ∧ ∃ F', FA c F w sv iv tv wd ss (orE er (some (t.place, eTable))) w' F' := by
  have hb' := (h.old.block b (lt_of_heap hb)).trans hb
  obtain ⟨kb, fb⟩ := blk hb'
  have zb := lt_of_heap hb'
  have HB := hide hb'
  have HH := hide h
  have hg := h.env.cell 5 (by decide)
  clear hb hb' h
  go_enter Tryz.func288, Tryz.ntmps288
  go_wp2_with fail
  refine (spokenOf_any c F _ sv iv tv ev wd ss er (by exact unhide HH) t.text).mono ?_
  rintro e w1 ⟨⟨ad, rfl, hm⟩, hw1⟩
  obtain rfl := hw1.symm
  obtain rfl := hm.no hsp
  clear hm
  go_upto_region 3 with (fail)
  go_cut [24] (fun _ W => ∃ F', FA c F w sv iv tv wd ss (orE er (some (t.place, eTable))) W F')
  case first =>
    go_region_with (first
      | (go_at_call 99; refine (Wrong_at _ _ _ _).mono ?_; rintro e w2 ⟨q, rfl, hq1, hq2, hat, hb2⟩; have HT2 := hide (told_at (unhide HH).drew hq1 hat hb2); clear hat hb2)
      | (go_at_call 244; refine (ffail_any c _ _ sv iv tv ev wd ss er (by exact (unhide HT2).2.2) q t.place eTable (Fx.set_same _ _ _)).mono ?_; rintro e w3 ⟨rfl, hk3, ev3, h3⟩; have HE : Hid (FA c F w sv iv tv wd ss (orE er (some (t.place, eTable))) w3 _) := ⟨(unhide HT2).1, (((Kp.refl c.fb w).drew).trans (unhide HT2).2.1).trans hk3, ev3, h3⟩; clear hk3 h3))
    all_goals
      go_wp2_with fail
      go_meet
      case rel => exact ⟨_, unhide HE⟩
  case rest =>
    obtain ⟨F', hfa⟩ := hcut
    have HE := hide hfa
    clear hfa
    go_wp2
    go_ret
    exact ⟨rfl, F', unhide HE⟩
end Go.Proofs.YtfkeddkfegaeiaaGreatDoor
namespace Go.Proofs.YtfkeddkfegaeiaaGreatDoor
open Go.RowKit

theorem idxFromS_range (s : ByteArray) : ∀ (l : List ByteArray) (i : Nat), Lib.idxFromS l s i = -1 ∨ ((i : Int) ≤ Lib.idxFromS l s i ∧ Lib.idxFromS l s i < ((i + l.length : Nat) : Int))
  | [], i => Or.inl rfl
  | a :: r, i => by
    rw [Lib.idxFromS]
    split
    · exact Or.inr ⟨Int.le_refl _, by rw [List.length_cons]; omega⟩
    · rcases idxFromS_range s r (i + 1) with h | ⟨h1, h2⟩
      · exact Or.inl h
      · refine Or.inr ⟨by omega, ?_⟩
        rw [List.length_cons]
        omega
theorem idxOfS_range (l : List ByteArray) (s : ByteArray) : -1 ≤ Lib.idxOfS l s ∧ Lib.idxOfS l s < l.length := by
  unfold Lib.idxOfS
  rcases idxFromS_range s l 0 with h | ⟨h1, h2⟩
  · rw [h]; omega
  · omega
/-- a table as it lies: its columns. -/
theorem TabsAt.tab {W : World} {b o cap : Nat} {T : List Tb} (h : TabsAt W (.slice (some ⟨b, o, none⟩) T.length cap) T) {j : Nat} (hj : j < T.length) : b < W.heap.size ∧ ∃ cv rv, W.cell? ⟨b, o + j * 3, none⟩ = some (.string (T.getD j tb0).name) ∧ W.cell? ⟨b, o + j * 3 + 1, none⟩ = some cv ∧ W.cell? ⟨b, o + j * 3 + 2, none⟩ = some rv ∧ RowAt W cv (textsV (T.getD j tb0).cols) ∧ RowsAt W rv (T.getD j tb0).rows := by
  obtain ⟨ad, cap', e0, _, _, cl⟩ := h
  injection e0 with e1 _ _
  subst e1
  obtain ⟨b', o', e, z, c⟩ := cl (by omega)
  injection e with e
  injection e with e1 e2
  subst e1 e2
  have hg : T[j]? = some (T.getD j tb0) := by simp [List.getD_eq_getElem?_getD, List.getElem?_eq_getElem hj]
  obtain ⟨cv, rv, ⟨cv', rv', e', h1, _, h2⟩, k1, k2, k3⟩ := c j _ hg
  injection e' with _ e'
  injection e' with e1 e'
  injection e' with e2 _
  subst e1 e2
  exact ⟨z, cv, rv, k1, k2, k3, h1, h2⟩

set_option maxRecDepth 100000 in
set_option maxHeartbeats 1000000 in
theorem fcolumn_some (c : Fc) (F : Fx) (w : World) (sv iv tv ev : Value) (wd : Nat) (ss : List Sr) (er : Option (Nat × Nat)) (h : FS c F w sv iv tv ev wd ss er) (b : Nat) (pl : Int) (t u : Tk) (hb : c.w0.heap[b]? = some (.cells #[.int .i64 pl, .int .i64 t.place, .string t.text, .int .i64 u.place, .string u.text] 397 (0, 0))) (x : Sr) (hsp : spoken ss t.text = some x) (n : Int) (hn : Lib.idxOfS (colsOf c.T x) u.text = n) (en : Option (Nat × Nat)) (HEN : Hid (en = if n < 0 then some (u.place, eColumn) else none)) :
    Calls Tryz.prog 288 #[.pointer (some ⟨c.fb, 0, none⟩), .pointer (some ⟨b, 0, none⟩)] w fun e w' => e = .returned (.int .i64 (x.first + n)) ∧ ∃ F', FA c F w sv iv tv wd ss (orE er en) w' F' := by
  have hb' := (h.old.block b (lt_of_heap hb)).trans hb
  obtain ⟨kb, fb⟩ := blk hb'
  have zb := lt_of_heap hb'
  have HB := hide hb'
  have HH := hide h
  have hwd := h.wide
  have few := h.few
  have hrg := idxOfS_range (colsOf c.T x) u.text
  rw [hn] at hrg
  have HN := hide hn
  clear hb hb' h hn
  go_enter Tryz.func288, Tryz.ntmps288
  go_wp2_with fail
  refine (spokenOf_any c F _ sv iv tv ev wd ss er (by exact unhide HH) t.text).mono ?_
  rintro e w1 ⟨⟨ad, rfl, hm⟩, hw1⟩
  obtain rfl := hw1.symm
  obtain ⟨hin, g, k, rfl, zg, k1, k2, hog⟩ := hm.yes hsp
  have hgf : g ≠ c.fb := ((unhide HH).grow.off sv List.mem_cons_self g hog).2.1
  have hx1 := hwd.2.1 x hin
  have hx2 : wd ≤ 18 := by have := hwd.1; omega
  have hxf : x.first ≤ 18 := by omega
  have hn1 : -1 ≤ n := hrg.1
  have hn2 : n ≤ 18 := by omega
  obtain ⟨ztb, cv, rv, -, q2, -, hrow, -⟩ := ((unhide HH).tabs _ (unhide HH).fits).tab ((unhide HH).ok x hin)
  have HROW := hide hrow
  obtain ⟨adc, capc, rfl, _, _⟩ := hrow
  rw [List.length_map] at q2 HROW
  clear hm hrg hwd hx1 hin hog few
  go_upto_region 5 with (fail)
  go_cut [6] (fun v W => v = .int .i64 n ∧ Below w.heap.size w W)
  case first =>
    go_region_with (go_at_call 268; refine (sIndex_any _ (colsOf c.T x) _ _ (by exact (unhide HROW).keep (Below.refl _ _).drew)).mono ?_; rintro e w2 ⟨rfl, hw2⟩; obtain rfl := hw2.symm; rw [unhide HN])
    all_goals
      go_wp2_with fail
      go_meet
      case rel => exact ⟨rfl, (Below.refl _ _).drew⟩
  case rest =>
    obtain ⟨rfl, hbw⟩ := hcut
    have HBW := hide hbw
    have HF := hide ((unhide HH).below hbw)
    have zz := hbw.size
    clear hbw q2
    have k2' : wc.cell? ⟨g, k + 2, none⟩ = some (.int .i64 x.first) := by rw [(unhide HBW).cell (p := ⟨g, _, none⟩) zg]; exact k2
    have kb' : ∀ o, wc.cell? ⟨b, o, none⟩ = #[.int .i64 pl, .int .i64 t.place, .string t.text, .int .i64 u.place, .string u.text][o]? := fun o => by rw [(unhide HBW).cell (p := ⟨b, _, none⟩) zb]; exact kb o
    have HK2 := hide k2
    clear k1 k2 kb fb
    by_cases hneg : n < 0
    · have hd : decide (n < 0) = true := by simpa using hneg
      have hg := (unhide HF).env.cell 6 (by decide)
      have HNEG := hide hneg
      clear hneg
      go_upto_region 7 with (fail)
      go_cut [48] (fun _ W => ∃ F', FA c F w sv iv tv wd ss (orE er (some (u.place, eColumn))) W F' ∧ W.cell? ⟨g, k + 2, none⟩ = some (.int .i64 x.first))
      case first =>
        go_region_with (first
          | (go_at_call 99; refine (Wrong_at _ _ _ _).mono ?_; rintro e w2 ⟨q, rfl, hq1, hq2, hat, hb2⟩; have HT2 := hide (told_at (unhide HF).drew hq1 hat hb2); clear hat hb2)
          | (go_at_call 244; refine (ffail_any c _ _ sv iv tv ev wd ss er (by exact (unhide HT2).2.2) q u.place eColumn (Fx.set_same _ _ _)).mono ?_; rintro e w3 ⟨rfl, hk3, ev3, h3⟩; have HE : Hid (Kp c.fb w w3 ∧ FS c _ w3 sv iv tv ev3 wd ss (orE er (some (u.place, eColumn)))) := ⟨((Kp.ofBelow (unhide HBW).drew).trans (unhide HT2).2.1).trans hk3, h3⟩; clear hk3 h3))
        all_goals
          go_wp2_with fail
          go_meet
          case rel => exact ⟨_, ⟨(unhide HT2).1.mono (by exact zz), (unhide HE).1, _, (unhide HE).2⟩, by rw [(unhide HE).1.cell (p := ⟨g, _, none⟩) zg hgf]; exact unhide HK2⟩
      case rest =>
        obtain ⟨F', hfa, k9⟩ := hcut
        have HFA := hide hfa
        clear hfa
        go_wp2
        go_ret
        refine ⟨rfl, F', ?_⟩
        rw [unhide HEN, if_pos (unhide HNEG)]
        exact unhide HFA
    · have hd : decide (n < 0) = false := by simpa using hneg
      have HNEG : Hid (0 ≤ n) := Int.not_lt.1 hneg
      clear hneg
      go_wp2
      go_ret
      refine ⟨rfl, F, ?_⟩
      rw [unhide HEN, if_neg (Int.not_lt.2 (unhide HNEG)), orE_none]
      exact ⟨Ext.refl _ _, Kp.ofBelow (unhide HBW), ev, unhide HF⟩
/-- any column. -/
theorem fcolumn_any (c : Fc) (F : Fx) (w : World) (sv iv tv ev : Value) (wd : Nat) (ss : List Sr) (er : Option (Nat × Nat)) (h : FS c F w sv iv tv ev wd ss er) (b : Nat) (pl : Int) (t u : Tk) (hb : c.w0.heap[b]? = some (.cells #[.int .i64 pl, .int .i64 t.place, .string t.text, .int .i64 u.place, .string u.text] 397 (0, 0))) :
    Calls Tryz.prog 288 #[.pointer (some ⟨c.fb, 0, none⟩), .pointer (some ⟨b, 0, none⟩)] w fun e w' => e = .returned (.int .i64 (colAt c.T ss t.text u.text)) ∧ ∃ F', FA c F w sv iv tv wd ss (orE er (ndErr c.T ss (ndCol t u))) w' F' := by
  cases hs : spoken ss t.text with
  | none =>
    refine (fcolumn_none c F w sv iv tv ev wd ss er h b pl t u hb hs).mono ?_
    rintro e w' ⟨rfl, F', hf⟩
    have e1 : colAt c.T ss t.text u.text = 0 := by unfold colAt; rw [hs]
    have e2 : ndErr c.T ss (ndCol t u) = some (t.place, eTable) := by
      unfold ndErr
      rw [if_pos (by rfl)]
      show (match spoken ss t.text with | none => some (t.place, eTable) | some s => _) = _
      rw [hs]
    rw [e1, e2]
    exact ⟨rfl, F', hf⟩
  | some x =>
    refine (fcolumn_some c F w sv iv tv ev wd ss er h b pl t u hb x hs _ rfl _ rfl).mono ?_
    rintro e w' ⟨rfl, F', hf⟩
    have e1 : colAt c.T ss t.text u.text = x.first + Lib.idxOfS (colsOf c.T x) u.text := by unfold colAt; rw [hs]
    have e2 : ndErr c.T ss (ndCol t u) = if Lib.idxOfS (colsOf c.T x) u.text < 0 then some (u.place, eColumn) else none := by
      unfold ndErr
      rw [if_pos (by rfl)]
      show (match spoken ss t.text with | none => some (t.place, eTable) | some s => if Lib.idxOfS (colsOf c.T s) u.text < 0 then some (u.place, eColumn) else none) = _
      rw [hs]
    rw [e1, e2]
    exact ⟨rfl, F', hf⟩
/-- a column that is there stands within the row. -/
theorem colAt_lt {c : Fc} {F : Fx} {w : World} {sv iv tv ev : Value} {wd : Nat} {ss : List Sr} {er : Option (Nat × Nat)} (h : FS c F w sv iv tv ev wd ss er) {t u : Tk} (he : ndErr c.T ss (ndCol t u) = none) : 0 ≤ colAt c.T ss t.text u.text ∧ colAt c.T ss t.text u.text < wd := by
  have e : ndErr c.T ss (ndCol t u) = match spoken ss t.text with | none => some (t.place, eTable) | some s => if Lib.idxOfS (colsOf c.T s) u.text < 0 then some (u.place, eColumn) else none := by
    unfold ndErr; rw [if_pos (by rfl)]; rfl
  rw [e] at he
  cases hs : spoken ss t.text with
  | none => rw [hs] at he; cases he
  | some x =>
    rw [hs] at he
    have hin : x ∈ ss := List.mem_of_find?_eq_some hs
    have h1 := h.wide.2.1 x hin
    have h2 := idxOfS_range (colsOf c.T x) u.text
    have h3 : ¬ Lib.idxOfS (colsOf c.T x) u.text < 0 := fun hlt => by simp only [if_pos hlt] at he; cases he
    have e1 : colAt c.T ss t.text u.text = x.first + Lib.idxOfS (colsOf c.T x) u.text := by unfold colAt; rw [hs]
    rw [e1]
    omega
end Go.Proofs.YtfkeddkfegaeiaaGreatDoor
namespace Go.Proofs.YtfkeddkfegaeiaaGreatDoor
open Go.RowKit

theorem wrapE (n : Int) : IntKind.i64.wrap n = wrap64 n := by unfold wrap64; exact IntKind.wrap_i64 n
/-- function g, bound to cb, gives f of a row of n numbers. -/
def FnG (w0 : World) (F : Fx) (n g : Nat) (cb : Array Value) (f : List Int → Int) : Prop := Enters g ∧ ∀ (W : World) (rv : Value) (row : List Int), Fits w0 F W → row.length = n → RowAt W rv (intsV row) → Calls Tryz.prog g (#[rv] ++ cb) W fun e W' => e = .returned (.int .i64 (f row)) ∧ Below W.heap.size W W'
theorem FnG.mono {w0 : World} {F F' : Fx} {n g : Nat} {cb : Array Value} {f : List Int → Int} (h : FnG w0 F n g cb f) (hF : F.le F') : FnG w0 F' n g cb f := ⟨h.1, fun W rv row hW => h.2 W rv row (hW.mono hF)⟩
theorem FnG.fnv {w0 : World} {F : Fx} {n g : Nat} {cb : Array Value} {f : List Int → Int} (h : FnG w0 F n g cb f) : FnV w0 F n (.func (.func g) #[] cb) f := ⟨g, cb, rfl, h.1, h.2⟩

set_option maxRecDepth 100000 in
set_option maxHeartbeats 1000000 in
theorem fn_num (w0 : World) (F : Fx) (n bx b : Nat) (t : Tk) (T : TypeId) (hx : F bx = some (.cells #[.pointer (some ⟨b, 0, none⟩)] T (0, 0))) (hb : w0.heap[b]? = some (.cells #[.int .i64 t.place, .int .i64 t.value, .string t.text] 391 (0, 0))) :
    FnG w0 F n 286 #[.pointer (some ⟨bx, 0, none⟩)] (fun _ => t.value) := by
  refine ⟨enters_of Tryz.func286 (by kernel_rfl) rfl, fun W rv row hW hl hr => ?_⟩
  obtain ⟨kx, fx⟩ := blk (hW.new _ _ hx)
  obtain ⟨kb, fb⟩ := blk ((hW.old.block b (lt_of_heap hb)).trans hb)
  obtain ⟨ad, cap, rfl, _, _⟩ := hr
  clear hx hb hW
  show Calls Tryz.prog 286 #[_, _] W _
  go_enter Tryz.func286, Tryz.ntmps286
  go_wp2
  go_ret
  exact ⟨rfl, Below.refl _ _⟩

set_option maxRecDepth 100000 in
set_option maxHeartbeats 1000000 in
theorem fn_minus (w0 : World) (F : Fx) (n bx g : Nat) (cb : Array Value) (f : List Int → Int) (T : TypeId) (hx : F bx = some (.cells #[.func (.func g) #[] cb] T (0, 0))) (hf : FnG w0 F n g cb f) :
    FnG w0 F n 287 #[.pointer (some ⟨bx, 0, none⟩)] (fun r => wrap64 (-(f r))) := by
  refine ⟨enters_of Tryz.func287 (by kernel_rfl) rfl, fun W rv row hW hl hr => ?_⟩
  obtain ⟨kx, fx⟩ := blk (hW.new _ _ hx)
  have eg := hf.1
  have HC := hide (hf.2 W rv row hW hl hr)
  obtain ⟨ad, cap, rfl, _, _⟩ := hr
  clear hx hf hW hl
  rw [List.length_map] at HC ⊢
  show Calls Tryz.prog 287 #[_, _] W _
  go_enter Tryz.func287, Tryz.ntmps287
  go_wp2_with fail
  refine (unhide HC).mono ?_
  rintro e w1 ⟨rfl, hb1⟩
  have HB := hide hb1
  clear hb1
  go_wp2
  go_ret
  exact ⟨rfl, unhide HB⟩

set_option maxRecDepth 100000 in
set_option maxHeartbeats 1000000 in
theorem fn_col (w0 : World) (F : Fx) (n bx : Nat) (k : Int) (T : TypeId) (hx : F bx = some (.cells #[.int .i64 k] T (0, 0))) (hk : 0 ≤ k ∧ k < n) :
    FnG w0 F n 289 #[.pointer (some ⟨bx, 0, none⟩)] (fun r => r.getD k.toNat 0) := by
  refine ⟨enters_of Tryz.func289 (by kernel_rfl) rfl, fun W rv row hW hl hr => ?_⟩
  obtain ⟨kx, fx⟩ := blk (hW.new _ _ hx)
  obtain ⟨m, rfl⟩ : ∃ m : Nat, k = m := ⟨k.toNat, by omega⟩
  have hm : m < row.length := by omega
  obtain ⟨ad, cap, rfl, hx1, hx2⟩ := hr
  rw [List.length_map] at hx1 hx2
  obtain ⟨b1, o1, rfl, z1, c1⟩ := hx2 (by omega)
  have hc : W.cell? ⟨b1, o1 + m, none⟩ = some (.int .i64 (row.getD m 0)) := by
    rw [c1 _ hm, List.getElem?_map, List.getD_eq_getElem?_getD, List.getElem?_eq_getElem hm]
    rfl
  unfold maxLen at hx1
  rw [List.length_map]
  clear hx hW c1 hx2
  show Calls Tryz.prog 289 #[_, _] W _
  go_enter Tryz.func289, Tryz.ntmps289
  go_wp2
  go_ret
  exact ⟨by simp, Below.refl _ _⟩

/-- two function values, called one behind the other. -/
theorem fn_two {w0 W W1 : World} {F : Fx} {n g : Nat} {cb : Array Value} {f : List Int → Int} (h : FnG w0 F n g cb f) (hW : Fits w0 F W) (hb : Below W.heap.size W W1) {rv : Value} {row : List Int} (hl : row.length = n) (hr : RowAt W rv (intsV row)) : Calls Tryz.prog g (#[rv] ++ cb) W1 fun e W' => e = .returned (.int .i64 (f row)) ∧ Below W.heap.size W W' :=
  (h.2 W1 rv row (hW.below hb) hl (hr.keep hb)).mono fun _ _ ⟨he, hb'⟩ => ⟨he, hb.trans (hb'.mono hb.size)⟩

set_option maxRecDepth 100000 in
set_option maxHeartbeats 1000000 in
theorem fn_add (w0 : World) (F : Fx) (n bx by' g g' : Nat) (cb cb' : Array Value) (f f' : List Int → Int) (T : TypeId) (hx : F bx = some (.cells #[.func (.func g) #[] cb] T (0, 0))) (hy : F by' = some (.cells #[.func (.func g') #[] cb'] T (0, 0))) (hf : FnG w0 F n g cb f) (hf' : FnG w0 F n g' cb' f') :
    FnG w0 F n 320 #[.pointer (some ⟨bx, 0, none⟩), .pointer (some ⟨by', 0, none⟩)] (fun r => wrap64 (f r + f' r)) := by
  refine ⟨enters_of Tryz.func320 (by kernel_rfl) rfl, fun W rv row hW hl hr => ?_⟩
  obtain ⟨kx, fx⟩ := blk (hW.new _ _ hx)
  obtain ⟨ky, fy⟩ := blk (hW.new _ _ hy)
  have zy := lt_of_heap (hW.new _ _ hy)
  have eg := hf.1
  have eg' := hf'.1
  have HC := hide (fun W1 hb => fn_two hf hW (W1 := W1) hb hl hr)
  have HC' := hide (fun W1 hb => fn_two hf' hW (W1 := W1) hb hl hr)
  have HKY : Hid (∀ W1, Below W.heap.size W W1 → W1.cell? ⟨by', 0, none⟩ = some (.func (.func g') #[] cb')) := fun W1 hb => by rw [hb.cell (p := ⟨by', 0, none⟩) zy, ky]; rfl
  obtain ⟨ad, cap, rfl, _, _⟩ := hr
  clear hx hy hf hf' hW hl
  rw [List.length_map] at HC HC' ⊢
  show Calls Tryz.prog 320 #[_, _, _] W _
  go_enter Tryz.func320, Tryz.ntmps320
  go_upto_region 1 with (fail)
  go_cut [4] (fun v W1 => v = .int .i64 (wrap64 (f row + f' row)) ∧ Below W.heap.size W W1)
  case first =>
    go_region_with (first
      | (refine ((unhide HC) _ (by exact (Below.refl _ _).drew)).mono ?_; clear HC; rintro e w1 ⟨rfl, hb1⟩; have HB1 := hide hb1; have ky1 := (unhide HKY) _ hb1; clear hb1)
      | (refine ((unhide HC') _ (by exact unhide HB1)).mono ?_; rintro e w2 ⟨rfl, hb2⟩; have HB2 := hide hb2; clear hb2))
    all_goals
      go_wp2_with fail
      go_meet
      case rel => exact ⟨by rw [wrapE], unhide HB2⟩
  case rest =>
    obtain ⟨rfl, hbw⟩ := hcut
    have HB := hide hbw
    clear hbw
    go_wp2
    go_ret
    exact ⟨rfl, unhide HB⟩
set_option maxRecDepth 100000 in
set_option maxHeartbeats 1000000 in
theorem fn_sub (w0 : World) (F : Fx) (n bx by' g g' : Nat) (cb cb' : Array Value) (f f' : List Int → Int) (T : TypeId) (hx : F bx = some (.cells #[.func (.func g) #[] cb] T (0, 0))) (hy : F by' = some (.cells #[.func (.func g') #[] cb'] T (0, 0))) (hf : FnG w0 F n g cb f) (hf' : FnG w0 F n g' cb' f') :
    FnG w0 F n 321 #[.pointer (some ⟨bx, 0, none⟩), .pointer (some ⟨by', 0, none⟩)] (fun r => wrap64 (f r - f' r)) := by
  refine ⟨enters_of Tryz.func321 (by kernel_rfl) rfl, fun W rv row hW hl hr => ?_⟩
  obtain ⟨kx, fx⟩ := blk (hW.new _ _ hx)
  obtain ⟨ky, fy⟩ := blk (hW.new _ _ hy)
  have zy := lt_of_heap (hW.new _ _ hy)
  have eg := hf.1
  have eg' := hf'.1
  have HC := hide (fun W1 hb => fn_two hf hW (W1 := W1) hb hl hr)
  have HC' := hide (fun W1 hb => fn_two hf' hW (W1 := W1) hb hl hr)
  have HKY : Hid (∀ W1, Below W.heap.size W W1 → W1.cell? ⟨by', 0, none⟩ = some (.func (.func g') #[] cb')) := fun W1 hb => by rw [hb.cell (p := ⟨by', 0, none⟩) zy, ky]; rfl
  obtain ⟨ad, cap, rfl, _, _⟩ := hr
  clear hx hy hf hf' hW hl
  rw [List.length_map] at HC HC' ⊢
  show Calls Tryz.prog 321 #[_, _, _] W _
  go_enter Tryz.func321, Tryz.ntmps321
  go_upto_region 1 with (fail)
  go_cut [4] (fun v W1 => v = .int .i64 (wrap64 (f row - f' row)) ∧ Below W.heap.size W W1)
  case first =>
    go_region_with (first
      | (refine ((unhide HC) _ (by exact (Below.refl _ _).drew)).mono ?_; clear HC; rintro e w1 ⟨rfl, hb1⟩; have HB1 := hide hb1; have ky1 := (unhide HKY) _ hb1; clear hb1)
      | (refine ((unhide HC') _ (by exact unhide HB1)).mono ?_; rintro e w2 ⟨rfl, hb2⟩; have HB2 := hide hb2; clear hb2))
    all_goals
      go_wp2_with fail
      go_meet
      case rel => exact ⟨by rw [wrapE], unhide HB2⟩
  case rest =>
    obtain ⟨rfl, hbw⟩ := hcut
    have HB := hide hbw
    clear hbw
    go_wp2
    go_ret
    exact ⟨rfl, unhide HB⟩
set_option maxRecDepth 100000 in
set_option maxHeartbeats 1000000 in
theorem fn_mul (w0 : World) (F : Fx) (n bx by' g g' : Nat) (cb cb' : Array Value) (f f' : List Int → Int) (T : TypeId) (hx : F bx = some (.cells #[.func (.func g) #[] cb] T (0, 0))) (hy : F by' = some (.cells #[.func (.func g') #[] cb'] T (0, 0))) (hf : FnG w0 F n g cb f) (hf' : FnG w0 F n g' cb' f') :
    FnG w0 F n 322 #[.pointer (some ⟨bx, 0, none⟩), .pointer (some ⟨by', 0, none⟩)] (fun r => wrap64 (f r * f' r)) := by
  refine ⟨enters_of Tryz.func322 (by kernel_rfl) rfl, fun W rv row hW hl hr => ?_⟩
  obtain ⟨kx, fx⟩ := blk (hW.new _ _ hx)
  obtain ⟨ky, fy⟩ := blk (hW.new _ _ hy)
  have zy := lt_of_heap (hW.new _ _ hy)
  have eg := hf.1
  have eg' := hf'.1
  have HC := hide (fun W1 hb => fn_two hf hW (W1 := W1) hb hl hr)
  have HC' := hide (fun W1 hb => fn_two hf' hW (W1 := W1) hb hl hr)
  have HKY : Hid (∀ W1, Below W.heap.size W W1 → W1.cell? ⟨by', 0, none⟩ = some (.func (.func g') #[] cb')) := fun W1 hb => by rw [hb.cell (p := ⟨by', 0, none⟩) zy, ky]; rfl
  obtain ⟨ad, cap, rfl, _, _⟩ := hr
  clear hx hy hf hf' hW hl
  rw [List.length_map] at HC HC' ⊢
  show Calls Tryz.prog 322 #[_, _, _] W _
  go_enter Tryz.func322, Tryz.ntmps322
  go_upto_region 1 with (fail)
  go_cut [4] (fun v W1 => v = .int .i64 (wrap64 (f row * f' row)) ∧ Below W.heap.size W W1)
  case first =>
    go_region_with (first
      | (refine ((unhide HC) _ (by exact (Below.refl _ _).drew)).mono ?_; clear HC; rintro e w1 ⟨rfl, hb1⟩; have HB1 := hide hb1; have ky1 := (unhide HKY) _ hb1; clear hb1)
      | (refine ((unhide HC') _ (by exact unhide HB1)).mono ?_; rintro e w2 ⟨rfl, hb2⟩; have HB2 := hide hb2; clear hb2))
    all_goals
      go_wp2_with fail
      go_meet
      case rel => exact ⟨by rw [wrapE], unhide HB2⟩
  case rest =>
    obtain ⟨rfl, hbw⟩ := hcut
    have HB := hide hbw
    clear hbw
    go_wp2
    go_ret
    exact ⟨rfl, unhide HB⟩
end Go.Proofs.YtfkeddkfegaeiaaGreatDoor
namespace Go.Proofs.YtfkeddkfegaeiaaGreatDoor
open Go.RowKit

theorem store_func (fn : Fn) (f c : Array Value) (a : Addr) (m : Mode) (w : World) : (store a (.func fn f c) m).run Tryz.prog w = stored Tryz.prog w a (.func fn f c) m := run_store Tryz.prog w a _ m rfl
/-- what finding an expr does, so deep. -/
def ValSpec (c : Fc) (n : Nat) : Prop := ∀ (v : Value) (l : List Nd) (F : Fx) (W : World) (sv iv tv ev : Value) (wd : Nat) (ss : List Sr) (er en : Option (Nat × Nat)), ExP c.w0 (fun _ => True) n v l → FS c F W sv iv tv ev wd ss er → Hid (en = orE er (exErr c.T ss l)) →
  Calls Tryz.prog 247 #[.pointer (some ⟨c.fb, 0, none⟩), v] W fun e W' => ∃ g cb, e = .returned (.func (.func g) #[] cb) ∧ ∃ F', FA c F W sv iv tv wd ss en W' F' ∧ (en = none → FnG c.w0 (F'.off c.X) wd g cb (evE (colAt c.T ss) l))

/-- a new block is laid down for good, and is none of those that may turn. -/
theorem FA.fix {c : Fc} {F F' : Fx} {w w' : World} {sv iv tv : Value} {wd : Nat} {ss : List Sr} {er' : Option (Nat × Nat)} (h : FA c F w sv iv tv wd ss er' w' F') {b : Nat} {o : Obj} (hb : b = w'.heap.size) :
    FA c F w sv iv tv wd ss er' (w'.alloc o) (F'.set b o) ∧ (F'.set b o).off c.X b = some o ∧ (F'.off c.X).le ((F'.set b o).off c.X) := by
  subst hb
  obtain ⟨hx, hk, ev', hf⟩ := h
  have hn : F' w'.heap.size = none := hf.grow.noneF (Nat.le_refl _)
  have hX : c.X w'.heap.size = false := by
    cases e : c.X w'.heap.size with
    | false => rfl
    | true => have := hf.fbX _ e; omega
  refine ⟨⟨hx.trans (Ext.set (n := w'.heap.size) o (Nat.le_refl _) hn) hk.size, hk.alloc o, ev', (hf.alloc o).fixNew hf (heap_last rfl) (Nat.le_refl _) hn⟩, Fx.off_some (Fx.set_same _ _ _) hX, Fx.off_mono (Fx.le_set o hn) c.X⟩

set_option maxRecDepth 100000 in
set_option maxHeartbeats 1000000 in
theorem value_num (c : Fc) (F : Fx) (W : World) (sv iv tv ev : Value) (wd : Nat) (ss : List Sr) (er : Option (Nat × Nat)) (h : FS c F W sv iv tv ev wd ss er) (b : Nat) (t : Tk) (hb : c.w0.heap[b]? = some (.cells #[.int .i64 t.place, .int .i64 t.value, .string t.text] 391 (0, 0))) :
    Calls Tryz.prog 247 #[.pointer (some ⟨c.fb, 0, none⟩), .iface 386 (.pointer (some ⟨b, 0, none⟩))] W fun e W' => ∃ g cb, e = .returned (.func (.func g) #[] cb) ∧ ∃ F', FA c F W sv iv tv wd ss er W' F' ∧ FnG c.w0 (F'.off c.X) wd g cb (fun _ => t.value) := by
  have HH := hide h
  have HB := hide hb
  have y1 := yes_Number
  have hmf : ∀ (fn : Fn) (first cap : Array Value) (w : World), (Instr.makeFunc fn first cap).run Tryz.prog w = .ok (.func fn first cap) w := fun _ _ _ _ => rfl
  clear h hb
  go_enter Tryz.func247, Tryz.ntmps247
  go_wp2
  go_ret
  obtain ⟨h1, h2, h3⟩ := FA.fix (⟨Ext.refl _ _, Kp.refl _ _, ev, unhide HH⟩ : FA c F W sv iv tv wd ss er W F) (o := .cells #[.pointer (some ⟨b, 0, none⟩)] 386) rfl
  exact ⟨_, _, rfl, _, h1, fn_num _ _ _ _ _ _ _ h2 (unhide HB)⟩

set_option maxRecDepth 100000 in
set_option maxHeartbeats 1000000 in
theorem value_minus (c : Fc) (n : Nat) (IH : Hid (ValSpec c n)) (F : Fx) (W : World) (sv iv tv ev : Value) (wd : Nat) (ss : List Sr) (er en : Option (Nat × Nat)) (h : FS c F W sv iv tv ev wd ss er) (b : Nat) (p : Int) (x : Value) (k : List Nd) (hb : c.w0.heap[b]? = some (.cells #[.int .i64 p, x] 394 (0, 0))) (hx : ExP c.w0 (fun _ => True) n x k) (hi : IsI x) (hen : Hid (en = orE er (exErr c.T ss k))) :
    Calls Tryz.prog 247 #[.pointer (some ⟨c.fb, 0, none⟩), .iface 392 (.pointer (some ⟨b, 0, none⟩))] W fun e W' => ∃ g cb, e = .returned (.func (.func g) #[] cb) ∧ ∃ F', FA c F W sv iv tv wd ss en W' F' ∧ (en = none → FnG c.w0 (F'.off c.X) wd g cb (fun r => wrap64 (-(evE (colAt c.T ss) k r)))) := by
  have HH := hide h
  have hb' := (h.old.block b (lt_of_heap hb)).trans hb
  obtain ⟨kb, fb⟩ := blk hb'
  have zb := lt_of_heap hb'
  have HX := hide hx
  have y1 := no_Minus_Number
  have y2 := yes_Minus
  have hmf : ∀ (fn : Fn) (first cap : Array Value) (w : World), (Instr.makeFunc fn first cap).run Tryz.prog w = .ok (.func fn first cap) w := fun _ _ _ _ => rfl
  clear h hb hb' hx
  have hsf := store_func
  rcases hi with rfl | ⟨ui, vi, rfl⟩
  · exact absurd (unhide HX) (fun h => by cases n with | zero => exact h | succ n => rcases h with ⟨_, _, h, _⟩ | ⟨_, _, _, _, h, _⟩ | ⟨_, _, _, h, _⟩ | ⟨_, _, _, _, h, _⟩ | ⟨_, _, _, _, _, _, _, h, _⟩ <;> cases h)
  go_enter Tryz.func247, Tryz.ntmps247
  go_wp2_with fail
  refine ((unhide IH) _ k F _ sv iv tv ev wd ss er en (by exact unhide HX) (by exact unhide HH) hen).mono ?_
  rintro e w1 ⟨g, cb, rfl, F1, hfa, hfn⟩
  have HFA := hide hfa
  have HFN := hide hfn
  clear hfa hfn
  go_wp2
  go_ret
  obtain ⟨h1, h2, h3⟩ := FA.fix (unhide HFA) (o := .cells #[.func (.func g) #[] cb] 426) rfl
  exact ⟨_, _, rfl, _, h1, fun he => fn_minus _ _ _ _ _ _ _ _ h2 (((unhide HFN) he).mono h3)⟩

set_option maxRecDepth 100000 in
set_option maxHeartbeats 1000000 in
theorem value_br (c : Fc) (n : Nat) (IH : Hid (ValSpec c n)) (F : Fx) (W : World) (sv iv tv ev : Value) (wd : Nat) (ss : List Sr) (er en : Option (Nat × Nat)) (h : FS c F W sv iv tv ev wd ss er) (b : Nat) (p : Int) (x : Value) (k : List Nd) (hb : c.w0.heap[b]? = some (.cells #[.int .i64 p, x] 399 (0, 0))) (hx : ExP c.w0 (fun _ => True) n x k) (hi : IsI x) (hen : Hid (en = orE er (exErr c.T ss k))) :
    Calls Tryz.prog 247 #[.pointer (some ⟨c.fb, 0, none⟩), .iface 398 (.pointer (some ⟨b, 0, none⟩))] W fun e W' => ∃ g cb, e = .returned (.func (.func g) #[] cb) ∧ ∃ F', FA c F W sv iv tv wd ss en W' F' ∧ (en = none → FnG c.w0 (F'.off c.X) wd g cb (evE (colAt c.T ss) k)) := by
  have HH := hide h
  have hb' := (h.old.block b (lt_of_heap hb)).trans hb
  obtain ⟨kb, fb⟩ := blk hb'
  have zb := lt_of_heap hb'
  have HX := hide hx
  have y1 := no_Bracket_Number
  have y2 := no_Bracket_Minus
  have y3 := no_Bracket_Column
  have y4 := yes_Bracket
  clear h hb hb' hx
  rcases hi with rfl | ⟨ui, vi, rfl⟩
  · exact absurd (unhide HX) (fun h => by cases n with | zero => exact h | succ n => rcases h with ⟨_, _, h, _⟩ | ⟨_, _, _, _, h, _⟩ | ⟨_, _, _, h, _⟩ | ⟨_, _, _, _, h, _⟩ | ⟨_, _, _, _, _, _, _, h, _⟩ <;> cases h)
  go_enter Tryz.func247, Tryz.ntmps247
  go_wp2_with fail
  refine ((unhide IH) _ k F _ sv iv tv ev wd ss er en (by exact unhide HX) (by exact unhide HH) hen).mono ?_
  rintro e w1 ⟨g, cb, rfl, F1, hfa, hfn⟩
  have HFA := hide hfa
  have HFN := hide hfn
  clear hfa hfn
  go_wp2
  go_ret
  exact ⟨_, _, rfl, _, unhide HFA, unhide HFN⟩

set_option maxRecDepth 100000 in
set_option maxHeartbeats 1000000 in
theorem value_col (c : Fc) (F : Fx) (W : World) (sv iv tv ev : Value) (wd : Nat) (ss : List Sr) (er en : Option (Nat × Nat)) (h : FS c F W sv iv tv ev wd ss er) (b : Nat) (pl : Int) (t u : Tk) (hb : c.w0.heap[b]? = some (.cells #[.int .i64 pl, .int .i64 t.place, .string t.text, .int .i64 u.place, .string u.text] 397 (0, 0))) (hen : Hid (en = orE er (ndErr c.T ss (ndCol t u)))) (q : Int) (hq : Hid (q = colAt c.T ss t.text u.text)) :
    Calls Tryz.prog 247 #[.pointer (some ⟨c.fb, 0, none⟩), .iface 395 (.pointer (some ⟨b, 0, none⟩))] W fun e W' => ∃ g cb, e = .returned (.func (.func g) #[] cb) ∧ ∃ F', FA c F W sv iv tv wd ss en W' F' ∧ (en = none → FnG c.w0 (F'.off c.X) wd g cb (fun r => r.getD q.toNat 0)) := by
  have HH := hide h
  have HB := hide hb
  have y1 := no_Column_Number
  have y2 := no_Column_Minus
  have y3 := yes_Column
  have hmf : ∀ (fn : Fn) (first cap : Array Value) (w : World), (Instr.makeFunc fn first cap).run Tryz.prog w = .ok (.func fn first cap) w := fun _ _ _ _ => rfl
  have HCO : Hid (en = none → 0 ≤ q ∧ q < wd) := fun he => by rw [unhide hq]; exact colAt_lt h (orE_eq_none ((unhide hen).symm.trans he)).2
  clear h hb
  go_enter Tryz.func247, Tryz.ntmps247
  go_wp2_with fail
  refine (fcolumn_any c F _ sv iv tv ev wd ss er (by exact unhide HH) b pl t u (unhide HB)).mono ?_
  rw [← unhide hen, ← unhide hq]
  rintro e w1 ⟨rfl, F1, hfa⟩
  have HFA := hide hfa
  clear hfa
  go_wp2
  go_ret
  obtain ⟨h1, h2, h3⟩ := FA.fix (unhide HFA) (o := .cells #[.int .i64 q] 3) rfl
  exact ⟨_, _, rfl, _, h1, fun he => fn_col _ _ _ _ _ _ h2 ((unhide HCO) he)⟩
end Go.Proofs.YtfkeddkfegaeiaaGreatDoor
