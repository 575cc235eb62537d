/-
  Part 20.
-/
import Derived.Test.YtfkeddkfegaeiaaGreatDoorRcNwG
import Derived.Test.YtfkeddkfegaeiaaGreatDoorRcTll
import Derived.Test.YtfkeddkfegaeiaaGreatDoorRcTel
import Derived.Test.YtfkeddkfegaeiaaGreatDoorRcPure
import Derived.Stop.Asserts
import Derived.LaidEql
import Derived.RowKitTokens
namespace Go.Proofs.YtfkeddkfegaeiaaGreatDoor
open Go.RowKit
def strip3 (t : Tk) : Nat × ByteArray × Int := (t.kind, t.text, t.value)
theorem scan_spr3 (s : ByteArray) : ∀ (l : List (List UInt8 × Tk)) (pre : List UInt8) (f : Nat), s.data.toList = pre ++ spr l → (∀ x, x ∈ l → Blank x.1 ∧ IsTok x.2) → FitT l → s.size < f + pre.length →
    ∃ us, scanFrom s f pre.length = .ok (us ++ [tkEnd s.size]) ∧ us.map strip3 = l.map fun x => strip3 x.2
  | [], pre, f, hs, _, _, hf => by
    have hz := size_list s hs
    simp only [spr, List.flatMap_nil, List.append_nil] at hz
    match f, hf with
    | 0, hf => omega
    | f + 1, _ =>
      refine ⟨[], ?_, rfl⟩
      unfold scanFrom
      have hd := drop_pre hs
      rw [hd]
      simp only [spr, List.flatMap_nil]
      rw [show lead blankI [] = 0 from rfl, Nat.add_zero, if_pos hz.symm, hz]
      rfl
  | x :: r, pre, f, hs, hx, hF, hf => by
    obtain ⟨hb, ht⟩ := hx x List.mem_cons_self
    rw [spr_cons] at hs
    have hz := size_list s hs
    simp only [List.length_append] at hz
    have htl : 0 < x.2.text.data.toList.length := List.length_pos_iff.2 ht.ne
    match f, hf with
    | 0, hf => omega
    | f + 1, hf =>
      have hlead : lead blankI (x.1 ++ (x.2.text.data.toList ++ spr r)) = x.1.length := by
        refine lead_app hb (fun c r' e => ?_)
        have := tok_nb ht
        rw [← head_app (tail := spr r) ht.ne, e] at this
        exact this
      have hs2 : s.data.toList = (pre ++ x.1) ++ (x.2.text.data.toList ++ spr r) := by rw [hs]; simp
      have hr := rescan (s := s) (j := pre.length + x.1.length) (t := x.2) (tail := spr r) ht (by rw [← List.length_append]; exact drop_pre hs2) (fun c r' e => by
        match r, hF, e, hx with
        | [], _, e, _ => cases e
        | y :: r2, hF, e, hx =>
          obtain ⟨hb2, ht2⟩ := hx y (List.mem_cons_of_mem _ List.mem_cons_self)
          rw [spr_cons] at e
          cases hy : y.1 with
          | nil =>
            rw [hy, List.nil_append] at e
            have h1 := hF.1 hy
            rw [← head_app (tail := spr r2) ht2.ne, e] at h1
            exact h1
          | cons d q =>
            rw [hy, List.cons_append] at e
            have hdc : d = c := by injection e
            subst hdc
            refine ok_soft ht ?_
            unfold softB
            rw [hb2 d (by rw [hy]; exact List.mem_cons_self)]
            rfl)
      have hs3 : s.data.toList = (pre ++ x.1 ++ x.2.text.data.toList) ++ spr r := by rw [hs]; simp
      have hF2 : FitT r := by
        cases r with
        | nil => trivial
        | cons y r2 => exact hF.2
      have hlen : (pre ++ x.1 ++ x.2.text.data.toList).length = pre.length + x.1.length + x.2.text.size := by simp only [List.length_append]; rw [← sizeL x.2.text]
      obtain ⟨us, h1, h2⟩ := scan_spr3 s r (pre ++ x.1 ++ x.2.text.data.toList) f hs3 (fun y hy => hx y (List.mem_cons_of_mem _ hy)) hF2 (by rw [hlen, ← sizeL x.2.text]; omega)
      refine ⟨⟨pre.length + x.1.length, x.2.kind, x.2.text, x.2.value⟩ :: us, ?_, ?_⟩
      · unfold scanFrom
        rw [drop_pre hs, hlead]
        simp only
        rw [if_neg (by omega), hr]
        simp only
        rw [hlen] at h1
        rw [h1]
        rfl
      · simp only [List.map_cons, h2]
        rfl
set_option maxRecDepth 100000 in
theorem dig_all : ((List.range 1000).all fun n => (dig n).all (fun c => digitI c.toNat) && (numOf (dig n) == some (n : Int)) && !(dig n).isEmpty) = true := by kernel_rfl
theorem tok_dig {n : Nat} (h : n < 1000) : IsTok (tkD n) := by
  have := List.all_eq_true.1 dig_all n (List.mem_range.2 h)
  simp only [Bool.and_eq_true, List.all_eq_true, beq_iff_eq, Bool.not_eq_true', List.isEmpty_eq_false_iff] at this
  exact .num this.2 this.1.1 this.1.2 rfl
theorem blank_nil : Blank [] := fun c h => by cases h
theorem blank_32 {l : List UInt8} (h : Blank l) : Blank (32 :: l) := fun c hc => by
  rcases List.mem_cons.1 hc with rfl | hc
  · rfl
  · exact h c hc
abbrev TokL (l : List (List UInt8 × Tk)) : Prop := ∀ x ∈ l, Blank x.1 ∧ IsTok x.2
theorem b_32 : Blank [32] := blank_32 blank_nil
theorem Bex.ne : ∀ e : Bex, e.tks ≠ []
  | .num _ => by simp [Bex.tks]
  | .cola => by simp [Bex.tks]
  | .colb => by simp [Bex.tks]
  | .neg _ => by simp [Bex.tks]
  | .mul _ _ => by simp [Bex.tks]
  | .sub _ _ => by simp [Bex.tks]
  | .add _ _ => by simp [Bex.tks]
end Go.Proofs.YtfkeddkfegaeiaaGreatDoor
namespace Go.Proofs.YtfkeddkfegaeiaaGreatDoor
open Go.RowKit
section
variable {at' : ByteArray → ByteArray → Int} {T : List Tb} {ss : List Sr} {A B : Int}
def K1 (e : Bex) : List (List UInt8 × Tk) := ([], tkW [115, 101, 108, 101, 99, 116]) :: (sp1 e.tks ++ [([], tkW [44]), ([32], tkM [120]), ([], tkW [46]), ([], tkM [98]), ([32], tkW [102, 114, 111, 109]), ([32], tkM [101]), ([32], tkM [120])])
end
end Go.Proofs.YtfkeddkfegaeiaaGreatDoor
namespace Go.Proofs.YtfkeddkfegaeiaaGreatDoor
open Go.RowKit
def okTk (x : List UInt8 × Tk) : Bool := x.1.all (fun c => blankI c.toNat) && x.2.value == 0 && ((x.2.kind == 1 && (signL.contains x.2.text.data.toList || (!x.2.text.data.toList.isEmpty && x.2.text.data.toList.all (fun c => letterI c.toNat) && wordB x.2.text.data.toList))) || (x.2.kind == 2 && (!x.2.text.data.toList.isEmpty && x.2.text.data.toList.all (fun c => letterI c.toNat) && !wordB x.2.text.data.toList && decide (x.2.text.size ≤ 8))))
theorem okTk_tok {x : List UInt8 × Tk} (h : okTk x = true) : Blank x.1 ∧ IsTok x.2 := by
  unfold okTk at h
  simp only [Bool.and_eq_true, Bool.or_eq_true, List.all_eq_true, beq_iff_eq, Bool.not_eq_true', List.isEmpty_eq_false_iff, decide_eq_true_eq] at h
  obtain ⟨⟨h1, h2⟩, h3⟩ := h
  refine ⟨fun c hc => h1 c hc, ?_⟩
  rcases h3 with ⟨h3, h4 | ⟨⟨h4, h5⟩, h6⟩⟩ | ⟨h3, ⟨⟨h4, h5⟩, h6⟩, h7⟩
  · exact .sign (List.contains_iff_mem.1 h4) h3 h2
  · exact .word h4 h5 h6 h3 h2
  · exact .name h4 h5 h6 h7 h3 h2
theorem tokL_of {l : List (List UInt8 × Tk)} (h : l.all okTk = true) : TokL l := fun x hx => okTk_tok (List.all_eq_true.1 h x hx)
def fitB : List (List UInt8 × Tk) → Bool
  | [] => true
  | [_] => true
  | x :: y :: r => (!y.1.isEmpty || okNext x.2.text.data.toList (y.2.text.data.toList.headD 0)) && fitB (y :: r)
theorem fit_of : ∀ {l : List (List UInt8 × Tk)}, fitB l = true → FitT l
  | [], _ => trivial
  | [_], _ => trivial
  | x :: y :: r, h => by
    unfold fitB at h
    simp only [Bool.and_eq_true, Bool.or_eq_true, Bool.not_eq_true', List.isEmpty_eq_false_iff] at h
    exact ⟨fun e => h.1.elim (fun h => (h e).elim) id, fit_of h.2⟩
/-- tokens, at places. -/
def mkT (pl : Nat → Nat) (l : List Tk) : List Tk := l.zipIdx.map fun p => ⟨pl p.2, p.1.kind, p.1.text, p.1.value⟩
theorem mkT_of {us l : List Tk} (n : Nat) (h : us.map strip3 = l.map strip3) : ∃ pl, us ++ [tkEnd n] = mkT pl (l ++ [tkEnd 0]) := by
  refine ⟨fun i => ((us ++ [tkEnd n])[i]?.getD (tkEnd 0)).place, ?_⟩
  have hl : us.length = l.length := by have := congrArg List.length h; simpa using this
  apply List.ext_getElem?
  intro i
  unfold mkT
  rw [List.getElem?_map, List.getElem?_zipIdx]
  by_cases hi : i < us.length
  · have h1 : (us.map strip3)[i]? = (l.map strip3)[i]? := by rw [h]
    rw [List.getElem?_map, List.getElem?_map, List.getElem?_eq_getElem hi, List.getElem?_eq_getElem (show i < l.length by omega)] at h1
    simp only [Option.map_some, Option.some.injEq, strip3, Prod.mk.injEq] at h1
    rw [List.getElem?_append_left hi, List.getElem?_append_left (by omega), List.getElem?_eq_getElem hi, List.getElem?_eq_getElem (show i < l.length by omega)]
    simp only [Option.map_some, Nat.zero_add, List.getElem?_append_left hi, List.getElem?_eq_getElem hi, Option.getD_some, ← h1.1, ← h1.2.1, ← h1.2.2]
  · by_cases hi2 : i = us.length
    · subst hi2
      rw [List.getElem?_append_right (Nat.le_refl _), List.getElem?_append_right (by omega), hl, Nat.sub_self]
      simp [← hl, tkEnd]
    · rw [List.getElem?_append_right (by omega), List.getElem?_append_right (by omega)]
      rw [List.getElem?_eq_none (by simp; omega), List.getElem?_eq_none (by simp; omega)]
      rfl
/-- a text of these tokens, read. -/
theorem read_mk {s : ByteArray} {l : List (List UInt8 × Tk)} (hs : s.data.toList = spr l) (ht : TokL l) (hf : FitT l) : ∃ pl, readP s = readT (mkT pl (l.map (·.2) ++ [tkEnd 0])) := by
  obtain ⟨us, h1, h2⟩ := scan_spr3 s l [] (s.size + 1) hs ht hf (by simp)
  have h3 : us.map strip3 = (l.map (·.2)).map strip3 := by rw [h2, List.map_map]; rfl
  obtain ⟨pl, h4⟩ := mkT_of s.size h3
  refine ⟨pl, ?_⟩
  rw [← h4]
  unfold readP scanP
  rw [show scanFrom s (s.size + 1) 0 = .ok (us ++ [tkEnd s.size]) from h1]
/-- what tokens are read as. -/
def qOf (pl : Nat → Nat) (l : List (List UInt8 × Tk)) : QueryX := (queryP (mkT pl (l.map (·.2) ++ [tkEnd 0])) st0).1
def okQ (pl : Nat → Nat) (l : List (List UInt8 × Tk)) : Bool := (endP (mkT pl (l.map (·.2) ++ [tkEnd 0])) (queryP (mkT pl (l.map (·.2) ++ [tkEnd 0])) st0).2).er.isNone
theorem read_q {pl : Nat → Nat} {l : List (List UInt8 × Tk)} (h : okQ pl l = true) : readT (mkT pl (l.map (·.2) ++ [tkEnd 0])) = .ok (qOf pl l) := by
  unfold okQ at h
  rw [Option.isNone_iff_eq_none] at h
  unfold readT qOf
  rw [h]
def wthOf (X : QueryX) : WithX := match X.wth with
  | some x => x
  | none => ⟨0, tkEnd 0, [], X.main, 0, X.main, 0⟩
end Go.Proofs.YtfkeddkfegaeiaaGreatDoor
namespace Go.Proofs.YtfkeddkfegaeiaaGreatDoor
open Go.RowKit
/-- the variables that hold errors. -/
def tw (j : Nat) : Bool := decide (j < 13) && j != 10
theorem tw_lt {j : Nat} (h : tw j = true) : j < 13 := by
  unfold tw at h
  simp only [Bool.and_eq_true, decide_eq_true_eq] at h
  exact h.1
/-- all twelve errors. -/
structure EnvX (a : Nat → Addr) (B : Nat) (w : World) : Prop where
  env : Env a B w
  cell : ∀ j, tw j = true → w.cell? ⟨j, 0, none⟩ = some (.iface 496 (.pointer (some (a j))))
  below : ∀ j, tw j = true → (a j).block < B
  row : ∀ j, tw j = true → ∃ c t, w.heap[(a j).block]? = some (.cells c t (0, 0))
  ne : ∀ i j, tw i = true → tw j = true → i ≠ j → a i ≠ a j
theorem EnvX.keep {a : Nat → Addr} {B : Nat} {w w' : World} (h : EnvX a B w) (hb : Below B w w') : EnvX a B w' := by
  refine ⟨h.env.keep hb, fun j hj => ?_, h.below, fun j hj => ?_, h.ne⟩
  · rw [hb.cell (p := ⟨j, 0, none⟩) (Nat.lt_of_lt_of_le (tw_lt hj) h.env.low)]; exact h.cell j hj
  · obtain ⟨c, t, hr⟩ := h.row j hj
    exact ⟨c, t, by rw [hb.block _ (h.below j hj)]; exact hr⟩
theorem EnvX.alloc {a : Nat → Addr} {B : Nat} {w : World} (h : EnvX a B w) (o : Obj) : EnvX a B (w.alloc o) := h.keep ((Below.refl _ _).alloc h.env.size _)
theorem EnvX.other {a : Nat → Addr} {B : Nat} {w : World} (h : EnvX a B w) (i j : Nat) (hi : tw i = true) (hj : tw j = true) (hij : i ≠ j) :
    (binOp .eql 23 (errV a i) (errV a j)).run Tryz.prog w = .ok (.bool false) w := by
  obtain ⟨x, hx, hcmp⟩ := Option.map_eq_some_iff.1 isComp
  obtain ⟨y, hy, hys⟩ := Option.map_eq_some_iff.1 isSize
  obtain ⟨c, t, hr⟩ := h.row i hi
  obtain ⟨c', t', hr'⟩ := h.row j hj
  exact run_eql_iface_ptr_other w Tryz.underlying23 Tryz.underlying496 hx hcmp hy (by rw [hys]; decide) (h.ne i j hi hj hij) hr hr'
end Go.Proofs.YtfkeddkfegaeiaaGreatDoor
namespace Go.Proofs.YtfkeddkfegaeiaaGreatDoor
open Go.RowKit
/-- the finder's surroundings: the world it began in, the errors, its block, where the tables lie, the tables, the blocks that may turn later, whether no window may be. -/
structure Fc where
  w0 : World
  a : Nat → Addr
  fb : Nat
  tb : Nat
  tof : Nat
  tc : Nat
  T : List Tb
  X : Nat → Bool
  iw : Bool
def Fc.tabs (c : Fc) : Value := .slice (some ⟨c.tb, c.tof, none⟩) c.T.length c.tc
/-- the cells of sources. -/
def srP (c : Fc) (ss : List Sr) : List Value := ss.flatMap fun s => [.string s.alias, .pointer (some ⟨c.tb, c.tof + s.tab * 3, none⟩), .int .i64 s.first]
theorem srP_snoc (c : Fc) (ss : List Sr) (s : Sr) : srP c ss ++ [.string s.alias, .pointer (some ⟨c.tb, c.tof + s.tab * 3, none⟩), .int .i64 s.first] = srP c (ss ++ [s]) := by simp [srP]
theorem srP_len (c : Fc) (ss : List Sr) : (srP c ss).length = ss.length * 3 := by
  induction ss with
  | nil => rfl
  | cons s r ih => simp only [srP, List.flatMap_cons, List.length_append, List.length_cons, List.length_nil] at ih ⊢; omega
theorem srP_at (c : Fc) (pre suf : List Sr) (s : Sr) : (srP c (pre ++ s :: suf))[pre.length * 3]? = some (.string s.alias) ∧ (srP c (pre ++ s :: suf))[pre.length * 3 + 1]? = some (.pointer (some ⟨c.tb, c.tof + s.tab * 3, none⟩)) ∧ (srP c (pre ++ s :: suf))[pre.length * 3 + 2]? = some (.int .i64 s.first) := by
  have e : srP c (pre ++ s :: suf) = srP c pre ++ ([.string s.alias, .pointer (some ⟨c.tb, c.tof + s.tab * 3, none⟩), .int .i64 s.first] ++ srP c suf) := by simp [srP]
  have hl := srP_len c pre
  rw [e]
  refine ⟨?_, ?_, ?_⟩
  · rw [List.getElem?_append_right (by omega), hl, Nat.sub_self]; rfl
  · rw [List.getElem?_append_right (by omega), hl, Nat.add_sub_cancel_left]; rfl
  · rw [List.getElem?_append_right (by omega), hl, Nat.add_sub_cancel_left]; rfl
/-- the first error. -/
def ErrF (F : Fx) (a : Nat → Addr) (ev : Value) : Option (Nat × Nat) → Prop
  | none => ev = .nilIface
  | some (p, k) => ∃ b, ev = .iface 110 (.pointer (some ⟨b, 0, none⟩)) ∧ F b = some (.cells #[.int .i64 (p : Nat), errV a k] 113 (0, 0))
theorem ErrF.mono {F F' : Fx} (hF : F.le F') {a : Nat → Addr} {ev : Value} {er : Option (Nat × Nat)} (h : ErrF F a ev er) : ErrF F' a ev er := by
  match er, h with
  | none, h => exact h
  | some (p, k), ⟨b, h1, h2⟩ => exact ⟨b, h1, hF _ _ h2⟩
/-- the finder, in the making. -/
structure FS (c : Fc) (F : Fx) (W : World) (sv iv tv ev : Value) (wd : Nat) (ss : List Sr) (er : Option (Nat × Nat)) : Prop where
  env : EnvX c.a c.w0.heap.size W
  old : Below c.w0.heap.size c.w0 W
  grow : Grow c.w0.heap.size F c.fb [sv, iv, tv] W
  box : W.heap[c.fb]? = some (.cells #[c.tabs, .bool c.iw, sv, .int .i64 wd, iv, tv, ev] 299 (0, 0))
  err : ErrF F c.a ev er
  tabs : ∀ W', Fits c.w0 F W' → TabsAt W' c.tabs c.T
  srcs : W.ownsRow c.w0.heap.size 423 3 sv ss.length (srP c ss)
  few : ss.length ≤ 3
  ok : ∀ s ∈ ss, s.tab < c.T.length
  wide : wd ≤ 6 * ss.length ∧ (∀ s ∈ ss, s.first + (colsOf c.T s).length ≤ wd) ∧ ∀ t ∈ c.T, t.cols.length ≤ 6
  fbX : ∀ b, c.X b = true → b < W.heap.size
  low : c.w0.heap.size ≤ c.fb
/-- what a step of the finder leaves of the fixed blocks. -/
structure Ext (n : Nat) (F F' : Fx) : Prop where
  le : F.le F'
  old : ∀ b, b < n → F' b = F b
theorem Ext.refl (n : Nat) (F : Fx) : Ext n F F := ⟨Fx.le.refl F, fun _ _ => rfl⟩
theorem Ext.trans {n m : Nat} {F F' F'' : Fx} (h : Ext n F F') (k : Ext m F' F'') (hn : n ≤ m) : Ext n F F'' := ⟨h.le.trans k.le, fun b hb => (k.old b (by omega)).trans (h.old b hb)⟩
theorem Ext.mono {n m : Nat} {F F' : Fx} (h : Ext m F F') (hn : n ≤ m) : Ext n F F' := ⟨h.le, fun b hb => h.old b (by omega)⟩
theorem Ext.set {n : Nat} {F : Fx} {b : Nat} (o : Obj) (hb : n ≤ b) (h : F b = none) : Ext n F (F.set b o) := ⟨Fx.le_set o h, fun k hk => Fx.set_other F o (by omega)⟩
theorem FS.fits {c : Fc} {F : Fx} {W : World} {sv iv tv ev : Value} {wd : Nat} {ss : List Sr} {er : Option (Nat × Nat)} (h : FS c F W sv iv tv ev wd ss er) : Fits c.w0 F W := ⟨h.old, fun b o e => (h.grow.fits b o e).2⟩
/-- new blocks. -/
theorem FS.below {c : Fc} {F : Fx} {W W' : World} {sv iv tv ev : Value} {wd : Nat} {ss : List Sr} {er : Option (Nat × Nat)} (h : FS c F W sv iv tv ev wd ss er) (hb : Below W.heap.size W W') : FS c F W' sv iv tv ev wd ss er :=
  ⟨h.env.keep (hb.mono h.old.size), h.old.trans (hb.mono h.old.size), h.grow.below hb, (hb.block _ h.grow.ltp).trans h.box, h.err, h.tabs, owns_below h.srcs hb, h.few, h.ok, h.wide, fun b e => Nat.lt_of_lt_of_le (h.fbX b e) hb.size, h.low⟩
theorem FS.alloc {c : Fc} {F : Fx} {W : World} {sv iv tv ev : Value} {wd : Nat} {ss : List Sr} {er : Option (Nat × Nat)} (h : FS c F W sv iv tv ev wd ss er) (o : Obj) : FS c F (W.alloc o) sv iv tv ev wd ss er := h.below ((Below.refl _ _).alloc (Nat.le_refl _) _)
theorem FS.drew {c : Fc} {F : Fx} {W : World} {sv iv tv ev : Value} {wd : Nat} {ss : List Sr} {er : Option (Nat × Nat)} (h : FS c F W sv iv tv ev wd ss er) : FS c F W.drew sv iv tv ev wd ss er := h.below (Below.refl _ _).drew
/-- a new block is laid down for good. -/
theorem FS.fix {c : Fc} {F : Fx} {W : World} {sv iv tv ev : Value} {wd : Nat} {ss : List Sr} {er : Option (Nat × Nat)} (h : FS c F W sv iv tv ev wd ss er) {b : Nat} {o : Obj} (hb : W.heap[b]? = some o) (hlo : c.w0.heap.size ≤ b) (hp : b ≠ c.fb) (hv : ∀ v ∈ [sv, iv, tv], v.ownBlock ≠ some b) (hn : F b = none) : FS c (F.set b o) W sv iv tv ev wd ss er :=
  ⟨h.env, h.old, h.grow.fix hlo hb hp hv, h.box, h.err.mono (Fx.le_set o hn), fun W' hW' => h.tabs W' (hW'.mono (Fx.le_set o hn)), h.srcs, h.few, h.ok, h.wide, h.fbX, h.low⟩
/-- .. one that is newer than W0. -/
theorem FS.fixNew {c : Fc} {F F0 : Fx} {W0 W : World} {sv iv tv ev ev0 : Value} {wd : Nat} {ss : List Sr} {er er0 : Option (Nat × Nat)} (h : FS c F W sv iv tv ev wd ss er) (h0 : FS c F0 W0 sv iv tv ev0 wd ss er0) {b : Nat} {o : Obj} (hb : W.heap[b]? = some o) (hlo : W0.heap.size ≤ b) (hn : F b = none) : FS c (F.set b o) W sv iv tv ev wd ss er :=
  h.fix hb (Nat.le_trans h0.old.size hlo) (fun e => by have := h0.grow.ltp; omega) (fun v hv e => by have := (h0.grow.off v hv b e).2.2.2; omega) hn
theorem FS.facts {c : Fc} {F : Fx} {W : World} {sv iv tv ev : Value} {wd : Nat} {ss : List Sr} {er : Option (Nat × Nat)} (h : FS c F W sv iv tv ev wd ss er) : (∀ o, W.cell? ⟨c.fb, o, none⟩ = #[c.tabs, .bool c.iw, sv, .int .i64 wd, iv, tv, ev][o]?) ∧ (∀ o, W.frozen? ⟨c.fb, o, none⟩ = false) ∧ c.fb < W.heap.size :=
  ⟨(blk h.box).1, (blk h.box).2, h.grow.ltp⟩
/-- the error is set. -/
theorem FS.setErr {c : Fc} {F : Fx} {W : World} {sv iv tv ev ev' : Value} {wd : Nat} {ss : List Sr} {er er' : Option (Nat × Nat)} (h : FS c F W sv iv tv ev wd ss er) (he : ErrF F c.a ev' er') : FS c F (W.setCell ⟨c.fb, 6, none⟩ ev') sv iv tv ev' wd ss er' := by
  have hlo := h.low
  refine ⟨h.env.keep ((Below.refl _ _).setCell hlo _), h.old.setCell hlo _, h.grow.box _ _, (heap_set h.box _).trans rfl, he, h.tabs, ?_, h.few, h.ok, h.wide, fun b e => by simpa using h.fbX b e, hlo⟩
  refine owns_set h.srcs (fun e => ?_)
  exact (h.grow.off sv List.mem_cons_self _ e).2.1 rfl
set_option maxRecDepth 100000 in
set_option maxHeartbeats 1000000 in
theorem ffail_any (c : Fc) (F : Fx) (W : World) (sv iv tv ev : Value) (wd : Nat) (ss : List Sr) (er : Option (Nat × Nat)) (h : FS c F W sv iv tv ev wd ss er) (b p k : Nat) (hb : F b = some (.cells #[.int .i64 (p : Nat), errV c.a k] 113 (0, 0))) :
    Calls Tryz.prog 244 #[.pointer (some ⟨c.fb, 0, none⟩), .iface 110 (.pointer (some ⟨b, 0, none⟩))] W fun e W' => e = .returned (.tuple #[]) ∧ Kp c.fb W W' ∧ ∃ ev', FS c F W' sv iv tv ev' wd ss (orE er (some (p, k))) := by
  obtain ⟨j, fz, z⟩ := h.facts
  have HH := hide h
  have he := h.err
  have HB := hide hb
  clear h hb
  match er, he, HH with
  | none, he, HH =>
    obtain rfl : ev = .nilIface := he
    go_enter Tryz.func244, Tryz.ntmps244
    go_wp2
    go_end0
    exact ⟨rfl, (Kp.refl _ _).setCell _ _, _, (unhide HH).setErr (er' := some (p, k)) ⟨b, rfl, unhide HB⟩⟩
  | some (p', k'), he, HH =>
    obtain ⟨b', rfl, he'⟩ := he
    clear he'
    go_enter Tryz.func244, Tryz.ntmps244
    go_wp2
    go_end0
    exact ⟨rfl, Kp.refl _ _, _, unhide HH⟩
end Go.Proofs.YtfkeddkfegaeiaaGreatDoor
