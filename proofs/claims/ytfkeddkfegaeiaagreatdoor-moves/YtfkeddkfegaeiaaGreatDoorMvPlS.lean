/-
  Part 26.
-/
import Derived.Test.YtfkeddkfegaeiaaGreatDoorMvPlO
namespace Go.Proofs.YtfkeddkfegaeiaaGreatDoor
open Go.RowKit
theorem srCells_at (pre suf : List (Tk × Tk)) (t u : Tk) : ∀ j, j < 5 → (srCells (pre ++ (t, u) :: suf))[pre.length * 5 + j]? = [Value.int .i64 t.place, .int .i64 t.place, .string t.text, .int .i64 u.place, .string u.text][j]? := by
  intro j hj
  have hl : (srCells pre).length = pre.length * 5 := by
    induction pre with
    | nil => rfl
    | cons a r ih => simp only [srCells, List.flatMap_cons, List.length_append, List.length_cons, List.length_nil] at ih ⊢; omega
  have e : srCells (pre ++ (t, u) :: suf) = srCells pre ++ ([Value.int .i64 t.place, .int .i64 t.place, .string t.text, .int .i64 u.place, .string u.text] ++ srCells suf) := by simp [srCells]
  rw [e, List.getElem?_append_right (by omega), hl, Nat.add_sub_cancel_left, List.getElem?_append_left (by simpa using hj)]
/-- a cell of an owned row of w0, in a later world. -/
theorem FS.oldCell {c : Fc} {F : Fx} {W : World} {sv iv tv ev : Value} {wd : Nat} {ss : List Sr} {er : Option (Nat × Nat)} (h : FS c F W sv iv tv ev wd ss er) {g : Nat} (hg : g < c.w0.heap.size) (o : Nat) : W.cell? ⟨g, o, none⟩ = c.w0.cell? ⟨g, o, none⟩ := h.old.cell (p := ⟨g, o, none⟩) hg
def foldS (T : List Tb) (pre : List (Tk × Tk)) : Fs := pre.foldl (srcStep T) ⟨[], 0, none⟩
theorem foldS_snoc (T : List Tb) (pre : List (Tk × Tk)) (x : Tk × Tk) : foldS T (pre ++ [x]) = srcStep T (foldS T pre) x := by simp [foldS]
theorem foldl_len (T : List Tb) : ∀ (pre : List (Tk × Tk)) (f : Fs), (pre.foldl (srcStep T) f).ss.length ≤ f.ss.length + pre.length
  | [], f => by simp
  | x :: r, f => by
    have h1 := foldl_len T r (srcStep T f x)
    have h2 := srcStep_len T f x
    simp only [List.foldl_cons, List.length_cons]
    omega
theorem foldS_len (T : List Tb) (pre : List (Tk × Tk)) : (foldS T pre).ss.length ≤ pre.length := by
  have := foldl_len T pre ⟨[], 0, none⟩
  simpa [foldS] using this
theorem infoPi : (Tryz.prog.info? 362).map (fun i => (i.zero, i.size, i.bytes)) = some (some .nilFunc, 1, 8) := by kernel_rfl
theorem infoPt : (Tryz.prog.info? 364).map (fun i => (i.zero, i.size, i.bytes)) = some (some .nilFunc, 1, 8) := by kernel_rfl
theorem one1f (fn : Fn) (a b : Array Value) : ∀ u ∈ [Value.func fn a b], u.oneCell' = true := by
  intro u hu
  simp only [List.mem_cons, List.mem_nil_iff, or_false] at hu
  subst hu
  rfl
theorem itCells_at (pre suf : List (ItemA × Value × Option Addr)) (x : ItemA × Value × Option Addr) : ∀ j, j < 5 → (itCells (pre ++ x :: suf))[pre.length * 5 + j]? = [Value.int .i64 x.1.place, x.2.1, .pointer x.2.2, .int .i64 x.1.asP, .string x.1.asT][j]? := by
  intro j hj
  have hl : (itCells pre).length = pre.length * 5 := by
    induction pre with
    | nil => rfl
    | cons a r ih => simp only [itCells, List.flatMap_cons, List.length_append, List.length_cons, List.length_nil] at ih ⊢; omega
  have e : itCells (pre ++ x :: suf) = itCells pre ++ ([Value.int .i64 x.1.place, x.2.1, .pointer x.2.2, .int .i64 x.1.asP, .string x.1.asT] ++ itCells suf) := by simp [itCells]
  rw [e, List.getElem?_append_right (by omega), hl, Nat.add_sub_cancel_left, List.getElem?_append_left (by simpa using hj)]
theorem tsCells_at (pre suf : List (TestA × Value × Value)) (x : TestA × Value × Value) : ∀ j, j < 4 → (tsCells (pre ++ x :: suf))[pre.length * 4 + j]? = [Value.int .i64 x.1.place, x.2.1, .string x.1.sg, x.2.2][j]? := by
  intro j hj
  have hl : (tsCells pre).length = pre.length * 4 := by
    induction pre with
    | nil => rfl
    | cons a r ih => simp only [tsCells, List.flatMap_cons, List.length_append, List.length_cons, List.length_nil] at ih ⊢; omega
  have e : tsCells (pre ++ x :: suf) = tsCells pre ++ ([Value.int .i64 x.1.place, x.2.1, .string x.1.sg, x.2.2] ++ tsCells suf) := by simp [tsCells]
  rw [e, List.getElem?_append_right (by omega), hl, Nat.add_sub_cancel_left, List.getElem?_append_left (by simpa using hj)]
/-- the finder with its items so far. -/
structure FI (c : Fc) (F : Fx) (fs : Fs) (sv iv ev : Value) (ivs : List Value) (W : World) (fns : List (List (List Int) → List Int)) (er : Option (Nat × Nat)) : Prop where
  st : FS c F W sv iv (.slice none 0 0) ev fs.wd fs.ss er
  row : W.ownsRow c.w0.heap.size 362 1 iv ivs.length ivs
  its : er = none → ItsF c.w0 (F.off c.X) fs.wd ivs fns
def errI (eo : ItemA → List Sr → Option (Nat × Nat)) (fs : Fs) (l : List (ItemA × Value × Option Addr)) : Option (Nat × Nat) := l.foldl (fun a e => orE a (eo e.1 fs.ss)) fs.er
set_option maxRecDepth 100000 in
set_option maxHeartbeats 4000000 in
/-- one item more. -/
theorem item_round (c : Fc) (F : Fx) (fs : Fs) (sv iv ev : Value) (ivs : List Value) (fns : List (List (List Int) → List Int)) (er : Option (Nat × Nat)) (W9 W2 : World) (F2 : Fx) (ev2 : Value) (en : Option (Nat × Nat)) (g9 cap9 g : Nat) (a cb : Array Value) (f : List (List Int) → List Int) (W1 : World)
    (h : FI c F fs sv iv ev ivs W1 fns er) (hfa : FA c F W1 sv iv (.slice none 0 0) fs.wd fs.ss en W2 F2) (hf2 : FS c F2 W2 sv iv (.slice none 0 0) ev2 fs.wd fs.ss en) (hit : en = none → ItG c.w0 (F2.off c.X) fs.wd g a cb f) (hen : ∃ eo, en = orE er eo)
    (hg : (W2.alloc (.cells #[.func (.func g) a cb] 362)).grownBy W9 iv.ownBlock) (hat : iv.ownBlock = some g9 ∨ g9 = (W2.alloc (.cells #[.func (.func g) a cb] 362)).heap.size) (hlt : g9 < W9.heap.size)
    (ho : W9.ownsRow c.w0.heap.size 362 1 (.slice (some ⟨g9, 0, none⟩) (ivs.length + 1) cap9) (ivs.length + 1) (ivs ++ [.func (.func g) a cb])) :
    FI c F2 fs sv (.slice (some ⟨g9, 0, none⟩) (ivs.length + 1) cap9) ev2 (ivs ++ [.func (.func g) a cb]) (W9.setCell ⟨c.fb, 4, none⟩ (.slice (some ⟨g9, 0, none⟩) (ivs.length + 1) cap9)) (fns ++ [f]) en := by
  have hF := FS.grewI (n := ivs.length + 1) (cap := cap9) (hf2.alloc _) hg hat hlt
  refine ⟨hF, ?_, fun he => ?_⟩
  · rw [List.length_append]
    exact owns_set ho hF.dis.2.2.2.2.1
  · obtain ⟨eo, rfl⟩ := hen
    exact ((h.its (orE_eq_none he).1).mono (Fx.off_mono hfa.1.le c.X)).snoc (hit he)
/-- the finder with its items, and its tests so far. -/
structure FT (c : Fc) (F : Fx) (fs : Fs) (sv iv tv ev : Value) (ivs tvs : List Value) (W : World) (fns : List (List (List Int) → List Int)) (tns : List (List Int → Bool)) (er : Option (Nat × Nat)) : Prop where
  st : FS c F W sv iv tv ev fs.wd fs.ss er
  row : W.ownsRow c.w0.heap.size 362 1 iv ivs.length ivs
  its : er = none → ItsF c.w0 (F.off c.X) fs.wd ivs fns
  trow : W.ownsRow c.w0.heap.size 364 1 tv tvs.length tvs
  tst : er = none → TsF c.w0 (F.off c.X) fs.wd tvs tns
def errT (T : List Tb) (fs : Fs) (er : Option (Nat × Nat)) (l : List (TestA × Value × Value)) : Option (Nat × Nat) := l.foldl (fun a u => orE a (tsErr T fs.ss u.1)) er
/-- one test more. -/
theorem test_round (c : Fc) (F : Fx) (fs : Fs) (sv iv tv ev : Value) (ivs tvs : List Value) (fns : List (List (List Int) → List Int)) (tns : List (List Int → Bool)) (er : Option (Nat × Nat)) (W9 W2 : World) (F2 : Fx) (ev2 : Value) (en : Option (Nat × Nat)) (g9 cap9 g : Nat) (cb : Array Value) (f : List Int → Bool) (W1 : World)
    (h : FT c F fs sv iv tv ev ivs tvs W1 fns tns er) (hfa : FA c F W1 sv iv tv fs.wd fs.ss en W2 F2) (hf2 : FS c F2 W2 sv iv tv ev2 fs.wd fs.ss en) (hit : en = none → TsG c.w0 (F2.off c.X) fs.wd g cb f) (hen : ∃ eo, en = orE er eo)
    (hg : (W2.alloc (.cells #[.func (.func g) #[] cb] 364)).grownBy W9 tv.ownBlock) (hat : tv.ownBlock = some g9 ∨ g9 = (W2.alloc (.cells #[.func (.func g) #[] cb] 364)).heap.size) (hlt : g9 < W9.heap.size)
    (ho : W9.ownsRow c.w0.heap.size 364 1 (.slice (some ⟨g9, 0, none⟩) (tvs.length + 1) cap9) (tvs.length + 1) (tvs ++ [.func (.func g) #[] cb])) :
    FT c F2 fs sv iv (.slice (some ⟨g9, 0, none⟩) (tvs.length + 1) cap9) ev2 ivs (tvs ++ [.func (.func g) #[] cb]) (W9.setCell ⟨c.fb, 5, none⟩ (.slice (some ⟨g9, 0, none⟩) (tvs.length + 1) cap9)) fns (tns ++ [f]) en := by
  have hF := FS.grewT (n := tvs.length + 1) (cap := cap9) (hf2.alloc _) hg hat hlt
  have hd := h.st.dis
  obtain ⟨eo, rfl⟩ := hen
  refine ⟨hF, ?_, fun he => ((h.its (orE_eq_none he).1).mono (Fx.off_mono hfa.1.le c.X)), ?_, fun he => ?_⟩
  · exact owns_set (owns_other ((owns_kpf h.row hfa.2.1 hd.2.2.2.2.1).alloc _) hd.2.2.1.symm hg) hd.2.2.2.2.1
  · rw [List.length_append]
    exact owns_set ho hF.dis.2.2.2.2.2
  · exact ((h.tst (orE_eq_none he).1).mono (Fx.off_mono hfa.1.le c.X)).snoc (hit he)
end Go.Proofs.YtfkeddkfegaeiaaGreatDoor
