/-
  Part 24.
-/
import Derived.Test.YtfkeddkfegaeiaaDoorMNwQ
namespace Go.Proofs.YtfkeddkfegaeiaaDoor
open Go.RowKit

/-- only blocks from lo on and below hi have turned. -/
structure Sp (lo hi : Nat) (w W : World) : Prop where
  os : W.os = w.os
  tape : W.tape = w.tape
  output : W.output = w.output
  size : w.heap.size ≤ W.heap.size
  block : ∀ b, b < lo ∨ hi ≤ b → b < w.heap.size → W.heap[b]? = w.heap[b]?
theorem Sp.refl (lo hi : Nat) (w : World) : Sp lo hi w w := ⟨rfl, rfl, rfl, Nat.le_refl _, fun _ _ _ => rfl⟩
theorem Sp.alloc {lo hi : Nat} {w W : World} (h : Sp lo hi w W) (o : Obj) : Sp lo hi w (W.alloc o) :=
  ⟨h.os, h.tape, h.output, Nat.le_trans h.size (by simp), fun b hb hs => (Below.heap_alloc _ _ _ (Nat.lt_of_lt_of_le hs h.size)).trans (h.block b hb hs)⟩
theorem Sp.drew {lo hi : Nat} {w W : World} (h : Sp lo hi w W) : Sp lo hi w W.drew := ⟨h.os, h.tape, h.output, h.size, h.block⟩
theorem Sp.set {lo hi g off : Nat} {w W : World} (h : Sp lo hi w W) (h1 : lo ≤ g) (h2 : g < hi) (u : Value) : Sp lo hi w (W.setCell ⟨g, off, none⟩ u) :=
  ⟨h.os, h.tape, h.output, Nat.le_trans h.size (by simp), fun b hb hs => (Below.heap_setCell _ _ _ _ (by simp; omega)).trans (h.block b hb hs)⟩
theorem Sp.below {lo hi : Nat} {w W : World} (h : Sp lo hi w W) (hlo : lo ≤ w.heap.size) : Below lo w W :=
  ⟨h.os, h.tape, h.output, h.size, fun k hk => h.block k (Or.inl hk) (by omega)⟩
/-- a list whose cells may be written. -/
def Room (F : Fx) (v : Value) : Prop := ∃ g n cap cur T, v = .slice (some ⟨g, 0, none⟩) n cap ∧ F g = some (.cells cur T (0, 0)) ∧ n ≤ cur.size ∧ n ≤ 2097152
theorem Room.set {F : Fx} {v : Value} {b off : Nat} {cs : Array Value} {T : TypeId} (h : Room F v) (hb : F b = some (.cells cs T (0, 0))) (u : Value) : Room (F.set b (.cells (cs.setIfInBounds off u) T (0, 0))) v := by
  obtain ⟨g, n, cap, cur, T', h1, h2, h3, h4⟩ := h
  by_cases e : g = b
  · subst e
    rw [hb] at h2
    injection h2 with h2
    injection h2 with h2 h2'
    subst h2 h2'
    exact ⟨g, n, cap, _, T, h1, Fx.set_same _ _ _, by simpa using h3, h4⟩
  · exact ⟨g, n, cap, cur, T', h1, by rw [Fx.set_other _ _ e]; exact h2, h3, h4⟩
/-- what was lent, while it is written over. -/
structure SI (lo hi p : Nat) (w W : World) (tv cv rv lv : Value) (nt nc nr nl : Nat) (cs rs ls : List Value) (F : Fx) (T : List Value) : Prop where
  lnt : Lnt lo p W tv cv rv lv nt nc nr nl T cs rs ls
  grow : Grow lo F p [tv, cv, rv, lv] W
  rl : ∀ v ∈ ls, Room F v
  rc : ∀ v ∈ cs, Room F v
  rr : ∀ v ∈ rs, Room F v
  hF : ∀ b o, F b = some o → b < hi
  hv : ∀ b, tv.ownBlock = some b → b < hi
  sp : Sp lo hi w W
section
variable {lo hi p nt nc nr nl : Nat} {w W : World} {tv cv rv lv : Value} {cs rs ls T : List Value} {F : Fx}
theorem SI.alloc (h : SI lo hi p w W tv cv rv lv nt nc nr nl cs rs ls F T) (o : Obj) : SI lo hi p w (W.alloc o) tv cv rv lv nt nc nr nl cs rs ls F T :=
  ⟨h.lnt.alloc o, h.grow.alloc o, h.rl, h.rc, h.rr, h.hF, h.hv, h.sp.alloc o⟩
theorem SI.drew (h : SI lo hi p w W tv cv rv lv nt nc nr nl cs rs ls F T) : SI lo hi p w W.drew tv cv rv lv nt nc nr nl cs rs ls F T :=
  ⟨h.lnt.drew, h.grow.drew, h.rl, h.rc, h.rr, h.hF, h.hv, h.sp.drew⟩
/-- one cell of a list is written. -/
theorem SI.write (h : SI lo hi p w W tv cv rv lv nt nc nr nl cs rs ls F T) {g : Nat} {cur : Array Value} {E : TypeId} (hg : F g = some (.cells cur E (0, 0))) (off : Nat) (u : Value) : ∃ F', SI lo hi p w (W.setCell ⟨g, off, none⟩ u) tv cv rv lv nt nc nr nl cs rs ls F' T := by
  have hoff : ∀ v ∈ [tv, cv, rv, lv], v.ownBlock ≠ some g := fun v hv e => by
    have := (h.grow.off v hv g e).1
    rw [hg] at this
    cases this
  have hp : g ≠ p := fun e => by
    have := h.grow.offp
    rw [← e, hg] at this
    cases this
  refine ⟨_, ⟨?_, owns_set h.lnt.tab (hoff tv (by simp)), owns_set h.lnt.col (hoff cv (by simp)), owns_set h.lnt.row (hoff rv (by simp)), owns_set h.lnt.lst (hoff lv (by simp))⟩, h.grow.write hg off u, fun v hv => (h.rl v hv).set hg u, fun v hv => (h.rc v hv).set hg u, fun v hv => (h.rr v hv).set hg u, fun b o e => ?_, h.hv, h.sp.set (h.grow.fits g _ hg).1 (h.hF g _ hg) u⟩
  · rw [Below.heap_setCell _ _ _ _ (by simp; exact Ne.symm hp)]
    exact h.lnt.box
  · by_cases e' : b = g
    · subst e'
      exact h.hF b _ hg
    · rw [Fx.set_other _ _ e'] at e
      exact h.hF b o e
/-- where the cells of a list stand. -/
theorem SI.at (h : SI lo hi p w W tv cv rv lv nt nc nr nl cs rs ls F T) {v : Value} (hv : Room F v) : ∃ g n cap cur E, v = .slice (some ⟨g, 0, none⟩) n cap ∧ F g = some (.cells cur E (0, 0)) ∧ n ≤ 2097152 ∧ g < W.heap.size ∧ g ≠ p ∧ (∀ k, k < n → ∃ x, W.cell? ⟨g, k, none⟩ = some x) ∧ ∀ k, W.frozen? ⟨g, k, none⟩ = false := by
  obtain ⟨g, n, cap, cur, E, h1, h2, h3, h4⟩ := hv
  have hh := (h.grow.fits g _ h2).2
  refine ⟨g, n, cap, cur, E, h1, h2, h4, lt_of_heap hh, fun e => ?_, fun k hk => ?_, (blk hh).2⟩
  · have := h.grow.offp
    rw [← e, h2] at this
    cases this
  · refine ⟨cur[k]'(by omega), ?_⟩
    rw [(blk hh).1, Array.getElem?_eq_getElem (by omega)]
/-- a cell of the tables is written. -/
theorem SI.tab {g n cap : Nat} (h : SI lo hi p w W (.slice (some ⟨g, 0, none⟩) n cap) cv rv lv n nc nr nl cs rs ls F T) (off : Nat) (u : Value) : ∃ T', SI lo hi p w (W.setCell ⟨g, off, none⟩ u) (.slice (some ⟨g, 0, none⟩) n cap) cv rv lv n nc nr nl cs rs ls F T' := by
  have ha := Grow.apt (xs := []) h.grow
  have hof := h.grow.off (.slice (some ⟨g, 0, none⟩) n cap) (by simp) g rfl
  obtain ⟨ho, hgb⟩ := h.lnt.tab.stored off u
  refine ⟨_, ⟨?_, ho, owns_set h.lnt.col (fun e => ha.tc g rfl e), owns_set h.lnt.row (fun e => ha.tr g rfl e), owns_set h.lnt.lst (fun e => ha.tl g rfl e)⟩, ?_, h.rl, h.rc, h.rr, h.hF, h.hv, h.sp.set hof.2.2.1 (h.hv g rfl) u⟩
  · rw [Below.heap_setCell _ _ _ _ (by simp; exact Ne.symm hof.2.1)]
    exact h.lnt.box
  · refine ⟨fun b o e => ⟨(h.grow.fits b o e).1, ?_⟩, h.grow.offp, by simpa using h.grow.ltp, fun v hv b e => by simpa using h.grow.off v hv b e, h.grow.dis⟩
    rw [Below.heap_setCell _ _ _ _ (fun e' => by simp at e'; rw [e', hof.1] at e; cases e)]
    exact (h.grow.fits b o e).2
end
end Go.Proofs.YtfkeddkfegaeiaaDoor
