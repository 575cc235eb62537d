/-
  Part 10.
-/
import Derived.Test.YtfkeddkfegaeiaaDoorMNwE
import Derived.Deep.AppendLies
import Derived.Laws.OwnMore
namespace Go.Proofs.YtfkeddkfegaeiaaDoor
open Go.RowKit

/-! ### what lies in the heap and stays: by blocks -/
abbrev Fx := Nat → Option Obj
def Fx.le (F F' : Fx) : Prop := ∀ b o, F b = some o → F' b = some o
theorem Fx.le.refl (F : Fx) : F.le F := fun _ _ h => h
theorem Fx.le.trans {F F' F'' : Fx} (h : F.le F') (k : F'.le F'') : F.le F'' := fun b o e => k b o (h b o e)
def Fx.set (F : Fx) (b : Nat) (o : Obj) : Fx := fun k => if k = b then some o else F k
theorem Fx.set_same (F : Fx) (b : Nat) (o : Obj) : F.set b o b = some o := by simp [Fx.set]
theorem Fx.set_other (F : Fx) {b k : Nat} (o : Obj) (h : k ≠ b) : F.set b o k = F k := by simp [Fx.set, h]
theorem Fx.le_set {F : Fx} {b : Nat} (o : Obj) (h : F b = none) : F.le (F.set b o) := fun k x e => by
  have hk : k ≠ b := fun e' => by rw [e', h] at e; cases e
  rw [Fx.set_other F o hk]; exact e
/-- two values have no own block in common. -/
def Dis (u v : Value) : Prop := ∀ b, u.ownBlock = some b → v.ownBlock ≠ some b
theorem Dis.symm {u v : Value} (h : Dis u v) : Dis v u := fun b e1 e2 => h b e2 e1
theorem Dis.nilL (v : Value) (a b : Nat) : Dis (.slice none a b) v := fun b e => by simp [Value.ownBlock] at e
theorem Dis.nilR (v : Value) (a b : Nat) : Dis v (.slice none a b) := fun _ _ e => by simp [Value.ownBlock] at e
/-- the fixed blocks F, a box p, and lists that grow, all apart. -/
structure Grow (lo : Nat) (F : Fx) (p : Nat) (vs : List Value) (W : World) : Prop where
  fits : ∀ b o, F b = some o → lo ≤ b ∧ W.heap[b]? = some o
  offp : F p = none
  ltp : p < W.heap.size
  off : ∀ v ∈ vs, ∀ b, v.ownBlock = some b → F b = none ∧ b ≠ p ∧ lo ≤ b ∧ b < W.heap.size
  dis : vs.Pairwise Dis

theorem lt_size {W : World} {b : Nat} {o : Obj} (h : W.heap[b]? = some o) : b < W.heap.size := by
  rcases Nat.lt_or_ge b W.heap.size with h' | h'
  · exact h'
  · rw [Array.getElem?_eq_none h'] at h; cases h
theorem Grow.ltF {lo p : Nat} {F : Fx} {vs : List Value} {W : World} (h : Grow lo F p vs W) {b : Nat} {o : Obj} (hb : F b = some o) : b < W.heap.size := lt_size (h.fits b o hb).2
theorem Grow.noneF {lo p : Nat} {F : Fx} {vs : List Value} {W : World} (h : Grow lo F p vs W) {b : Nat} (hb : W.heap.size ≤ b) : F b = none := by
  cases e : F b with
  | none => rfl
  | some o => have := h.ltF e; omega
/-- the world grew, all that was below is as it was. -/
theorem Grow.keep {lo p : Nat} {F : Fx} {vs : List Value} {W W' : World} (h : Grow lo F p vs W) (hs : W.heap.size ≤ W'.heap.size) (hb : ∀ k, k < W.heap.size → W'.heap[k]? = W.heap[k]?) : Grow lo F p vs W' :=
  ⟨fun b o e => ⟨(h.fits b o e).1, by rw [hb b (h.ltF e)]; exact (h.fits b o e).2⟩, h.offp, Nat.lt_of_lt_of_le h.ltp hs, fun v hv b e => ⟨(h.off v hv b e).1, (h.off v hv b e).2.1, (h.off v hv b e).2.2.1, Nat.lt_of_lt_of_le (h.off v hv b e).2.2.2 hs⟩, h.dis⟩
theorem Grow.below {lo p : Nat} {F : Fx} {vs : List Value} {W W' : World} (h : Grow lo F p vs W) (hb : Below W.heap.size W W') : Grow lo F p vs W' := h.keep hb.size hb.block
theorem Grow.alloc {lo p : Nat} {F : Fx} {vs : List Value} {W : World} (h : Grow lo F p vs W) (o : Obj) : Grow lo F p vs (W.alloc o) :=
  h.keep (by simp) (fun k hk => Below.heap_alloc _ _ _ hk)
/-- the box is written. -/
theorem Grow.box {lo p : Nat} {F : Fx} {vs : List Value} {W : World} (h : Grow lo F p vs W) (off : Nat) (u : Value) : Grow lo F p vs (W.setCell ⟨p, off, none⟩ u) :=
  ⟨fun b o e => ⟨(h.fits b o e).1, by rw [Below.heap_setCell _ _ _ _ (fun e' => by simp at e'; rw [e', h.offp] at e; cases e)]; exact (h.fits b o e).2⟩, h.offp, by simpa using h.ltp, fun v hv b e => by simpa using h.off v hv b e, h.dis⟩
/-- one of the lists grew. -/
theorem Grow.app {lo p g : Nat} {F : Fx} {vs1 vs2 : List Value} {v v' : Value} {W W' : World} (h : Grow lo F p (vs1 ++ v :: vs2) W) (hlo : lo ≤ W.heap.size) (hg : W.grownBy W' v.ownBlock) (hv' : v'.ownBlock = some g) (hat : v.ownBlock = some g ∨ W.heap.size ≤ g) (hlt : g < W'.heap.size) : Grow lo F p (vs1 ++ v' :: vs2) W' := by
  have hin : v ∈ vs1 ++ v :: vs2 := List.mem_append_right _ List.mem_cons_self
  refine ⟨fun b o e => ⟨(h.fits b o e).1, ?_⟩, h.offp, Nat.lt_of_lt_of_le h.ltp hg.size, ?_, ?_⟩
  · rw [hg.block b (h.ltF e) (fun e' => by rw [(h.off v hin b e'.symm).1] at e; cases e)]
    exact (h.fits b o e).2
  · intro u hu b e
    have old : ∀ u ∈ vs1 ++ v :: vs2, ∀ b, u.ownBlock = some b → F b = none ∧ b ≠ p ∧ lo ≤ b ∧ b < W'.heap.size := fun u hu b e => ⟨(h.off u hu b e).1, (h.off u hu b e).2.1, (h.off u hu b e).2.2.1, Nat.lt_of_lt_of_le (h.off u hu b e).2.2.2 hg.size⟩
    rcases List.mem_append.1 hu with hu | hu
    · exact old u (List.mem_append_left _ hu) b e
    · rcases List.mem_cons.1 hu with rfl | hu
      · rw [hv'] at e
        injection e with e
        subst e
        rcases hat with hat | hat
        · exact old v hin _ hat
        · exact ⟨h.noneF hat, fun e => by have := h.ltp; omega, Nat.le_trans hlo hat, hlt⟩
      · exact old u (List.mem_append_right _ (List.mem_cons_of_mem _ hu)) b e
  · have hd := h.dis
    rw [List.pairwise_append, List.pairwise_cons] at hd ⊢
    obtain ⟨d1, ⟨d2, d3⟩, d4⟩ := hd
    have key : ∀ u, u ∈ vs1 ++ v :: vs2 → Dis v u → Dis v' u := by
      intro u hu hd b e1 e2
      rw [hv'] at e1
      injection e1 with e1
      subst e1
      rcases hat with hat | hat
      · exact hd _ hat e2
      · have := (h.off u hu _ e2).2.2.2
        omega
    refine ⟨d1, ⟨fun u hu => key u (List.mem_append_right _ (List.mem_cons_of_mem _ hu)) (d2 u hu), d3⟩, fun a ha b hb => ?_⟩
    rcases List.mem_cons.1 hb with rfl | hb
    · exact (key a (List.mem_append_left _ ha) (d4 a ha v List.mem_cons_self).symm).symm
    · exact d4 a ha b (List.mem_cons_of_mem _ hb)
/-- a block is laid down for good. -/
theorem Grow.fix {lo p b : Nat} {F : Fx} {vs : List Value} {W : World} {o : Obj} (h : Grow lo F p vs W) (hlo : lo ≤ b) (hb : W.heap[b]? = some o) (hp : b ≠ p) (hv : ∀ v ∈ vs, v.ownBlock ≠ some b) : Grow lo (F.set b o) p vs W := by
  refine ⟨fun k x e => ?_, by rw [Fx.set_other F o (Ne.symm hp)]; exact h.offp, h.ltp, fun v hv' k e => ?_, h.dis⟩
  · by_cases hk : k = b
    · subst hk
      rw [Fx.set_same] at e
      injection e with e
      subst e
      exact ⟨hlo, hb⟩
    · rw [Fx.set_other F o hk] at e
      exact h.fits k x e
  · have hk : k ≠ b := fun e' => hv v hv' (by rw [e, e'])
    rw [Fx.set_other F o hk]
    exact h.off v hv' k e
/-- a fixed block is written. -/
theorem Grow.write {lo p b : Nat} {F : Fx} {vs : List Value} {W : World} {cs : Array Value} {t : TypeId} {f : Nat × Nat} (h : Grow lo F p vs W) (hb : F b = some (.cells cs t f)) (off : Nat) (u : Value) : Grow lo (F.set b (.cells (cs.setIfInBounds off u) t f)) p vs (W.setCell ⟨b, off, none⟩ u) := by
  have hh := (h.fits b _ hb).2
  have hbp : b ≠ p := fun e => by rw [e, h.offp] at hb; cases hb
  have hbv : ∀ v ∈ vs, v.ownBlock ≠ some b := fun v hv e => by rw [(h.off v hv b e).1] at hb; cases hb
  have h1 : Grow lo (fun k => if k = b then none else F k) p vs W := ⟨fun k x e => by
    by_cases hk : k = b
    · simp [hk] at e
    · simp [hk] at e; exact h.fits k x e, by simp [Ne.symm hbp, h.offp], h.ltp, fun v hv k e => by
      have hk : k ≠ b := fun e' => hbv v hv (by rw [e, e'])
      simp only [hk, if_false]
      exact h.off v hv k e, h.dis⟩
  have h2 : Grow lo (fun k => if k = b then none else F k) p vs (W.setCell ⟨b, off, none⟩ u) := ⟨fun k x e => ⟨(h1.fits k x e).1, by
    rw [Below.heap_setCell _ _ _ _ (fun e' => by simp at e'; simp [e'] at e)]
    exact (h1.fits k x e).2⟩, h1.offp, by simpa using h1.ltp, fun v hv k e => by simpa using h1.off v hv k e, h1.dis⟩
  have h3 := h2.fix (h.fits b _ hb).1 (o := .cells (cs.setIfInBounds off u) t f) (b := b) (by
    simp only [World.setCell, Array.getElem?_modify, if_pos, hh, Option.map_some]
    rfl) hbp hbv
  have e : Fx.set (fun k => if k = b then none else F k) b (.cells (cs.setIfInBounds off u) t f) = F.set b (.cells (cs.setIfInBounds off u) t f) := by
    funext k
    by_cases hk : k = b
    · simp [Fx.set, hk]
    · simp [Fx.set, hk]
  rw [e] at h3
  exact h3
/-- a list is done: its block is laid down for good, and the list is no more one that grows. -/
theorem Grow.drop {lo p : Nat} {F : Fx} {v : Value} {vs : List Value} {W : World} (h : Grow lo F p (v :: vs) W) : Grow lo F p vs W :=
  ⟨h.fits, h.offp, h.ltp, fun u hu => h.off u (List.mem_cons_of_mem _ hu), (List.pairwise_cons.1 h.dis).2⟩
theorem Grow.seal {lo p g : Nat} {F : Fx} {v : Value} {vs : List Value} {W : World} {o : Obj} (h : Grow lo F p (v :: vs) W) (hv : v.ownBlock = some g) (hg : W.heap[g]? = some o) : Grow lo (F.set g o) p vs W :=
  h.drop.fix (h.off v List.mem_cons_self g hv).2.2.1 hg (h.off v List.mem_cons_self g hv).2.1 (fun u hu e => (List.pairwise_cons.1 h.dis).1 u hu g hv e)
theorem Grow.add {lo p : Nat} {F : Fx} {vs : List Value} {W : World} (h : Grow lo F p vs W) (a b : Nat) : Grow lo F p (.slice none a b :: vs) W :=
  ⟨h.fits, h.offp, h.ltp, fun u hu k e => by
    rcases List.mem_cons.1 hu with rfl | hu
    · simp [Value.ownBlock] at e
    · exact h.off u hu k e, List.pairwise_cons.2 ⟨fun u _ => Dis.nilL u a b, h.dis⟩⟩
/-- what a list holds is kept where the world grew by another one. -/
theorem owns_other {W W' : World} {base n : Nat} {e : TypeId} {size : Nat} {u v : Value} {xs : List Value} (h : W.ownsRow base e size u n xs) (hd : Dis v u) (hg : W.grownBy W' v.ownBlock) : W'.ownsRow base e size u n xs := by
  refine h.kept hg ?_
  cases hu : u.ownBlock with
  | none => exact .inl rfl
  | some b => exact .inr (fun e => hd b e.symm hu)
theorem owns_below {W W' : World} {base n : Nat} {e : TypeId} {size : Nat} {u : Value} {xs : List Value} (h : W.ownsRow base e size u n xs) (hb : Below W.heap.size W W') : W'.ownsRow base e size u n xs :=
  h.kept (row := none) ⟨hb.os, hb.tape, hb.output, hb.size, fun k hk _ => hb.block k hk⟩ (by cases u.ownBlock <;> simp)
theorem owns_set {W : World} {base n b off : Nat} {e : TypeId} {size : Nat} {u x : Value} {xs : List Value} (h : W.ownsRow base e size u n xs) (hb : u.ownBlock ≠ some b) : (W.setCell ⟨b, off, none⟩ x).ownsRow base e size u n xs :=
  h.kept (row := some b) ⟨rfl, rfl, rfl, by simp, fun k _ hk => Below.heap_setCell _ _ _ _ (fun e => hk (by rw [e]))⟩ (.inr hb)
end Go.Proofs.YtfkeddkfegaeiaaDoor
