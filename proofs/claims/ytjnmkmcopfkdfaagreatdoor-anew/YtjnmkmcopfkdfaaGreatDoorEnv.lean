/-
  The package-level errors as they lie, and what keeps them so.
-/
import Derived.Test.YtjnmkmcopfkdfaaGreatDoorRows
import Derived.WalkKit
namespace Go.Proofs.YtjnmkmcopfkdfaaGreatDoor
open Go.RowKit

theorem hide {p : Prop} (h : p) : Hid p := h
theorem unhide {p : Prop} (h : Hid p) : p := h

/-- the errors that reading a text may meet: the program's five and strconv's two. -/
def seven (j : Nat) : Bool := j == 0 || j == 1 || j == 2 || j == 3 || j == 4 || j == 11 || j == 10
theorem seven_lt {j : Nat} (h : seven j = true) : j < 12 := by
  unfold seven at h
  simp only [Bool.or_eq_true, beq_iff_eq] at h
  omega
/-- variable j holds a pointer into a plain row; all of it lies below block B. -/
structure Env (a : Nat → Addr) (B : Nat) (w : World) : Prop where
  low : 12 ≤ B
  size : B ≤ w.heap.size
  cell : ∀ j, seven j = true → w.cell? ⟨j, 0, none⟩ = some (.iface 224 (.pointer (some (a j))))
  below : ∀ j, seven j = true → (a j).block < B
  row : ∀ j, seven j = true → ∃ c t, w.heap[(a j).block]? = some (.cells c t (0, 0))
  ne : ∀ i j, seven i = true → seven j = true → i ≠ j → a i ≠ a j

theorem Env.keep {a : Nat → Addr} {B : Nat} {w w' : World} (h : Env a B w) (hb : Below B w w') : Env a B w' := by
  refine ⟨h.low, Nat.le_trans h.size hb.size, fun j hj => ?_, h.below, fun j hj => ?_, h.ne⟩
  · rw [hb.cell (p := ⟨j, 0, none⟩) (Nat.lt_of_lt_of_le (seven_lt hj) h.low)]; exact h.cell j hj
  · obtain ⟨c, t, hr⟩ := h.row j hj
    exact ⟨c, t, by rw [hb.block _ (h.below j hj)]; exact hr⟩

theorem Env.alloc {a : Nat → Addr} {B : Nat} {w : World} (h : Env a B w) (o : Obj) : Env a B (w.alloc o) :=
  h.keep ((Below.refl _ _).alloc h.size _)

theorem Env.drew {a : Nat → Addr} {B : Nat} {w : World} (h : Env a B w) : Env a B w.drew := h.keep (Below.refl _ _).drew

/-- Of what was there only block r may have turned. -/
structure Kp (r : Nat) (w w' : World) : Prop where
  os : w'.os = w.os
  tape : w'.tape = w.tape
  output : w'.output = w.output
  size : w.heap.size ≤ w'.heap.size
  block : ∀ k, k < w.heap.size → k ≠ r → w'.heap[k]? = w.heap[k]?

theorem Kp.refl (r : Nat) (w : World) : Kp r w w := ⟨rfl, rfl, rfl, Nat.le_refl _, fun _ _ _ => rfl⟩
theorem Kp.trans {r : Nat} {a b c : World} (h : Kp r a b) (k : Kp r b c) : Kp r a c :=
  ⟨k.os.trans h.os, k.tape.trans h.tape, k.output.trans h.output, Nat.le_trans h.size k.size, fun i hi hr => (k.block i (Nat.lt_of_lt_of_le hi h.size) hr).trans (h.block i hi hr)⟩
theorem Kp.ofBelow {r : Nat} {w w' : World} (h : Below w.heap.size w w') : Kp r w w' := ⟨h.os, h.tape, h.output, h.size, fun k hk _ => h.block k hk⟩
theorem Kp.drew {r : Nat} {a w : World} (h : Kp r a w) : Kp r a w.drew := ⟨h.os, h.tape, h.output, h.size, h.block⟩
theorem Kp.alloc {r : Nat} {a w : World} (h : Kp r a w) (o : Obj) : Kp r a (w.alloc o) :=
  h.trans ⟨rfl, rfl, rfl, by simp, fun k hk _ => Below.heap_alloc _ _ _ hk⟩
theorem Kp.setCell {r : Nat} {a w : World} (h : Kp r a w) (off : Nat) (u : Value) : Kp r a (w.setCell ⟨r, off, none⟩ u) :=
  h.trans ⟨rfl, rfl, rfl, by simp [World.setCell], fun k _ hr => Below.heap_setCell _ _ _ _ hr⟩
/-- a store into a block that is new since a. -/
theorem Kp.setNew {r : Nat} {a w : World} (h : Kp r a w) {p : Addr} (hp : a.heap.size ≤ p.block) (u : Value) : Kp r a (w.setCell p u) :=
  ⟨h.os, h.tape, h.output, Nat.le_trans h.size (by simp [World.setCell]), fun k hk hr => (Below.heap_setCell _ _ _ _ (by omega)).trans (h.block k hk hr)⟩
theorem Kp.below {r B : Nat} {w w' : World} (h : Kp r w w') (hr : B ≤ r) (hB : B ≤ w.heap.size) : Below B w w' :=
  ⟨h.os, h.tape, h.output, h.size, fun k hk => h.block k (by omega) (by omega)⟩
theorem Env.kp {a : Nat → Addr} {B r : Nat} {w w' : World} (h : Env a B w) (hk : Kp r w w') (hr : B ≤ r) : Env a B w' := h.keep (hk.below hr h.size)
theorem Kp.cell {r : Nat} {w w' : World} (h : Kp r w w') {p : Addr} (hp : p.block < w.heap.size) (hr : p.block ≠ r) : w'.cell? p = w.cell? p := World.cell?_of_block (w := w) (h.block p.block hp hr)
theorem Kp.frozen {r : Nat} {w w' : World} (h : Kp r w w') {p : Addr} (hp : p.block < w.heap.size) (hr : p.block ≠ r) : w'.frozen? p = w.frozen? p := World.frozen?_of_block (w := w) (h.block p.block hp hr)
theorem heap_last {w : World} {o : Obj} {n : Nat} (h : n = w.heap.size) : (w.alloc o).heap[n]? = some o := by
  subst h
  show (w.heap.push o)[w.heap.size]? = _
  rw [Array.getElem?_push, if_pos rfl]
theorem blk {w : World} {b : Nat} {c : Array Value} {t : TypeId} (h : w.heap[b]? = some (.cells c t (0, 0))) : (∀ o, w.cell? ⟨b, o, none⟩ = c[o]?) ∧ ∀ o, w.frozen? ⟨b, o, none⟩ = false := by
  refine ⟨fun o => by simp [World.cell?, h], fun o => by simp [World.frozen?, h]⟩
theorem heap_prev {w : World} {o : Obj} {n : Nat} {x : Obj} (h : w.heap[n]? = some x) : (w.alloc o).heap[n]? = some x := by
  have hn : n < w.heap.size := by
    rcases Nat.lt_or_ge n w.heap.size with h' | h'
    · exact h'
    · rw [Array.getElem?_eq_none h'] at h; cases h
  rw [Below.heap_alloc _ _ _ hn]; exact h
theorem bcell {W w1 : World} (hb : Below W.heap.size W w1) : (∀ b o, b < W.heap.size → w1.cell? ⟨b, o, none⟩ = W.cell? ⟨b, o, none⟩) ∧ (∀ b o, b < W.heap.size → w1.frozen? ⟨b, o, none⟩ = W.frozen? ⟨b, o, none⟩) :=
  ⟨fun b o h => hb.cell (p := ⟨b, o, none⟩) h, fun b o h => hb.frozen (p := ⟨b, o, none⟩) h⟩
end Go.Proofs.YtjnmkmcopfkdfaaGreatDoor
