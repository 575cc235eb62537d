/-
  One test more in a select: what becomes of memory.
-/
import Derived.Test.YtjnmkmcopfkdfaaGreatDoorSelA
namespace Go.Proofs.YtjnmkmcopfkdfaaGreatDoor
open Go.RowKit

/-- of the blocks below n only those of the reader and of the select have turned. -/
def Old2 (c : Cx) (bs n : Nat) (w w' : World) : Prop := ∀ k, k < n → k ≠ c.rb → k ≠ bs → w'.heap[k]? = w.heap[k]?
theorem Old2.kp {c : Cx} {bs n : Nat} {w W W' : World} (h : Old2 c bs n w W) (hk : Kp c.rb W W') (hn : n ≤ W.heap.size) : Old2 c bs n w W' := fun k h0 h1 h2 => (hk.block k (by omega) h1).trans (h k h0 h1 h2)
theorem Old2.grown {c : Cx} {bs n : Nat} {w W W' : World} {e : TypeId} {size m : Nat} {v : Value} {xs : List Value} (h : Old2 c bs n w W) (hrow : W.ownsRow n e size v m xs) (hg : W.grownBy W' v.ownBlock) (hn : n ≤ W.heap.size) : Old2 c bs n w W' := fun k h0 h1 h2 =>
  (hg.block k (by omega) (fun e1 => by have := (hrow.lt k e1.symm).1; omega)).trans (h k h0 h1 h2)
theorem Old2.set {c : Cx} {bs n i : Nat} {w W : World} {u : Value} (h : Old2 c bs n w W) : Old2 c bs n w (W.setCell ⟨bs, i, none⟩ u) := fun k h0 h1 h2 => (Below.heap_setCell _ _ _ _ h2).trans (h k h0 h1 h2)

/-- a row's block, its size. -/
theorem ownsRow_block {w : World} {base : Nat} {e : TypeId} {size : Nat} {v : Value} {n g : Nat} {xs : List Value} (h : w.ownsRow base e size v n xs) (hg : v.ownBlock = some g) : ∃ cur, w.heap[g]? = some (.cells cur e (0, 0)) ∧ n * size ≤ cur.size := by
  rcases h.2 with ⟨rfl, _⟩ | ⟨g', cap, cur, rfl, _, hh, hn, _, hc, _⟩
  · cases hg
  · have : g' = g := by simpa [Value.ownBlock] using hg
    subst this
    exact ⟨cur, hh, by rw [hc]; exact Nat.mul_le_mul_right _ hn⟩

/-- the tests so far, and one more. -/
theorem tests_more {c : Cx} {w w8 W W5 W6 : World} {bs : Nat} {vt v' x y : Value} {us : List (TestA × Value × Value)} {t : TestA} {stA : St} {evA : Value} {sg : ByteArray} {p : Nat}
    (hrs : RS c W stA evA) (hbs : ∃ cs, W.heap[bs]? = some (.cells cs 136 (0, 0))) (h8 : w.heap.size ≤ w8.heap.size) (h8W : w8.heap.size ≤ W.heap.size)
    (hrow : W.ownsRow w8.heap.size 143 4 vt us.length (tsCells us)) (hok : TsOk W w.heap.size vt us)
    (hk5 : Kp c.rb W W5) (hx : ExOk W5 W.heap.size x t.l) (hy : ExOk W5 W.heap.size y t.r)
    (ho : W6.ownsRow w8.heap.size 143 4 v' (us.length + 1) (tsCells us ++ [.int .i64 p, x, .string sg, y]))
    (hg : (W5.alloc (.cells #[.int .i64 p, x, .string sg, y] 143)).grownBy W6 vt.ownBlock)
    (hfresh : us = [] → ∀ g, v'.ownBlock = some g → W5.heap.size ≤ g) :
    TsOk (W6.setCell ⟨bs, 3, none⟩ v') w.heap.size v' (us ++ [(t, x, y)]) := by
  obtain ⟨csel, hbs⟩ := hbs
  have hbsW := lt_of_heap hbs
  have hs5 := hk5.size
  -- a node's block that stood at W5 and is not the old row's stands behind all of it
  have step : ∀ (k : Nat) (cs : Array Value) (tt : TypeId), some k ≠ vt.ownBlock → k ≠ bs → W5.heap[k]? = some (.cells cs tt (0, 0)) → (W6.setCell ⟨bs, 3, none⟩ v').heap[k]? = W5.heap[k]? := fun k cs tt h1 h2 h3 => by
    have hk := lt_of_heap h3
    rw [Below.heap_setCell _ _ _ _ h2, hg.block k (by simp; omega) h1, Below.heap_alloc _ _ _ hk]
  have nbs : ∀ (k : Nat) (cs : Array Value) (tt : TypeId), W.heap[k]? = some (.cells cs tt (0, 0)) → nodeT tt = true → k ≠ bs := fun k cs tt h1 h2 e => by
    subst e; rw [hbs] at h1; cases h1; cases h2
  have nrb : ∀ (k : Nat) (cs : Array Value) (tt : TypeId), W.heap[k]? = some (.cells cs tt (0, 0)) → nodeT tt = true → k ≠ c.rb := fun k cs tt h1 h2 e => by
    subst e; rw [hrs.reader] at h1; cases h1; cases h2
  -- the new row is no node: by its size, or for it is new
  have far : us ≠ [] → ∀ (k : Nat) (cs : Array Value) (tt : TypeId), k ≠ bs → (W6.setCell ⟨bs, 3, none⟩ v').heap[k]? = some (.cells cs tt (0, 0)) → cs.size ≤ 5 → some k ≠ v'.ownBlock := fun hne k cs tt hkb hk hsz e => by
    obtain ⟨cur, hcur, hn⟩ := ownsRow_block ho e.symm
    rw [Below.heap_setCell _ _ _ _ hkb, hcur] at hk
    cases hk
    have : 0 < us.length := by cases us with | nil => exact absurd rfl hne | cons _ _ => simp
    omega
  intro u hu
  rcases List.mem_append.1 hu with hu | hu
  · have hne : us ≠ [] := fun e => by rw [e] at hu; cases hu
    have old : ∀ {z : Value} {l : List Nd}, ExIn W (offRow w.heap.size vt) z l → ExIn (W6.setCell ⟨bs, 3, none⟩ v') (offRow w.heap.size v') z l := fun {z l} hz => by
      have h1 : ExIn (W6.setCell ⟨bs, 3, none⟩ v') (fun k => offRow w.heap.size vt k ∧ k ≠ bs) z l := by
        have h0 : ExIn W (fun k => offRow w.heap.size vt k ∧ k ≠ bs) z l := by
          obtain ⟨n, hn⟩ := hz
          exact ⟨n, ExP.refineT (fun k cs tt hp hk ht => ⟨hp, nbs k cs tt hk ht⟩) n z l hn⟩
        refine h0.keep (fun _ h => h) (fun k cs tt hp hk ht => ?_)
        have e5 : W5.heap[k]? = W.heap[k]? := hk5.block k (lt_of_heap hk) (nrb k cs tt hk ht)
        exact (step k cs tt hp.1.2 hp.2 (e5.trans hk)).trans e5
      exact h1.refine (fun k cs tt hp hk hsz => ⟨hp.1.1, far hne k cs tt hp.2 hk hsz⟩)
    exact ⟨old (hok u hu).1, old (hok u hu).2⟩
  · rw [List.mem_singleton.1 hu]
    have new : ∀ {z : Value} {l : List Nd}, ExOk W5 W.heap.size z l → ExIn (W6.setCell ⟨bs, 3, none⟩ v') (offRow w.heap.size v') z l := fun {z l} hz => by
      have h1 : ExIn (W6.setCell ⟨bs, 3, none⟩ v') (fun k => W.heap.size ≤ k ∧ k < W5.heap.size) z l := by
        refine hz.bound.keep (fun _ h => h) (fun k cs tt hp hk ht => ?_)
        refine step k cs tt (fun e => ?_) (by omega) hk
        have := (hrow.lt k e.symm).2
        omega
      refine h1.refine (fun k cs tt hp hk hsz => ⟨by omega, ?_⟩)
      by_cases hne : us = []
      · intro e
        have := hfresh hne k e.symm
        omega
      · exact far hne k cs tt (by omega) hk hsz
    exact ⟨new hx, new hy⟩
end Go.Proofs.YtjnmkmcopfkdfaaGreatDoor
