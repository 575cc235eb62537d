/-
  Part 46.
-/
import Derived.Test.YtfkeddkfegaeiaaGreatDoorMvStU
import Derived.Test.YtfkeddkfegaeiaaGreatDoorMvStO
import Derived.Test.YtfkeddkfegaeiaaGreatDoorMvPlY
import Derived.Lib.Walk
import Derived.Lib.SliceRun
import Derived.Test.YtfkeddkfegaeiaaGreatDoorMvPlBj
import Derived.Test.YtfkeddkfegaeiaaGreatDoorMvPlC
import Derived.Lib.AppendZeros
import Derived.Test.YtfkeddkfegaeiaaGreatDoorMvRdgB
namespace Go.Proofs.YtfkeddkfegaeiaaGreatDoor
open Go.RowKit
def okTk (x : List UInt8 × Tk) : Bool := x.1.all (fun c => blankI c.toNat) && x.2.value == 0 && ((x.2.kind == 1 && (signL.contains x.2.text.data.toList || (!x.2.text.data.toList.isEmpty && x.2.text.data.toList.all (fun c => letterI c.toNat) && wordB x.2.text.data.toList))) || (x.2.kind == 2 && (!x.2.text.data.toList.isEmpty && x.2.text.data.toList.all (fun c => letterI c.toNat) && !wordB x.2.text.data.toList && decide (x.2.text.size ≤ 8))))
theorem okTk_tok {x : List UInt8 × Tk} (h : okTk x = true) : Blank x.1 ∧ IsTok x.2 := by
  unfold okTk at h
  simp only [Bool.and_eq_true, Bool.or_eq_true, List.all_eq_true, beq_iff_eq, Bool.not_eq_true', List.isEmpty_eq_false_iff, decide_eq_true_eq] at h
  obtain ⟨⟨h1, h2⟩, h3⟩ := h
  refine ⟨fun c hc => h1 c hc, ?_⟩
  rcases h3 with ⟨h3, h4 | ⟨⟨h4, h5⟩, h6⟩⟩ | ⟨h3, ⟨⟨h4, h5⟩, h6⟩, h7⟩
  · exact .sign (List.contains_iff_mem.1 h4) h3 h2
  · exact .word h4 h5 h6 h3 h2
  · exact .name h4 h5 h6 h7 h3 h2
theorem tokL_of {l : List (List UInt8 × Tk)} (h : l.all okTk = true) : TokL l := fun x hx => okTk_tok (List.all_eq_true.1 h x hx)
def fitB : List (List UInt8 × Tk) → Bool
  | [] => true
  | [_] => true
  | x :: y :: r => (!y.1.isEmpty || okNext x.2.text.data.toList (y.2.text.data.toList.headD 0)) && fitB (y :: r)
theorem fit_of : ∀ {l : List (List UInt8 × Tk)}, fitB l = true → FitT l
  | [], _ => trivial
  | [_], _ => trivial
  | x :: y :: r, h => by
    unfold fitB at h
    simp only [Bool.and_eq_true, Bool.or_eq_true, Bool.not_eq_true', List.isEmpty_eq_false_iff] at h
    exact ⟨fun e => h.1.elim (fun h => (h e).elim) id, fit_of h.2⟩
/-- tokens, at places. -/
def mkT (pl : Nat → Nat) (l : List Tk) : List Tk := l.zipIdx.map fun p => ⟨pl p.2, p.1.kind, p.1.text, p.1.value⟩
theorem mkT_of {us l : List Tk} (n : Nat) (h : us.map strip3 = l.map strip3) : ∃ pl, us ++ [tkEnd n] = mkT pl (l ++ [tkEnd 0]) := by
  refine ⟨fun i => ((us ++ [tkEnd n])[i]?.getD (tkEnd 0)).place, ?_⟩
  have hl : us.length = l.length := by have := congrArg List.length h; simpa using this
  apply List.ext_getElem?
  intro i
  unfold mkT
  rw [List.getElem?_map, List.getElem?_zipIdx]
  by_cases hi : i < us.length
  · have h1 : (us.map strip3)[i]? = (l.map strip3)[i]? := by rw [h]
    rw [List.getElem?_map, List.getElem?_map, List.getElem?_eq_getElem hi, List.getElem?_eq_getElem (show i < l.length by omega)] at h1
    simp only [Option.map_some, Option.some.injEq, strip3, Prod.mk.injEq] at h1
    rw [List.getElem?_append_left hi, List.getElem?_append_left (by omega), List.getElem?_eq_getElem hi, List.getElem?_eq_getElem (show i < l.length by omega)]
    simp only [Option.map_some, Nat.zero_add, List.getElem?_append_left hi, List.getElem?_eq_getElem hi, Option.getD_some, ← h1.1, ← h1.2.1, ← h1.2.2]
  · by_cases hi2 : i = us.length
    · subst hi2
      rw [List.getElem?_append_right (Nat.le_refl _), List.getElem?_append_right (by omega), hl, Nat.sub_self]
      simp [← hl, tkEnd]
    · rw [List.getElem?_append_right (by omega), List.getElem?_append_right (by omega)]
      rw [List.getElem?_eq_none (by simp; omega), List.getElem?_eq_none (by simp; omega)]
      rfl
/-- a text of these tokens, read. -/
theorem read_mk {s : ByteArray} {l : List (List UInt8 × Tk)} (hs : s.data.toList = spr l) (ht : TokL l) (hf : FitT l) : ∃ pl, readP s = readT (mkT pl (l.map (·.2) ++ [tkEnd 0])) := by
  obtain ⟨us, h1, h2⟩ := scan_spr3 s l [] (s.size + 1) hs ht hf (by simp)
  have h3 : us.map strip3 = (l.map (·.2)).map strip3 := by rw [h2, List.map_map]; rfl
  obtain ⟨pl, h4⟩ := mkT_of s.size h3
  refine ⟨pl, ?_⟩
  rw [← h4]
  unfold readP scanP
  rw [show scanFrom s (s.size + 1) 0 = .ok (us ++ [tkEnd s.size]) from h1]
/-- what tokens are read as. -/
def qOf (pl : Nat → Nat) (l : List (List UInt8 × Tk)) : QueryX := (queryP (mkT pl (l.map (·.2) ++ [tkEnd 0])) st0).1
def okQ (pl : Nat → Nat) (l : List (List UInt8 × Tk)) : Bool := (endP (mkT pl (l.map (·.2) ++ [tkEnd 0])) (queryP (mkT pl (l.map (·.2) ++ [tkEnd 0])) st0).2).er.isNone
theorem read_q {pl : Nat → Nat} {l : List (List UInt8 × Tk)} (h : okQ pl l = true) : readT (mkT pl (l.map (·.2) ++ [tkEnd 0])) = .ok (qOf pl l) := by
  unfold okQ at h
  rw [Option.isNone_iff_eq_none] at h
  unfold readT qOf
  rw [h]
end Go.Proofs.YtfkeddkfegaeiaaGreatDoor
namespace Go.Proofs.YtfkeddkfegaeiaaGreatDoor
open Go.RowKit Go.Lib
/-- this row is not the one ahead of it. -/
def keepB (l : List (List Int)) (i : Nat) : Bool := i == 0 || !(decide (l[i]? = l[i - 1]?))
def compN (l : List (List Int)) (n : Nat) : List (List Int) := ((List.range n).filter (keepB l)).map fun i => l.getD i []
theorem compN_succ (l : List (List Int)) (n : Nat) : compN l (n + 1) = compN l n ++ (if keepB l n = true then [l.getD n []] else []) := by
  unfold compN
  rw [List.range_succ, List.filter_append, List.map_append]
  congr 1
  simp only [List.filter_cons, List.filter_nil]
  split <;> rfl
/-- the first n rows are done: what was kept stands ahead of k, the rest is as it was. -/
def CInv (w : World) (g : Nat) (t : TypeId) (cur : Array Value) (l : List (List Int)) (n k : Nat) (W : World) : Prop := Kp g w W ∧ (compN l n).length = k ∧ ∃ cur' : Array Value, W.heap[g]? = some (.cells cur' t (0, 0)) ∧ cur'.size = cur.size ∧ (∀ (i : Nat) zs, (compN l n)[i]? = some zs → ∃ v, cur'[i]? = some v ∧ OffAt g w v zs) ∧ ∀ i, k ≤ i → cur'[i]? = cur[i]?
theorem compN_all {l : List (List Int)} : ∀ {k : Nat}, k ≤ l.length → (∀ j, j < k → keepB l j = true) → compN l k = l.take k
  | 0, _, _ => by simp [compN]
  | k + 1, hk, h => by
    rw [compN_succ, compN_all (by omega) (fun j hj => h j (by omega)), if_pos (h k (by omega)), List.take_add_one, List.getElem?_eq_getElem (by omega)]
    simp [List.getD_eq_getElem?_getD, List.getElem?_eq_getElem (show k < l.length by omega)]
theorem CInv.start {w : World} {g : Nat} {t : TypeId} {cur : Array Value} {l : List (List Int)} {k : Nat} {W : World} (hb : w.heap[g]? = some (.cells cur t (0, 0))) (hr : ∀ (i : Nat) zs, l[i]? = some zs → ∃ v, cur[i]? = some v ∧ OffAt g w v zs) (hW : Below w.heap.size w W) (hk : k < l.length) (ha : ∀ j, j < k → keepB l j = true) (hn : keepB l k = false) : CInv w g t cur l (k + 1) k W := by
  have e : compN l (k + 1) = l.take k := by rw [compN_succ, compN_all (by omega) ha, hn]; simp
  refine ⟨Kp.ofBelow hW, by rw [e, List.length_take]; omega, cur, (hW.block g (lt_of_heap hb)).trans hb, rfl, fun i zs h => ?_, fun _ _ => rfl⟩
  rw [e] at h
  have hi : i < k := by
    have := (List.getElem?_eq_some_iff.1 h).1
    rw [List.length_take] at this
    omega
  rw [List.getElem?_take_of_lt hi] at h
  exact hr i zs h
theorem CInv.drop {w : World} {g : Nat} {t : TypeId} {cur : Array Value} {l : List (List Int)} {n k : Nat} {W W' : World} (h : CInv w g t cur l n k W) (hW : Below W.heap.size W W') (hn : keepB l n = false) : CInv w g t cur l (n + 1) k W' := by
  obtain ⟨h1, h2, cur', h3, h4, h5, h6⟩ := h
  have e : compN l (n + 1) = compN l n := by rw [compN_succ, hn]; simp
  refine ⟨h1.trans (Kp.ofBelow hW), by rw [e]; exact h2, cur', (hW.block g (lt_of_heap h3)).trans h3, h4, fun i zs h => h5 i zs (by rw [← e]; exact h), h6⟩
end Go.Proofs.YtfkeddkfegaeiaaGreatDoor
namespace Go.Proofs.YtfkeddkfegaeiaaGreatDoor
open Go.RowKit
theorem owns_rowAt {W : World} {lo : Nat} {T : TypeId} {v : Value} {n : Nat} {xs : List Value} (h : W.ownsRow lo T 1 v n xs) : RowAt W v xs := by
  have hl := h.1
  rw [Nat.mul_one] at hl
  rcases h.2 with ⟨h1, h2⟩ | ⟨g, cap, cur, h1, _, hb, h2, h3, h4, h5⟩
  · subst h2
    exact ⟨none, 0, by rw [hl]; exact h1, by rw [hl]; unfold maxLen; omega, fun hp => by omega⟩
  · refine ⟨_, cap, by rw [hl]; exact h1, by omega, fun _ => ⟨g, 0, rfl, lt_of_heap hb, fun j hj => ?_⟩⟩
    rw [Nat.zero_add, (blk hb).1, ← h5, List.getElem?_take_of_lt (by omega)]
    simp
/-- rows of the table that grows, off the block of tables. -/
def RowsOff (W : World) (tb : Nat) (rv : Value) (rows : List (List Int)) : Prop := (rv = .slice none 0 0 ∧ rows = []) ∨ ∃ g cap, rv = .slice (some ⟨g, 0, none⟩) rows.length cap ∧ g ≠ tb ∧ cap ≤ maxLen ∧ RowsB W g 32 cap rows
theorem RowsB.rowsAt {W : World} {g cap c : Nat} {t : TypeId} {l : List (List Int)} (h : RowsB W g t cap l) (hm : l.length ≤ maxLen) : RowsAt W (.slice (some ⟨g, 0, none⟩) l.length c) l := by
  obtain ⟨cur, h1, h2, h3, h4⟩ := h
  have hl : (cur.toList.take l.length).length = l.length := by simp [List.length_take]; omega
  refine ⟨cur.toList.take l.length, ⟨_, c, by rw [hl], by omega, fun hp => ⟨g, 0, rfl, lt_of_heap h1, fun j hj => ?_⟩⟩, hl, fun k r u e1 e2 => ?_⟩
  · rw [hl] at hj
    rw [Nat.zero_add, (blk h1).1, List.getElem?_take_of_lt hj]
    simp
  · obtain ⟨v, hv, ho⟩ := h4 k r e1
    have hk := (List.getElem?_eq_some_iff.1 e1).1
    rw [List.getElem?_take_of_lt hk, Array.getElem?_toList, hv] at e2
    injection e2 with e2
    subst e2
    exact ho.row
theorem RowsOff.rowsAt {W : World} {tb : Nat} {rv : Value} {rows : List (List Int)} (h : RowsOff W tb rv rows) (hm : rows.length ≤ maxLen) : RowsAt W rv rows := by
  rcases h with ⟨rfl, rfl⟩ | ⟨g, cap, rfl, _, _, hb⟩
  · exact ⟨[], ⟨none, 0, rfl, Nat.zero_le _, fun h => absurd h (by decide)⟩, rfl, fun k r u e => by simp at e⟩
  · exact hb.rowsAt hm
theorem RowsOff.turn {W W' : World} {tb : Nat} {rv : Value} {rows : List (List Int)} (h : RowsOff W tb rv rows) (hk : Kp tb W W') (hx : ∀ o z, W.cell? ⟨tb, o, none⟩ ≠ some (.int .i64 z)) : RowsOff W' tb rv rows := by
  rcases h with h | ⟨g, cap, h1, h2, h3, hb⟩
  · exact Or.inl h
  · exact Or.inr ⟨g, cap, h1, h2, h3, hb.turn hk.size hk.block h2 hx⟩
/-- the tables as they lie while the last one grows. -/
structure GrowAt (w0 W : World) (tb tc : Nat) (T0 : List Tb) (t : Tb) (cur : Array Value) (cv rv : Value) : Prop where
  low : w0.heap.size ≤ tb
  blk : W.heap[tb]? = some (.cells cur 44 (0, 0))
  old : ∀ (j : Nat) t0, T0[j]? = some t0 → ∃ c r, TbV w0 [.string t0.name, c, r] t0 ∧ cur[j * 3]? = some (.string t0.name) ∧ cur[j * 3 + 1]? = some c ∧ cur[j * 3 + 2]? = some r
  nm : cur[T0.length * 3]? = some (.string t.name)
  cl : cur[T0.length * 3 + 1]? = some cv
  rw' : cur[T0.length * 3 + 2]? = some rv
  cols : W.ownsRow w0.heap.size 9 1 cv t.cols.length (textsV t.cols)
  coff : cv.ownBlock ≠ some tb
  rows : RowsOff W tb rv t.rows
  noint : ∀ (i : Nat) v, cur[i]? = some v → ∀ z, v ≠ .int .i64 z
  cap : T0.length + 1 ≤ tc
  few : T0.length < 1000
theorem GrowAt.nz {w0 W : World} {tb tc : Nat} {T0 : List Tb} {t : Tb} {cur : Array Value} {cv rv : Value} (h : GrowAt w0 W tb tc T0 t cur cv rv) : ∀ o z, W.cell? ⟨tb, o, none⟩ ≠ some (.int .i64 z) := fun o z e => by
  rw [(Go.Proofs.YtfkeddkfegaeiaaGreatDoor.blk h.blk).1] at e
  exact h.noint o _ e z rfl
theorem owns_kp {W W' : World} {lo : Nat} {T : TypeId} {k : Nat} {v : Value} {n : Nat} {xs : List Value} {r : Nat} (h : W.ownsRow lo T k v n xs) (hk : Kp r W W') (hr : v.ownBlock ≠ some r) : W'.ownsRow lo T k v n xs := by
  refine ⟨h.1, ?_⟩
  rcases h.2 with h1 | ⟨g, cap, cur, h1, hg, hb, h2⟩
  · exact Or.inl h1
  · exact Or.inr ⟨g, cap, cur, h1, hg, (hk.block g (lt_of_heap hb) (fun e => hr (by rw [h1, ← e]; rfl))).trans hb, h2⟩
/-- blocks are laid; the tables stay. -/
theorem GrowAt.below {w0 W W' : World} {tb tc : Nat} {T0 : List Tb} {t : Tb} {cur : Array Value} {cv rv : Value} (h : GrowAt w0 W tb tc T0 t cur cv rv) (hb : Below W.heap.size W W') : GrowAt w0 W' tb tc T0 t cur cv rv :=
  ⟨h.low, (hb.block tb (lt_of_heap h.blk)).trans h.blk, h.old, h.nm, h.cl, h.rw', owns_kp h.cols (Kp.ofBelow (r := tb) hb) h.coff, h.coff, h.rows.turn (Kp.ofBelow hb) h.nz, h.noint, h.cap, h.few⟩
end Go.Proofs.YtfkeddkfegaeiaaGreatDoor
namespace Go.Proofs.YtfkeddkfegaeiaaGreatDoor
open Go.RowKit
theorem sortL_len (l : List (List Int)) : (sortL l).length = l.length := (List.mergeSort_perm _ _).length_eq
theorem RowsB.below {w w' : World} {g : Nat} {t : TypeId} {cap : Nat} {l : List (List Int)} (h : RowsB w g t cap l) (hb : Below w.heap.size w w') : RowsB w' g t cap l := by
  obtain ⟨cur, h1, h2, h3, h4⟩ := h
  refine ⟨cur, (hb.block g (lt_of_heap h1)).trans h1, h2, h3, fun i zs e => ?_⟩
  obtain ⟨v, hv, ho⟩ := h4 i zs e
  exact ⟨v, hv, ho.keep hb.size (fun k hk _ => hb.block k hk)⟩
end Go.Proofs.YtfkeddkfegaeiaaGreatDoor
namespace Go.Proofs.YtfkeddkfegaeiaaGreatDoor
open Go.RowKit
abbrev Rws' := List (List Int)
end Go.Proofs.YtfkeddkfegaeiaaGreatDoor
namespace Go.Proofs.YtfkeddkfegaeiaaGreatDoor
open Go.RowKit
theorem own_ne {W : World} {lo : Nat} {T : TypeId} {k : Nat} {v : Value} {n : Nat} {xs : List Value} {b : Nat} (h : W.ownsRow lo T k v n xs) (hb : b < lo) : v.ownBlock ≠ some b := fun e => by
  have := (h.lt b e).1
  omega
end Go.Proofs.YtfkeddkfegaeiaaGreatDoor
namespace Go.Proofs.YtfkeddkfegaeiaaGreatDoor
open Go.RowKit
/-- tables' cells in a block of one's own: the first n are these, and none is a number. -/
structure TbRow (W : World) (lo g n cap : Nat) (cs : List Value) : Prop where
  low : lo ≤ g
  lies : ∃ cur : Array Value, W.heap[g]? = some (.cells cur 44 (0, 0)) ∧ cur.size = cap * 3 ∧ cur.toList.take (n * 3) = cs ∧ ∀ v ∈ cur.toList, ∀ z, v ≠ .int .i64 z
  fits : n ≤ cap
  max : cap ≤ maxLen
theorem TbRow.below {W W' : World} {lo g n cap : Nat} {cs : List Value} (h : TbRow W lo g n cap cs) (hb : Below W.heap.size W W') : TbRow W' lo g n cap cs := by
  obtain ⟨cur, h1, h2⟩ := h.lies
  exact ⟨h.low, ⟨cur, (hb.block g (lt_of_heap h1)).trans h1, h2⟩, h.fits, h.max⟩
/-- a slice of tables, with its cells. -/
structure Pt where
  ad : Addr
  n : Nat
  c : Nat
  cs : List Value
structure Pt.Ok (w : World) (p : Pt) : Prop where
  pos : 0 < p.n
  len : p.cs.length = p.n * 3
  cells : ∀ j u, p.cs[j]? = some u → w.cell? (p.ad.add j) = some u
  one : ∀ u ∈ p.cs, u.oneCell' = true
  noint : ∀ u ∈ p.cs, ∀ z, u ≠ .int .i64 z
  low : p.ad.block < w.heap.size
theorem Pt.Ok.below {w w' : World} {p : Pt} (h : p.Ok w) (hb : Below w.heap.size w w') : p.Ok w' :=
  ⟨h.pos, h.len, fun j u e => by
    have hk : (p.ad.add j).block = p.ad.block := by unfold Addr.add; split <;> rfl
    have := hb.cell (p := p.ad.add j) (by rw [hk]; exact h.low)
    rw [this]; exact h.cells j u e, h.one, h.noint, Nat.lt_of_lt_of_le h.low hb.size⟩
end Go.Proofs.YtfkeddkfegaeiaaGreatDoor
namespace Go.Proofs.YtfkeddkfegaeiaaGreatDoor
open Go.RowKit
def fnsX (T : List Tb) (x : SelX) : List (List (List Int) → List Int) := x.items.map fun e => foV T e (foldS T x.srcs).ss
def tnsX (T : List Tb) (x : SelX) : List (List Int → Bool) := x.tests.map fun u => tsHolds (colAt T (foldS T x.srcs).ss) u
end Go.Proofs.YtfkeddkfegaeiaaGreatDoor
namespace Go.Proofs.YtfkeddkfegaeiaaGreatDoor
open Go.RowKit
theorem SelM.mono {w0 : World} {G G' : Fx} {c : Fc} {ss : List Sr} {wd : Nat} {fns : List (List (List Int) → List Int)} {tns : List (List Int → Bool)} (h : SelM w0 G c ss wd fns tns) (hG : G.le G') : SelM w0 G' c ss wd fns tns := by
  obtain ⟨sv, iv, tv, ev, ivs, tvs, h1, h2, ⟨h3, h4⟩, h5, h6⟩ := h.lies
  exact ⟨⟨sv, iv, tv, ev, ivs, tvs, hG _ _ h1, h2.mono hG, ⟨h3.mono hG, h4.mono hG⟩, h5.mono hG, h6.mono hG⟩, h.few, h.ok, h.wide⟩
end Go.Proofs.YtfkeddkfegaeiaaGreatDoor
namespace Go.Proofs.YtfkeddkfegaeiaaGreatDoor
open Go.RowKit
/-- how many rows a select puts together over tables; those that are chosen; what it gives. -/
def selN (Tm T : List Tb) (x : SelX) : Nat := mulN (rowsOf T (foldS Tm x.srcs).ss)
def selC (Tm T : List Tb) (x : SelX) : Rws' := chosenN T (foldS Tm x.srcs).ss (tnsX Tm x) (selN Tm T x)
def selL (Tm T : List Tb) (x : SelX) : Rws' := turned (selC Tm T x).length ((fnsX Tm x).map fun f => f (selC Tm T x))
end Go.Proofs.YtfkeddkfegaeiaaGreatDoor
namespace Go.Proofs.YtfkeddkfegaeiaaGreatDoor
open Go.RowKit
theorem turned_map {α : Type} (ch : Rws') (fs : List α) (f : α → List Int → Int) : turned ch.length (fs.map fun e => ch.map (f e)) = ch.map fun r => fs.map fun e => f e r := by
  unfold turned
  apply List.ext_getElem
  · simp
  · intro i h1 h2
    simp only [List.length_map, List.length_range] at h1
    simp [List.getD_eq_getElem?_getD, List.getElem?_map, List.getElem?_eq_getElem h1]
theorem selL_map (Tm T : List Tb) (x : SelX) : selL Tm T x = (selC Tm T x).map fun r => x.items.map fun e => evE (colAt Tm (foldS Tm x.srcs).ss) e.val r := by
  unfold selL fnsX
  rw [List.map_map]
  exact turned_map (selC Tm T x) x.items fun e => evE (colAt Tm (foldS Tm x.srcs).ss) e.val
theorem mul_one' (R : Rws') : mulN [R] = R.length := by simp [mulN]
theorem tog_one (R : Rws') : (List.range R.length).map (togR [R]) = R := by
  apply List.ext_getElem
  · simp
  · intro i h1 h2
    simp only [List.getElem_map, List.getElem_range, togR, madeN, List.map_nil, List.foldl_nil, Nat.div_one, List.append_nil, Nat.mod_eq_of_lt h2]
    rw [List.getD_eq_getElem?_getD, List.getElem?_eq_getElem h2]
    rfl
/-- a select of one source: what its items come to, what it asks. -/
structure OneS (Tm : List Tb) (x : SelX) (j : Nat) (f : List Int → List Int) (g : List Int → Bool) : Prop where
  ss : ∃ al, (foldS Tm x.srcs).ss = [⟨al, j, 0⟩]
  it : ∀ r, (x.items.map fun e => evE (colAt Tm (foldS Tm x.srcs).ss) e.val r) = f r
  ts : ∀ r, ((tnsX Tm x).all fun t => t r) = g r
theorem OneS.num {Tm : List Tb} {x : SelX} {j : Nat} {f : List Int → List Int} {g : List Int → Bool} (h : OneS Tm x j f g) (T : List Tb) : selN Tm T x = (T.getD j tb0).rows.length := by
  obtain ⟨al, hs⟩ := h.ss
  unfold selN
  rw [hs]
  exact mul_one' _
theorem OneS.rows {Tm : List Tb} {x : SelX} {j : Nat} {f : List Int → List Int} {g : List Int → Bool} (h : OneS Tm x j f g) (T : List Tb) : selL Tm T x = ((T.getD j tb0).rows.filter g).map f := by
  rw [selL_map, show (fun r => x.items.map fun e => evE (colAt Tm (foldS Tm x.srcs).ss) e.val r) = f from funext h.it]
  congr 1
  unfold selC
  rw [h.num T]
  obtain ⟨al, hs⟩ := h.ss
  unfold chosenN
  rw [hs]
  rw [show rowsOf T [⟨al, j, 0⟩] = [(T.getD j tb0).rows] from rfl, tog_one, show (fun r => (tnsX Tm x).all fun t => t r) = g from funext h.ts]
end Go.Proofs.YtfkeddkfegaeiaaGreatDoor
namespace Go.Proofs.YtfkeddkfegaeiaaGreatDoor
open Go.RowKit
def cA : List (List UInt8 × Tk) := [([], tkW [119, 105, 116, 104]), ([32], tkM [114]), ([], tkW [40]), ([], tkM [110]), ([], tkW [41]), ([32], tkW [97, 115]), ([32], tkW [40]), ([], tkW [115, 101, 108, 101, 99, 116]), ([32], tkM [120]), ([], tkW [46]), ([], tkM [97]), ([32], tkW [102, 114, 111, 109]), ([32], tkM [101]), ([32], tkM [120]), ([32], tkW [117, 110, 105, 111, 110]), ([32], tkW [115, 101, 108, 101, 99, 116]), ([32], tkM [114]), ([], tkW [46]), ([], tkM [110]), ([32], tkW [43])]
def cB : List (List UInt8 × Tk) := [([32], tkW [102, 114, 111, 109]), ([32], tkM [114]), ([32], tkM [114]), ([32], tkW [119, 104, 101, 114, 101]), ([32], tkM [114]), ([], tkW [46]), ([], tkM [110]), ([32], tkW [60])]
/-- the table that is asked. -/
def tR (rows : Rws') : Tb := ⟨⟨#[101]⟩, [⟨#[97]⟩, ⟨#[98]⟩], rows⟩
section
variable (pl : Nat → Nat) (d t : Nat) (rows : Rws')
set_option maxRecDepth 100000
end
end Go.Proofs.YtfkeddkfegaeiaaGreatDoor
