/-
  Part 41.
-/
import Derived.Test.YtfkeddkfegaeiaaGreatDoorMvPlBc
import Derived.Test.YtfkeddkfegaeiaaGreatDoorMvNwO
import Derived.Deep.AppendLies
namespace Go.Proofs.YtfkeddkfegaeiaaGreatDoor
open Go.RowKit
/-- where sources begin. -/
def Firsts (T : List Tb) : Nat → List Sr → Prop
  | _, [] => True
  | k, s :: r => s.first = k ∧ Firsts T (k + (colsOf T s).length) r
def wdS (T : List Tb) (ss : List Sr) : Nat := (ss.map fun s => (colsOf T s).length).sum
theorem wdS_snoc (T : List Tb) (ss : List Sr) (s : Sr) : wdS T (ss ++ [s]) = wdS T ss + (colsOf T s).length := by simp [wdS]
theorem firsts_snoc (T : List Tb) (s : Sr) : ∀ (l : List Sr) (k : Nat), Firsts T k l → s.first = k + wdS T l → Firsts T k (l ++ [s])
  | [], k, _, h => ⟨by simpa [wdS] using h, trivial⟩
  | x :: l, k, h, e => ⟨h.1, firsts_snoc T s l _ h.2 (by rw [e]; simp [wdS]; omega)⟩
theorem firsts_fold (T : List Tb) : ∀ (l : List (Tk × Tk)) (f : Fs), Firsts T 0 f.ss → f.wd = wdS T f.ss → Firsts T 0 (l.foldl (srcStep T) f).ss ∧ (l.foldl (srcStep T) f).wd = wdS T (l.foldl (srcStep T) f).ss
  | [], _, h, e => ⟨h, e⟩
  | x :: l, f, h, e => by
    rw [List.foldl_cons]
    refine firsts_fold T l _ ?_ ?_
    · unfold srcStep
      cases tabNo T x.1.text with
      | none => exact h
      | some j => exact firsts_snoc T _ _ _ h (by rw [Nat.zero_add]; exact e)
    · unfold srcStep
      cases tabNo T x.1.text with
      | none => exact e
      | some j => simp only; rw [wdS_snoc, e]; rfl
theorem firsts_foldS (T : List Tb) (l : List (Tk × Tk)) : Firsts T 0 (foldS T l).ss ∧ (foldS T l).wd = wdS T (foldS T l).ss := firsts_fold T l _ trivial rfl
theorem splice_rep (x : Nat) (v : Value) (r tail : List Value) : splice (List.replicate (x + r.length) v ++ tail) x r = List.replicate x v ++ (r ++ tail) := by
  unfold splice
  rw [List.drop_left' (by simp), List.take_append_of_le_length (by simp), List.take_replicate, Nat.min_eq_left (by omega)]
theorem row_len {L : List (List Int)} {w n : Nat} (h : ∀ r ∈ L, r.length = w) (hp : 0 < L.length) : (intsV (L.getD (n % L.length) [])).length = w := by
  have hq := Nat.mod_lt n hp
  rw [List.length_map, List.getD_eq_getElem?_getD, List.getElem?_eq_getElem hq]
  exact h _ (List.getElem_mem hq)
theorem tog_eq (T : List Tb) (n : Nat) : ∀ (ss : List Sr), ss.length ≤ 3 → Firsts T 0 ss → (∀ s ∈ ss, ∀ r ∈ (T.getD s.tab tb0).rows, r.length = (colsOf T s).length) → (∀ s ∈ ss, 0 < (T.getD s.tab tb0).rows.length) →
    (tgs (fun j : Fin ss.length => (T.getD (ss[j]).tab tb0).rows) (fun j => (ss[j]).first) (n, List.replicate (wdS T ss) (.int .i64 0)) (downs ss.length)).2 = intsV (togR (rowsOf T ss) n)
  | [], _, _, _, _ => rfl
  | [a], _, hf, hr, hp => by
    have h1 := row_len (n := n) (hr a (by simp)) (hp a (by simp))
    show splice (List.replicate (wdS T [a]) (.int .i64 0)) a.first (intsV ((T.getD a.tab tb0).rows.getD (n % (T.getD a.tab tb0).rows.length) [])) = intsV ((T.getD a.tab tb0).rows.getD (n / madeN [] % (T.getD a.tab tb0).rows.length) [] ++ [])
    have e := splice_rep 0 (.int .i64 0) (intsV ((T.getD a.tab tb0).rows.getD (n % (T.getD a.tab tb0).rows.length) [])) []
    rw [h1, List.append_nil] at e
    rw [hf.1, show wdS T [a] = 0 + (colsOf T a).length by simp [wdS], e]
    rw [show madeN [] = 1 from rfl, Nat.div_one]
    simp
  | [a, b], _, hf, hr, hp => by
    have h1 := row_len (n := n) (hr b (by simp)) (hp b (by simp))
    have h2 := row_len (n := n / (T.getD b.tab tb0).rows.length) (hr a (by simp)) (hp a (by simp))
    show splice (splice (List.replicate (wdS T [a, b]) (.int .i64 0)) b.first (intsV ((T.getD b.tab tb0).rows.getD (n % (T.getD b.tab tb0).rows.length) []))) a.first (intsV ((T.getD a.tab tb0).rows.getD (n / (T.getD b.tab tb0).rows.length % (T.getD a.tab tb0).rows.length) [])) = intsV ((T.getD a.tab tb0).rows.getD (n / madeN [(T.getD b.tab tb0).rows] % (T.getD a.tab tb0).rows.length) [] ++ ((T.getD b.tab tb0).rows.getD (n / madeN [] % (T.getD b.tab tb0).rows.length) [] ++ []))
    have e1 := splice_rep (0 + (colsOf T a).length) (.int .i64 0) (intsV ((T.getD b.tab tb0).rows.getD (n % (T.getD b.tab tb0).rows.length) [])) []
    rw [h1, List.append_nil] at e1
    have e2 := splice_rep 0 (.int .i64 0) (intsV ((T.getD a.tab tb0).rows.getD (n / (T.getD b.tab tb0).rows.length % (T.getD a.tab tb0).rows.length) [])) (intsV ((T.getD b.tab tb0).rows.getD (n % (T.getD b.tab tb0).rows.length) []) ++ [])
    rw [h2] at e2
    rw [hf.1, hf.2.1, show wdS T [a, b] = 0 + (colsOf T a).length + (colsOf T b).length by simp [wdS], e1, e2]
    rw [show madeN [] = 1 from rfl, Nat.div_one, show madeN [(T.getD b.tab tb0).rows] = (T.getD b.tab tb0).rows.length from Nat.one_mul _]
    simp
  | [a, b, c], _, hf, hr, hp => by
    have h1 := row_len (n := n) (hr c (by simp)) (hp c (by simp))
    have h2 := row_len (n := n / (T.getD c.tab tb0).rows.length) (hr b (by simp)) (hp b (by simp))
    have h3 := row_len (n := n / (T.getD c.tab tb0).rows.length / (T.getD b.tab tb0).rows.length) (hr a (by simp)) (hp a (by simp))
    show splice (splice (splice (List.replicate (wdS T [a, b, c]) (.int .i64 0)) c.first (intsV ((T.getD c.tab tb0).rows.getD (n % (T.getD c.tab tb0).rows.length) []))) b.first (intsV ((T.getD b.tab tb0).rows.getD (n / (T.getD c.tab tb0).rows.length % (T.getD b.tab tb0).rows.length) []))) a.first (intsV ((T.getD a.tab tb0).rows.getD (n / (T.getD c.tab tb0).rows.length / (T.getD b.tab tb0).rows.length % (T.getD a.tab tb0).rows.length) [])) = intsV ((T.getD a.tab tb0).rows.getD (n / madeN [(T.getD b.tab tb0).rows, (T.getD c.tab tb0).rows] % (T.getD a.tab tb0).rows.length) [] ++ ((T.getD b.tab tb0).rows.getD (n / madeN [(T.getD c.tab tb0).rows] % (T.getD b.tab tb0).rows.length) [] ++ ((T.getD c.tab tb0).rows.getD (n / madeN [] % (T.getD c.tab tb0).rows.length) [] ++ [])))
    have e1 := splice_rep (0 + (colsOf T a).length + (colsOf T b).length) (.int .i64 0) (intsV ((T.getD c.tab tb0).rows.getD (n % (T.getD c.tab tb0).rows.length) [])) []
    rw [h1, List.append_nil] at e1
    have e2 := splice_rep (0 + (colsOf T a).length) (.int .i64 0) (intsV ((T.getD b.tab tb0).rows.getD (n / (T.getD c.tab tb0).rows.length % (T.getD b.tab tb0).rows.length) [])) (intsV ((T.getD c.tab tb0).rows.getD (n % (T.getD c.tab tb0).rows.length) []) ++ [])
    rw [h2] at e2
    have e3 := splice_rep 0 (.int .i64 0) (intsV ((T.getD a.tab tb0).rows.getD (n / (T.getD c.tab tb0).rows.length / (T.getD b.tab tb0).rows.length % (T.getD a.tab tb0).rows.length) [])) (intsV ((T.getD b.tab tb0).rows.getD (n / (T.getD c.tab tb0).rows.length % (T.getD b.tab tb0).rows.length) []) ++ (intsV ((T.getD c.tab tb0).rows.getD (n % (T.getD c.tab tb0).rows.length) []) ++ []))
    rw [h3] at e3
    rw [hf.1, hf.2.1, hf.2.2.1, show wdS T [a, b, c] = 0 + (colsOf T a).length + (colsOf T b).length + (colsOf T c).length by simp [wdS]; omega, e1, e2, e3]
    rw [show madeN [] = 1 from rfl, Nat.div_one, show madeN [(T.getD c.tab tb0).rows] = (T.getD c.tab tb0).rows.length from Nat.one_mul _, show madeN [(T.getD b.tab tb0).rows, (T.getD c.tab tb0).rows] = (T.getD c.tab tb0).rows.length * (T.getD b.tab tb0).rows.length from by simp [madeN, Nat.mul_comm], ← Nat.div_div_eq_div_mul]
    simp
  | _ :: _ :: _ :: _ :: _, h, _, _, _ => by simp at h
end Go.Proofs.YtfkeddkfegaeiaaGreatDoor
namespace Go.Proofs.YtfkeddkfegaeiaaGreatDoor
open Go.RowKit
theorem firsts_le (T : List Tb) : ∀ (ss : List Sr) (k : Nat), Firsts T k ss → ∀ s ∈ ss, s.first + (colsOf T s).length ≤ k + wdS T ss
  | [], _, _, s, hs => by cases hs
  | x :: l, k, h, s, hs => by
    have e : wdS T (x :: l) = (colsOf T x).length + wdS T l := by simp [wdS]
    rcases List.mem_cons.1 hs with rfl | hs
    · rw [h.1, e]; omega
    · have := firsts_le T l _ h.2 s hs
      rw [e]; omega
/-- the tables that a select is worked out over. -/
structure TabsOk (c : Fc) (T : List Tb) (ss : List Sr) (wd : Nat) : Prop where
  len : T.length = c.T.length
  few : ∀ t ∈ T, t.rows.length ≤ 200
  shape : ∀ t ∈ T, ∀ r ∈ t.rows, r.length = t.cols.length
  firsts : Firsts T 0 ss
  wide : wd = wdS T ss
theorem getD_mem {T : List Tb} {j : Nat} (h : j < T.length) : T.getD j tb0 ∈ T := by
  rw [List.getD_eq_getElem?_getD, List.getElem?_eq_getElem h]
  exact List.getElem_mem h
theorem tog_sel (w0 : World) (G : Fx) (c : Fc) (ss : List Sr) (wd : Nat) (fns : List (List (List Int) → List Int)) (tns : List (List Int → Bool)) (h : SelM w0 G c ss wd fns tns) (hs0 : 0 < ss.length) (w : World) (hw : Fits w0 G w) (T : List Tb) (tc : Nat) (hT : TabsAt w (.slice (some ⟨c.tb, c.tof, none⟩) T.length tc) T) (ho : TabsOk c T ss wd) (hpos : ∀ s ∈ ss, 0 < (T.getD s.tab tb0).rows.length) (n : Nat) (hn : n ≤ 8000000) :
    Calls Tryz.prog 254 #[.pointer (some ⟨c.fb, 2, none⟩), .int .i64 (n : Nat)] w fun e w' => e = .returned (.slice (some ⟨w.heap.size + 1, 0, none⟩) wd wd) ∧ Below w.heap.size w w' ∧ w'.heap[w.heap.size + 1]? = some (.cells (intsV (togR (rowsOf T ss) n)).toArray 3 (0, 0)) := by
  obtain ⟨sv, iv, tv, ev, ivs, tvs, hbx, hsr, -, -⟩ := h.lies
  have hb := hw.new _ _ hbx
  have zb := lt_of_heap hb
  obtain ⟨kb, -⟩ := blk hb
  have htab : ∀ s ∈ ss, s.tab < T.length := fun s hs => by rw [ho.len]; exact h.ok s hs
  have split : ∀ j : Fin ss.length, ss = ss.take j.1 ++ ss[j] :: ss.drop (j.1 + 1) := fun j => by
    have := List.take_append_drop j.1 ss
    rw [List.drop_eq_getElem_cons j.2] at this
    exact this.symm
  have tl : ∀ j : Fin ss.length, (ss.take j.1).length = j.1 := fun j => by rw [List.length_take]; have := j.2; omega
  obtain ⟨gs, cap, rfl, zg, -, -, -⟩ := hsr.cell3 hw (split ⟨0, hs0⟩)
  have k2 : w.cell? ⟨c.fb, 2, none⟩ = some (.slice (some ⟨gs, 0, none⟩) ss.length cap) := kb 2
  have k3 : w.cell? ⟨c.fb, 3, none⟩ = some (.int .i64 (wd : Nat)) := kb 3
  refine (stogether_any w c.fb gs cap wd n ss.length h.few h.wide.1 hn (fun j => (ss[j]).alias) (fun _ => c.tb) (fun j => c.tof + (ss[j]).tab * 3) (fun j => (T.getD (ss[j]).tab tb0).rows) (fun j => (ss[j]).first) k2 k3 zb zg ?_ ?_ ?_).mono ?_
  · intro j
    obtain ⟨gs', cap', e, -, c1, c2, c3⟩ := hsr.cell3 hw (split j)
    injection e with e1 _ _
    injection e1 with e1
    injection e1 with e1
    subst e1
    rw [tl j] at c1 c2 c3
    exact ⟨c1, c2, c3⟩
  · intro j
    have hm := List.getElem_mem j.2
    obtain ⟨z, cv, rv, -, -, t3, -, hr⟩ := hT.tab (htab _ hm)
    exact ⟨z, hpos _ hm, ho.few _ (getD_mem (htab _ hm)), rv, t3, hr⟩
  · intro j r hr
    have hm := List.getElem_mem j.2
    have h1 : (ss[j]).first + (colsOf T (ss[j])).length ≤ 0 + wdS T ss := firsts_le T ss 0 ho.firsts _ hm
    have h2 : r.length = (colsOf T (ss[j])).length := ho.shape _ (getD_mem (htab _ hm)) r hr
    rw [ho.wide, h2]
    omega
  · rintro e w' ⟨h1, h2, h3⟩
    refine ⟨h1, h2, ?_⟩
    rw [h3, ho.wide, tog_eq T n ss h.few ho.firsts (fun s hs => ho.shape _ (getD_mem (htab s hs))) hpos]
end Go.Proofs.YtfkeddkfegaeiaaGreatDoor
namespace Go.Proofs.YtfkeddkfegaeiaaGreatDoor
open Go.RowKit
/-- rows of numbers, each in a block of its own. -/
def RowsN (W : World) (wd : Nat) (vs : List Value) (l : List (List Int)) : Prop := vs.length = l.length ∧ ∀ (i : Nat) u r, vs[i]? = some u → l[i]? = some r → ∃ b, u = .slice (some ⟨b, 0, none⟩) wd wd ∧ r.length = wd ∧ W.heap[b]? = some (.cells (intsV r).toArray 3 (0, 0))
theorem RowsN.below {W W' : World} {wd : Nat} {vs : List Value} {l : List (List Int)} (h : RowsN W wd vs l) (hb : Below W.heap.size W W') : RowsN W' wd vs l := ⟨h.1, fun i u r hu hr => by
  obtain ⟨b, h1, h2, h3⟩ := h.2 i u r hu hr
  exact ⟨b, h1, h2, (hb.block b (lt_of_heap h3)).trans h3⟩⟩
/-- another block grew. -/
theorem RowsN.grown {W W' : World} {wd lo : Nat} {v : Value} {n : Nat} {xs vs : List Value} {l : List (List Int)} (h : RowsN W wd vs l) (ho : W.ownsRow lo 32 1 v n xs) (hg : W.grownBy W' v.ownBlock) : RowsN W' wd vs l := ⟨h.1, fun i u r hu hr => by
  obtain ⟨b, h1, h2, h3⟩ := h.2 i u r hu hr
  refine ⟨b, h1, h2, (hg.block b (lt_of_heap h3) (fun e => ?_)).trans h3⟩
  rcases ho.2 with ⟨hv, _⟩ | ⟨g, cap, cur, hv, hge, hh, _⟩
  · rw [hv] at e; cases e
  · rw [hv] at e
    injection e with e
    subst e
    rw [h3] at hh
    injection hh with hh
    injection hh with _ e2 _
    exact absurd e2 (by decide)⟩
theorem RowsN.snoc {W : World} {wd : Nat} {vs : List Value} {l : List (List Int)} (h : RowsN W wd vs l) {b : Nat} {r : List Int} (hr : r.length = wd) (hb : W.heap[b]? = some (.cells (intsV r).toArray 3 (0, 0))) : RowsN W wd (vs ++ [.slice (some ⟨b, 0, none⟩) wd wd]) (l ++ [r]) := by
  refine ⟨by simp [h.1], fun i u q hu hq => ?_⟩
  by_cases hi : i < vs.length
  · rw [List.getElem?_append_left hi] at hu
    rw [List.getElem?_append_left (by rw [← h.1]; exact hi)] at hq
    exact h.2 i u q hu hq
  · rw [List.getElem?_append_right (by omega)] at hu
    rw [List.getElem?_append_right (by rw [← h.1]; omega), ← h.1] at hq
    have h0 : i - vs.length = 0 := by
      have := (List.getElem?_eq_some_iff.1 hu).1
      simp at this; omega
    rw [h0] at hu hq
    simp at hu hq
    subst hu hq
    exact ⟨b, rfl, hr, hb⟩
theorem RowsN.rows {W : World} {wd lo : Nat} {v : Value} {vs : List Value} {l : List (List Int)} (h : RowsN W wd vs l) (hwd : wd ≤ maxLen) (ho : W.ownsRow lo 32 1 v vs.length vs) (hm : vs.length ≤ maxLen) : RowsAt W v l := by
  refine ⟨vs, ?_, h.1, fun k r u hr hu => ?_⟩
  · rcases ho.2 with ⟨hv, h0⟩ | ⟨g, cap, cur, hv, hge, hh, c1, c2, c3, c4⟩
    · exact ⟨none, 0, by rw [hv, h0], hm, fun hp => by omega⟩
    · refine ⟨_, cap, hv, hm, fun hp => ⟨g, 0, rfl, lt_of_heap hh, fun j hj => ?_⟩⟩
      rw [Nat.zero_add, (blk hh).1]
      rw [Nat.mul_one] at c4
      have : cur.toList[j]? = vs[j]? := by
        rw [← c4, List.getElem?_take_of_lt hj]
      rw [← this]; simp
  · obtain ⟨b, rfl, h2, h3⟩ := h.2 k u r hu hr
    have := row_full h3 (by simp only [List.length_map]; omega) wd
    rw [List.length_map, h2] at this
    exact this
/-- the rows chosen among the first n. -/
def chosenN (T : List Tb) (ss : List Sr) (ts : List (List Int → Bool)) (n : Nat) : List (List Int) := ((List.range n).map (togR (rowsOf T ss))).filter fun r => ts.all fun t => t r
theorem chosenN_succ (T : List Tb) (ss : List Sr) (ts : List (List Int → Bool)) (n : Nat) : chosenN T ss ts (n + 1) = chosenN T ss ts n ++ (if (ts.all fun t => t (togR (rowsOf T ss) n)) = true then [togR (rowsOf T ss) n] else []) := by
  unfold chosenN
  rw [List.range_succ, List.map_append, List.filter_append, List.map_singleton]
  congr 1
  rw [List.filter_cons, List.filter_nil]
theorem chosenN_le (T : List Tb) (ss : List Sr) (ts : List (List Int → Bool)) (n : Nat) : (chosenN T ss ts n).length ≤ n := by
  unfold chosenN
  exact Nat.le_trans (List.length_filter_le _ _) (by simp)
theorem togR_len (T : List Tb) (n : Nat) : ∀ (ss : List Sr), (∀ s ∈ ss, ∀ r ∈ (T.getD s.tab tb0).rows, r.length = (colsOf T s).length) → (∀ s ∈ ss, 0 < (T.getD s.tab tb0).rows.length) → (togR (rowsOf T ss) n).length = wdS T ss
  | [], _, _ => rfl
  | s :: ss, hr, hp => by
    have h1 := togR_len T n ss (fun x hx => hr x (List.mem_cons_of_mem _ hx)) (fun x hx => hp x (List.mem_cons_of_mem _ hx))
    have h2 := row_len (n := n / madeN (rowsOf T ss)) (hr s List.mem_cons_self) (hp s List.mem_cons_self)
    rw [List.length_map] at h2
    show ((T.getD s.tab tb0).rows.getD (n / madeN (rowsOf T ss) % (T.getD s.tab tb0).rows.length) [] ++ togR (rowsOf T ss) n).length = _
    rw [List.length_append, h1, h2]
    simp [wdS]
theorem mul_pos (T : List Tb) : ∀ (ss : List Sr) (a : Nat), 0 < ((rowsOf T ss).map List.length).foldl (· * ·) a → 0 < a ∧ ∀ s ∈ ss, 0 < (T.getD s.tab tb0).rows.length
  | [], a, h => ⟨h, fun s hs => by cases hs⟩
  | s :: ss, a, h => by
    have := mul_pos T ss (a * (T.getD s.tab tb0).rows.length) h
    refine ⟨Nat.pos_of_mul_pos_right this.1, fun x hx => ?_⟩
    rcases List.mem_cons.1 hx with rfl | hx
    · exact Nat.pos_of_mul_pos_left this.1
    · exact this.2 x hx
/-- what chosen leaves. -/
def ChDone (a : Nat → Addr) (w : World) (N : Nat) (l : List (List Int)) (e : Ending) (w' : World) : Prop := Below w.heap.size w w' ∧ if 4000 < N then e = .returned (.tuple #[.slice none 0 0, errV a eMany]) else ∃ v, e = .returned (.tuple #[v, .nilIface]) ∧ RowsAt w' v l
set_option maxRecDepth 100000 in
set_option maxHeartbeats 4000000 in
theorem schosen_any (w0 : World) (G : Fx) (c : Fc) (ss : List Sr) (wd : Nat) (fns : List (List (List Int) → List Int)) (tns : List (List Int → Bool)) (h : SelM w0 G c ss wd fns tns) (hs0 : 0 < ss.length) (w : World) (hw : Fits w0 G w) (B : Nat) (hE : EnvX c.a B w) (T : List Tb) (tc : Nat) (hT : TabsAt w (.slice (some ⟨c.tb, c.tof, none⟩) T.length tc) T) (ho : TabsOk c T ss wd) :
    Calls Tryz.prog 201 #[.pointer (some ⟨c.fb, 2, none⟩)] w fun e w' => ChDone c.a w (mulN (rowsOf T ss)) (chosenN T ss tns (mulN (rowsOf T ss))) e w' := by
  have HH := hide h
  have HW := hide hw
  have HE := hide hE
  have HT := hide hT
  have HO := hide ho
  have hmany : w.cell? ⟨4, 0, none⟩ = some (errV c.a 4) := hE.cell _ (by decide)
  have hsm : mulN (rowsOf T ss) ≤ 8000000 := by
    refine mulN_small (fun r hr => ?_) (by simp [rowsOf]; exact h.few)
    obtain ⟨q, hq, rfl⟩ := List.mem_map.1 hr
    exact ho.few _ (getD_mem (by rw [ho.len]; exact h.ok q hq))
  have HP : Hid (0 < mulN (rowsOf T ss) → ∀ s ∈ ss, 0 < (T.getD s.tab tb0).rows.length) := fun hp => (mul_pos T ss 1 hp).2
  obtain ⟨i0, hi, hinf⟩ := Option.map_eq_some_iff.1 infoRow
  simp only [Prod.mk.injEq] at hinf
  obtain ⟨hz0, hz1, hz2⟩ := hinf
  have HI := hide hi
  have HZ0 := hide hz0
  have HZ1 := hide hz1
  have HZ2 := hide hz2
  clear hi hz0 hz1 hz2
  have hwd := h.wide.1
  obtain ⟨N, hN⟩ : ∃ N, N = mulN (rowsOf T ss) := ⟨_, rfl⟩
  have HM := hide (smade_any w0 G c ss wd fns tns h w hw T tc hT ho.len ho.few)
  rw [← hN] at hsm HP HM ⊢
  have HN := hide hN
  clear h hw hE hT ho hN
  go_enter Tryz.func201, Tryz.ntmps201
  go_wp2_with fail
  refine (unhide HM).mono ?_
  rintro e w1 ⟨rfl, hb1⟩
  have HB1 := hide hb1
  have hmany1 := (hb1.cell (p := ⟨4, 0, none⟩) (World.block_lt_of_cell? w _ hmany)).trans hmany
  clear hb1 HM hmany
  by_cases h4 : 4000 < N
  · have hd : decide ((4000 : Int) < (N : Int)) = true := by simp; omega
    go_wp2_with fail
    go_region
    all_goals go_wp2
    all_goals go_ret2
    all_goals exact ⟨(unhide HB1).drew, by rw [if_pos h4]; rfl⟩
  · have hd : decide ((4000 : Int) < (N : Int)) = false := by simp; omega
    clear hmany1
    go_wp2_with fail
    go_loopg [5, 6, 7, 14] N (fun f v _ _ i W => ∃ k vs, k + f = N ∧ i = .int .i64 (k : Nat) ∧ W.ownsRow w.heap.size 32 1 v vs.length vs ∧ RowsN W wd vs (chosenN T ss tns k) ∧ Below w.heap.size w W)
    case atStart => exact ⟨0, [], by omega, rfl, World.ownsRow_nil _ _ _ _, ⟨rfl, fun i u r e => by simp at e⟩, unhide HB1⟩
    case round =>
      obtain ⟨k, vs, hkf, rfl, hown, hrows, hbw⟩ := hrel
      have hvl : vs.length ≤ 4000 := by
        rw [hrows.1]
        exact Nat.le_trans (chosenN_le _ _ _ _) (by omega)
      obtain ⟨adv, capv, rfl⟩ := owns_shape hown
      have HOW := hide hown
      have HRO := hide hrows
      have HBW := hide hbw
      clear hown hrows hbw
      by_cases hk : k < N
      · have hlt : decide ((k : Int) < (N : Int)) = true := by simp; omega
        obtain ⟨gm, rfl⟩ : ∃ gm, gk = gm + 1 := ⟨gk - 1, by omega⟩
        have hps := (unhide HP) (by omega)
        have HTG := hide (tog_sel w0 G c ss wd fns tns (unhide HH) hs0 wr ((unhide HW).below (unhide HBW)) T tc ((unhide HT).keep (unhide HBW)) (unhide HO) hps k (by omega))
        have hrl : (togR (rowsOf T ss) k).length = wd := by
          rw [togR_len T k ss (fun s hs => (unhide HO).shape _ (getD_mem (by rw [(unhide HO).len]; exact (unhide HH).ok s hs))) hps, ← (unhide HO).wide]
        have HCS := hide (chosenN_succ T ss tns k)
        generalize togR (rowsOf T ss) k = row at *
        have HRL := hide hrl
        clear hps hrl
        go_wp2_with fail
        refine (unhide HTG).mono ?_
        rintro e w2 ⟨rfl, hb2, hh2⟩
        have HB2 : Hid (Below w.heap.size w w2) := (unhide HBW).trans (hb2.mono (unhide HBW).size)
        have HRW2 : Hid (RowAt w2 (.slice (some ⟨wr.heap.size + 1, 0, none⟩) wd wd) (intsV row)) := by
          have := row_full hh2 (by rw [List.length_map, unhide HRL]; unfold maxLen; omega) wd
          rw [List.length_map, unhide HRL] at this
          exact this
        have HOW2 := hide (owns_below (unhide HOW) hb2)
        have HRO2 := hide (((unhide HRO).below hb2).snoc (unhide HRL) hh2)
        have HRN2 := hide ((unhide HRO).below hb2)
        clear hb2 hh2 HTG HOW HRO
        go_wp2_with fail
        refine (sholds_any w0 G c ss wd fns tns (unhide HH) _ (by exact (unhide HW).below (unhide HB2)) _ row (unhide HRL) (by exact unhide HRW2)).mono ?_
        rintro e w3 ⟨rfl, hb3⟩
        have HB3 : Hid (Below w.heap.size w w3) := (unhide HB2).trans (hb3.mono (unhide HB2).size)
        have HOW3 := hide (owns_below (unhide HOW2) hb3)
        have HRO3 := hide ((unhide HRO2).below hb3)
        have HRN3 := hide ((unhide HRN2).below hb3)
        have z3 := (unhide HB3).size
        clear hb3 HOW2 HRO2 HRN2 HRW2
        cases hal : tns.all (fun t => t row) with
        | false =>
          have HAL := hide hal
          clear hal
          go_wp2
          go_roundg gm
          case measure => simp
          case rel =>
            refine ⟨k + 1, vs, by omega, ?_, unhide HOW3, ?_, unhide HB3⟩
            · go_num
            · rw [unhide HCS, unhide HAL]
              simpa using unhide HRN3
        | true =>
          have HAL := hide hal
          clear hal
          go_wp2_with (at_builtin; refine wpList_append_lies _ rfl _ _ 42 rfl w.heap.size 32 i0 (.slice none 0 0) 1 24 Tryz.underlying42 (unhide HI) (unhide HZ0) (unhide HZ1) (unhide HZ2) rfl (by decide) _ _ _ rfl ((unhide HOW3).alloc _) ⟨w3.heap.size, 0, none⟩ 1 1 [.slice (some ⟨wr.heap.size + 1, 0, none⟩) wd wd] rfl rfl ?c1 ?c2 (by decide) ?c3 ?c4 ?c5 _ rfl ?_)
          case c1 => exact news1 (heap_last rfl)
          case c2 => exact one1l _ _ _
          case c3 => unfold maxLen; omega
          case c4 => omega
          case c5 => simp; omega
          intro g cap w4 ho hg hat _
          have HO4 := hide ho
          have HRO4 := hide ((((unhide HRO3).below ((Below.refl _ _).alloc (Nat.le_refl _) _))).grown ((unhide HOW3).alloc _) hg)
          have HB4 : Hid (Below w.heap.size w w4) := ((unhide HB3).alloc z3 _).grown hg (by simp; omega) (fun b e => ((unhide HOW3).lt b e).1)
          clear ho hg hat
          go_wp2
          go_roundg gm
          case measure => simp
          case rel =>
            refine ⟨k + 1, vs ++ [.slice (some ⟨wr.heap.size + 1, 0, none⟩) wd wd], by omega, ?_, ?_, ?_, unhide HB4⟩
            · go_num
            · rw [List.length_append]; exact unhide HO4
            · rw [unhide HCS, unhide HAL, if_pos rfl]; exact unhide HRO4
      · have hlt : decide ((k : Int) < (N : Int)) = false := by simp; omega
        go_wp2
        go_ret2
        refine ⟨unhide HBW, ?_⟩
        rw [if_neg h4]
        have hkN : k = N := by omega
        subst hkN
        exact ⟨_, rfl, (unhide HRO).rows (by unfold maxLen; omega) (unhide HOW) (by unfold maxLen; omega)⟩
end Go.Proofs.YtfkeddkfegaeiaaGreatDoor
