/-
  Part 44.
-/
import Derived.Test.YtfkeddkfegaeiaaGreatDoorRcPlCg
import Derived.Test.YtfkeddkfegaeiaaGreatDoorRcRdgA
namespace Go.Proofs.YtfkeddkfegaeiaaGreatDoor
open Go.RowKit
def fnsX (T : List Tb) (x : SelX) : List (List (List Int) → List Int) := x.items.map fun e => foV T e (foldS T x.srcs).ss
def tnsX (T : List Tb) (x : SelX) : List (List Int → Bool) := x.tests.map fun u => tsHolds (colAt T (foldS T x.srcs).ss) u
/-- a select without windows, whose names are found. -/
structure SelFine (T : List Tb) (x : SelX) : Prop where
  win : ∀ i ∈ x.items, i.win = none
  i0 : 0 < x.items.length
  i6 : x.items.length ≤ 6
  s0 : 0 < x.srcs.length
  s3 : x.srcs.length ≤ 3
  t9 : x.tests.length ≤ 1000
  er : x.tests.foldl (fun a u => orE a (tsErr T (foldS T x.srcs).ss u)) (x.items.foldl (fun a e => orE a (eoV T e (foldS T x.srcs).ss)) (foldS T x.srcs).er) = none
/-- a select as it was read, made ready for the finder. -/
theorem sel_open {w0 : World} {lo : Nat} {v : Value} {x : SelX} {T : List Tb} (hsel : SelOk w0 lo v x) (hf : SelFine T x) : ∃ b vi vs vt es us, v = .pointer (some ⟨b, 0, none⟩) ∧ w0.heap[b]? = some (.cells #[.int .i64 x.place, vi, vs, vt] 256 (0, 0)) ∧ w0.ownsRow lo 260 5 vs x.srcs.length (srCells x.srcs) ∧
    w0.ownsRow lo 251 5 vi es.length (itCells es) ∧ es.length = x.items.length ∧ (∀ (c : Fc), c.w0 = w0 → c.T = T → ∀ e ∈ es, ItemSpec c e.1.place e.2.1 (.pointer e.2.2) e.1.asP e.1.asT (eoV T e.1) (foV T e.1)) ∧ (∀ e ∈ es, IsI e.2.1) ∧
    w0.ownsRow lo 263 4 vt us.length (tsCells us) ∧ us.length = x.tests.length ∧ (∀ u ∈ us, ∃ n, ExP w0 (fun _ => True) n u.2.1 u.1.l ∧ ExP w0 (fun _ => True) n u.2.2 u.1.r) ∧
    (es.map fun e => foV T e.1 (foldS T x.srcs).ss) = fnsX T x ∧ (us.map fun u => tsHolds (colAt T (foldS T x.srcs).ss) u.1) = tnsX T x ∧ errT T (foldS T x.srcs) (errI (eoV T) (foldS T x.srcs) es) us = none ∧ es.map (·.1) = x.items := by
  obtain ⟨b, vi, vs, vt, es, us, rfl, -, hb, ⟨hi, hie, hiv⟩, hs, ⟨ht, hte, hto⟩⟩ := hsel
  have hno : ∀ e ∈ es, e.1.win = none := fun e he => hf.win _ (by rw [← hie]; exact List.mem_map_of_mem he)
  have hval : ∀ e ∈ es, e.2.2 = none ∧ ExOk w0 lo e.2.1 e.1.val := fun e he => by
    have h1 := hiv e he
    rw [hno e he] at h1
    obtain ⟨h2, h3⟩ := h1
    injection h2 with h2
    exact ⟨h2, h3⟩
  refine ⟨b, vi, vs, vt, es, us, rfl, hb, hs, hi, by rw [← hie, List.length_map], fun c hc hcT e he => ?_, fun e he => ?_, ht, by rw [← hte, List.length_map], fun u hu => ?_, ?_, ?_, ?_, hie⟩
  · obtain ⟨h1, n, h2⟩ := hval e he
    rw [h1]
    have h3 : ExP w0 (fun _ => True) n e.2.1 e.1.val := ExP.keep (fun _ _ => trivial) (fun _ _ _ _ _ _ => rfl) n _ _ h2
    have h4 := item_val c n e.1.place e.2.1 e.1.asP e.1.asT e.1.val (by rw [hc]; exact h3)
    unfold eoV foV
    rw [hcT] at h4
    exact h4
  · obtain ⟨h1, n, h2⟩ := hval e he
    obtain ⟨u, x, h3⟩ := ExP.isI _ _ _ h2
    exact Or.inr ⟨u, x, h3⟩
  · obtain ⟨⟨n1, h1⟩, n2, h2⟩ := hto u hu
    exact ⟨max n1 n2, ExP.up n1 _ _ _ (by omega) (ExP.keep (fun _ _ => trivial) (fun _ _ _ _ _ _ => rfl) _ _ _ h1), ExP.up n2 _ _ _ (by omega) (ExP.keep (fun _ _ => trivial) (fun _ _ _ _ _ _ => rfl) _ _ _ h2)⟩
  · unfold fnsX; rw [← hie, List.map_map]; rfl
  · unfold tnsX; rw [← hte, List.map_map]; rfl
  · have := hf.er
    rw [← hie, ← hte, List.foldl_map, List.foldl_map] at this
    exact this
theorem half_sel (a : Nat → Addr) (w0 : World) (hE : EnvX a w0.heap.size w0) (F : Fx) (W : World) (X : Nat → Bool) (hold : Below w0.heap.size w0 W) (hF : ∀ b o, F b = some o → w0.heap.size ≤ b ∧ W.heap[b]? = some o) (hX : ∀ b, X b = true → ∃ o, F b = some o)
    (tb tof tc : Nat) (T : List Tb) (hT : ∀ W', Fits w0 F W' → TabsAt W' (.slice (some ⟨tb, tof, none⟩) T.length tc) T) (hc6 : ∀ t ∈ T, t.cols.length ≤ 6) (lo : Nat) (v : Value) (x : SelX) (hsel : SelOk w0 lo v x) (hf : SelFine T x) (pb : Nat) :
    Calls Tryz.prog 194 #[v, .slice (some ⟨tb, tof, none⟩) T.length tc, .int .i64 (x.items.length : Nat), .agg #[.int .i64 (pb : Nat)]] W fun e W' => Below w0.heap.size w0 W' ∧ e = .returned (.tuple #[.pointer (some ⟨W.heap.size + 1, 2, none⟩), .nilIface]) ∧ ∃ F', F.le F' ∧ (∀ b o, F' b = some o → w0.heap.size ≤ b ∧ W'.heap[b]? = some o) ∧ SelM w0 (F'.off X) ⟨w0, a, W.heap.size + 1, tb, tof, tc, T, X, true⟩ (foldS T x.srcs).ss (foldS T x.srcs).wd (fnsX T x) (tnsX T x) := by
  obtain ⟨b, vi, vs, vt, es, us, rfl, hb, hs, hi, hil, hsp, hone, ht, htl, hex, e1, e2, e3, -⟩ := sel_open hsel hf
  have h1 := hf.i0
  have h2 := hf.i6
  have h3 := hf.t9
  have h := half_any a w0 F W X (hE.keep hold) hold hF hX tb tof tc T hT hc6 lo b x.items.length pb _ vi vs vt x.srcs hb hs hf.s0 hf.s3 es hi (by omega) (by omega) (eoV T) (foV T) (fun c hc hcT _ => hsp c hc hcT) hone us ht (by omega) hex
  rw [e1, e2, e3] at h
  refine h.mono ?_
  rintro e W' ⟨q1, -, q3, -, -⟩
  obtain ⟨F', r1, r2, r3, r4⟩ := q3 rfl hil
  exact ⟨q1, r3, F', r1, r2, r4⟩
/-- the cells of tables. -/
theorem tabs_cells {w : World} {b o c : Nat} {T : List Tb} (h : TabsAt w (.slice (some ⟨b, o, none⟩) T.length c) T) (h0 : 0 < T.length) : b < w.heap.size ∧ ∃ cs : List Value, cs.length = T.length * 3 ∧ (∀ j u, cs[j]? = some u → w.cell? ⟨b, o + j, none⟩ = some u) ∧ (∀ u ∈ cs, u.oneCell' = true ∧ ∀ z, u ≠ .int .i64 z) ∧
    ∀ (j : Nat) t, T[j]? = some t → ∃ cv rv, TbV w [.string t.name, cv, rv] t ∧ cs[j * 3]? = some (.string t.name) ∧ cs[j * 3 + 1]? = some cv ∧ cs[j * 3 + 2]? = some rv := by
  obtain ⟨ad, cap, e0, _, _, h3⟩ := h
  injection e0 with e1 e2 e3
  obtain ⟨b', o', e4, hb, h6⟩ := h3 h0
  rw [e4] at e1
  injection e1 with e1
  injection e1 with e1 e5
  subst e1 e5
  refine ⟨hb, ?_⟩
  have key : ∀ k, k ≤ T.length → ∃ cs : List Value, cs.length = k * 3 ∧ (∀ j u, cs[j]? = some u → w.cell? ⟨b, o + j, none⟩ = some u) ∧ (∀ u ∈ cs, u.oneCell' = true ∧ ∀ z, u ≠ .int .i64 z) ∧
      ∀ (j : Nat) t, j < k → T[j]? = some t → ∃ cv rv, TbV w [.string t.name, cv, rv] t ∧ cs[j * 3]? = some (.string t.name) ∧ cs[j * 3 + 1]? = some cv ∧ cs[j * 3 + 2]? = some rv := by
    intro k
    induction k with
    | zero => exact fun _ => ⟨[], rfl, fun j u e => by simp at e, fun u hu => by simp at hu, fun j t hj => by omega⟩
    | succ k ih =>
      intro hk
      obtain ⟨cs, q1, q2, q3, q4⟩ := ih (by omega)
      obtain ⟨cv, rv, htv, k1, k2, k3⟩ := h6 k _ (List.getElem?_eq_getElem (show k < T.length by omega))
      obtain ⟨cv', rv', e7, ⟨ac, cc, hcv, _⟩, _, ⟨vs, ⟨ar, cr, hrv, _⟩, _⟩⟩ := id htv
      simp only [List.cons.injEq, and_true, true_and] at e7
      obtain ⟨rfl, rfl⟩ := e7
      refine ⟨cs ++ [.string T[k].name, cv, rv], by rw [List.length_append, q1]; simp; omega, fun j u e => ?_, fun u hu => ?_, fun j t hj e => ?_⟩
      · by_cases hj : j < k * 3
        · rw [List.getElem?_append_left (by omega)] at e
          exact q2 j u e
        · rw [List.getElem?_append_right (by omega), q1] at e
          have hj2 := (List.getElem?_eq_some_iff.1 e).1
          simp only [List.length_cons, List.length_nil] at hj2
          have : j - k * 3 = 0 ∨ j - k * 3 = 1 ∨ j - k * 3 = 2 := by omega
          rcases this with hh | hh | hh <;> rw [hh] at e <;> simp at e <;> subst e
          · rw [show o + j = o + k * 3 by omega]; exact k1
          · rw [show o + j = o + k * 3 + 1 by omega]; exact k2
          · rw [show o + j = o + k * 3 + 2 by omega]; exact k3
      · rw [List.mem_append] at hu
        rcases hu with hu | hu
        · exact q3 u hu
        · simp only [List.mem_cons, List.not_mem_nil, or_false] at hu
          rcases hu with rfl | rfl | rfl
          · exact ⟨rfl, fun z e => by cases e⟩
          · rw [hcv]; exact ⟨rfl, fun z e => by cases e⟩
          · rw [hrv]; exact ⟨rfl, fun z e => by cases e⟩
      · by_cases hjk : j < k
        · obtain ⟨c1, r1, s1, s2, s3, s4⟩ := q4 j t hjk e
          exact ⟨c1, r1, s1, by rw [List.getElem?_append_left (by omega)]; exact s2, by rw [List.getElem?_append_left (by omega)]; exact s3, by rw [List.getElem?_append_left (by omega)]; exact s4⟩
        · obtain rfl : j = k := by omega
          rw [List.getElem?_eq_getElem (show j < T.length by omega)] at e
          injection e with e
          subst e
          refine ⟨cv, rv, htv, ?_, ?_, ?_⟩
          · rw [List.getElem?_append_right (by omega), q1, Nat.sub_self]; rfl
          · rw [List.getElem?_append_right (by omega), q1, show j * 3 + 1 - j * 3 = 1 by omega]; rfl
          · rw [List.getElem?_append_right (by omega), q1, show j * 3 + 2 - j * 3 = 2 by omega]; rfl
  obtain ⟨cs, q1, q2, q3, q4⟩ := key T.length (Nat.le_refl _)
  exact ⟨cs, q1, q2, q3, fun j t e => q4 j t (List.getElem?_eq_some_iff.1 e).1 e⟩
/-- the tables and a new one behind them. -/
theorem grow_of_row {w0 W : World} {tb tc : Nat} {T0 : List Tb} {nm : ByteArray} {cols : List ByteArray} {cs : List Value} {cv : Value} (hr : TbRow W w0.heap.size tb (T0.length + 1) tc (cs ++ [.string nm, cv, .slice none 0 0])) (hl : cs.length = T0.length * 3)
    (ho : ∀ (j : Nat) t, T0[j]? = some t → ∃ cv rv, TbV w0 [.string t.name, cv, rv] t ∧ cs[j * 3]? = some (.string t.name) ∧ cs[j * 3 + 1]? = some cv ∧ cs[j * 3 + 2]? = some rv) (hc : W.ownsRow w0.heap.size 9 1 cv cols.length (textsV cols)) (hco : cv.ownBlock ≠ some tb) (hf : T0.length < 1000) : ∃ cur, GrowAt w0 W tb tc T0 ⟨nm, cols, []⟩ cur cv (.slice none 0 0) := by
  obtain ⟨cur, h1, h2, h3, h4⟩ := hr.lies
  have hfit := hr.fits
  have hat : ∀ i, i < (T0.length + 1) * 3 → cur[i]? = (cs ++ [.string nm, cv, .slice none 0 0])[i]? := fun i hi => by
    rw [← h3, List.getElem?_take_of_lt hi, Array.getElem?_toList]
  refine ⟨cur, hr.low, h1, fun j t0 e => ?_, ?_, ?_, ?_, hc, hco, Or.inl ⟨rfl, rfl⟩, fun i v e z => h4 v (List.mem_of_getElem? (i := i) (by rw [Array.getElem?_toList]; exact e)) z, hfit, hf⟩
  · obtain ⟨c, r, q1, q2, q3, q4⟩ := ho j t0 e
    have hj := (List.getElem?_eq_some_iff.1 e).1
    refine ⟨c, r, q1, ?_, ?_, ?_⟩ <;> rw [hat _ (by omega), List.getElem?_append_left (by omega)] <;> assumption
  · rw [hat _ (by omega), List.getElem?_append_right (by omega), hl, Nat.sub_self]; rfl
  · rw [hat _ (by omega), List.getElem?_append_right (by omega), hl, show T0.length * 3 + 1 - T0.length * 3 = 1 by omega]; rfl
  · rw [hat _ (by omega), List.getElem?_append_right (by omega), hl, show T0.length * 3 + 2 - T0.length * 3 = 2 by omega]; rfl
end Go.Proofs.YtfkeddkfegaeiaaGreatDoor
