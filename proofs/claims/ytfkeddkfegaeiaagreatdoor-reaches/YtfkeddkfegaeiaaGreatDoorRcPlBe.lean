/-
  Part 35.
-/
import Derived.Test.YtfkeddkfegaeiaaGreatDoorRcPlBc
import Derived.Test.YtfkeddkfegaeiaaGreatDoorRcPlC
import Derived.Test.YtfkeddkfegaeiaaGreatDoorRcRkC
namespace Go.Proofs.YtfkeddkfegaeiaaGreatDoor
open Go.RowKit
/-- where sources begin. -/
def Firsts (T : List Tb) : Nat → List Sr → Prop
  | _, [] => True
  | k, s :: r => s.first = k ∧ Firsts T (k + (colsOf T s).length) r
def wdS (T : List Tb) (ss : List Sr) : Nat := (ss.map fun s => (colsOf T s).length).sum
theorem wdS_snoc (T : List Tb) (ss : List Sr) (s : Sr) : wdS T (ss ++ [s]) = wdS T ss + (colsOf T s).length := by simp [wdS]
theorem firsts_snoc (T : List Tb) (s : Sr) : ∀ (l : List Sr) (k : Nat), Firsts T k l → s.first = k + wdS T l → Firsts T k (l ++ [s])
  | [], k, _, h => ⟨by simpa [wdS] using h, trivial⟩
  | x :: l, k, h, e => ⟨h.1, firsts_snoc T s l _ h.2 (by rw [e]; simp [wdS]; omega)⟩
theorem firsts_fold (T : List Tb) : ∀ (l : List (Tk × Tk)) (f : Fs), Firsts T 0 f.ss → f.wd = wdS T f.ss → Firsts T 0 (l.foldl (srcStep T) f).ss ∧ (l.foldl (srcStep T) f).wd = wdS T (l.foldl (srcStep T) f).ss
  | [], _, h, e => ⟨h, e⟩
  | x :: l, f, h, e => by
    rw [List.foldl_cons]
    refine firsts_fold T l _ ?_ ?_
    · unfold srcStep
      cases tabNo T x.1.text with
      | none => exact h
      | some j => exact firsts_snoc T _ _ _ h (by rw [Nat.zero_add]; exact e)
    · unfold srcStep
      cases tabNo T x.1.text with
      | none => exact e
      | some j => simp only; rw [wdS_snoc, e]; rfl
theorem firsts_foldS (T : List Tb) (l : List (Tk × Tk)) : Firsts T 0 (foldS T l).ss ∧ (foldS T l).wd = wdS T (foldS T l).ss := firsts_fold T l _ trivial rfl
theorem splice_rep (x : Nat) (v : Value) (r tail : List Value) : splice (List.replicate (x + r.length) v ++ tail) x r = List.replicate x v ++ (r ++ tail) := by
  unfold splice
  rw [List.drop_left' (by simp), List.take_append_of_le_length (by simp), List.take_replicate, Nat.min_eq_left (by omega)]
theorem row_len {L : List (List Int)} {w n : Nat} (h : ∀ r ∈ L, r.length = w) (hp : 0 < L.length) : (intsV (L.getD (n % L.length) [])).length = w := by
  have hq := Nat.mod_lt n hp
  rw [List.length_map, List.getD_eq_getElem?_getD, List.getElem?_eq_getElem hq]
  exact h _ (List.getElem_mem hq)
theorem tog_eq (T : List Tb) (n : Nat) : ∀ (ss : List Sr), ss.length ≤ 3 → Firsts T 0 ss → (∀ s ∈ ss, ∀ r ∈ (T.getD s.tab tb0).rows, r.length = (colsOf T s).length) → (∀ s ∈ ss, 0 < (T.getD s.tab tb0).rows.length) →
    (tgs (fun j : Fin ss.length => (T.getD (ss[j]).tab tb0).rows) (fun j => (ss[j]).first) (n, List.replicate (wdS T ss) (.int .i64 0)) (downs ss.length)).2 = intsV (togR (rowsOf T ss) n)
  | [], _, _, _, _ => rfl
  | [a], _, hf, hr, hp => by
    have h1 := row_len (n := n) (hr a (by simp)) (hp a (by simp))
    show splice (List.replicate (wdS T [a]) (.int .i64 0)) a.first (intsV ((T.getD a.tab tb0).rows.getD (n % (T.getD a.tab tb0).rows.length) [])) = intsV ((T.getD a.tab tb0).rows.getD (n / madeN [] % (T.getD a.tab tb0).rows.length) [] ++ [])
    have e := splice_rep 0 (.int .i64 0) (intsV ((T.getD a.tab tb0).rows.getD (n % (T.getD a.tab tb0).rows.length) [])) []
    rw [h1, List.append_nil] at e
    rw [hf.1, show wdS T [a] = 0 + (colsOf T a).length by simp [wdS], e]
    rw [show madeN [] = 1 from rfl, Nat.div_one]
    simp
  | [a, b], _, hf, hr, hp => by
    have h1 := row_len (n := n) (hr b (by simp)) (hp b (by simp))
    have h2 := row_len (n := n / (T.getD b.tab tb0).rows.length) (hr a (by simp)) (hp a (by simp))
    show splice (splice (List.replicate (wdS T [a, b]) (.int .i64 0)) b.first (intsV ((T.getD b.tab tb0).rows.getD (n % (T.getD b.tab tb0).rows.length) []))) a.first (intsV ((T.getD a.tab tb0).rows.getD (n / (T.getD b.tab tb0).rows.length % (T.getD a.tab tb0).rows.length) [])) = intsV ((T.getD a.tab tb0).rows.getD (n / madeN [(T.getD b.tab tb0).rows] % (T.getD a.tab tb0).rows.length) [] ++ ((T.getD b.tab tb0).rows.getD (n / madeN [] % (T.getD b.tab tb0).rows.length) [] ++ []))
    have e1 := splice_rep (0 + (colsOf T a).length) (.int .i64 0) (intsV ((T.getD b.tab tb0).rows.getD (n % (T.getD b.tab tb0).rows.length) [])) []
    rw [h1, List.append_nil] at e1
    have e2 := splice_rep 0 (.int .i64 0) (intsV ((T.getD a.tab tb0).rows.getD (n / (T.getD b.tab tb0).rows.length % (T.getD a.tab tb0).rows.length) [])) (intsV ((T.getD b.tab tb0).rows.getD (n % (T.getD b.tab tb0).rows.length) []) ++ [])
    rw [h2] at e2
    rw [hf.1, hf.2.1, show wdS T [a, b] = 0 + (colsOf T a).length + (colsOf T b).length by simp [wdS], e1, e2]
    rw [show madeN [] = 1 from rfl, Nat.div_one, show madeN [(T.getD b.tab tb0).rows] = (T.getD b.tab tb0).rows.length from Nat.one_mul _]
    simp
  | [a, b, c], _, hf, hr, hp => by
    have h1 := row_len (n := n) (hr c (by simp)) (hp c (by simp))
    have h2 := row_len (n := n / (T.getD c.tab tb0).rows.length) (hr b (by simp)) (hp b (by simp))
    have h3 := row_len (n := n / (T.getD c.tab tb0).rows.length / (T.getD b.tab tb0).rows.length) (hr a (by simp)) (hp a (by simp))
    show splice (splice (splice (List.replicate (wdS T [a, b, c]) (.int .i64 0)) c.first (intsV ((T.getD c.tab tb0).rows.getD (n % (T.getD c.tab tb0).rows.length) []))) b.first (intsV ((T.getD b.tab tb0).rows.getD (n / (T.getD c.tab tb0).rows.length % (T.getD b.tab tb0).rows.length) []))) a.first (intsV ((T.getD a.tab tb0).rows.getD (n / (T.getD c.tab tb0).rows.length / (T.getD b.tab tb0).rows.length % (T.getD a.tab tb0).rows.length) [])) = intsV ((T.getD a.tab tb0).rows.getD (n / madeN [(T.getD b.tab tb0).rows, (T.getD c.tab tb0).rows] % (T.getD a.tab tb0).rows.length) [] ++ ((T.getD b.tab tb0).rows.getD (n / madeN [(T.getD c.tab tb0).rows] % (T.getD b.tab tb0).rows.length) [] ++ ((T.getD c.tab tb0).rows.getD (n / madeN [] % (T.getD c.tab tb0).rows.length) [] ++ [])))
    have e1 := splice_rep (0 + (colsOf T a).length + (colsOf T b).length) (.int .i64 0) (intsV ((T.getD c.tab tb0).rows.getD (n % (T.getD c.tab tb0).rows.length) [])) []
    rw [h1, List.append_nil] at e1
    have e2 := splice_rep (0 + (colsOf T a).length) (.int .i64 0) (intsV ((T.getD b.tab tb0).rows.getD (n / (T.getD c.tab tb0).rows.length % (T.getD b.tab tb0).rows.length) [])) (intsV ((T.getD c.tab tb0).rows.getD (n % (T.getD c.tab tb0).rows.length) []) ++ [])
    rw [h2] at e2
    have e3 := splice_rep 0 (.int .i64 0) (intsV ((T.getD a.tab tb0).rows.getD (n / (T.getD c.tab tb0).rows.length / (T.getD b.tab tb0).rows.length % (T.getD a.tab tb0).rows.length) [])) (intsV ((T.getD b.tab tb0).rows.getD (n / (T.getD c.tab tb0).rows.length % (T.getD b.tab tb0).rows.length) []) ++ (intsV ((T.getD c.tab tb0).rows.getD (n % (T.getD c.tab tb0).rows.length) []) ++ []))
    rw [h3] at e3
    rw [hf.1, hf.2.1, hf.2.2.1, show wdS T [a, b, c] = 0 + (colsOf T a).length + (colsOf T b).length + (colsOf T c).length by simp [wdS]; omega, e1, e2, e3]
    rw [show madeN [] = 1 from rfl, Nat.div_one, show madeN [(T.getD c.tab tb0).rows] = (T.getD c.tab tb0).rows.length from Nat.one_mul _, show madeN [(T.getD b.tab tb0).rows, (T.getD c.tab tb0).rows] = (T.getD c.tab tb0).rows.length * (T.getD b.tab tb0).rows.length from by simp [madeN, Nat.mul_comm], ← Nat.div_div_eq_div_mul]
    simp
  | _ :: _ :: _ :: _ :: _, h, _, _, _ => by simp at h
end Go.Proofs.YtfkeddkfegaeiaaGreatDoor
namespace Go.Proofs.YtfkeddkfegaeiaaGreatDoor
open Go.RowKit
theorem firsts_le (T : List Tb) : ∀ (ss : List Sr) (k : Nat), Firsts T k ss → ∀ s ∈ ss, s.first + (colsOf T s).length ≤ k + wdS T ss
  | [], _, _, s, hs => by cases hs
  | x :: l, k, h, s, hs => by
    have e : wdS T (x :: l) = (colsOf T x).length + wdS T l := by simp [wdS]
    rcases List.mem_cons.1 hs with rfl | hs
    · rw [h.1, e]; omega
    · have := firsts_le T l _ h.2 s hs
      rw [e]; omega
/-- the tables that a select is worked out over. -/
structure TabsOk (c : Fc) (T : List Tb) (ss : List Sr) (wd : Nat) : Prop where
  len : T.length = c.T.length
  few : ∀ t ∈ T, t.rows.length ≤ 200
  shape : ∀ t ∈ T, ∀ r ∈ t.rows, r.length = t.cols.length
  firsts : Firsts T 0 ss
  wide : wd = wdS T ss
theorem getD_mem {T : List Tb} {j : Nat} (h : j < T.length) : T.getD j tb0 ∈ T := by
  rw [List.getD_eq_getElem?_getD, List.getElem?_eq_getElem h]
  exact List.getElem_mem h
theorem tog_sel (w0 : World) (G : Fx) (c : Fc) (ss : List Sr) (wd : Nat) (fns : List (List (List Int) → List Int)) (tns : List (List Int → Bool)) (h : SelM w0 G c ss wd fns tns) (hs0 : 0 < ss.length) (w : World) (hw : Fits w0 G w) (T : List Tb) (tc : Nat) (hT : TabsAt w (.slice (some ⟨c.tb, c.tof, none⟩) T.length tc) T) (ho : TabsOk c T ss wd) (hpos : ∀ s ∈ ss, 0 < (T.getD s.tab tb0).rows.length) (n : Nat) (hn : n ≤ 8000000) :
    Calls Tryz.prog 254 #[.pointer (some ⟨c.fb, 2, none⟩), .int .i64 (n : Nat)] w fun e w' => e = .returned (.slice (some ⟨w.heap.size + 1, 0, none⟩) wd wd) ∧ Below w.heap.size w w' ∧ w'.heap[w.heap.size + 1]? = some (.cells (intsV (togR (rowsOf T ss) n)).toArray 3 (0, 0)) := by
  obtain ⟨sv, iv, tv, ev, ivs, tvs, hbx, hsr, -, -⟩ := h.lies
  have hb := hw.new _ _ hbx
  have zb := lt_of_heap hb
  obtain ⟨kb, -⟩ := blk hb
  have htab : ∀ s ∈ ss, s.tab < T.length := fun s hs => by rw [ho.len]; exact h.ok s hs
  have split : ∀ j : Fin ss.length, ss = ss.take j.1 ++ ss[j] :: ss.drop (j.1 + 1) := fun j => by
    have := List.take_append_drop j.1 ss
    rw [List.drop_eq_getElem_cons j.2] at this
    exact this.symm
  have tl : ∀ j : Fin ss.length, (ss.take j.1).length = j.1 := fun j => by rw [List.length_take]; have := j.2; omega
  obtain ⟨gs, cap, rfl, zg, -, -, -⟩ := hsr.cell3 hw (split ⟨0, hs0⟩)
  have k2 : w.cell? ⟨c.fb, 2, none⟩ = some (.slice (some ⟨gs, 0, none⟩) ss.length cap) := kb 2
  have k3 : w.cell? ⟨c.fb, 3, none⟩ = some (.int .i64 (wd : Nat)) := kb 3
  refine (stogether_any w c.fb gs cap wd n ss.length h.few h.wide.1 hn (fun j => (ss[j]).alias) (fun _ => c.tb) (fun j => c.tof + (ss[j]).tab * 3) (fun j => (T.getD (ss[j]).tab tb0).rows) (fun j => (ss[j]).first) k2 k3 zb zg ?_ ?_ ?_).mono ?_
  · intro j
    obtain ⟨gs', cap', e, -, c1, c2, c3⟩ := hsr.cell3 hw (split j)
    injection e with e1 _ _
    injection e1 with e1
    injection e1 with e1
    subst e1
    rw [tl j] at c1 c2 c3
    exact ⟨c1, c2, c3⟩
  · intro j
    have hm := List.getElem_mem j.2
    obtain ⟨z, cv, rv, -, -, t3, -, hr⟩ := hT.tab (htab _ hm)
    exact ⟨z, hpos _ hm, ho.few _ (getD_mem (htab _ hm)), rv, t3, hr⟩
  · intro j r hr
    have hm := List.getElem_mem j.2
    have h1 : (ss[j]).first + (colsOf T (ss[j])).length ≤ 0 + wdS T ss := firsts_le T ss 0 ho.firsts _ hm
    have h2 : r.length = (colsOf T (ss[j])).length := ho.shape _ (getD_mem (htab _ hm)) r hr
    rw [ho.wide, h2]
    omega
  · rintro e w' ⟨h1, h2, h3⟩
    refine ⟨h1, h2, ?_⟩
    rw [h3, ho.wide, tog_eq T n ss h.few ho.firsts (fun s hs => ho.shape _ (getD_mem (htab s hs))) hpos]
end Go.Proofs.YtfkeddkfegaeiaaGreatDoor
namespace Go.Proofs.YtfkeddkfegaeiaaGreatDoor
open Go.RowKit
/-- the document's number of an error, as the program numbers its variables. -/
def errG : Nat → Nat
  | 0 => 0
  | 1 => 1
  | 2 => 2
  | 3 => 3
  | 4 => 5
  | 5 => 6
  | 6 => 7
  | 7 => 8
  | 8 => 4
  | _ => 9
structure Sents (a : Nat → Addr) (w : World) : Prop where
  cell : ∀ j, j < 10 → w.cell? ⟨errG j, 0, none⟩ = some (.iface 496 (.pointer (some (a j))))
  row : ∀ j, j < 10 → ∃ c t, w.heap[(a j).block]? = some (.cells c t (0, 0))
  ne : ∀ i j, i < 10 → j < 10 → i ≠ j → a i ≠ a j
theorem errG_tw : ∀ j, j < 10 → tw (errG j) = true := by decide
theorem errG_ne : ∀ i, i < 10 → ∀ j, j < 10 → i ≠ j → errG i ≠ errG j := by decide
theorem EnvX.sents {a : Nat → Addr} {B : Nat} {w : World} (h : EnvX a B w) : Sents (fun j => a (errG j)) w :=
  ⟨fun j hj => h.cell _ (errG_tw j hj), fun j hj => h.row _ (errG_tw j hj), fun i j hi hj e => h.ne _ _ (errG_tw i hi) (errG_tw j hj) (errG_ne i hi j hj e)⟩
theorem Sents.keep {a : Nat → Addr} {w w' : World} (h : Sents a w) (hb : Below w.heap.size w w') : Sents a w' := by
  refine ⟨fun j hj => ?_, fun j hj => ?_, h.ne⟩
  · have hc := h.cell j hj
    have hlt : errG j < w.heap.size := World.block_lt_of_cell? w _ hc
    rw [hb.cell (p := ⟨errG j, 0, none⟩) hlt]; exact hc
  · obtain ⟨c, t, hr⟩ := h.row j hj
    exact ⟨c, t, by rw [hb.block _ (lt_of_heap hr)]; exact hr⟩
/-- the program's error of the document's number. -/
def errOf (a : Nat → Addr) (n : Int) : Value := if n = 0 then .nilIface else .iface 496 (.pointer (some (a (n - 1).toNat)))
set_option maxRecDepth 100000 in
set_option maxHeartbeats 4000000 in
theorem checkOne_any (a : Nat → Addr) (t : Tb) (cv rv lv : Value) (ahead : List Tb) (w : World) (hS : Sents a w) (hc : RowAt w cv (textsV t.cols)) (hcap : t.cols.length ≤ scap cv) (hr : RowsAt w rv t.rows) (hl : TabsAt w lv ahead) :
    Calls Tryz.prog 91 #[.agg #[.string t.name, cv, rv], lv] w fun e w' => e = .returned (errOf a (p6 t ahead)) ∧ Below w.heap.size w w' := by
  have HS := hide hS
  have HC := hide hc
  have HR := hide hr
  have HL := hide hl
  have HCAP := hide hcap
  obtain ⟨adc, capc, rfl, mc, _⟩ := hc
  obtain ⟨vs, ⟨adr, capr, rfl, mr, _⟩, lr, _⟩ := hr
  rw [List.length_map] at mc
  simp only [List.length_map] at *
  rw [lr] at mr
  rw [lr] at HR
  rw [lr]
  unfold maxLen at mc mr
  clear hS hl hcap
  have g3 : w.cell? ⟨3, 0, none⟩ = some (.iface 496 (.pointer (some (a 3)))) := (unhide HS).cell 3 (by decide)
  have g6 : w.cell? ⟨7, 0, none⟩ = some (.iface 496 (.pointer (some (a 6)))) := (unhide HS).cell 6 (by decide)
  have g8 : w.cell? ⟨4, 0, none⟩ = some (.iface 496 (.pointer (some (a 8)))) := (unhide HS).cell 8 (by decide)
  have g9 : w.cell? ⟨9, 0, none⟩ = some (.iface 496 (.pointer (some (a 9)))) := (unhide HS).cell 9 (by decide)
  have z3 : 3 < w.heap.size := World.block_lt_of_cell? w _ g3
  have z6 : 7 < w.heap.size := World.block_lt_of_cell? w _ g6
  have z8 : 4 < w.heap.size := World.block_lt_of_cell? w _ g8
  have z9 : 9 < w.heap.size := World.block_lt_of_cell? w _ g9
  have HB0 : Hid (Below w.heap.size w (w.alloc (.cells #[.string t.name, .slice adc t.cols.length capc, .slice adr t.rows.length capr] 44))) := (Below.refl _ _).alloc (Nat.le_refl _) _
  go_enter Tryz.func91, Tryz.ntmps91
  go_wp2_with fail
  refine (isName_any t.name _).mono ?_
  rintro e w1 ⟨rfl, hw1⟩
  subst hw1
  cases hn : nameB t.name.data.toList with
  | false =>
    have HN := hide hn
    clear hn
    go_wp2
    go_ret
    refine ⟨?_, unhide HB0⟩
    have e : p6 t ahead = 4 := by unfold p6; rw [unhide HN]; rfl
    rw [e]
    rfl
  | true =>
    have HN := hide hn
    clear hn
    go_wp2_with fail
    refine (hasNoName_any _ t.cols _ (by exact (unhide HC).keep (unhide HB0))).mono ?_
    rintro e w1 ⟨rfl, hw1⟩
    subst hw1
    cases hna : t.cols.any (fun c => !nameB c.data.toList) with
    | true =>
      have HNA := hide hna
      clear hna
      go_wp2
      go_ret
      refine ⟨?_, unhide HB0⟩
      have e : p6 t ahead = 4 := by unfold p6; rw [unhide HN, unhide HNA]; rfl
      rw [e]
      rfl
    | false =>
      have HNA := hide hna
      clear hna
      by_cases hbad : t.cols.length < 1 ∨ 6 < t.cols.length ∨ 200 < t.rows.length
      · have HE : Hid (p6 t ahead = 9) := by
          unfold Hid p6
          rw [unhide HN, unhide HNA, if_neg (by simp), if_pos]
          simp only [Bool.or_eq_true, decide_eq_true_eq]
          omega
        by_cases d1 : t.cols.length < 1
        · have hd1 : ((t.cols.length : Int) == 0) = true := by rw [beq_iff_eq]; omega
          go_wp2
          go_ret
          exact ⟨by rw [unhide HE]; rfl, unhide HB0⟩
        · have hd1 : ((t.cols.length : Int) == 0) = false := by rw [beq_eq_false_iff_ne]; omega
          by_cases d2 : 6 < t.cols.length
          · have hd2 : decide ((6 : Int) < (t.cols.length : Int)) = true := by simp; omega
            go_wp2
            go_ret
            exact ⟨by rw [unhide HE]; rfl, unhide HB0⟩
          · have hd2 : decide ((6 : Int) < (t.cols.length : Int)) = false := by simp; omega
            have hd3 : decide ((200 : Int) < (t.rows.length : Int)) = true := by simp; omega
            go_wp2
            go_ret
            exact ⟨by rw [unhide HE]; rfl, unhide HB0⟩
      · have hd1 : ((t.cols.length : Int) == 0) = false := by rw [beq_eq_false_iff_ne]; omega
        have hd2 : decide ((6 : Int) < (t.cols.length : Int)) = false := by simp; omega
        have hd3 : decide ((200 : Int) < (t.rows.length : Int)) = false := by simp; omega
        have HE : Hid (p6 t ahead = if ahead.any (fun u => u.name.toList == t.name.toList) || dupF [] t.cols then 7 else if t.rows.any (fun r => decide (r.length ≠ t.cols.length)) then 10 else 0) := by
          unfold Hid p6
          rw [unhide HN, unhide HNA, if_neg (by simp), if_neg]
          simp only [Bool.or_eq_true, decide_eq_true_eq]
          omega
        go_wp2_with fail
        refine (hasTable_any lv ahead t.name _ (by exact (unhide HL).keep (unhide HB0))).mono ?_
        rintro e w1 ⟨rfl, hb1⟩
        have HB1 : Hid (Below w.heap.size w w1) := (unhide HB0).trans (hb1.mono (by simp))
        have HX1 : Hid (w1.heap[w.heap.size]? = some (.cells #[.string t.name, .slice adc t.cols.length capc, .slice adr t.rows.length capr] 44 (0, 0))) := by
          unfold Hid
          rw [hb1.block _ (by simp)]
          exact heap_last rfl
        have kx1 := (blk (unhide HX1)).1
        have zx1 := lt_of_heap (unhide HX1)
        rw [← (unhide HB1).cell (p := ⟨7, 0, none⟩) z6] at g6
        rw [← (unhide HB1).cell (p := ⟨9, 0, none⟩) z9] at g9
        clear hb1 g3 g8 hd1 hd2 hd3
        cases hht : ahead.any (fun u => u.name.toList == t.name.toList) with
        | true =>
          have HHT := hide hht
          clear hht
          go_wp2
          go_ret
          refine ⟨?_, unhide HB1⟩
          have e : p6 t ahead = 7 := by rw [unhide HE, unhide HHT]; rfl
          rw [e]
          rfl
        | false =>
          have HHT := hide hht
          clear hht
          go_wp2_with fail
          refine (hasTwice_any _ t.cols _ (by exact (unhide HC).keep (unhide HB1)) (unhide HCAP)).mono ?_
          rintro e w2 ⟨rfl, hw2⟩
          obtain rfl := hw2.symm
          cases hdp : dupF [] t.cols with
          | true =>
            have HDP := hide hdp
            clear hdp
            go_wp2
            go_ret
            refine ⟨?_, unhide HB1⟩
            have e : p6 t ahead = 7 := by rw [unhide HE, unhide HHT, unhide HDP]; rfl
            rw [e]
            rfl
          | false =>
            have HDP := hide hdp
            clear hdp
            go_wp2_with fail
            refine (hasWide_any _ t.rows t.name adc t.cols.length capc _ w.heap.size _ (by exact (unhide HR).keep (unhide HB1)) (by exact unhide HX1)).mono ?_
            rintro e w2 ⟨rfl, hb2⟩
            have HB2 : Hid (Below w.heap.size w w2) := (unhide HB1).trans (hb2.mono (unhide HB1).size)
            rw [← hb2.cell (p := ⟨9, 0, none⟩) (Nat.lt_of_lt_of_le z9 (unhide HB1).size)] at g9
            clear hb2 kx1 zx1 g6 HX1
            cases hwd : t.rows.any (fun r => decide (r.length ≠ t.cols.length)) with
            | true =>
              have HWD := hide hwd
              clear hwd
              go_wp2
              go_ret
              refine ⟨?_, unhide HB2⟩
              have e : p6 t ahead = 10 := by rw [unhide HE, unhide HHT, unhide HDP, unhide HWD]; rfl
              rw [e]
              rfl
            | false =>
              have HWD := hide hwd
              clear hwd
              go_wp2
              go_ret
              refine ⟨?_, unhide HB2⟩
              have e : p6 t ahead = 0 := by rw [unhide HE, unhide HHT, unhide HDP, unhide HWD]; rfl
              rw [e]
              rfl
end Go.Proofs.YtfkeddkfegaeiaaGreatDoor
namespace Go.Proofs.YtfkeddkfegaeiaaGreatDoor
open Go.RowKit
set_option maxRecDepth 100000 in
set_option maxHeartbeats 4000000 in
theorem check_any (a : Nat → Addr) (lv : Value) (l : List Tb) (w : World) (hS : Sents a w) (hl : TabsAt w lv l) :
    Calls Tryz.prog 58 #[lv] w fun e w' => e = .returned (errOf a (p6all l)) ∧ Below w.heap.size w w' := by
  have HS := hide hS
  have HL := hide hl
  have g8 : w.cell? ⟨4, 0, none⟩ = some (.iface 496 (.pointer (some (a 8)))) := hS.cell 8 (by decide)
  have z8 : 4 < w.heap.size := World.block_lt_of_cell? w _ g8
  clear hS
  obtain ⟨adl, capl, rfl, ml, mcap, cl⟩ := hl
  unfold maxLen at ml
  have HCL := hide cl
  clear cl
  by_cases h4 : 4 < l.length
  · have hd : decide ((4 : Int) < (l.length : Int)) = true := by simp; omega
    have HE : Hid (p6all l = 9) := by unfold Hid p6all; rw [if_pos h4]
    go_enter Tryz.func58, Tryz.ntmps58
    go_wp2
    go_ret
    exact ⟨by rw [unhide HE]; rfl, Below.refl _ _⟩
  · have hd : decide ((4 : Int) < (l.length : Int)) = false := by simp; omega
    have HE : Hid (p6all l = p6from [] l) := by unfold Hid p6all; rw [if_neg h4]
    go_enter Tryz.func58, Tryz.ntmps58
    go_wp2_with fail
    clear hd g8
    go_loopg [12] l.length (fun f j W => ∃ pre suf, l = pre ++ suf ∧ f = suf.length ∧ j = .int .i64 (pre.length : Nat) ∧ p6all l = p6from pre suf ∧ Below w.heap.size w W)
    case atStart => exact ⟨[], l, rfl, rfl, rfl, unhide HE, Below.refl _ _⟩
    case round =>
      clear HE
      obtain ⟨pre, suf, h1, rfl, rfl, hal, hbw⟩ := hrel
      have l1 : pre.length + suf.length = l.length := by rw [h1, List.length_append]
      have HZ := hide h1
      have HAL := hide hal
      have HB := hide hbw
      clear h1 hal hbw
      cases suf with
      | nil =>
        have hlt : decide (pre.length < l.length) = false := by simp at l1 ⊢; omega
        go_wp2
        go_ret
        exact ⟨by rw [unhide HAL]; rfl, unhide HB⟩
      | cons t suf =>
        rw [List.length_cons] at l1
        have hlt : decide (pre.length < l.length) = true := by simp; omega
        obtain ⟨b1, o1, rfl, z1, c1⟩ := (unhide HCL) (by omega)
        obtain ⟨cv, rv, htb, k1, k2, k3⟩ := c1 pre.length t (by rw [unhide HZ]; simp)
        rw [← (unhide HB).cell (p := ⟨b1, o1 + pre.length * 3, none⟩) z1] at k1
        rw [← (unhide HB).cell (p := ⟨b1, o1 + pre.length * 3 + 1, none⟩) z1] at k2
        rw [← (unhide HB).cell (p := ⟨b1, o1 + pre.length * 3 + 2, none⟩) z1] at k3
        obtain ⟨cv', rv', e', htc, hcap, htr⟩ := htb
        injection e' with _ e'
        injection e' with e1 e'
        injection e' with e2 _
        subst e1 e2
        have HTC := hide htc
        have HTR := hide htr
        have HCAP := hide hcap
        have HZ2 : Hid (l = (pre ++ [t]) ++ suf) := by unfold Hid; rw [unhide HZ]; simp
        have HAH : Hid (TabsAt w (.slice (some ⟨b1, o1, none⟩) pre.length capl) pre) := by
          have h := unhide HL
          rw [unhide HZ] at h
          exact h.ahead
        obtain ⟨adc, capc, rfl, _, _⟩ := htc
        obtain ⟨vs, ⟨adr, capr, rfl, _, _⟩, lr, _⟩ := htr
        rw [lr] at HTR k3
        rw [List.length_map] at HTC HCAP k2
        clear c1 hcap
        have hpc : pre.length ≤ capl := by omega
        go_wp2_with fail
        have HBA : Hid (Below w.heap.size w (wr.alloc (.cells #[.string t.name, .slice adc t.cols.length capc, .slice adr t.rows.length capr] 44)).drew) := ((unhide HB).alloc (unhide HB).size _).drew
        go_region_with (go_at_call 91; refine (checkOne_any a t _ _ _ pre _ (by exact (unhide HS).keep (unhide HBA)) (by exact (unhide HTC).keep (unhide HBA)) (by exact unhide HCAP) (by exact (unhide HTR).keep (unhide HBA)) (by exact (unhide HAH).keep (unhide HBA))).mono ?_; rintro e w2 ⟨rfl, hb2⟩; have HB2 : Hid (Below w.heap.size w w2) := (unhide HBA).trans (hb2.mono (unhide HBA).size); clear hb2)
        by_cases h0 : p6 t pre = 0
        · have HNX : Hid (p6all l = p6from (pre ++ [t]) suf) := by unfold Hid; rw [unhide HAL, p6from, if_pos h0]
          rw [show errOf a (p6 t pre) = .nilIface from by unfold errOf; rw [if_pos h0]]
          all_goals
            go_wp2
            go_roundg suf.length
            case measure => simp
            case rel =>
              refine ⟨pre ++ [t], suf, unhide HZ2, rfl, ?_, unhide HNX, unhide HB2⟩
              rw [List.length_append]; go_num
        · have HNX : Hid (errOf a (p6all l) = errOf a (p6 t pre)) := by unfold Hid; rw [unhide HAL, p6from, if_neg h0]
          have he : errOf a (p6 t pre) = .iface 496 (.pointer (some (a (p6 t pre - 1).toNat))) := by unfold errOf; rw [if_neg h0]
          rw [he] at HNX ⊢
          clear he h0
          generalize a (p6 t pre - 1).toNat = ae at *
          all_goals
            go_wp2
            go_ret
            exact ⟨by rw [unhide HNX]; rfl, unhide HB2⟩
end Go.Proofs.YtfkeddkfegaeiaaGreatDoor
