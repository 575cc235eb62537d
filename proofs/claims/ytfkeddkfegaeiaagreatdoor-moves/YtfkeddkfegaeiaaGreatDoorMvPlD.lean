/-
  Part 20.
-/
import Derived.Test.YtfkeddkfegaeiaaGreatDoorMvPlC
namespace Go.Proofs.YtfkeddkfegaeiaaGreatDoor
open Go.RowKit
/-- what a step of the finder leaves. -/
def FA (c : Fc) (F : Fx) (w : World) (sv iv tv : Value) (wd : Nat) (ss : List Sr) (er : Option (Nat × Nat)) (w' : World) (F' : Fx) : Prop := Ext w.heap.size F F' ∧ Kp c.fb w w' ∧ ∃ ev', FS c F' w' sv iv tv ev' wd ss er
/-- an error at a place, told to the finder. -/
theorem told_at {c : Fc} {F : Fx} {w w1 : World} {sv iv tv ev : Value} {wd : Nat} {ss : List Sr} {er : Option (Nat × Nat)} (h : FS c F w sv iv tv ev wd ss er) {b p k : Nat} (h1 : w.heap.size ≤ b) (hat : AtBlk w1 b p (errV c.a k)) (hb : Below w.heap.size w w1) :
    Ext w.heap.size F (F.set b (.cells #[.int .i64 (p : Nat), errV c.a k] 113 (0, 0))) ∧ Kp c.fb w w1 ∧ FS c (F.set b (.cells #[.int .i64 (p : Nat), errV c.a k] 113 (0, 0))) w1 sv iv tv ev wd ss er := by
  have hn : F b = none := h.grow.noneF h1
  exact ⟨Ext.set _ h1 hn, Kp.ofBelow hb, (h.below hb).fixNew h hat h1 hn⟩
set_option maxRecDepth 100000 in
set_option maxHeartbeats 1000000 in
theorem fcolumn_none (c : Fc) (F : Fx) (w : World) (sv iv tv ev : Value) (wd : Nat) (ss : List Sr) (er : Option (Nat × Nat)) (h : FS c F w sv iv tv ev wd ss er) (b : Nat) (pl : Int) (t u : Tk) (hb : c.w0.heap[b]? = some (.cells #[.int .i64 pl, .int .i64 t.place, .string t.text, .int .i64 u.place, .string u.text] 397 (0, 0))) (hsp : spoken ss t.text = none) :
    Calls Tryz.prog 288 #[.pointer (some ⟨c.fb, 0, none⟩), .pointer (some ⟨b, 0, none⟩)] w fun e w' => e = .returned (.int .i64 0) ∧ ∃ F', FA c F w sv iv tv wd ss (orE er (some (t.place, eTable))) w' F' := by
  have hb' := (h.old.block b (lt_of_heap hb)).trans hb
  obtain ⟨kb, fb⟩ := blk hb'
  have zb := lt_of_heap hb'
  have HB := hide hb'
  have HH := hide h
  have hg := h.env.cell 5 (by decide)
  clear hb hb' h
  go_enter Tryz.func288, Tryz.ntmps288
  go_wp2_with fail
  refine (spokenOf_any c F _ sv iv tv ev wd ss er (by exact unhide HH) t.text).mono ?_
  rintro e w1 ⟨⟨ad, rfl, hm⟩, hw1⟩
  obtain rfl := hw1.symm
  obtain rfl := hm.no hsp
  clear hm
  go_upto_region 3 with (fail)
  go_cut [24] (fun _ W => ∃ F', FA c F w sv iv tv wd ss (orE er (some (t.place, eTable))) W F')
  case first =>
    go_region_with (first
      | (go_at_call 99; refine (Wrong_at _ _ _ _).mono ?_; rintro e w2 ⟨q, rfl, hq1, hq2, hat, hb2⟩; have HT2 := hide (told_at (unhide HH).drew hq1 hat hb2); clear hat hb2)
      | (go_at_call 244; refine (ffail_any c _ _ sv iv tv ev wd ss er (by exact (unhide HT2).2.2) q t.place eTable (Fx.set_same _ _ _)).mono ?_; rintro e w3 ⟨rfl, hk3, ev3, h3⟩; have HE : Hid (FA c F w sv iv tv wd ss (orE er (some (t.place, eTable))) w3 _) := ⟨(unhide HT2).1, (((Kp.refl c.fb w).drew).trans (unhide HT2).2.1).trans hk3, ev3, h3⟩; clear hk3 h3))
    all_goals
      go_wp2_with fail
      go_meet
      case rel => exact ⟨_, unhide HE⟩
  case rest =>
    obtain ⟨F', hfa⟩ := hcut
    have HE := hide hfa
    clear hfa
    go_wp2
    go_ret
    exact ⟨rfl, F', unhide HE⟩
end Go.Proofs.YtfkeddkfegaeiaaGreatDoor
namespace Go.Proofs.YtfkeddkfegaeiaaGreatDoor
open Go.RowKit
theorem idxFromS_range (s : ByteArray) : ∀ (l : List ByteArray) (i : Nat), Lib.idxFromS l s i = -1 ∨ ((i : Int) ≤ Lib.idxFromS l s i ∧ Lib.idxFromS l s i < ((i + l.length : Nat) : Int))
  | [], i => Or.inl rfl
  | a :: r, i => by
    rw [Lib.idxFromS]
    split
    · exact Or.inr ⟨Int.le_refl _, by rw [List.length_cons]; omega⟩
    · rcases idxFromS_range s r (i + 1) with h | ⟨h1, h2⟩
      · exact Or.inl h
      · refine Or.inr ⟨by omega, ?_⟩
        rw [List.length_cons]
        omega
theorem idxOfS_range (l : List ByteArray) (s : ByteArray) : -1 ≤ Lib.idxOfS l s ∧ Lib.idxOfS l s < l.length := by
  unfold Lib.idxOfS
  rcases idxFromS_range s l 0 with h | ⟨h1, h2⟩
  · rw [h]; omega
  · omega
/-- a table as it lies: its columns. -/
theorem TabsAt.tab {W : World} {b o cap : Nat} {T : List Tb} (h : TabsAt W (.slice (some ⟨b, o, none⟩) T.length cap) T) {j : Nat} (hj : j < T.length) : b < W.heap.size ∧ ∃ cv rv, W.cell? ⟨b, o + j * 3, none⟩ = some (.string (T.getD j tb0).name) ∧ W.cell? ⟨b, o + j * 3 + 1, none⟩ = some cv ∧ W.cell? ⟨b, o + j * 3 + 2, none⟩ = some rv ∧ RowAt W cv (textsV (T.getD j tb0).cols) ∧ RowsAt W rv (T.getD j tb0).rows := by
  obtain ⟨ad, cap', e0, _, _, cl⟩ := h
  injection e0 with e1 _ _
  subst e1
  obtain ⟨b', o', e, z, c⟩ := cl (by omega)
  injection e with e
  injection e with e1 e2
  subst e1 e2
  have hg : T[j]? = some (T.getD j tb0) := by simp [List.getD_eq_getElem?_getD, List.getElem?_eq_getElem hj]
  obtain ⟨cv, rv, ⟨cv', rv', e', h1, _, h2⟩, k1, k2, k3⟩ := c j _ hg
  injection e' with _ e'
  injection e' with e1 e'
  injection e' with e2 _
  subst e1 e2
  exact ⟨z, cv, rv, k1, k2, k3, h1, h2⟩
set_option maxRecDepth 100000 in
set_option maxHeartbeats 1000000 in
theorem fcolumn_some (c : Fc) (F : Fx) (w : World) (sv iv tv ev : Value) (wd : Nat) (ss : List Sr) (er : Option (Nat × Nat)) (h : FS c F w sv iv tv ev wd ss er) (b : Nat) (pl : Int) (t u : Tk) (hb : c.w0.heap[b]? = some (.cells #[.int .i64 pl, .int .i64 t.place, .string t.text, .int .i64 u.place, .string u.text] 397 (0, 0))) (x : Sr) (hsp : spoken ss t.text = some x) (n : Int) (hn : Lib.idxOfS (colsOf c.T x) u.text = n) (en : Option (Nat × Nat)) (HEN : Hid (en = if n < 0 then some (u.place, eColumn) else none)) :
    Calls Tryz.prog 288 #[.pointer (some ⟨c.fb, 0, none⟩), .pointer (some ⟨b, 0, none⟩)] w fun e w' => e = .returned (.int .i64 (x.first + n)) ∧ ∃ F', FA c F w sv iv tv wd ss (orE er en) w' F' := by
  have hb' := (h.old.block b (lt_of_heap hb)).trans hb
  obtain ⟨kb, fb⟩ := blk hb'
  have zb := lt_of_heap hb'
  have HB := hide hb'
  have HH := hide h
  have hwd := h.wide
  have few := h.few
  have hrg := idxOfS_range (colsOf c.T x) u.text
  rw [hn] at hrg
  have HN := hide hn
  clear hb hb' h hn
  go_enter Tryz.func288, Tryz.ntmps288
  go_wp2_with fail
  refine (spokenOf_any c F _ sv iv tv ev wd ss er (by exact unhide HH) t.text).mono ?_
  rintro e w1 ⟨⟨ad, rfl, hm⟩, hw1⟩
  obtain rfl := hw1.symm
  obtain ⟨hin, g, k, rfl, zg, k1, k2, hog⟩ := hm.yes hsp
  have hgf : g ≠ c.fb := ((unhide HH).grow.off sv List.mem_cons_self g hog).2.1
  have hx1 := hwd.2.1 x hin
  have hx2 : wd ≤ 18 := by have := hwd.1; omega
  have hxf : x.first ≤ 18 := by omega
  have hn1 : -1 ≤ n := hrg.1
  have hn2 : n ≤ 18 := by omega
  obtain ⟨ztb, cv, rv, -, q2, -, hrow, -⟩ := ((unhide HH).tabs _ (unhide HH).fits).tab ((unhide HH).ok x hin)
  have HROW := hide hrow
  obtain ⟨adc, capc, rfl, _, _⟩ := hrow
  rw [List.length_map] at q2 HROW
  clear hm hrg hwd hx1 hin hog few
  go_upto_region 5 with (fail)
  go_cut [6] (fun v W => v = .int .i64 n ∧ Below w.heap.size w W)
  case first =>
    go_region_with (go_at_call 268; refine (sIndex_any _ (colsOf c.T x) _ _ (by exact (unhide HROW).keep (Below.refl _ _).drew)).mono ?_; rintro e w2 ⟨rfl, hw2⟩; obtain rfl := hw2.symm; rw [unhide HN])
    all_goals
      go_wp2_with fail
      go_meet
      case rel => exact ⟨rfl, (Below.refl _ _).drew⟩
  case rest =>
    obtain ⟨rfl, hbw⟩ := hcut
    have HBW := hide hbw
    have HF := hide ((unhide HH).below hbw)
    have zz := hbw.size
    clear hbw q2
    have k2' : wc.cell? ⟨g, k + 2, none⟩ = some (.int .i64 x.first) := by rw [(unhide HBW).cell (p := ⟨g, _, none⟩) zg]; exact k2
    have kb' : ∀ o, wc.cell? ⟨b, o, none⟩ = #[.int .i64 pl, .int .i64 t.place, .string t.text, .int .i64 u.place, .string u.text][o]? := fun o => by rw [(unhide HBW).cell (p := ⟨b, _, none⟩) zb]; exact kb o
    have HK2 := hide k2
    clear k1 k2 kb fb
    by_cases hneg : n < 0
    · have hd : decide (n < 0) = true := by simpa using hneg
      have hg := (unhide HF).env.cell 6 (by decide)
      have HNEG := hide hneg
      clear hneg
      go_upto_region 7 with (fail)
      go_cut [48] (fun _ W => ∃ F', FA c F w sv iv tv wd ss (orE er (some (u.place, eColumn))) W F' ∧ W.cell? ⟨g, k + 2, none⟩ = some (.int .i64 x.first))
      case first =>
        go_region_with (first
          | (go_at_call 99; refine (Wrong_at _ _ _ _).mono ?_; rintro e w2 ⟨q, rfl, hq1, hq2, hat, hb2⟩; have HT2 := hide (told_at (unhide HF).drew hq1 hat hb2); clear hat hb2)
          | (go_at_call 244; refine (ffail_any c _ _ sv iv tv ev wd ss er (by exact (unhide HT2).2.2) q u.place eColumn (Fx.set_same _ _ _)).mono ?_; rintro e w3 ⟨rfl, hk3, ev3, h3⟩; have HE : Hid (Kp c.fb w w3 ∧ FS c _ w3 sv iv tv ev3 wd ss (orE er (some (u.place, eColumn)))) := ⟨((Kp.ofBelow (unhide HBW).drew).trans (unhide HT2).2.1).trans hk3, h3⟩; clear hk3 h3))
        all_goals
          go_wp2_with fail
          go_meet
          case rel => exact ⟨_, ⟨(unhide HT2).1.mono (by exact zz), (unhide HE).1, _, (unhide HE).2⟩, by rw [(unhide HE).1.cell (p := ⟨g, _, none⟩) zg hgf]; exact unhide HK2⟩
      case rest =>
        obtain ⟨F', hfa, k9⟩ := hcut
        have HFA := hide hfa
        clear hfa
        go_wp2
        go_ret
        refine ⟨rfl, F', ?_⟩
        rw [unhide HEN, if_pos (unhide HNEG)]
        exact unhide HFA
    · have hd : decide (n < 0) = false := by simpa using hneg
      have HNEG : Hid (0 ≤ n) := Int.not_lt.1 hneg
      clear hneg
      go_wp2
      go_ret
      refine ⟨rfl, F, ?_⟩
      rw [unhide HEN, if_neg (Int.not_lt.2 (unhide HNEG)), orE_none]
      exact ⟨Ext.refl _ _, Kp.ofBelow (unhide HBW), ev, unhide HF⟩
/-- any column. -/
theorem fcolumn_any (c : Fc) (F : Fx) (w : World) (sv iv tv ev : Value) (wd : Nat) (ss : List Sr) (er : Option (Nat × Nat)) (h : FS c F w sv iv tv ev wd ss er) (b : Nat) (pl : Int) (t u : Tk) (hb : c.w0.heap[b]? = some (.cells #[.int .i64 pl, .int .i64 t.place, .string t.text, .int .i64 u.place, .string u.text] 397 (0, 0))) :
    Calls Tryz.prog 288 #[.pointer (some ⟨c.fb, 0, none⟩), .pointer (some ⟨b, 0, none⟩)] w fun e w' => e = .returned (.int .i64 (colAt c.T ss t.text u.text)) ∧ ∃ F', FA c F w sv iv tv wd ss (orE er (ndErr c.T ss (ndCol t u))) w' F' := by
  cases hs : spoken ss t.text with
  | none =>
    refine (fcolumn_none c F w sv iv tv ev wd ss er h b pl t u hb hs).mono ?_
    rintro e w' ⟨rfl, F', hf⟩
    have e1 : colAt c.T ss t.text u.text = 0 := by unfold colAt; rw [hs]
    have e2 : ndErr c.T ss (ndCol t u) = some (t.place, eTable) := by
      unfold ndErr
      rw [if_pos (by rfl)]
      show (match spoken ss t.text with | none => some (t.place, eTable) | some s => _) = _
      rw [hs]
    rw [e1, e2]
    exact ⟨rfl, F', hf⟩
  | some x =>
    refine (fcolumn_some c F w sv iv tv ev wd ss er h b pl t u hb x hs _ rfl _ rfl).mono ?_
    rintro e w' ⟨rfl, F', hf⟩
    have e1 : colAt c.T ss t.text u.text = x.first + Lib.idxOfS (colsOf c.T x) u.text := by unfold colAt; rw [hs]
    have e2 : ndErr c.T ss (ndCol t u) = if Lib.idxOfS (colsOf c.T x) u.text < 0 then some (u.place, eColumn) else none := by
      unfold ndErr
      rw [if_pos (by rfl)]
      show (match spoken ss t.text with | none => some (t.place, eTable) | some s => if Lib.idxOfS (colsOf c.T s) u.text < 0 then some (u.place, eColumn) else none) = _
      rw [hs]
    rw [e1, e2]
    exact ⟨rfl, F', hf⟩
/-- a column that is there stands within the row. -/
theorem colAt_lt {c : Fc} {F : Fx} {w : World} {sv iv tv ev : Value} {wd : Nat} {ss : List Sr} {er : Option (Nat × Nat)} (h : FS c F w sv iv tv ev wd ss er) {t u : Tk} (he : ndErr c.T ss (ndCol t u) = none) : 0 ≤ colAt c.T ss t.text u.text ∧ colAt c.T ss t.text u.text < wd := by
  have e : ndErr c.T ss (ndCol t u) = match spoken ss t.text with | none => some (t.place, eTable) | some s => if Lib.idxOfS (colsOf c.T s) u.text < 0 then some (u.place, eColumn) else none := by
    unfold ndErr; rw [if_pos (by rfl)]; rfl
  rw [e] at he
  cases hs : spoken ss t.text with
  | none => rw [hs] at he; cases he
  | some x =>
    rw [hs] at he
    have hin : x ∈ ss := List.mem_of_find?_eq_some hs
    have h1 := h.wide.2.1 x hin
    have h2 := idxOfS_range (colsOf c.T x) u.text
    have h3 : ¬ Lib.idxOfS (colsOf c.T x) u.text < 0 := fun hlt => by simp only [if_pos hlt] at he; cases he
    have e1 : colAt c.T ss t.text u.text = x.first + Lib.idxOfS (colsOf c.T x) u.text := by unfold colAt; rw [hs]
    rw [e1]
    omega
end Go.Proofs.YtfkeddkfegaeiaaGreatDoor
namespace Go.Proofs.YtfkeddkfegaeiaaGreatDoor
open Go.RowKit
theorem wrapE (n : Int) : IntKind.i64.wrap n = wrap64 n := by unfold wrap64; exact IntKind.wrap_i64 n
/-- function g, bound to cb, gives f of a row of n numbers. -/
def FnG (w0 : World) (F : Fx) (n g : Nat) (cb : Array Value) (f : List Int → Int) : Prop := Enters g ∧ ∀ (W : World) (rv : Value) (row : List Int), Fits w0 F W → row.length = n → RowAt W rv (intsV row) → Calls Tryz.prog g (#[rv] ++ cb) W fun e W' => e = .returned (.int .i64 (f row)) ∧ Below W.heap.size W W'
theorem FnG.mono {w0 : World} {F F' : Fx} {n g : Nat} {cb : Array Value} {f : List Int → Int} (h : FnG w0 F n g cb f) (hF : F.le F') : FnG w0 F' n g cb f := ⟨h.1, fun W rv row hW => h.2 W rv row (hW.mono hF)⟩
set_option maxRecDepth 100000 in
set_option maxHeartbeats 1000000 in
theorem fn_num (w0 : World) (F : Fx) (n bx b : Nat) (t : Tk) (T : TypeId) (hx : F bx = some (.cells #[.pointer (some ⟨b, 0, none⟩)] T (0, 0))) (hb : w0.heap[b]? = some (.cells #[.int .i64 t.place, .int .i64 t.value, .string t.text] 391 (0, 0))) :
    FnG w0 F n 286 #[.pointer (some ⟨bx, 0, none⟩)] (fun _ => t.value) := by
  refine ⟨enters_of Tryz.func286 (by kernel_rfl) rfl, fun W rv row hW hl hr => ?_⟩
  obtain ⟨kx, fx⟩ := blk (hW.new _ _ hx)
  obtain ⟨kb, fb⟩ := blk ((hW.old.block b (lt_of_heap hb)).trans hb)
  obtain ⟨ad, cap, rfl, _, _⟩ := hr
  clear hx hb hW
  show Calls Tryz.prog 286 #[_, _] W _
  go_enter Tryz.func286, Tryz.ntmps286
  go_wp2
  go_ret
  exact ⟨rfl, Below.refl _ _⟩
set_option maxRecDepth 100000 in
set_option maxHeartbeats 1000000 in
theorem fn_minus (w0 : World) (F : Fx) (n bx g : Nat) (cb : Array Value) (f : List Int → Int) (T : TypeId) (hx : F bx = some (.cells #[.func (.func g) #[] cb] T (0, 0))) (hf : FnG w0 F n g cb f) :
    FnG w0 F n 287 #[.pointer (some ⟨bx, 0, none⟩)] (fun r => wrap64 (-(f r))) := by
  refine ⟨enters_of Tryz.func287 (by kernel_rfl) rfl, fun W rv row hW hl hr => ?_⟩
  obtain ⟨kx, fx⟩ := blk (hW.new _ _ hx)
  have eg := hf.1
  have HC := hide (hf.2 W rv row hW hl hr)
  obtain ⟨ad, cap, rfl, _, _⟩ := hr
  clear hx hf hW hl
  rw [List.length_map] at HC ⊢
  show Calls Tryz.prog 287 #[_, _] W _
  go_enter Tryz.func287, Tryz.ntmps287
  go_wp2_with fail
  refine (unhide HC).mono ?_
  rintro e w1 ⟨rfl, hb1⟩
  have HB := hide hb1
  clear hb1
  go_wp2
  go_ret
  exact ⟨rfl, unhide HB⟩
set_option maxRecDepth 100000 in
set_option maxHeartbeats 1000000 in
theorem fn_col (w0 : World) (F : Fx) (n bx : Nat) (k : Int) (T : TypeId) (hx : F bx = some (.cells #[.int .i64 k] T (0, 0))) (hk : 0 ≤ k ∧ k < n) :
    FnG w0 F n 289 #[.pointer (some ⟨bx, 0, none⟩)] (fun r => r.getD k.toNat 0) := by
  refine ⟨enters_of Tryz.func289 (by kernel_rfl) rfl, fun W rv row hW hl hr => ?_⟩
  obtain ⟨kx, fx⟩ := blk (hW.new _ _ hx)
  obtain ⟨m, rfl⟩ : ∃ m : Nat, k = m := ⟨k.toNat, by omega⟩
  have hm : m < row.length := by omega
  obtain ⟨ad, cap, rfl, hx1, hx2⟩ := hr
  rw [List.length_map] at hx1 hx2
  obtain ⟨b1, o1, rfl, z1, c1⟩ := hx2 (by omega)
  have hc : W.cell? ⟨b1, o1 + m, none⟩ = some (.int .i64 (row.getD m 0)) := by
    rw [c1 _ hm, List.getElem?_map, List.getD_eq_getElem?_getD, List.getElem?_eq_getElem hm]
    rfl
  unfold maxLen at hx1
  rw [List.length_map]
  clear hx hW c1 hx2
  show Calls Tryz.prog 289 #[_, _] W _
  go_enter Tryz.func289, Tryz.ntmps289
  go_wp2
  go_ret
  exact ⟨by simp, Below.refl _ _⟩
/-- two function values, called one behind the other. -/
theorem fn_two {w0 W W1 : World} {F : Fx} {n g : Nat} {cb : Array Value} {f : List Int → Int} (h : FnG w0 F n g cb f) (hW : Fits w0 F W) (hb : Below W.heap.size W W1) {rv : Value} {row : List Int} (hl : row.length = n) (hr : RowAt W rv (intsV row)) : Calls Tryz.prog g (#[rv] ++ cb) W1 fun e W' => e = .returned (.int .i64 (f row)) ∧ Below W.heap.size W W' :=
  (h.2 W1 rv row (hW.below hb) hl (hr.keep hb)).mono fun _ _ ⟨he, hb'⟩ => ⟨he, hb.trans (hb'.mono hb.size)⟩
set_option maxRecDepth 100000 in
set_option maxHeartbeats 1000000 in
theorem fn_add (w0 : World) (F : Fx) (n bx by' g g' : Nat) (cb cb' : Array Value) (f f' : List Int → Int) (T : TypeId) (hx : F bx = some (.cells #[.func (.func g) #[] cb] T (0, 0))) (hy : F by' = some (.cells #[.func (.func g') #[] cb'] T (0, 0))) (hf : FnG w0 F n g cb f) (hf' : FnG w0 F n g' cb' f') :
    FnG w0 F n 320 #[.pointer (some ⟨bx, 0, none⟩), .pointer (some ⟨by', 0, none⟩)] (fun r => wrap64 (f r + f' r)) := by
  refine ⟨enters_of Tryz.func320 (by kernel_rfl) rfl, fun W rv row hW hl hr => ?_⟩
  obtain ⟨kx, fx⟩ := blk (hW.new _ _ hx)
  obtain ⟨ky, fy⟩ := blk (hW.new _ _ hy)
  have zy := lt_of_heap (hW.new _ _ hy)
  have eg := hf.1
  have eg' := hf'.1
  have HC := hide (fun W1 hb => fn_two hf hW (W1 := W1) hb hl hr)
  have HC' := hide (fun W1 hb => fn_two hf' hW (W1 := W1) hb hl hr)
  have HKY : Hid (∀ W1, Below W.heap.size W W1 → W1.cell? ⟨by', 0, none⟩ = some (.func (.func g') #[] cb')) := fun W1 hb => by rw [hb.cell (p := ⟨by', 0, none⟩) zy, ky]; rfl
  obtain ⟨ad, cap, rfl, _, _⟩ := hr
  clear hx hy hf hf' hW hl
  rw [List.length_map] at HC HC' ⊢
  show Calls Tryz.prog 320 #[_, _, _] W _
  go_enter Tryz.func320, Tryz.ntmps320
  go_upto_region 1 with (fail)
  go_cut [4] (fun v W1 => v = .int .i64 (wrap64 (f row + f' row)) ∧ Below W.heap.size W W1)
  case first =>
    go_region_with (first
      | (refine ((unhide HC) _ (by exact (Below.refl _ _).drew)).mono ?_; clear HC; rintro e w1 ⟨rfl, hb1⟩; have HB1 := hide hb1; have ky1 := (unhide HKY) _ hb1; clear hb1)
      | (refine ((unhide HC') _ (by exact unhide HB1)).mono ?_; rintro e w2 ⟨rfl, hb2⟩; have HB2 := hide hb2; clear hb2))
    all_goals
      go_wp2_with fail
      go_meet
      case rel => exact ⟨by rw [wrapE], unhide HB2⟩
  case rest =>
    obtain ⟨rfl, hbw⟩ := hcut
    have HB := hide hbw
    clear hbw
    go_wp2
    go_ret
    exact ⟨rfl, unhide HB⟩
set_option maxRecDepth 100000 in
set_option maxHeartbeats 1000000 in
theorem fn_sub (w0 : World) (F : Fx) (n bx by' g g' : Nat) (cb cb' : Array Value) (f f' : List Int → Int) (T : TypeId) (hx : F bx = some (.cells #[.func (.func g) #[] cb] T (0, 0))) (hy : F by' = some (.cells #[.func (.func g') #[] cb'] T (0, 0))) (hf : FnG w0 F n g cb f) (hf' : FnG w0 F n g' cb' f') :
    FnG w0 F n 321 #[.pointer (some ⟨bx, 0, none⟩), .pointer (some ⟨by', 0, none⟩)] (fun r => wrap64 (f r - f' r)) := by
  refine ⟨enters_of Tryz.func321 (by kernel_rfl) rfl, fun W rv row hW hl hr => ?_⟩
  obtain ⟨kx, fx⟩ := blk (hW.new _ _ hx)
  obtain ⟨ky, fy⟩ := blk (hW.new _ _ hy)
  have zy := lt_of_heap (hW.new _ _ hy)
  have eg := hf.1
  have eg' := hf'.1
  have HC := hide (fun W1 hb => fn_two hf hW (W1 := W1) hb hl hr)
  have HC' := hide (fun W1 hb => fn_two hf' hW (W1 := W1) hb hl hr)
  have HKY : Hid (∀ W1, Below W.heap.size W W1 → W1.cell? ⟨by', 0, none⟩ = some (.func (.func g') #[] cb')) := fun W1 hb => by rw [hb.cell (p := ⟨by', 0, none⟩) zy, ky]; rfl
  obtain ⟨ad, cap, rfl, _, _⟩ := hr
  clear hx hy hf hf' hW hl
  rw [List.length_map] at HC HC' ⊢
  show Calls Tryz.prog 321 #[_, _, _] W _
  go_enter Tryz.func321, Tryz.ntmps321
  go_upto_region 1 with (fail)
  go_cut [4] (fun v W1 => v = .int .i64 (wrap64 (f row - f' row)) ∧ Below W.heap.size W W1)
  case first =>
    go_region_with (first
      | (refine ((unhide HC) _ (by exact (Below.refl _ _).drew)).mono ?_; clear HC; rintro e w1 ⟨rfl, hb1⟩; have HB1 := hide hb1; have ky1 := (unhide HKY) _ hb1; clear hb1)
      | (refine ((unhide HC') _ (by exact unhide HB1)).mono ?_; rintro e w2 ⟨rfl, hb2⟩; have HB2 := hide hb2; clear hb2))
    all_goals
      go_wp2_with fail
      go_meet
      case rel => exact ⟨by rw [wrapE], unhide HB2⟩
  case rest =>
    obtain ⟨rfl, hbw⟩ := hcut
    have HB := hide hbw
    clear hbw
    go_wp2
    go_ret
    exact ⟨rfl, unhide HB⟩
set_option maxRecDepth 100000 in
set_option maxHeartbeats 1000000 in
theorem fn_mul (w0 : World) (F : Fx) (n bx by' g g' : Nat) (cb cb' : Array Value) (f f' : List Int → Int) (T : TypeId) (hx : F bx = some (.cells #[.func (.func g) #[] cb] T (0, 0))) (hy : F by' = some (.cells #[.func (.func g') #[] cb'] T (0, 0))) (hf : FnG w0 F n g cb f) (hf' : FnG w0 F n g' cb' f') :
    FnG w0 F n 322 #[.pointer (some ⟨bx, 0, none⟩), .pointer (some ⟨by', 0, none⟩)] (fun r => wrap64 (f r * f' r)) := by
  refine ⟨enters_of Tryz.func322 (by kernel_rfl) rfl, fun W rv row hW hl hr => ?_⟩
  obtain ⟨kx, fx⟩ := blk (hW.new _ _ hx)
  obtain ⟨ky, fy⟩ := blk (hW.new _ _ hy)
  have zy := lt_of_heap (hW.new _ _ hy)
  have eg := hf.1
  have eg' := hf'.1
  have HC := hide (fun W1 hb => fn_two hf hW (W1 := W1) hb hl hr)
  have HC' := hide (fun W1 hb => fn_two hf' hW (W1 := W1) hb hl hr)
  have HKY : Hid (∀ W1, Below W.heap.size W W1 → W1.cell? ⟨by', 0, none⟩ = some (.func (.func g') #[] cb')) := fun W1 hb => by rw [hb.cell (p := ⟨by', 0, none⟩) zy, ky]; rfl
  obtain ⟨ad, cap, rfl, _, _⟩ := hr
  clear hx hy hf hf' hW hl
  rw [List.length_map] at HC HC' ⊢
  show Calls Tryz.prog 322 #[_, _, _] W _
  go_enter Tryz.func322, Tryz.ntmps322
  go_upto_region 1 with (fail)
  go_cut [4] (fun v W1 => v = .int .i64 (wrap64 (f row * f' row)) ∧ Below W.heap.size W W1)
  case first =>
    go_region_with (first
      | (refine ((unhide HC) _ (by exact (Below.refl _ _).drew)).mono ?_; clear HC; rintro e w1 ⟨rfl, hb1⟩; have HB1 := hide hb1; have ky1 := (unhide HKY) _ hb1; clear hb1)
      | (refine ((unhide HC') _ (by exact unhide HB1)).mono ?_; rintro e w2 ⟨rfl, hb2⟩; have HB2 := hide hb2; clear hb2))
    all_goals
      go_wp2_with fail
      go_meet
      case rel => exact ⟨by rw [wrapE], unhide HB2⟩
  case rest =>
    obtain ⟨rfl, hbw⟩ := hcut
    have HB := hide hbw
    clear hbw
    go_wp2
    go_ret
    exact ⟨rfl, unhide HB⟩
end Go.Proofs.YtfkeddkfegaeiaaGreatDoor
