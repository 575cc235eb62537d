/-
  Part 48.
-/
import Derived.Test.YtfkeddkfegaeiaaGreatDoorCtGrP
import Derived.Test.YtfkeddkfegaeiaaGreatDoorCtRdgA
import Derived.Test.YtfkeddkfegaeiaaGreatDoorCtRkA
import Derived.Test.YtfkeddkfegaeiaaGreatDoorCtTel
namespace Go.Proofs.YtfkeddkfegaeiaaGreatDoor
open Go.RowKit Go.MuLone Go.Maps Go.WideMaps
/-- what Ask leaves, where all names are found. -/
def AskW (a : Nat → Addr) (w : World) (qb mb : Nat) (res : Option Rws') (its : List ItemA) (e : Ending) (w' : World) : Prop := Off2 qb mb w w' ∧
  (res = none → e = .returned (.tuple #[.agg #[.slice none 0 0, .slice none 0 0], errV a eMany])) ∧
  ∀ l, res = some l → ∃ gc gr es, es.map (·.1) = its ∧ e = .returned (.tuple #[.agg #[.slice (some ⟨gc, 0, none⟩) es.length es.length, .slice (some ⟨gr, 0, none⟩) l.length l.length], .nilIface]) ∧ w.heap.size ≤ gc ∧ w.heap.size ≤ gr ∧ w'.heap[gc]? = some (.cells (namesV es).toArray 9 (0, 0)) ∧ RowsB w' gr 32 l.length (sortL l)
set_option maxRecDepth 100000 in
set_option maxHeartbeats 4000000 in
theorem ask_with (a : Nat → Addr) (B : Nat) (w : World) (hE : EnvX a B w) (qb mb n : Nat) (hBq : B ≤ qb) (hBm : B ≤ mb) (D : DataW Value) (s : ByteArray) (hs : s.size ≤ 1000) (X : QueryX) (hX : readP s = .ok X) (tb tof tc : Nat) (T : List Tb) (y m : Int) (hm : 0 ≤ m ∧ m < 1000000000) (hn : n < 1000000000) (hne : mb ≠ qb)
    (hq : w.heap[qb]? = some (.cells (qCells (.slice (some ⟨tb, tof, none⟩) T.length tc) 0 y mb m) 140 (0, 0))) (hown : w.ownsMap Tryz.prog 9 RvM mb n D) (hnew : Maps.has D (.string s.data.toList) = false) (hat : ∀ z, D.atKey (.string s.data.toList) z = z)
    (x : WithX) (hwt : X.wth = some x) (hT : ∀ W, Off2 qb mb w W → TabsAt W (.slice (some ⟨tb, tof, none⟩) T.length tc) T) (h0 : 0 < T.length) (hf9 : T.length < 1000) (hc6 : ∀ t ∈ T, t.cols.length ≤ 6) (h200 : ∀ t ∈ T, t.rows.length ≤ 200) (hsh : ∀ t ∈ T, ∀ r ∈ t.rows, r.length = t.cols.length)
    (hx : WithFine T x) (hy : SelFine (T ++ [newT x]) X.main) :
    Calls Tryz.prog 25 #[.pointer (some ⟨qb, 0, none⟩), .string s] w fun e w' => AskW a w qb mb (wholeR T x X.main) X.main.items e w' := by
  obtain ⟨W0, hW0⟩ : ∃ W0, W0 = w.alloc (.cells #[.slice none 0 0, .slice none 0 0] 68) := ⟨_, rfl⟩
  have hb0 : Below w.heap.size w W0 := by rw [hW0]; exact (Below.refl _ _).alloc (Nat.le_refl _) _
  have hx0 : W0.heap[w.heap.size]? = some (.cells #[.slice none 0 0, .slice none 0 0] 68 (0, 0)) := by rw [hW0]; exact heap_last rfl
  have zq := lt_of_heap hq
  have zm := hown.lt
  have HE0 := hide (hE.keep (hb0.mono hE.env.size))
  have HP := hide (parts_new a B W0 (unhide HE0) qb mb n hBq hBm D s hs X hX _ y m hm hn hne ((hb0.block qb zq).trans hq) (owns_mapB hown hb0) hnew hat)
  have HAN : Hid (∀ w1 b, Off2 qb mb W0 w1 → QueryOk w1 W0.heap.size (.pointer (some ⟨b, 0, none⟩)) X → ∃ es : List (ItemA × Value × Option Addr), es.map (·.1) = X.main.items ∧ Calls Tryz.prog 51 #[.pointer (some ⟨b, 0, none⟩), .slice (some ⟨tb, tof, none⟩) T.length tc] w1 fun e w' => AnsW a w1 (wholeR T x X.main) es e w') := fun w1 b h1 h2 =>
    answer_with a w1 B ((unhide HE0).keep (h1.below (unhide HE0).env.size hBq hBm)) b W0.heap.size X h2 x hwt tb tof tc T (hT w1 ((Below.off2 hb0).trans h1)) h0 hf9 hc6 h200 hsh hx hy
  generalize wholeR T x X.main = res at *
  have HF0 : Hid (Off2 qb mb w W0) := Below.off2 hb0
  have HX0 := hide hx0
  have zx0 := lt_of_heap hx0
  have HWW := hide hW0
  clear hE hX hq hown hnew hat hwt hT hc6 h200 hsh hx hy hb0 hx0 hW0
  go_enter Tryz.func25, Tryz.ntmps25
  go_wp2_with fail
  rw [← unhide HWW]
  refine (unhide HP).mono ?_
  rintro e w1 ⟨b, rfl, hqo, hq1, hmap1, hoff1⟩
  obtain ⟨es, hes, hcall⟩ := (unhide HAN) w1 b hoff1 hqo
  have HC := hide hcall
  have hx1 := (hoff1.block _ zx0 (by omega) (by omega)).trans (unhide HX0)
  have HX1 := hide hx1
  have zx1 := lt_of_heap hx1
  have HF1 : Hid (Off2 qb mb w w1) := (unhide HF0).trans hoff1
  obtain ⟨kq, -⟩ := blk hq1
  have k0 : w1.cell? ⟨qb, 0, none⟩ = some (.slice (some ⟨tb, tof, none⟩) T.length tc) := kq 0
  have zq1 := lt_of_heap hq1
  have hz01 := hoff1.size
  clear hqo hq1 hmap1 hoff1 hcall hx1 kq HP HAN
  go_wp2_with fail
  refine (unhide HC).mono ?_
  rintro e w2 ⟨hb2, hmany, hgood⟩
  have hx2 := (hb2.block _ zx1).trans (unhide HX1)
  have HX2 := hide hx2
  obtain ⟨kx, fx⟩ := blk hx2
  have zx2 := lt_of_heap hx2
  have x0 : w2.cell? ⟨w.heap.size, 0, none⟩ = some (.slice none 0 0) := kx 0
  have x1 : w2.cell? ⟨w.heap.size, 1, none⟩ = some (.slice none 0 0) := kx 1
  have xf0 : w2.frozen? ⟨w.heap.size, 0, none⟩ = false := fx 0
  have xf1 : w2.frozen? ⟨w.heap.size, 1, none⟩ = false := fx 1
  have HF2 : Hid (∀ u v, Off2 qb mb w ((w2.setCell ⟨w.heap.size, 0, none⟩ u).setCell ⟨w.heap.size, 1, none⟩ v)) := fun u v => by
    have h1 := (unhide HF1).trans (Below.off2 hb2)
    refine ⟨h1.os, h1.tape, h1.output, by simpa [World.setCell] using h1.size, fun k hk e1 e2 => ?_⟩
    rw [Below.heap_setCell _ _ _ _ (by show k ≠ w.heap.size; omega), Below.heap_setCell _ _ _ _ (by show k ≠ w.heap.size; omega)]
    exact h1.block k hk e1 e2
  have hzw : w.heap.size < w1.heap.size := zx1
  clear hb2 hx2 kx fx HC k0
  cases res with
  | none =>
    obtain rfl := hmany rfl
    clear hmany hgood
    go_wp2
    exact bodyPost_ret (v := .tuple #[.agg #[.slice none 0 0, .slice none 0 0], errV a eMany]) (by simp [results, Tryz.results25, go_sem, *]) rfl ⟨(unhide HF2) _ _, fun _ => rfl, fun l e => by cases e⟩
  | some l =>
    obtain ⟨gc, gr, rfl, hgc, hgr, hnm, hrb⟩ := hgood l rfl
    have HNM := hide hnm
    have HRB := hide hrb
    have HES := hide hes
    clear hmany hgood hnm hrb hes
    go_wp2
    refine bodyPost_ret (v := .tuple #[.agg #[.slice (some ⟨gc, 0, none⟩) es.length es.length, .slice (some ⟨gr, 0, none⟩) l.length l.length], .nilIface]) (by simp [results, Tryz.results25, go_sem, *]) rfl ⟨(unhide HF2) _ _, (fun e => by cases e), fun l' e => ?_⟩
    injection e with e
    subst e
    refine ⟨gc, gr, es, unhide HES, rfl, by omega, by omega, ?_, ?_⟩
    · rw [Below.heap_setCell _ _ _ _ (by show gc ≠ w.heap.size; omega), Below.heap_setCell _ _ _ _ (by show gc ≠ w.heap.size; omega)]
      exact unhide HNM
    · refine (unhide HRB).turn (x := w.heap.size) (by simp [World.setCell]) (fun k hk hne => ?_) (by omega) (two_slices (unhide HX2) (fun z e => by cases e) (fun z e => by cases e))
      rw [Below.heap_setCell _ _ _ _ hne, Below.heap_setCell _ _ _ _ hne]
end Go.Proofs.YtfkeddkfegaeiaaGreatDoor
namespace Go.Proofs.YtfkeddkfegaeiaaGreatDoor
open Go.RowKit Go.MuLone Go.Maps Go.WideMaps
set_option maxRecDepth 100000 in
set_option maxHeartbeats 1000000 in
theorem pNew_fine (a : Nat → Addr) (lv : Value) (l : List Tb) (w : World) (hS : Sents a w) (hl : TabsAt w lv l) (h6 : p6all l = 0) :
    Calls Tryz.prog 35 #[lv] w fun e w' => ∃ q m g F D, e = .returned (.tuple #[.pointer (some ⟨q, 0, none⟩), .nilIface]) ∧ Tabs F g l D ∧ (∀ b o, F b = some o → w.heap.size ≤ b ∧ b < m ∧ w'.heap[b]? = some o) ∧ w.heap.size ≤ m ∧ m < q ∧ w'.heap[m]? = some (.map #[] 0) ∧ w'.heap[q]? = some (.cells (qCells (.slice (some ⟨g, 0, none⟩) l.length l.length) 0 0 m 0) 140 (0, 0)) ∧ Below w.heap.size w w' := by
  have HS := hide hS
  have HL := hide hl
  clear hS hl
  have HE : Hid (errOf a (p6all l) = .nilIface) := by unfold Hid errOf; rw [if_pos h6]
  go_enter Tryz.func35, Tryz.ntmps35
  go_wp2_with fail
  refine (check_any a lv l _ (by exact unhide HS) (by exact unhide HL)).mono ?_
  rintro e w1 ⟨rfl, hb1⟩
  rw [unhide HE]
  have HB := hide hb1
  clear hb1
  go_wp2_with fail
  refine (copied_any lv l _ (by exact (unhide HL).keep (unhide HB)) h6).mono ?_
  rintro e w2 ⟨g, F, D, rfl, ht, hF, hb2⟩
  have HT := hide ht
  have HF := hide hF
  have HB2 := hide hb2
  clear ht hF hb2
  have hmm := @run_makeMap Tryz.prog
  go_wp2
  have hz1 := (unhide HB).size
  have hz2 := (unhide HB2).size
  refine bodyPost_ret (v := .tuple #[.pointer (some ⟨w2.heap.size + 1, 0, none⟩), .nilIface]) (by simp [results, Tryz.results35, go_sem]) rfl ⟨w2.heap.size + 1, w2.heap.size, g, F, D, rfl, unhide HT, fun b o e => ?_, by omega, by omega, ?_, ?_, ?_⟩
  · obtain ⟨h1, h2⟩ := (unhide HF) b o e
    exact ⟨by omega, lt_size h2, heap_prev (heap_prev h2)⟩
  · exact heap_prev (heap_last rfl)
  · exact heap_last (by simp)
  · exact (((unhide HB).trans ((unhide HB2).mono (by omega))).alloc (by omega) _).alloc (by simp; omega) _
theorem map_empty {w : World} {m : Nat} (h : w.heap[m]? = some (.map #[] 0)) : w.ownsMap Tryz.prog 9 RvM m 0 (.map []) := by
  obtain ⟨es, clock, h1, h2, h3, h4⟩ := World.ownsMap_made w Tryz.prog 9 RvM
  rw [World.alloc_heap_new] at h1
  injection h1 with h1
  injection h1 with h1 h5
  subst h1 h5
  exact ⟨#[], 0, h, h2, h3, h4⟩
theorem tabs_one {W : World} {b : Nat} {t : Tb} {cv rv : Value} (hb : W.heap[b]? = some (.cells #[.string t.name, cv, rv] 44 (0, 0))) (hc : RowAt W cv (textsV t.cols)) (hcap : t.cols.length ≤ scap cv) (hr : RowsAt W rv t.rows) : TabsAt W (.slice (some ⟨b, 0, none⟩) 1 1) [t] := by
  refine ⟨_, _, rfl, by simp [maxLen], Nat.le_refl _, fun _ => ⟨b, 0, rfl, lt_of_heap hb, fun j t' e => ?_⟩⟩
  match j, e with
  | 0, e =>
    simp at e
    subst e
    exact ⟨cv, rv, ⟨cv, rv, rfl, hc, hcap, hr⟩, (blk hb).1 0, (blk hb).1 1, (blk hb).1 2⟩
  | j + 1, e => simp at e
end Go.Proofs.YtfkeddkfegaeiaaGreatDoor
namespace Go.Proofs.YtfkeddkfegaeiaaGreatDoor
open Go.RowKit Go.MuLone Go.Maps Go.WideMaps
/-- what a text with 'with' is asked of one table, and what it gives. -/
structure AskdW (t : Tb) (s : ByteArray) (X : QueryX) (x : WithX) (res : Option Rws') : Prop where
  short : s.size ≤ 1000
  read : readP s = .ok X
  wt : X.wth = some x
  fine : WithFine [t] x
  main : SelFine ([t] ++ [newT x]) X.main
  res : res = wholeR [t] x X.main
set_option maxRecDepth 100000 in
set_option maxHeartbeats 4000000 in
theorem asked_with (a : Nat → Addr) (B : Nat) (w : World) (hE : EnvX a B w) (t : Tb) (cv rv : Value) (hc : RowAt w cv (textsV t.cols)) (hcap : t.cols.length ≤ scap cv) (hr : RowsAt w rv t.rows) (h6 : p6all [t] = 0) (hc6 : t.cols.length ≤ 6) (h200 : t.rows.length ≤ 200) (hsh : ∀ r ∈ t.rows, r.length = t.cols.length)
    (s : ByteArray) (X : QueryX) (x : WithX) (l : Rws') (hA : AskdW t s X x (some l)) :
    Calls Tryz.prog 22 #[.agg #[.string t.name, cv, rv], .string s] w fun e w' => ∃ gr, e = .returned (.tuple #[.slice (some ⟨gr, 0, none⟩) l.length l.length, .bool true]) ∧ w.heap.size ≤ gr ∧ RowsB w' gr 32 l.length (sortL l) ∧ Below w.heap.size w w' := by
  have HE := hide hE
  have HC := hide hc
  have HR := hide hr
  have HCAP := hide hcap
  have HA := hide hA
  have HSH := hide hsh
  obtain ⟨adc, capc, rfl, mc, -⟩ := hc
  obtain ⟨vs, ⟨adr, capr, rfl, mr, -⟩, lr, -⟩ := hr
  rw [List.length_map] at HC HCAP ⊢
  rw [lr] at HR ⊢
  clear hE hcap hA hsh mc mr lr
  go_enter Tryz.func22, Tryz.ntmps22
  go_wp2_with fail
  have hb2 : Below w.heap.size w ((w.alloc (.cells #[.string t.name, .slice adc t.cols.length capc, .slice adr t.rows.length capr] 44)).alloc (.cells #[.string t.name, .slice adc t.cols.length capc, .slice adr t.rows.length capr] 44)) := ((Below.refl _ _).alloc (Nat.le_refl _) _).alloc (by simp) _
  have ht2 : ((w.alloc (.cells #[.string t.name, .slice adc t.cols.length capc, .slice adr t.rows.length capr] 44)).alloc (.cells #[.string t.name, .slice adc t.cols.length capc, .slice adr t.rows.length capr] 44)).heap[w.heap.size + 1]? = some (.cells #[.string t.name, .slice adc t.cols.length capc, .slice adr t.rows.length capr] 44 (0, 0)) := heap_last (by simp)
  generalize ((w.alloc (.cells #[.string t.name, .slice adc t.cols.length capc, .slice adr t.rows.length capr] 44)).alloc (.cells #[.string t.name, .slice adc t.cols.length capc, .slice adr t.rows.length capr] 44)) = W2 at *
  have HB2 := hide hb2
  have HE2 := hide ((unhide HE).keep (hb2.mono (unhide HE).env.size))
  have HT2 : Hid (TabsAt W2 (.slice (some ⟨w.heap.size + 1, 0, none⟩) 1 1) [t]) := tabs_one ht2 ((unhide HC).keep hb2) (unhide HCAP) ((unhide HR).keep hb2)
  have hzB := (unhide HE2).env.size
  clear hb2 ht2
  refine (pNew_fine (fun j => a (errG j)) _ [t] _ (by exact (unhide HE2).sents) (by exact unhide HT2) h6).mono ?_
  rintro e w3 ⟨q, m, g, F, D, rfl, htab, hF, hm0, hmq, hmap, hqb, hb3⟩
  have hA := unhide HA
  have HAS := hide (ask_with a B w3 ((unhide HE2).keep (hb3.mono hzB)) q m 0 (by omega) (by omega) (.map []) s hA.short X hA.read g 0 1 [t] 0 0 ⟨by omega, by omega⟩ (by omega) (by omega) hqb (map_empty hmap) rfl (fun _ => rfl) x hA.wt
    (fun W hW => htab.tabsAt (fun b o e => by obtain ⟨h1, h2, h3⟩ := hF b o e; exact (hW.block b (lt_size h3) (by omega) (by omega)).trans h3) (by simp [maxLen])) (by simp) (by simp) (fun u hu => by simp at hu; subst hu; exact hc6) (fun u hu => by simp at hu; subst hu; exact h200) (fun u hu => by simp at hu; subst hu; exact unhide HSH) hA.fine hA.main)
  rw [← hA.res] at HAS
  have HB3 : Hid (Below w.heap.size w w3) := (unhide HB2).trans (hb3.mono (unhide HB2).size)
  have hzw : w.heap.size ≤ W2.heap.size := (unhide HB2).size
  have hz3 := hb3.size
  clear htab hF hmap hqb hb3 hA
  go_wp2_with fail
  refine (unhide HAS).mono ?_
  rintro e w4 ⟨hoff, -, hgood⟩
  obtain ⟨gc, gr, es, hes, rfl, hgc, hgr, hnm, hrb⟩ := hgood l rfl
  have HRB := hide hrb
  have HB4 : Hid (Below w.heap.size w w4) := (unhide HB3).trans (hoff.below (by omega) (by omega) (by omega))
  clear hgood hnm hrb hoff HAS hes
  have hnw : (w4.alloc (.cells #[.slice (some ⟨gc, 0, none⟩) es.length es.length, .slice (some ⟨gr, 0, none⟩) l.length l.length] 68)).heap[w4.heap.size]? = some (.cells #[.slice (some ⟨gc, 0, none⟩) es.length es.length, .slice (some ⟨gr, 0, none⟩) l.length l.length] 68 (0, 0)) := heap_last rfl
  have kn : (w4.alloc (.cells #[.slice (some ⟨gc, 0, none⟩) es.length es.length, .slice (some ⟨gr, 0, none⟩) l.length l.length] 68)).cell? ⟨w4.heap.size, 1, none⟩ = some (.slice (some ⟨gr, 0, none⟩) l.length l.length) := (blk hnw).1 1
  clear hnw
  go_wp2_with fail
  go_region_held3 (fun w' => w'.cell? ⟨w4.heap.size, 1, none⟩ = some (.slice (some ⟨gr, 0, none⟩) l.length l.length)) (go_keep) (first | fail)
  all_goals go_wp2
  all_goals go_ret2
  all_goals refine ⟨gr, rfl, by omega, ?_, ((unhide HB4).alloc (unhide HB4).size _).drew⟩
  all_goals exact (unhide HRB).turn (x := w4.heap.size) (by simp) (fun k hk _ => Below.heap_alloc _ _ _ hk) (by obtain ⟨cur, h9, -⟩ := unhide HRB; have := lt_of_heap h9; omega) (fun o z e => by have := World.block_lt_of_cell? w4 _ e; simp at this)
end Go.Proofs.YtfkeddkfegaeiaaGreatDoor
namespace Go.Proofs.YtfkeddkfegaeiaaGreatDoor
open Go.RowKit
theorem pickI_lt (c n : Int) (hn : 0 < n) : 0 ≤ pickI c n ∧ pickI c n < n := by
  unfold pickI
  exact ⟨Int.emod_nonneg _ (by omega), Int.emod_lt_of_pos _ hn⟩
end Go.Proofs.YtfkeddkfegaeiaaGreatDoor
