/-
  Part 45.
-/
import Derived.Test.YtfkeddkfegaeiaaGreatDoorMvRdgB
import Derived.Test.YtfkeddkfegaeiaaGreatDoorMvTli
import Derived.Test.YtfkeddkfegaeiaaGreatDoorMvEnv
import Derived.WalkLawsBesides
import Derived.Lib.SlBytesRow
import Derived.Deep.RegionWith
import Derived.Test.YtfkeddkfegaeiaaGreatDoorMvNwG
namespace Go.Proofs.YtfkeddkfegaeiaaGreatDoor
open Go.RowKit Go.MuLone Go.Maps Go.WideMaps
set_option maxRecDepth 100000 in
set_option maxHeartbeats 4000000 in
theorem ask_firstW (a : Nat → Addr) (B : Nat) (w : World) (hE : EnvX a B w) (qb mb n : Nat) (hBq : B ≤ qb) (hBm : B ≤ mb) (D : DataW Value) (s : ByteArray) (hs : s.size ≤ 1000) (X : QueryX) (hX : readP s = .ok X) (tb tof tc : Nat) (T : List Tb) (y m : Int) (hm : 0 ≤ m ∧ m < 1000000000) (hn : n < 1000000000) (hne : mb ≠ qb)
    (hq : w.heap[qb]? = some (.cells (qCells (.slice (some ⟨tb, tof, none⟩) T.length tc) 0 y mb m) 140 (0, 0))) (hown : w.ownsMap Tryz.prog 9 RvM mb n D) (hnew : Maps.has D (.string s.data.toList) = false) (hat : ∀ z, D.atKey (.string s.data.toList) z = z)
    (hwt : X.wth = none) (hwin : ∀ i ∈ X.main.items, ∀ q, i.win = some q → WinB q) (hi0 : 0 < X.main.items.length) (hi6 : X.main.items.length ≤ 6) (hs0 : 0 < X.main.srcs.length) (hs3 : X.main.srcs.length ≤ 3) (hu9 : X.main.tests.length ≤ 1000)
    (hT : ∀ W, Off2 qb mb w W → TabsAt W (.slice (some ⟨tb, tof, none⟩) T.length tc) T) (hc6 : ∀ t ∈ T, t.cols.length ≤ 6) (h200 : ∀ t ∈ T, t.rows.length ≤ 200) (hsh : ∀ t ∈ T, ∀ r ∈ t.rows, r.length = t.cols.length)
    (fs : Fs) (N : Nat) (ch l : List (List Int)) (R : Option (Nat × Nat)) (hp : PnW T X.main fs N ch l R) :
    Calls Tryz.prog 25 #[.pointer (some ⟨qb, 0, none⟩), .string s] w fun e w' => AskDone a w qb mb N l X.main.items R e w' := by
  obtain ⟨W0, hW0⟩ : ∃ W0, W0 = w.alloc (.cells #[.slice none 0 0, .slice none 0 0] 68) := ⟨_, rfl⟩
  have hb0 : Below w.heap.size w W0 := by rw [hW0]; exact (Below.refl _ _).alloc (Nat.le_refl _) _
  have hx0 : W0.heap[w.heap.size]? = some (.cells #[.slice none 0 0, .slice none 0 0] 68 (0, 0)) := by rw [hW0]; exact heap_last rfl
  have zq := lt_of_heap hq
  have zm := hown.lt
  have HE0 := hide (hE.keep (hb0.mono hE.env.size))
  have HP := hide (parts_new a B W0 (unhide HE0) qb mb n hBq hBm D s hs X hX _ y m hm hn hne ((hb0.block qb zq).trans hq) (owns_mapB hown hb0) hnew hat)
  have HAN : Hid (∀ w1 b, Off2 qb mb W0 w1 → QueryOk w1 W0.heap.size (.pointer (some ⟨b, 0, none⟩)) X → ∃ es : List (ItemA × Value × Option Addr), es.map (·.1) = X.main.items ∧ Calls Tryz.prog 51 #[.pointer (some ⟨b, 0, none⟩), .slice (some ⟨tb, tof, none⟩) T.length tc] w1 fun e w' => AnsDone a w1 N l es R e w') := fun w1 b h1 h2 =>
    answer_selW a w1 B ((unhide HE0).keep (h1.below (unhide HE0).env.size hBq hBm)) W0.heap.size b X h2 hwt hwin hi0 hi6 hs0 hs3 hu9 tb tof tc T (hT w1 ((Below.off2 hb0).trans h1)) hc6 h200 hsh fs N ch l R hp
  have HF0 : Hid (Off2 qb mb w W0) := Below.off2 hb0
  have HX0 := hide hx0
  have zx0 := lt_of_heap hx0
  have HWW := hide hW0
  clear hE hX hq hown hnew hat hwt hwin hi0 hi6 hs0 hs3 hu9 hT hc6 h200 hsh hp hb0 hx0 hW0
  go_enter Tryz.func25, Tryz.ntmps25
  go_wp2_with fail
  rw [← unhide HWW]
  refine (unhide HP).mono ?_
  rintro e w1 ⟨b, rfl, hqo, hq1, hmap1, hoff1⟩
  obtain ⟨es, hes, hcall⟩ := (unhide HAN) w1 b hoff1 hqo
  have HC := hide hcall
  have hx1 := (hoff1.block _ zx0 (by omega) (by omega)).trans (unhide HX0)
  have HX1 := hide hx1
  have zx1 := lt_of_heap hx1
  have HF1 : Hid (Off2 qb mb w w1) := (unhide HF0).trans hoff1
  obtain ⟨kq, -⟩ := blk hq1
  have k0 : w1.cell? ⟨qb, 0, none⟩ = some (.slice (some ⟨tb, tof, none⟩) T.length tc) := kq 0
  have zq1 := lt_of_heap hq1
  have hz01 := hoff1.size
  clear hqo hq1 hmap1 hoff1 hcall hx1 kq HP HAN
  go_wp2_with fail
  refine (unhide HC).mono ?_
  rintro e w2 ⟨hb2, hbad, hmany, hgood⟩
  have hx2 := (hb2.block _ zx1).trans (unhide HX1)
  have HX2 := hide hx2
  obtain ⟨kx, fx⟩ := blk hx2
  have zx2 := lt_of_heap hx2
  have x0 : w2.cell? ⟨w.heap.size, 0, none⟩ = some (.slice none 0 0) := kx 0
  have x1 : w2.cell? ⟨w.heap.size, 1, none⟩ = some (.slice none 0 0) := kx 1
  have xf0 : w2.frozen? ⟨w.heap.size, 0, none⟩ = false := fx 0
  have xf1 : w2.frozen? ⟨w.heap.size, 1, none⟩ = false := fx 1
  have HF2 : Hid (∀ u v, Off2 qb mb w ((w2.setCell ⟨w.heap.size, 0, none⟩ u).setCell ⟨w.heap.size, 1, none⟩ v)) := fun u v => by
    have h1 := (unhide HF1).trans (Below.off2 hb2)
    refine ⟨h1.os, h1.tape, h1.output, by simpa [World.setCell] using h1.size, fun k hk e1 e2 => ?_⟩
    rw [Below.heap_setCell _ _ _ _ (by show k ≠ w.heap.size; omega), Below.heap_setCell _ _ _ _ (by show k ≠ w.heap.size; omega)]
    exact h1.block k hk e1 e2
  have hzw : w.heap.size < w1.heap.size := zx1
  clear hb2 hx2 kx fx HC k0
  cases R with
  | some pk =>
    obtain ⟨p, k⟩ := pk
    obtain ⟨ev, rfl, b9, rfl, h1, h2⟩ := hbad p k rfl
    have H22 := hide h2
    clear hbad hmany hgood h2
    go_wp2
    refine bodyPost_ret (v := .tuple #[.agg #[.slice none 0 0, .slice none 0 0], .iface 110 (.pointer (some ⟨b9, 0, none⟩))]) (by simp [results, Tryz.results25, go_sem, *]) rfl ⟨(unhide HF2) _ _, fun p' k' e => ?_, (fun e => by cases e), (fun e => by cases e)⟩
    cases e
    refine ⟨b9, rfl, by omega, ?_⟩
    rw [Below.heap_setCell _ _ _ _ (by show b9 ≠ w.heap.size; omega), Below.heap_setCell _ _ _ _ (by show b9 ≠ w.heap.size; omega)]
    exact unhide H22
  | none =>
    by_cases h4 : 4000 < N
    · obtain rfl := hmany rfl h4
      clear hbad hmany hgood
      go_wp2
      exact bodyPost_ret (v := .tuple #[.agg #[.slice none 0 0, .slice none 0 0], errV a eMany]) (by simp [results, Tryz.results25, go_sem, *]) rfl ⟨(unhide HF2) _ _, (fun p' k' e => by cases e), fun _ _ => rfl, fun _ h => absurd h4 (by omega)⟩
    · obtain ⟨gc, gr, rfl, hgc, hgr, hnm, hrb⟩ := hgood rfl (by omega)
      have HNM := hide hnm
      have HRB := hide hrb
      have HES := hide hes
      clear hbad hmany hgood hnm hrb hes
      go_wp2
      refine bodyPost_ret (v := .tuple #[.agg #[.slice (some ⟨gc, 0, none⟩) es.length es.length, .slice (some ⟨gr, 0, none⟩) l.length l.length], .nilIface]) (by simp [results, Tryz.results25, go_sem, *]) rfl ⟨(unhide HF2) _ _, (fun p' k' e => by cases e), (fun _ h => absurd h h4), fun _ _ => ⟨gc, gr, es, unhide HES, rfl, by omega, by omega, ?_, ?_⟩⟩
      · rw [Below.heap_setCell _ _ _ _ (by show gc ≠ w.heap.size; omega), Below.heap_setCell _ _ _ _ (by show gc ≠ w.heap.size; omega)]
        exact unhide HNM
      · refine (unhide HRB).turn (x := w.heap.size) (by simp [World.setCell]) (fun k hk hne => ?_) (by omega) (two_slices (unhide HX2) (fun z e => by cases e) (fun z e => by cases e))
        rw [Below.heap_setCell _ _ _ _ hne, Below.heap_setCell _ _ _ _ hne]
/-- what a text is asked of one table, and what it gives. -/
structure AskdV (T : List Tb) (s : ByteArray) (X : QueryX) (fs : Fs) (N : Nat) (ch l : List (List Int)) : Prop where
  short : s.size ≤ 1000
  read : readP s = .ok X
  wt : X.wth = none
  win : ∀ i ∈ X.main.items, ∀ q, i.win = some q → WinB q
  its : 0 < X.main.items.length ∧ X.main.items.length ≤ 6
  srs : 0 < X.main.srcs.length ∧ X.main.srcs.length ≤ 3
  tss : X.main.tests.length ≤ 1000
  pn : PnW T X.main fs N ch l none
  few : N ≤ 4000
set_option maxRecDepth 100000 in
set_option maxHeartbeats 4000000 in
theorem asked_win (a : Nat → Addr) (B : Nat) (w : World) (hE : EnvX a B w) (t : Tb) (cv rv : Value) (hc : RowAt w cv (textsV t.cols)) (hcap : t.cols.length ≤ scap cv) (hr : RowsAt w rv t.rows) (h6 : p6all [t] = 0) (hc6 : t.cols.length ≤ 6) (h200 : t.rows.length ≤ 200) (hsh : ∀ r ∈ t.rows, r.length = t.cols.length)
    (s : ByteArray) (X : QueryX) (fs : Fs) (N : Nat) (ch l : List (List Int)) (hA : AskdV [t] s X fs N ch l) :
    Calls Tryz.prog 22 #[.agg #[.string t.name, cv, rv], .string s] w fun e w' => ∃ gr, e = .returned (.tuple #[.slice (some ⟨gr, 0, none⟩) l.length l.length, .bool true]) ∧ w.heap.size ≤ gr ∧ RowsB w' gr 32 l.length (sortL l) ∧ Below w.heap.size w w' := by
  have HE := hide hE
  have HC := hide hc
  have HR := hide hr
  have HCAP := hide hcap
  have HA := hide hA
  have HSH := hide hsh
  obtain ⟨adc, capc, rfl, mc, -⟩ := hc
  obtain ⟨vs, ⟨adr, capr, rfl, mr, -⟩, lr, -⟩ := hr
  rw [List.length_map] at HC HCAP ⊢
  rw [lr] at HR ⊢
  clear hE hcap hA hsh mc mr lr
  go_enter Tryz.func22, Tryz.ntmps22
  go_wp2_with fail
  have hb2 : Below w.heap.size w ((w.alloc (.cells #[.string t.name, .slice adc t.cols.length capc, .slice adr t.rows.length capr] 44)).alloc (.cells #[.string t.name, .slice adc t.cols.length capc, .slice adr t.rows.length capr] 44)) := ((Below.refl _ _).alloc (Nat.le_refl _) _).alloc (by simp) _
  have ht2 : ((w.alloc (.cells #[.string t.name, .slice adc t.cols.length capc, .slice adr t.rows.length capr] 44)).alloc (.cells #[.string t.name, .slice adc t.cols.length capc, .slice adr t.rows.length capr] 44)).heap[w.heap.size + 1]? = some (.cells #[.string t.name, .slice adc t.cols.length capc, .slice adr t.rows.length capr] 44 (0, 0)) := heap_last (by simp)
  generalize ((w.alloc (.cells #[.string t.name, .slice adc t.cols.length capc, .slice adr t.rows.length capr] 44)).alloc (.cells #[.string t.name, .slice adc t.cols.length capc, .slice adr t.rows.length capr] 44)) = W2 at *
  have HB2 := hide hb2
  have HE2 := hide ((unhide HE).keep (hb2.mono (unhide HE).env.size))
  have HT2 : Hid (TabsAt W2 (.slice (some ⟨w.heap.size + 1, 0, none⟩) 1 1) [t]) := tabs_one ht2 ((unhide HC).keep hb2) (unhide HCAP) ((unhide HR).keep hb2)
  have hzB := (unhide HE2).env.size
  clear hb2 ht2
  refine (pNew_fine (fun j => a (errG j)) _ [t] _ (by exact (unhide HE2).sents) (by exact unhide HT2) h6).mono ?_
  rintro e w3 ⟨q, m, g, F, D, rfl, htab, hF, hm0, hmq, hmap, hqb, hb3⟩
  have hA := unhide HA
  have HAS := hide (ask_firstW a B w3 ((unhide HE2).keep (hb3.mono hzB)) q m 0 (by omega) (by omega) (.map []) s hA.short X hA.read g 0 1 [t] 0 0 ⟨by omega, by omega⟩ (by omega) (by omega) hqb (map_empty hmap) rfl (fun _ => rfl) hA.wt hA.win hA.its.1 hA.its.2 hA.srs.1 hA.srs.2 hA.tss
    (fun W hW => htab.tabsAt (fun b o e => by obtain ⟨h1, h2, h3⟩ := hF b o e; exact (hW.block b (lt_size h3) (by omega) (by omega)).trans h3) (by simp [maxLen])) (fun u hu => by simp at hu; subst hu; exact hc6) (fun u hu => by simp at hu; subst hu; exact h200) (fun u hu => by simp at hu; subst hu; exact unhide HSH) fs N ch l none hA.pn)
  have HB3 : Hid (Below w.heap.size w w3) := (unhide HB2).trans (hb3.mono (unhide HB2).size)
  have hzw : w.heap.size ≤ W2.heap.size := (unhide HB2).size
  have hz3 := hb3.size
  have hfew := hA.few
  clear htab hF hmap hqb hb3 hA
  go_wp2_with fail
  refine (unhide HAS).mono ?_
  rintro e w4 ⟨hoff, -, -, hgood⟩
  obtain ⟨gc, gr, es, hes, rfl, hgc, hgr, hnm, hrb⟩ := hgood rfl hfew
  have HRB := hide hrb
  have HB4 : Hid (Below w.heap.size w w4) := (unhide HB3).trans (hoff.below (by omega) (by omega) (by omega))
  clear hgood hnm hrb hoff HAS hes
  have hnw : (w4.alloc (.cells #[.slice (some ⟨gc, 0, none⟩) es.length es.length, .slice (some ⟨gr, 0, none⟩) l.length l.length] 68)).heap[w4.heap.size]? = some (.cells #[.slice (some ⟨gc, 0, none⟩) es.length es.length, .slice (some ⟨gr, 0, none⟩) l.length l.length] 68 (0, 0)) := heap_last rfl
  have kn : (w4.alloc (.cells #[.slice (some ⟨gc, 0, none⟩) es.length es.length, .slice (some ⟨gr, 0, none⟩) l.length l.length] 68)).cell? ⟨w4.heap.size, 1, none⟩ = some (.slice (some ⟨gr, 0, none⟩) l.length l.length) := (blk hnw).1 1
  clear hnw
  go_wp2_with fail
  go_region_held3 (fun w' => w'.cell? ⟨w4.heap.size, 1, none⟩ = some (.slice (some ⟨gr, 0, none⟩) l.length l.length)) (go_keep) (first | fail)
  all_goals go_wp2
  all_goals go_ret2
  all_goals refine ⟨gr, rfl, by omega, ?_, ((unhide HB4).alloc (unhide HB4).size _).drew⟩
  all_goals exact (unhide HRB).turn (x := w4.heap.size) (by simp) (fun k hk _ => Below.heap_alloc _ _ _ hk) (by obtain ⟨cur, h9, -⟩ := unhide HRB; have := lt_of_heap h9; omega) (fun o z e => by have := World.block_lt_of_cell? w4 _ e; simp at this)
end Go.Proofs.YtfkeddkfegaeiaaGreatDoor
namespace Go.Proofs.YtfkeddkfegaeiaaGreatDoor
def spr (l : List (List UInt8 × Tk)) : List UInt8 := l.flatMap fun x => x.1 ++ x.2.text.data.toList
theorem spr_cons (x : List UInt8 × Tk) (r : List (List UInt8 × Tk)) : spr (x :: r) = x.1 ++ (x.2.text.data.toList ++ spr r) := by simp [spr]
def FitT : List (List UInt8 × Tk) → Prop
  | [] => True
  | [_] => True
  | x :: y :: r => (y.1 = [] → okNext x.2.text.data.toList (y.2.text.data.toList.headD 0) = true) ∧ FitT (y :: r)
def Blank (l : List UInt8) : Prop := ∀ c, c ∈ l → blankI c.toNat = true
set_option maxRecDepth 100000 in
theorem letter_blank (c : UInt8) : (!(letterI c.toNat && blankI c.toNat)) = true := byte_all (fun c => !(letterI c.toNat && blankI c.toNat)) (by decide) c
set_option maxRecDepth 100000 in
theorem digit_blank (c : UInt8) : (!(digitI c.toNat && blankI c.toNat)) = true := byte_all (fun c => !(digitI c.toNat && blankI c.toNat)) (by decide) c
/-- blanks, and what is tight ahead. -/
def softB (c : UInt8) : Bool := blankI c.toNat || c == 41 || c == 44 || c == 46
set_option maxRecDepth 100000 in
theorem soft_letter (c : UInt8) : (!softB c || !letterI c.toNat) = true := byte_all (fun c => !softB c || !letterI c.toNat) (by decide) c
set_option maxRecDepth 100000 in
theorem soft_digit (c : UInt8) : (!softB c || !digitI c.toNat) = true := byte_all (fun c => !softB c || !digitI c.toNat) (by decide) c
set_option maxRecDepth 100000 in
theorem soft_sign (c : UInt8) : (!softB c || signL.all fun l => okNext l c) = true := byte_all (fun c => !softB c || signL.all fun l => okNext l c) (by decide) c
theorem IsTok.ne {t : Tk} (h : IsTok t) : t.text.data.toList ≠ [] := by
  rcases h with ⟨h1, _, _, _, _⟩ | ⟨h1, _, _, _, _, _⟩ | ⟨h1, _, _, _⟩ | ⟨h1, _, _⟩
  · exact h1
  · exact h1
  · exact h1
  · intro e; rw [e] at h1; revert h1; decide
theorem ok_soft {t : Tk} (h : IsTok t) {c : UInt8} (hc : softB c = true) : okNext t.text.data.toList c = true := by
  have hl := soft_letter c
  have hd := soft_digit c
  have hs := soft_sign c
  rw [hc] at hl hd hs
  simp only [Bool.not_true, Bool.false_or] at hl hd hs
  rcases h with ⟨h1, h2, _, _, _⟩ | ⟨h1, h2, _, _, _, _⟩ | ⟨h1, h2, _, _⟩ | ⟨h1, _, _⟩
  · unfold okNext; rw [if_pos (h2 _ (head_mem h1))]; exact hl
  · unfold okNext; rw [if_pos (h2 _ (head_mem h1))]; exact hl
  · have h4 := h2 _ (head_mem h1)
    have hn : ¬ letterI (t.text.data.toList.headD 0).toNat = true := fun e => by have := letter_digit (t.text.data.toList.headD 0); rw [e, h4] at this; cases this
    unfold okNext; rw [if_neg hn, if_pos h4]; exact hd
  · exact List.all_eq_true.1 hs _ h1
theorem sign_blank : ∀ l, l ∈ signL → blankI (l.headD 0).toNat = false := by decide
theorem tok_nb {t : Tk} (h : IsTok t) : blankI (t.text.data.toList.headD 0).toNat = false := by
  rcases h with ⟨h1, h2, _, _, _⟩ | ⟨h1, h2, _, _, _, _⟩ | ⟨h1, h2, _, _⟩ | ⟨h1, _, _⟩
  · have := letter_blank (t.text.data.toList.headD 0); rw [h2 _ (head_mem h1)] at this; simpa using this
  · have := letter_blank (t.text.data.toList.headD 0); rw [h2 _ (head_mem h1)] at this; simpa using this
  · have := digit_blank (t.text.data.toList.headD 0); rw [h2 _ (head_mem h1)] at this; simpa using this
  · exact sign_blank _ h1
theorem rest_list (s : ByteArray) (a : Nat) : (s.extract a s.size).data.toList = s.data.toList.drop a := by
  simp only [ByteArray.data_extract, Array.toList_extract, List.extract_eq_take_drop]
  exact List.take_of_length_le (by rw [List.length_drop, sizeL]; exact Nat.le_refl _)
theorem drop_pre {s : ByteArray} {pre b : List UInt8} (h : s.data.toList = pre ++ b) : (s.extract pre.length s.size).data.toList = b := by
  rw [rest_list, h, List.drop_left]
theorem size_list (s : ByteArray) {l : List UInt8} (h : s.data.toList = l) : s.size = l.length := by rw [← sizeL, h]
end Go.Proofs.YtfkeddkfegaeiaaGreatDoor
namespace Go.Proofs.YtfkeddkfegaeiaaGreatDoor
open Go.RowKit
theorem byteS (w : World) (b : Nat) (c : UInt8) (n : Int) (hn : n = c.toNat) (hc : w.cell? ⟨b, 0, none⟩ = some (.int .u8 n)) : (convert 89 9 (.slice (some ⟨b, 0, none⟩) 1 1)).run Tryz.prog w = .ok (.string ⟨#[c]⟩) w := by
  subst hn
  refine Lib.run_convert_whole (P := Tryz.prog) w 89 5 9 Tryz.underlying89 Tryz.underlying5 Tryz.underlying9 b 0 ⟨#[c]⟩ (fun i hi => ?_) 1
  have e : i = 0 := by have : i < 1 := hi; omega
  subst e
  exact hc
/-- a number below 1000, as digits. -/
def dig (n : Nat) : List UInt8 := if n < 10 then [UInt8.ofNat (48 + n)] else if n < 100 then [UInt8.ofNat (48 + n / 10), UInt8.ofNat (48 + n % 10)] else [UInt8.ofNat (48 + n / 100), UInt8.ofNat (48 + n / 10 % 10), UInt8.ofNat (48 + n % 10)]
theorem dig_one {n : Nat} (h : n < 10) : dig n = [UInt8.ofNat (48 + n)] := by unfold dig; rw [if_pos h]
theorem dig_more {n : Nat} (h : 10 ≤ n) (h2 : n < 1000) : dig n = dig (n / 10) ++ [UInt8.ofNat (48 + n % 10)] := by
  unfold dig
  rw [if_neg (by omega)]
  by_cases h3 : n < 100
  · rw [if_pos h3, if_pos (by omega)]; rfl
  · rw [if_neg h3, if_neg (by omega), if_pos (by omega), Nat.div_div_eq_div_mul]; rfl
theorem u8_of {n : Nat} (h : n < 10) : ((UInt8.ofNat (48 + n)).toNat : Int) = 48 + (n : Int) := by
  rw [UInt8.toNat_ofNat', Nat.mod_eq_of_lt (by omega)]; omega
set_option maxRecDepth 100000 in
set_option maxHeartbeats 1000000 in
theorem digits_one (n : Nat) (h : n < 10) (w : World) : Calls Tryz.prog 32 #[.int .i64 (n : Nat)] w fun e w' => e = .returned (.string ⟨(dig n).toArray⟩) ∧ Below w.heap.size w w' := by
  have hd : decide ((n : Int) < 10) = true := by simp; omega
  rw [dig_one h]
  have hu := (u8_of h).symm
  generalize UInt8.ofNat (48 + n) = c at *
  have hcv := byteS (w.alloc (.cells #[.int .u8 (48 + (n : Int))] 5)) w.heap.size c (48 + (n : Int)) hu (by simp)
  have hw : IntKind.u8.wrap (48 + (n : Int)) = 48 + (n : Int) := by unfold IntKind.wrap; simp [IntKind.bits, IntKind.signed]; omega
  clear hu
  go_enter Tryz.func32, Tryz.ntmps32
  go_wp2
  go_ret
  exact ⟨rfl, (Below.refl _ _).alloc (Nat.le_refl _) _⟩
set_option maxRecDepth 100000 in
set_option maxHeartbeats 1000000 in
theorem digits_step (n m : Nat) (h1 : 10 ≤ n) (h2 : n < 1000) (hm : n / 10 = m) (w : World) (IH : ∀ w, Calls Tryz.prog 32 #[.int .i64 (m : Nat)] w fun e w' => e = .returned (.string ⟨(dig m).toArray⟩) ∧ Below w.heap.size w w') : Calls Tryz.prog 32 #[.int .i64 (n : Nat)] w fun e w' => e = .returned (.string ⟨(dig n).toArray⟩) ∧ Below w.heap.size w w' := by
  have hd : decide ((n : Int) < 10) = false := by simp; omega
  have hq : (n : Int) / 10 = (m : Nat) := by omega
  have hr : (n : Int) % 10 = ((n % 10 : Nat) : Int) := by omega
  have hq2 : (n : Int).tdiv 10 = (m : Nat) := by rw [Int.tdiv_eq_ediv_of_nonneg (by omega)]; exact hq
  have hr2 : (n : Int).tmod 10 = ((n % 10 : Nat) : Int) := by rw [Int.tmod_eq_emod_of_nonneg (by omega)]; exact hr
  rw [dig_more h1 h2, hm]
  have h3 : n % 10 < 10 := Nat.mod_lt _ (by omega)
  generalize n % 10 = k at *
  have hu := (u8_of h3).symm
  generalize UInt8.ofNat (48 + k) = c at *
  have hcv : ∀ (W : World) (b : Nat), W.cell? ⟨b, 0, none⟩ = some (.int .u8 (48 + (k : Int))) → Sem.run Tryz.prog (convert 89 9 (.slice (some ⟨b, 0, none⟩) 1 1)) W = .ok (.string ⟨#[c]⟩) W := fun W b hc => byteS W b c (48 + (k : Int)) hu hc
  have hw : IntKind.u8.wrap (48 + (k : Int)) = 48 + (k : Int) := by unfold IntKind.wrap; simp [IntKind.bits, IntKind.signed]; omega
  have hwk : IntKind.i64.wrap (48 + (k : Int)) = 48 + (k : Int) := by unfold IntKind.wrap; simp [IntKind.bits, IntKind.signed]; omega
  have hwm : IntKind.i64.wrap (m : Int) = (m : Int) := by unfold IntKind.wrap; simp [IntKind.bits, IntKind.signed]; omega
  have HI := hide IH
  clear hu IH
  have HR : Hid ((⟨(dig m ++ [c]).toArray⟩ : ByteArray) = ⟨(dig m).toArray⟩ ++ ⟨#[c]⟩) := by
    unfold Hid
    apply Go.WideShapes.bytes_inj
    simp
  have hsz : (⟨(dig m).toArray⟩ : ByteArray).size ≤ 3 := by show (dig m).toArray.size ≤ 3; rw [List.size_toArray]; unfold dig; split <;> (try split) <;> simp
  rw [unhide HR]
  clear HR
  generalize (⟨(dig m).toArray⟩ : ByteArray) = L at *
  go_enter Tryz.func32, Tryz.ntmps32
  go_wp2_with fail
  go_region_with (first | (go_at_call 32; refine ((unhide HI) _).mono ?_; rintro e w2 ⟨rfl, hb⟩; have kx := fun (b o : Nat) (h : b < _) => hb.cell (p := ⟨b, o, none⟩) h; have HB := hide hb; clear hb))
  all_goals go_wp2
  all_goals go_ret
  all_goals refine ⟨rfl, ?_⟩
  all_goals first
    | exact (((Below.refl w.heap.size w).drew).trans (unhide HB)).alloc (unhide HB).size _
    | exact (((Below.refl w.heap.size w).drew).alloc (Nat.le_refl _) _).trans ((unhide HB).mono (by simp))
theorem digits_any (n : Nat) (h : n < 1000) (w : World) : Calls Tryz.prog 32 #[.int .i64 (n : Nat)] w fun e w' => e = .returned (.string ⟨(dig n).toArray⟩) ∧ Below w.heap.size w w' := by
  by_cases h1 : n < 10
  · exact digits_one n h1 w
  · refine digits_step n (n / 10) (by omega) h rfl w (fun w => ?_)
    by_cases h2 : n / 10 < 10
    · exact digits_one _ h2 w
    · exact digits_step (n / 10) (n / 10 / 10) (by omega) (by omega) rfl w (fun w => digits_one _ (by omega) w)
def pickI (c n : Int) : Int := (if c < 0 then -(c + 1) else c) % n
set_option maxRecDepth 100000 in
set_option maxHeartbeats 1000000 in
theorem pick_any (c n : Int) (h0 : -9223372036854775808 ≤ c) (h1 : c < 9223372036854775808) (hn : 0 < n) (hn2 : n < 9223372036854775808) (w : World) : Calls Tryz.prog 31 #[.int .i64 c, .int .i64 n] w fun e w' => e = .returned (.int .i64 (pickI c n)) ∧ w' = w := by
  have hz : ¬ n = 0 := by omega
  by_cases hc : c < 0
  · have hd : decide (c < 0) = true := by simp; omega
    have e1 : wrap64 (-wrap64 (c + 1)) = -(c + 1) := by unfold wrap64; omega
    have e2 : (-(c + 1)).tmod n = pickI c n := by unfold pickI; rw [if_pos hc, Int.tmod_eq_emod_of_nonneg (by omega)]
    have e3 : wrap64 (pickI c n) = pickI c n := by
      have := Int.emod_nonneg (-(c + 1)) hz
      have := Int.emod_lt_of_pos (-(c + 1)) hn
      unfold pickI; rw [if_pos hc]; unfold wrap64; omega
    go_enter Tryz.func31, Tryz.ntmps31
    go_wp2_with fail
    go_ret
    exact ⟨rfl, rfl⟩
  · have hd : decide (c < 0) = false := by simp; omega
    have e2 : c.tmod n = pickI c n := by unfold pickI; rw [if_neg hc, Int.tmod_eq_emod_of_nonneg (by omega)]
    have e3 : wrap64 (pickI c n) = pickI c n := by
      have := Int.emod_nonneg c hz
      have := Int.emod_lt_of_pos c hn
      unfold pickI; rw [if_neg hc]; unfold wrap64; omega
    go_enter Tryz.func31, Tryz.ntmps31
    go_wp2_with fail
    go_ret
    exact ⟨rfl, rfl⟩
end Go.Proofs.YtfkeddkfegaeiaaGreatDoor
namespace Go.Proofs.YtfkeddkfegaeiaaGreatDoor
open Go.RowKit
def InR (x : Int) : Prop := -9223372036854775808 ≤ x ∧ x < 9223372036854775808
abbrev tkW (l : List UInt8) : Tk := ⟨0, 1, ⟨l.toArray⟩, 0⟩
abbrev tkM (l : List UInt8) : Tk := ⟨0, 2, ⟨l.toArray⟩, 0⟩
abbrev tkD (n : Nat) : Tk := ⟨0, 3, ⟨(dig n).toArray⟩, n⟩
inductive Bex where
  | num (v : Fin 1000)
  | cola
  | colb
  | neg (e : Bex)
  | mul (e f : Bex)
  | sub (e f : Bex)
  | add (e f : Bex)
def Bex.val (A B : Int) : Bex → Int
  | .num v => v.1
  | .cola => A
  | .colb => B
  | .neg e => wrap64 (-(e.val A B))
  | .mul e f => wrap64 (e.val A B * f.val A B)
  | .sub e f => wrap64 (e.val A B - f.val A B)
  | .add e f => wrap64 (e.val A B + f.val A B)
section
variable (at' : ByteArray → ByteArray → Int) (T : List Tb) (ss : List Sr) (r : List Int)
end
section
variable {at' : ByteArray → ByteArray → Int} {T : List Tb} {ss : List Sr} {r : List Int}
end
end Go.Proofs.YtfkeddkfegaeiaaGreatDoor
namespace Go.Proofs.YtfkeddkfegaeiaaGreatDoor
open Go.RowKit
def strip3 (t : Tk) : Nat × ByteArray × Int := (t.kind, t.text, t.value)
theorem scan_spr3 (s : ByteArray) : ∀ (l : List (List UInt8 × Tk)) (pre : List UInt8) (f : Nat), s.data.toList = pre ++ spr l → (∀ x, x ∈ l → Blank x.1 ∧ IsTok x.2) → FitT l → s.size < f + pre.length →
    ∃ us, scanFrom s f pre.length = .ok (us ++ [tkEnd s.size]) ∧ us.map strip3 = l.map fun x => strip3 x.2
  | [], pre, f, hs, _, _, hf => by
    have hz := size_list s hs
    simp only [spr, List.flatMap_nil, List.append_nil] at hz
    match f, hf with
    | 0, hf => omega
    | f + 1, _ =>
      refine ⟨[], ?_, rfl⟩
      unfold scanFrom
      have hd := drop_pre hs
      rw [hd]
      simp only [spr, List.flatMap_nil]
      rw [show lead blankI [] = 0 from rfl, Nat.add_zero, if_pos hz.symm, hz]
      rfl
  | x :: r, pre, f, hs, hx, hF, hf => by
    obtain ⟨hb, ht⟩ := hx x List.mem_cons_self
    rw [spr_cons] at hs
    have hz := size_list s hs
    simp only [List.length_append] at hz
    have htl : 0 < x.2.text.data.toList.length := List.length_pos_iff.2 ht.ne
    match f, hf with
    | 0, hf => omega
    | f + 1, hf =>
      have hlead : lead blankI (x.1 ++ (x.2.text.data.toList ++ spr r)) = x.1.length := by
        refine lead_app hb (fun c r' e => ?_)
        have := tok_nb ht
        rw [← head_app (tail := spr r) ht.ne, e] at this
        exact this
      have hs2 : s.data.toList = (pre ++ x.1) ++ (x.2.text.data.toList ++ spr r) := by rw [hs]; simp
      have hr := rescan (s := s) (j := pre.length + x.1.length) (t := x.2) (tail := spr r) ht (by rw [← List.length_append]; exact drop_pre hs2) (fun c r' e => by
        match r, hF, e, hx with
        | [], _, e, _ => cases e
        | y :: r2, hF, e, hx =>
          obtain ⟨hb2, ht2⟩ := hx y (List.mem_cons_of_mem _ List.mem_cons_self)
          rw [spr_cons] at e
          cases hy : y.1 with
          | nil =>
            rw [hy, List.nil_append] at e
            have h1 := hF.1 hy
            rw [← head_app (tail := spr r2) ht2.ne, e] at h1
            exact h1
          | cons d q =>
            rw [hy, List.cons_append] at e
            have hdc : d = c := by injection e
            subst hdc
            refine ok_soft ht ?_
            unfold softB
            rw [hb2 d (by rw [hy]; exact List.mem_cons_self)]
            rfl)
      have hs3 : s.data.toList = (pre ++ x.1 ++ x.2.text.data.toList) ++ spr r := by rw [hs]; simp
      have hF2 : FitT r := by
        cases r with
        | nil => trivial
        | cons y r2 => exact hF.2
      have hlen : (pre ++ x.1 ++ x.2.text.data.toList).length = pre.length + x.1.length + x.2.text.size := by simp only [List.length_append]; rw [← sizeL x.2.text]
      obtain ⟨us, h1, h2⟩ := scan_spr3 s r (pre ++ x.1 ++ x.2.text.data.toList) f hs3 (fun y hy => hx y (List.mem_cons_of_mem _ hy)) hF2 (by rw [hlen, ← sizeL x.2.text]; omega)
      refine ⟨⟨pre.length + x.1.length, x.2.kind, x.2.text, x.2.value⟩ :: us, ?_, ?_⟩
      · unfold scanFrom
        rw [drop_pre hs, hlead]
        simp only
        rw [if_neg (by omega), hr]
        simp only
        rw [hlen] at h1
        rw [h1]
        rfl
      · simp only [List.map_cons, h2]
        rfl
theorem gap_no {p : Prop} {c : UInt8} {l : List UInt8} (h : c :: l = []) : p := by cases h
theorem fit_app : ∀ {l : List (List UInt8 × Tk)} {y : List UInt8 × Tk} {m : List (List UInt8 × Tk)}, FitT l → FitT (y :: m) → (∀ x ∈ l, y.1 = [] → okNext x.2.text.data.toList (y.2.text.data.toList.headD 0) = true) → FitT (l ++ y :: m)
  | [], _, _, _, h, _ => h
  | [x], _, _, _, h, k => ⟨k x List.mem_cons_self, h⟩
  | _ :: x :: l, _, _, g, h, k => ⟨g.1, fit_app (l := x :: l) g.2 h (fun z hz => k z (List.mem_cons_of_mem _ hz))⟩
set_option maxRecDepth 100000 in
theorem dig_all : ((List.range 1000).all fun n => (dig n).all (fun c => digitI c.toNat) && (numOf (dig n) == some (n : Int)) && !(dig n).isEmpty) = true := by kernel_rfl
theorem tok_dig {n : Nat} (h : n < 1000) : IsTok (tkD n) := by
  have := List.all_eq_true.1 dig_all n (List.mem_range.2 h)
  simp only [Bool.and_eq_true, List.all_eq_true, beq_iff_eq, Bool.not_eq_true', List.isEmpty_eq_false_iff] at this
  exact .num this.2 this.1.1 this.1.2 rfl
theorem blank_nil : Blank [] := fun c h => by cases h
theorem blank_32 {l : List UInt8} (h : Blank l) : Blank (32 :: l) := fun c hc => by
  rcases List.mem_cons.1 hc with rfl | hc
  · rfl
  · exact h c hc
abbrev TokL (l : List (List UInt8 × Tk)) : Prop := ∀ x ∈ l, Blank x.1 ∧ IsTok x.2
theorem tokL_cons {x : List UInt8 × Tk} {l : List (List UInt8 × Tk)} (h1 : Blank x.1) (h2 : IsTok x.2) (h : TokL l) : TokL (x :: l) := fun y hy => by
  rcases List.mem_cons.1 hy with rfl | hy
  · exact ⟨h1, h2⟩
  · exact h y hy
theorem tokL_app {l m : List (List UInt8 × Tk)} (h : TokL l) (k : TokL m) : TokL (l ++ m) := fun y hy => (List.mem_append.1 hy).elim (h y) (k y)
theorem b_32 : Blank [32] := blank_32 blank_nil
end Go.Proofs.YtfkeddkfegaeiaaGreatDoor
