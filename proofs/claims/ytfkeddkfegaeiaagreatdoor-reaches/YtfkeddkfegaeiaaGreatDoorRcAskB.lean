/-
  Part 48.
-/
import Derived.Test.YtfkeddkfegaeiaaGreatDoorRcRdgA
import Derived.Test.YtfkeddkfegaeiaaGreatDoorRcGrP
import Derived.Test.YtfkeddkfegaeiaaGreatDoorRcRkC
import Derived.Test.YtfkeddkfegaeiaaGreatDoorRcTel
import Derived.Test.YtfkeddkfegaeiaaGreatDoorRcPlBg
import Derived.Test.YtfkeddkfegaeiaaGreatDoorRcPlCg
namespace Go.Proofs.YtfkeddkfegaeiaaGreatDoor
open Go.RowKit Go.MuLone Go.Maps Go.WideMaps
set_option maxRecDepth 100000 in
set_option maxHeartbeats 1000000 in
theorem pNew_fine (a : Nat → Addr) (lv : Value) (l : List Tb) (w : World) (hS : Sents a w) (hl : TabsAt w lv l) (h6 : p6all l = 0) :
    Calls Tryz.prog 35 #[lv] w fun e w' => ∃ q m g F D, e = .returned (.tuple #[.pointer (some ⟨q, 0, none⟩), .nilIface]) ∧ Tabs F g l D ∧ (∀ b o, F b = some o → w.heap.size ≤ b ∧ b < m ∧ w'.heap[b]? = some o) ∧ w.heap.size ≤ m ∧ m < q ∧ w'.heap[m]? = some (.map #[] 0) ∧ w'.heap[q]? = some (.cells (qCells (.slice (some ⟨g, 0, none⟩) l.length l.length) 0 0 m 0) 140 (0, 0)) ∧ Below w.heap.size w w' := by
  have HS := hide hS
  have HL := hide hl
  clear hS hl
  have HE : Hid (errOf a (p6all l) = .nilIface) := by unfold Hid errOf; rw [if_pos h6]
  go_enter Tryz.func35, Tryz.ntmps35
  go_wp2_with fail
  refine (check_any a lv l _ (by exact unhide HS) (by exact unhide HL)).mono ?_
  rintro e w1 ⟨rfl, hb1⟩
  rw [unhide HE]
  have HB := hide hb1
  clear hb1
  go_wp2_with fail
  refine (copied_any lv l _ (by exact (unhide HL).keep (unhide HB)) h6).mono ?_
  rintro e w2 ⟨g, F, D, rfl, ht, hF, hb2⟩
  have HT := hide ht
  have HF := hide hF
  have HB2 := hide hb2
  clear ht hF hb2
  have hmm := @run_makeMap Tryz.prog
  go_wp2
  have hz1 := (unhide HB).size
  have hz2 := (unhide HB2).size
  refine bodyPost_ret (v := .tuple #[.pointer (some ⟨w2.heap.size + 1, 0, none⟩), .nilIface]) (by simp [results, Tryz.results35, go_sem]) rfl ⟨w2.heap.size + 1, w2.heap.size, g, F, D, rfl, unhide HT, fun b o e => ?_, by omega, by omega, ?_, ?_, ?_⟩
  · obtain ⟨h1, h2⟩ := (unhide HF) b o e
    exact ⟨by omega, lt_size h2, heap_prev (heap_prev h2)⟩
  · exact heap_prev (heap_last rfl)
  · exact heap_last (by simp)
  · exact (((unhide HB).trans ((unhide HB2).mono (by omega))).alloc (by omega) _).alloc (by simp; omega) _
theorem map_empty {w : World} {m : Nat} (h : w.heap[m]? = some (.map #[] 0)) : w.ownsMap Tryz.prog 9 RvM m 0 (.map []) := by
  obtain ⟨es, clock, h1, h2, h3, h4⟩ := World.ownsMap_made w Tryz.prog 9 RvM
  rw [World.alloc_heap_new] at h1
  injection h1 with h1
  injection h1 with h1 h5
  subst h1 h5
  exact ⟨#[], 0, h, h2, h3, h4⟩
theorem tabs_one {W : World} {b : Nat} {t : Tb} {cv rv : Value} (hb : W.heap[b]? = some (.cells #[.string t.name, cv, rv] 44 (0, 0))) (hc : RowAt W cv (textsV t.cols)) (hcap : t.cols.length ≤ scap cv) (hr : RowsAt W rv t.rows) : TabsAt W (.slice (some ⟨b, 0, none⟩) 1 1) [t] := by
  refine ⟨_, _, rfl, by simp [maxLen], Nat.le_refl _, fun _ => ⟨b, 0, rfl, lt_of_heap hb, fun j t' e => ?_⟩⟩
  match j, e with
  | 0, e =>
    simp at e
    subst e
    exact ⟨cv, rv, ⟨cv, rv, rfl, hc, hcap, hr⟩, (blk hb).1 0, (blk hb).1 1, (blk hb).1 2⟩
  | j + 1, e => simp at e
end Go.Proofs.YtfkeddkfegaeiaaGreatDoor
namespace Go.Proofs.YtfkeddkfegaeiaaGreatDoor
open Go.RowKit Go.MuLone Go.Maps Go.WideMaps
/-- what a text with 'with' is asked of one table, and what it gives. -/
structure AskdW (t : Tb) (s : ByteArray) (X : QueryX) (x : WithX) (res : Option Rws') : Prop where
  short : s.size ≤ 1000
  read : readP s = .ok X
  wt : X.wth = some x
  fine : WithFine [t] x
  main : SelFine ([t] ++ [newT x]) X.main
  res : res = wholeR [t] x X.main
set_option maxRecDepth 100000 in
set_option maxHeartbeats 4000000 in
theorem asked_with (a : Nat → Addr) (B : Nat) (w : World) (hE : EnvX a B w) (t : Tb) (cv rv : Value) (hc : RowAt w cv (textsV t.cols)) (hcap : t.cols.length ≤ scap cv) (hr : RowsAt w rv t.rows) (h6 : p6all [t] = 0) (hc6 : t.cols.length ≤ 6) (h200 : t.rows.length ≤ 200) (hsh : ∀ r ∈ t.rows, r.length = t.cols.length)
    (s : ByteArray) (X : QueryX) (x : WithX) (l : Rws') (hA : AskdW t s X x (some l)) :
    Calls Tryz.prog 22 #[.agg #[.string t.name, cv, rv], .string s] w fun e w' => ∃ gr, e = .returned (.tuple #[.slice (some ⟨gr, 0, none⟩) l.length l.length, .bool true]) ∧ w.heap.size ≤ gr ∧ RowsB w' gr 32 l.length (sortL l) ∧ Below w.heap.size w w' := by
  have HE := hide hE
  have HC := hide hc
  have HR := hide hr
  have HCAP := hide hcap
  have HA := hide hA
  have HSH := hide hsh
  obtain ⟨adc, capc, rfl, mc, -⟩ := hc
  obtain ⟨vs, ⟨adr, capr, rfl, mr, -⟩, lr, -⟩ := hr
  rw [List.length_map] at HC HCAP ⊢
  rw [lr] at HR ⊢
  clear hE hcap hA hsh mc mr lr
  go_enter Tryz.func22, Tryz.ntmps22
  go_wp2_with fail
  have hb2 : Below w.heap.size w ((w.alloc (.cells #[.string t.name, .slice adc t.cols.length capc, .slice adr t.rows.length capr] 44)).alloc (.cells #[.string t.name, .slice adc t.cols.length capc, .slice adr t.rows.length capr] 44)) := ((Below.refl _ _).alloc (Nat.le_refl _) _).alloc (by simp) _
  have ht2 : ((w.alloc (.cells #[.string t.name, .slice adc t.cols.length capc, .slice adr t.rows.length capr] 44)).alloc (.cells #[.string t.name, .slice adc t.cols.length capc, .slice adr t.rows.length capr] 44)).heap[w.heap.size + 1]? = some (.cells #[.string t.name, .slice adc t.cols.length capc, .slice adr t.rows.length capr] 44 (0, 0)) := heap_last (by simp)
  generalize ((w.alloc (.cells #[.string t.name, .slice adc t.cols.length capc, .slice adr t.rows.length capr] 44)).alloc (.cells #[.string t.name, .slice adc t.cols.length capc, .slice adr t.rows.length capr] 44)) = W2 at *
  have HB2 := hide hb2
  have HE2 := hide ((unhide HE).keep (hb2.mono (unhide HE).env.size))
  have HT2 : Hid (TabsAt W2 (.slice (some ⟨w.heap.size + 1, 0, none⟩) 1 1) [t]) := tabs_one ht2 ((unhide HC).keep hb2) (unhide HCAP) ((unhide HR).keep hb2)
  have hzB := (unhide HE2).env.size
  clear hb2 ht2
  refine (pNew_fine (fun j => a (errG j)) _ [t] _ (by exact (unhide HE2).sents) (by exact unhide HT2) h6).mono ?_
  rintro e w3 ⟨q, m, g, F, D, rfl, htab, hF, hm0, hmq, hmap, hqb, hb3⟩
  have hA := unhide HA
  have HAS := hide (ask_with a B w3 ((unhide HE2).keep (hb3.mono hzB)) q m 0 (by omega) (by omega) (.map []) s hA.short X hA.read g 0 1 [t] 0 0 ⟨by omega, by omega⟩ (by omega) (by omega) hqb (map_empty hmap) rfl (fun _ => rfl) x hA.wt
    (fun W hW => htab.tabsAt (fun b o e => by obtain ⟨h1, h2, h3⟩ := hF b o e; exact (hW.block b (lt_size h3) (by omega) (by omega)).trans h3) (by simp [maxLen])) (by simp) (by simp) (fun u hu => by simp at hu; subst hu; exact hc6) (fun u hu => by simp at hu; subst hu; exact h200) (fun u hu => by simp at hu; subst hu; exact unhide HSH) hA.fine hA.main)
  rw [← hA.res] at HAS
  have HB3 : Hid (Below w.heap.size w w3) := (unhide HB2).trans (hb3.mono (unhide HB2).size)
  have hzw : w.heap.size ≤ W2.heap.size := (unhide HB2).size
  have hz3 := hb3.size
  clear htab hF hmap hqb hb3 hA
  go_wp2_with fail
  refine (unhide HAS).mono ?_
  rintro e w4 ⟨hoff, -, hgood⟩
  obtain ⟨gc, gr, es, hes, rfl, hgc, hgr, hnm, hrb⟩ := hgood l rfl
  have HRB := hide hrb
  have HB4 : Hid (Below w.heap.size w w4) := (unhide HB3).trans (hoff.below (by omega) (by omega) (by omega))
  clear hgood hnm hrb hoff HAS hes
  have hnw : (w4.alloc (.cells #[.slice (some ⟨gc, 0, none⟩) es.length es.length, .slice (some ⟨gr, 0, none⟩) l.length l.length] 68)).heap[w4.heap.size]? = some (.cells #[.slice (some ⟨gc, 0, none⟩) es.length es.length, .slice (some ⟨gr, 0, none⟩) l.length l.length] 68 (0, 0)) := heap_last rfl
  have kn : (w4.alloc (.cells #[.slice (some ⟨gc, 0, none⟩) es.length es.length, .slice (some ⟨gr, 0, none⟩) l.length l.length] 68)).cell? ⟨w4.heap.size, 1, none⟩ = some (.slice (some ⟨gr, 0, none⟩) l.length l.length) := (blk hnw).1 1
  clear hnw
  go_wp2_with fail
  go_region_held3 (fun w' => w'.cell? ⟨w4.heap.size, 1, none⟩ = some (.slice (some ⟨gr, 0, none⟩) l.length l.length)) (go_keep) (first | fail)
  all_goals go_wp2
  all_goals go_ret2
  all_goals refine ⟨gr, rfl, by omega, ?_, ((unhide HB4).alloc (unhide HB4).size _).drew⟩
  all_goals exact (unhide HRB).turn (x := w4.heap.size) (by simp) (fun k hk _ => Below.heap_alloc _ _ _ hk) (by obtain ⟨cur, h9, -⟩ := unhide HRB; have := lt_of_heap h9; omega) (fun o z e => by have := World.block_lt_of_cell? w4 _ e; simp at this)
end Go.Proofs.YtfkeddkfegaeiaaGreatDoor
namespace Go.Proofs.YtfkeddkfegaeiaaGreatDoor
open Go.RowKit
theorem pickI_lt (c n : Int) (hn : 0 < n) : 0 ≤ pickI c n ∧ pickI c n < n := by
  unfold pickI
  exact ⟨Int.emod_nonneg _ (by omega), Int.emod_lt_of_pos _ hn⟩
end Go.Proofs.YtfkeddkfegaeiaaGreatDoor
namespace Go.Proofs.YtfkeddkfegaeiaaGreatDoor
open Go.RowKit
/-- rows of two small numbers. -/
def Sm (n : Int) (rows : List (List Int)) : Prop := ∀ r ∈ rows, ∃ a b, r = [a, b] ∧ 0 ≤ a ∧ a < n ∧ 0 ≤ b ∧ b < n
theorem Sm.first {n : Int} {rows : List (List Int)} (h : Sm n rows) {r : List Int} (hr : r ∈ rows) : 0 ≤ r.getD 0 0 ∧ r.getD 0 0 < n := by
  obtain ⟨a, b, rfl, h1, h2, -⟩ := h r hr
  exact ⟨h1, h2⟩
theorem Sm.two {n : Int} {rows : List (List Int)} (h : Sm n rows) : ∀ r ∈ rows, r.length = 2 := fun r hr => by
  obtain ⟨a, b, rfl, -⟩ := h r hr
  rfl
/-- what pairs leaves. -/
def PrDone (w : World) (n most : Nat) (e : Ending) (w' : World) : Prop := ∃ rows rv vs, e = .returned (.agg #[.string ⟨#[101]⟩, .slice (some ⟨w.heap.size + 1, 0, none⟩) 2 2, rv]) ∧ w'.heap[w.heap.size + 1]? = some (.cells #[.string ⟨#[97]⟩, .string ⟨#[98]⟩] 9 (0, 0)) ∧ w'.ownsRow w.heap.size 32 1 rv vs.length vs ∧ RowsN w' 2 vs rows ∧ Sm n rows ∧ rows.length ≤ most ∧ Below w.heap.size w w'
set_option maxRecDepth 100000 in
set_option maxHeartbeats 2000000 in
theorem pairs_any (raw : List Int) (hraw : ∀ z ∈ raw, InR z) (ad : Option Addr) (cap : Nat) (n most : Nat) (hn : 0 < n) (hn2 : n ≤ 100) (hm : most ≤ 100) (w : World) (hr : RowAt w (.slice ad raw.length cap) (intsV raw)) :
    Calls Tryz.prog 34 #[.slice ad raw.length cap, .int .i64 (n : Nat), .int .i64 (most : Nat)] w fun e w' => PrDone w n most e w' := by
  have HR := hide hr
  have HRAW := hide hraw
  clear hr hraw
  go_enter Tryz.func34, Tryz.ntmps34
  go_wp2_with fail
  have hbw1 : Below w.heap.size w (((w.alloc (.cells #[.string ⟨#[]⟩, .slice none 0 0, .slice none 0 0] 44)).alloc (.cells #[.string ⟨#[97]⟩, .string ⟨#[98]⟩] 9)).alloc (.cells #[.string ⟨#[101]⟩, .slice (some ⟨w.heap.size + 1, 0, none⟩) 2 2, .slice none 0 0] 44)) := (((Below.refl _ _).alloc (Nat.le_refl _) _).alloc (by simp) _).alloc (by simp; omega) _
  have hx0 : (((w.alloc (.cells #[.string ⟨#[]⟩, .slice none 0 0, .slice none 0 0] 44)).alloc (.cells #[.string ⟨#[97]⟩, .string ⟨#[98]⟩] 9)).alloc (.cells #[.string ⟨#[101]⟩, .slice (some ⟨w.heap.size + 1, 0, none⟩) 2 2, .slice none 0 0] 44)).heap[w.heap.size]? = some (.cells #[.string ⟨#[]⟩, .slice none 0 0, .slice none 0 0] 44 (0, 0)) := heap_prev (heap_prev (heap_last rfl))
  have hx1 : (((w.alloc (.cells #[.string ⟨#[]⟩, .slice none 0 0, .slice none 0 0] 44)).alloc (.cells #[.string ⟨#[97]⟩, .string ⟨#[98]⟩] 9)).alloc (.cells #[.string ⟨#[101]⟩, .slice (some ⟨w.heap.size + 1, 0, none⟩) 2 2, .slice none 0 0] 44)).heap[w.heap.size + 1]? = some (.cells #[.string ⟨#[97]⟩, .string ⟨#[98]⟩] 9 (0, 0)) := heap_prev (heap_last (by simp))
  have hx2 : (((w.alloc (.cells #[.string ⟨#[]⟩, .slice none 0 0, .slice none 0 0] 44)).alloc (.cells #[.string ⟨#[97]⟩, .string ⟨#[98]⟩] 9)).alloc (.cells #[.string ⟨#[101]⟩, .slice (some ⟨w.heap.size + 1, 0, none⟩) 2 2, .slice none 0 0] 44)).heap[w.heap.size + 1 + 1]? = some (.cells #[.string ⟨#[101]⟩, .slice (some ⟨w.heap.size + 1, 0, none⟩) 2 2, .slice none 0 0] 44 (0, 0)) := heap_last (by simp)
  have HBW1 := hide hbw1
  have HX0 := hide hx0
  have HX1 := hide hx1
  have HX2 := hide hx2
  obtain ⟨i0, hi, hinf⟩ := Option.map_eq_some_iff.1 infoRow
  simp only [Prod.mk.injEq] at hinf
  obtain ⟨hz0, hz1, hz2⟩ := hinf
  have HI := hide hi
  have HZ0 := hide hz0
  have HZ1 := hide hz1
  have HZ2 := hide hz2
  have hmx : raw.length ≤ maxLen := by obtain ⟨a9, c9, e9, m9, -⟩ := unhide HR; simpa using m9
  unfold maxLen at hmx
  clear hi hz0 hz1 hz2 hbw1 hx0 hx1 hx2
  go_loopg [8] raw.length (fun f i W => ∃ k vs rv rows, i = .int .i64 (k : Nat) ∧ f = raw.length - k ∧ k = 2 * rows.length ∧ W.heap[w.heap.size]? = some (.cells #[.string ⟨#[]⟩, .slice none 0 0, .slice none 0 0] 44 (0, 0)) ∧ W.heap[w.heap.size + 1]? = some (.cells #[.string ⟨#[97]⟩, .string ⟨#[98]⟩] 9 (0, 0)) ∧ W.heap[w.heap.size + 1 + 1]? = some (.cells #[.string ⟨#[101]⟩, .slice (some ⟨w.heap.size + 1, 0, none⟩) 2 2, rv] 44 (0, 0)) ∧ W.ownsRow (w.heap.size + 1 + 1 + 1) 32 1 rv vs.length vs ∧ RowsN W 2 vs rows ∧ Sm n rows ∧ rows.length ≤ most ∧ Below w.heap.size w W ∧ w.heap.size + 1 + 1 + 1 ≤ W.heap.size)
  case atStart => exact ⟨0, [], _, [], rfl, by omega, by simp, unhide HX0, unhide HX1, unhide HX2, World.ownsRow_nil _ _ _ _, ⟨rfl, fun i u r e => by simp at e⟩, fun r hr => by simp at hr, by simp, unhide HBW1, by simp⟩
  case round =>
    obtain ⟨k, vs, rv, rows, rfl, rfl, hk1, hx0, hx1, hx2, hown, hrn, hsm, hlen, hbw, hz⟩ := hrel
    have HX0 := hide hx0
    have HX1 := hide hx1
    have HX2 := hide hx2
    have HOW := hide hown
    have HRN := hide hrn
    have HSM := hide hsm
    have HBW := hide hbw
    obtain ⟨adv, capv, rfl⟩ := owns_form hown
    have HVL : Hid (vs.length = rows.length) := hrn.1
    have HK := hide hk1
    have hk9 : k ≤ 200 := by omega
    have hv9 : vs.length ≤ most := by rw [unhide HVL]; exact hlen
    obtain ⟨kx, fx⟩ := blk hx2
    have x0 : wr.cell? ⟨w.heap.size + 1 + 1, 0, none⟩ = some (.string ⟨#[101]⟩) := kx 0
    have x1 : wr.cell? ⟨w.heap.size + 1 + 1, 1, none⟩ = some (.slice (some ⟨w.heap.size + 1, 0, none⟩) 2 2) := kx 1
    have x2 : wr.cell? ⟨w.heap.size + 1 + 1, 2, none⟩ = some (.slice adv vs.length capv) := kx 2
    have xf2 : wr.frozen? ⟨w.heap.size + 1 + 1, 2, none⟩ = false := fx 2
    have zx2 := lt_of_heap hx2
    have zx3 : w.heap.size + 1 + 1 < wr.heap.size + 1 := by omega
    clear hx0 hx1 hx2 hown hrn hsm hbw kx fx hk1
    by_cases hgo : k + 1 < raw.length ∧ vs.length < most
    · have hlt1 : decide ((k : Int) + 1 < (raw.length : Int)) = true := by simp; omega
      have hlt2 : decide ((vs.length : Int) < (most : Int)) = true := by simp; omega
      obtain ⟨a9, c9, e9, m9, hcell⟩ := unhide HR
      rw [List.length_map] at hcell
      injection e9 with e9 e10 e11
      subst e9 e11
      clear m9 e10
      obtain ⟨br, o, rfl, zr, hj⟩ := hcell (by omega)
      obtain ⟨za, hza⟩ : ∃ z, raw[k]? = some z := ⟨_, List.getElem?_eq_getElem (by omega)⟩
      obtain ⟨zb, hzb⟩ : ∃ z, raw[k + 1]? = some z := ⟨_, List.getElem?_eq_getElem (by omega)⟩
      have c0 : wr.cell? ⟨br, o + k, none⟩ = some (.int .i64 za) := by
        rw [(unhide HBW).cell (p := ⟨br, o + k, none⟩) zr, hj k (by omega), intsV, List.getElem?_map, hza]; rfl
      have c1 : wr.cell? ⟨br, o + (k + 1), none⟩ = some (.int .i64 zb) := by
        rw [(unhide HBW).cell (p := ⟨br, o + (k + 1), none⟩) zr, hj (k + 1) (by omega), intsV, List.getElem?_map, hzb]; rfl
      have zr2 : br < wr.heap.size := Nat.lt_of_lt_of_le zr (unhide HBW).size
      have HA := hide ((unhide HRAW) za (List.mem_of_getElem? hza))
      have HB := hide ((unhide HRAW) zb (List.mem_of_getElem? hzb))
      have HP : Hid (∀ z W, InR z → Calls Tryz.prog 31 #[.int .i64 z, .int .i64 (n : Nat)] W fun e w' => e = .returned (.int .i64 (pickI z n)) ∧ w' = W) := fun z W hz => pick_any z n hz.1 hz.2 (by omega) (by omega) W
      have hi1 : (0 : Int) ≤ (k : Int) := by omega
      have hi2 : (k : Int) < (raw.length : Int) := by omega
      have hi3 : (0 : Int) ≤ (k : Int) + 1 := by omega
      have hi4 : (k : Int) + 1 < (raw.length : Int) := by omega
      have hi5 : ((k : Int) + 1).toNat = k + 1 := by omega
      have hs1 : IntKind.i64.wrap ((k : Int) + 1) = (k : Int) + 1 := by unfold IntKind.wrap; simp [IntKind.bits, IntKind.signed]; omega
      have HNE := own_ne (unhide HOW) (show w.heap.size + 1 + 1 < w.heap.size + 1 + 1 + 1 by omega)
      clear hj hcell hza hzb
      go_wp2_with fail
      go_region_law (first
        | (refine step_append_lies _ rfl (.tmp 26) (.tmp 41) 42 rfl (w.heap.size + 1 + 1 + 1) 32 i0 (.slice none 0 0) 1 24 Tryz.underlying42 (unhide HI) (unhide HZ0) (unhide HZ1) (unhide HZ2) rfl (by decide) (.slice adv vs.length capv) vs.length vs (by simp [Act.eval]) (((unhide HOW).drew.alloc _).alloc _) ⟨wr.heap.size + 1, 0, none⟩ 1 1 [.slice (some ⟨wr.heap.size, 0, none⟩) 2 2] (by simp [Act.eval]) rfl (news1 (heap_last (by simp))) (one1l _ _ _) (by decide) (by unfold maxLen; omega) (by omega) (by simp; omega) _ rfl ?_; intro g cap' w3 ho hg hat hlt9; have hx23 := (hg.block (w.heap.size + 1 + 1) (by simp; omega) HNE.symm).trans (heap_prev (heap_prev (unhide HX2))); have y2 : w3.cell? ⟨w.heap.size + 1 + 1, 2, none⟩ = some (.slice adv vs.length capv) := (blk hx23).1 2; have yf2 : w3.frozen? ⟨w.heap.size + 1 + 1, 2, none⟩ = false := (blk hx23).2 2)
        | (go_simp; go_at_call 31; refine ((unhide HP) _ _ (by first | exact unhide HA | exact unhide HB)).mono ?_; rintro e w2 ⟨rfl, hw2⟩; obtain rfl := hw2.symm))
      all_goals
        have HO3 := hide ho
        have HG3 := hide hg
        have HX23 := hide hx23
        clear ho hg hat hlt9 hx23
        go_wp2
        go_roundg (raw.length - (k + 2))
        case measure => omega
        case rel =>
          have hg3 := unhide HG3
          have hown := ((unhide HOW).drew.alloc (.cells #[.int .i64 (pickI za n), .int .i64 (pickI zb n)] 3)).alloc (.cells #[.slice (some ⟨wr.heap.size, 0, none⟩) 2 2] 32)
          have hb2 : Below wr.heap.size wr ((wr.drew.alloc (.cells #[.int .i64 (pickI za n), .int .i64 (pickI zb n)] 3)).alloc (.cells #[.slice (some ⟨wr.heap.size, 0, none⟩) 2 2] 32)) := (((Below.refl _ _).drew).alloc (Nat.le_refl _) _).alloc (by simp) _
          have hrow : ((wr.drew.alloc (.cells #[.int .i64 (pickI za n), .int .i64 (pickI zb n)] 3)).alloc (.cells #[.slice (some ⟨wr.heap.size, 0, none⟩) 2 2] 32)).heap[wr.heap.size]? = some (.cells (intsV [pickI za n, pickI zb n]).toArray 3 (0, 0)) := heap_prev (heap_last rfl)
          have hrn := ((((unhide HRN).below hb2).snoc (r := [pickI za n, pickI zb n]) rfl hrow).grown hown hg3)
          have hb3 : Below w.heap.size w w3 := ((unhide HBW).trans (hb2.mono (unhide HBW).size)).grown hg3 (by simp; omega) (fun b e => by have := (hown.lt b e).1; omega)
          have keep : ∀ b, b < w.heap.size + 1 + 1 → w3.heap[b]? = wr.heap[b]? := fun b hb => (hg3.block b (by simp; omega) (own_ne hown (by omega)).symm).trans (hb2.block b (by omega))
          have pa := pickI_lt za n (by omega)
          have pb := pickI_lt zb n (by omega)
          refine ⟨k + 2, vs ++ [.slice (some ⟨wr.heap.size, 0, none⟩) 2 2], .slice (some ⟨g, 0, none⟩) (vs.length + 1) cap', rows ++ [[pickI za n, pickI zb n]], ?_, rfl, ?_, ?_, ?_, ?_, ?_, ?_, ?_, ?_, hb3.setCell (by show w.heap.size ≤ w.heap.size + 1 + 1; omega) _, ?_⟩
          · go_num
          · rw [List.length_append, unhide HK]; simp; omega
          · rw [Below.heap_setCell _ _ _ _ (by show w.heap.size ≠ w.heap.size + 1 + 1; omega), keep _ (by omega)]
            exact unhide HX0
          · rw [Below.heap_setCell _ _ _ _ (by show w.heap.size + 1 ≠ w.heap.size + 1 + 1; omega), keep _ (by omega)]
            exact unhide HX1
          · rw [heap_set (unhide HX23)]
            rfl
          · rw [List.length_append, List.length_singleton]
            exact owns_set (unhide HO3) (own_ne (unhide HO3) (by omega))
          · refine ⟨hrn.1, fun i u r h1 h2 => ?_⟩
            obtain ⟨b, q1, q2, q3⟩ := hrn.2 i u r h1 h2
            refine ⟨b, q1, q2, ?_⟩
            rw [Below.heap_setCell _ _ _ _ (fun e => ?_)]
            · exact q3
            · have e' : b = w.heap.size + 1 + 1 := e
              subst e'
              rw [unhide HX23] at q3
              injection q3 with q3
              injection q3 with _ q3 _
              exact absurd q3 (by decide)
          · intro r hr
            rcases List.mem_append.1 hr with h | h
            · exact (unhide HSM) r h
            · simp at h
              subst h
              exact ⟨_, _, rfl, pa.1, pa.2, pb.1, pb.2⟩
          · rw [List.length_append, ← unhide HVL]; simp; omega
          · have := hg3.size
            simp at this
            simp [World.setCell]
            omega
    · obtain ⟨kx, fx⟩ := blk (unhide HX0)
      have y0 : wr.cell? ⟨w.heap.size, 0, none⟩ = some (.string ⟨#[]⟩) := kx 0
      have y1 : wr.cell? ⟨w.heap.size, 1, none⟩ = some (.slice none 0 0) := kx 1
      have y2 : wr.cell? ⟨w.heap.size, 2, none⟩ = some (.slice none 0 0) := kx 2
      have yf0 : wr.frozen? ⟨w.heap.size, 0, none⟩ = false := fx 0
      have yf1 : wr.frozen? ⟨w.heap.size, 1, none⟩ = false := fx 1
      have yf2 : wr.frozen? ⟨w.heap.size, 2, none⟩ = false := fx 2
      have zx0 := lt_of_heap (unhide HX0)
      clear kx fx
      have HEND : Hid (∀ u0 u1 u2, PrDone w n most (.returned (.agg #[.string ⟨#[101]⟩, .slice (some ⟨w.heap.size + 1, 0, none⟩) 2 2, .slice adv vs.length capv])) (((wr.setCell ⟨w.heap.size, 0, none⟩ u0).setCell ⟨w.heap.size, 1, none⟩ u1).setCell ⟨w.heap.size, 2, none⟩ u2)) := fun u0 u1 u2 => by
        refine ⟨rows, _, vs, rfl, ?_, owns_mono (owns_set (owns_set (owns_set (unhide HOW) (own_ne (unhide HOW) (by omega))) (own_ne (unhide HOW) (by omega))) (own_ne (unhide HOW) (by omega))) (by omega), ⟨(unhide HRN).1, fun i u r h1 h2 => ?_⟩, unhide HSM, hlen, (((unhide HBW).setCell (Nat.le_refl _) _).setCell (Nat.le_refl _) _).setCell (Nat.le_refl _) _⟩
        · rw [Below.heap_setCell _ _ _ _ (by show w.heap.size + 1 ≠ w.heap.size; omega), Below.heap_setCell _ _ _ _ (by show w.heap.size + 1 ≠ w.heap.size; omega), Below.heap_setCell _ _ _ _ (by show w.heap.size + 1 ≠ w.heap.size; omega)]
          exact unhide HX1
        · obtain ⟨b, q1, q2, q3⟩ := (unhide HRN).2 i u r h1 h2
          have hb : b ≠ w.heap.size := fun e => by
            subst e
            rw [unhide HX0] at q3
            injection q3 with q3
            injection q3 with _ q3 _
            exact absurd q3 (by decide)
          refine ⟨b, q1, q2, ?_⟩
          rw [Below.heap_setCell _ _ _ _ hb, Below.heap_setCell _ _ _ _ hb, Below.heap_setCell _ _ _ _ hb]
          exact q3
      by_cases h1 : k + 1 < raw.length
      · have hlt1 : decide ((k : Int) + 1 < (raw.length : Int)) = true := by simp; omega
        have hlt2 : decide ((vs.length : Int) < (most : Int)) = false := by simp; omega
        go_wp2
        exact bodyPost_ret (v := .agg #[.string ⟨#[101]⟩, .slice (some ⟨w.heap.size + 1, 0, none⟩) 2 2, .slice adv vs.length capv]) (by simp [results, Tryz.results34, go_sem, *]) rfl ((unhide HEND) _ _ _)
      · have hlt1 : decide ((k : Int) + 1 < (raw.length : Int)) = false := by simp; omega
        go_wp2
        exact bodyPost_ret (v := .agg #[.string ⟨#[101]⟩, .slice (some ⟨w.heap.size + 1, 0, none⟩) 2 2, .slice adv vs.length capv]) (by simp [results, Tryz.results34, go_sem, *]) rfl ((unhide HEND) _ _ _)
end Go.Proofs.YtfkeddkfegaeiaaGreatDoor
namespace Go.Proofs.YtfkeddkfegaeiaaGreatDoor
open Go.RowKit
/-- what counting from a number comes to. -/
inductive Ch (d t v0 : Int) : Int → Prop
  | base : Ch d t v0 v0
  | step {v : Int} : Ch d t v0 v → v < t → Ch d t v0 (v + d)
theorem Ch.low {d t v0 v : Int} (hd : 0 < d) (h : Ch d t v0 v) : v0 ≤ v := by
  induction h with
  | base => exact Int.le_refl _
  | step h hv ih => omega
theorem Ch.in {d t v0 v : Int} (hd : 0 < d) (h5 : d ≤ 5) (ht : t < 60) (h0 : 0 ≤ v0) (h20 : v0 < 20) (h : Ch d t v0 v) : 0 ≤ v ∧ v < 100 := by
  induction h with
  | base => omega
  | step h hv ih => omega
/-- what the rows' first numbers count to. -/
def Cn (d t : Int) (rows : Rws') (v : Int) : Prop := ∃ r ∈ rows, Ch d t (r.getD 0 0) v
theorem Cn.snoc {d t : Int} {rows : Rws'} {r : List Int} {v : Int} : Cn d t (rows ++ [r]) v ↔ Cn d t rows v ∨ Ch d t (r.getD 0 0) v := by
  unfold Cn
  constructor
  · rintro ⟨x, hx, h⟩
    rcases List.mem_append.1 hx with hx | hx
    · exact Or.inl ⟨x, hx, h⟩
    · simp at hx; subst hx; exact Or.inr h
  · rintro (⟨x, hx, h⟩ | h)
    · exact ⟨x, List.mem_append_left _ hx, h⟩
    · exact ⟨r, by simp, h⟩
theorem Cn.in {d t : Int} {rows : Rws'} (hd : 0 < d) (h5 : d ≤ 5) (ht : t < 60) (hs : Sm 20 rows) {v : Int} (h : Cn d t rows v) : 0 ≤ v ∧ v < 100 := by
  obtain ⟨r, hr, h⟩ := h
  exact h.in hd h5 ht (hs.first hr).1 (hs.first hr).2
theorem p6R {rows : Rws'} (hl : rows.length ≤ 200) (hw : ∀ r ∈ rows, r.length = 2) : p6all [tR rows] = 0 := by
  have h1 : (!nameB (tR rows).name.data.toList || (tR rows).cols.any (fun c => !nameB c.data.toList)) = false := by kernel_rfl
  have h2 : (decide ((tR rows).cols.length < 1) || decide (6 < (tR rows).cols.length) || decide (200 < (tR rows).rows.length)) = false := by
    have : ¬ 200 < (tR rows).rows.length := by show ¬ 200 < rows.length; omega
    rw [decide_eq_false this]
    rfl
  have h3 : (([] : List Tb).any (fun u => u.name.toList == (tR rows).name.toList) || dupF [] (tR rows).cols) = false := by kernel_rfl
  have h4 : (tR rows).rows.any (fun r => decide (r.length ≠ (tR rows).cols.length)) = false := by
    rw [List.any_eq_false]
    intro r hr
    have := hw r hr
    simp [tR, this]
  have h5 : p6 (tR rows) [] = 0 := by unfold p6; rw [h1, h2, h3, h4]; rfl
  unfold p6all
  rw [if_neg (by simp)]
  unfold p6from
  rw [if_pos h5]
  rfl
theorem wrap_small {v : Int} (h0 : -1000000 ≤ v) (h1 : v < 1000000) : wrap64 v = v := wrap_id ⟨by omega, by omega⟩
theorem filter_all (m : Rws') : m.filter (fun _ => true) = m := by simp
end Go.Proofs.YtfkeddkfegaeiaaGreatDoor
namespace Go.Proofs.YtfkeddkfegaeiaaGreatDoor
open Go.RowKit
/-- a hundred marks, those of a set. -/
def HasI (h : List Bool) (S : Int → Prop) : Prop := h.length = 100 ∧ ∀ k : Nat, k < 100 → (h[k]? = some true ↔ S k)
theorem HasI.start : HasI (List.replicate 100 false) (fun _ => False) := ⟨by simp, fun k hk => by rw [List.getElem?_replicate, if_pos hk]; simp⟩
theorem HasI.set {h : List Bool} {S : Int → Prop} (hh : HasI h S) (n : Nat) (hn : n < 100) : HasI (h.set n true) (fun v => S v ∨ v = n) := by
  refine ⟨by rw [List.length_set]; exact hh.1, fun k hk => ?_⟩
  rw [List.getElem?_set]
  by_cases e : n = k
  · subst e
    rw [if_pos rfl, if_pos (by rw [hh.1]; exact hn)]
    simp
  · rw [if_neg e, hh.2 k hk]
    constructor
    · exact Or.inl
    · rintro (h | h)
      · exact h
      · omega
end Go.Proofs.YtfkeddkfegaeiaaGreatDoor
