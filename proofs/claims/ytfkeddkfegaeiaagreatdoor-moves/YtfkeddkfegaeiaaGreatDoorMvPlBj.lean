/-
  Part 43.
-/
import Derived.Test.YtfkeddkfegaeiaaGreatDoorMvPlBh
import Derived.Test.YtfkeddkfegaeiaaGreatDoorMvPlZ
import Derived.Test.YtfkeddkfegaeiaaGreatDoorProg
import Derived.Conc.MuLone
import Derived.KernelRfl
import Derived.Test.YtfkeddkfegaeiaaGreatDoorMvTli
import Derived.Test.YtfkeddkfegaeiaaGreatDoorMvNwG
import Derived.Test.YtfkeddkfegaeiaaGreatDoorMvNwO
import Derived.Maps.OwnSet
import Derived.Deep.RegionHeld3
namespace Go.Proofs.YtfkeddkfegaeiaaGreatDoor
open Go.RowKit
set_option maxRecDepth 100000 in
set_option maxHeartbeats 1000000 in
theorem wrows_plain (a : Nat → Addr) (w : World) (wb fb N : Nat) (l : List (List Int)) (hx : w.heap[wb]? = some (.cells #[.pointer none, .pointer (some ⟨fb, 2, none⟩)] 288 (0, 0)))
    (h : Calls Tryz.prog 126 #[.pointer (some ⟨fb, 2, none⟩)] w fun e w' => RwDone a w N l e w') :
    Calls Tryz.prog 82 #[.pointer (some ⟨wb, 0, none⟩)] w fun e w' => RwDone a w N l e w' := by
  have HC := hide h
  have zx := lt_of_heap hx
  obtain ⟨kx, -⟩ := blk hx
  have k0 : w.cell? ⟨wb, 0, none⟩ = some (.pointer none) := kx 0
  have k1 : w.cell? ⟨wb, 1, none⟩ = some (.pointer (some ⟨fb, 2, none⟩)) := kx 1
  clear h hx kx
  go_enter Tryz.func82, Tryz.ntmps82
  go_wp2_with fail
  refine (unhide HC).mono ?_
  rintro e w1 ⟨hb, hr⟩
  have HB := hide hb
  clear hb
  by_cases h4 : 4000 < N
  · rw [if_pos h4] at hr
    subst hr
    go_wp2
    go_ret2
    exact ⟨unhide HB, by rw [if_pos h4]; rfl⟩
  · rw [if_neg h4] at hr
    obtain ⟨g, rfl, h1, h2⟩ := hr
    have H2 := hide h2
    clear h2
    go_wp2
    go_ret2
    exact ⟨unhide HB, by rw [if_neg h4]; exact ⟨g, rfl, h1, unhide H2⟩⟩
theorem orE_left {a b : Option (Nat × Nat)} (h : orE a b = none) : a = none := (orE_eq_none h).1
theorem fold_none {α : Type} (f : α → Option (Nat × Nat)) : ∀ (l : List α) (a : Option (Nat × Nat)), l.foldl (fun x y => orE x (f y)) a = none → a = none
  | [], _, h => h
  | _ :: l, _, h => orE_left (fold_none f l _ h)
theorem srcs_full (T : List Tb) : ∀ (l : List (Tk × Tk)) (f : Fs), (l.foldl (srcStep T) f).er = none → f.er = none ∧ (l.foldl (srcStep T) f).ss.length = f.ss.length + l.length
  | [], _, h => ⟨h, rfl⟩
  | x :: l, f, h => by
    have h1 := srcs_full T l (srcStep T f x) h
    rw [List.foldl_cons, h1.2]
    unfold srcStep at h1 ⊢
    cases hn : tabNo T x.1.text with
    | none =>
      rw [hn] at h1
      have := (orE_eq_none h1.1).2
      cases this
    | some j =>
      rw [hn] at h1
      refine ⟨orE_left h1.1, ?_⟩
      simp only [List.length_append, List.length_cons, List.length_nil]
      omega
theorem foldS_full {T : List Tb} {l : List (Tk × Tk)} (h : (foldS T l).er = none) : (foldS T l).ss.length = l.length := by
  have := (srcs_full T l ⟨[], 0, none⟩ h).2
  rw [show ([] : List Sr).length + l.length = l.length by simp] at this
  exact this
theorem EnvX.up {a : Nat → Addr} {B : Nat} {w : World} (h : EnvX a B w) : EnvX a w.heap.size w :=
  ⟨⟨Nat.le_trans h.env.low h.env.size, Nat.le_refl _, h.env.cell, fun j hj => Nat.lt_of_lt_of_le (h.env.below j hj) h.env.size, h.env.row, h.env.ne⟩, h.cell, fun j hj => Nat.lt_of_lt_of_le (h.below j hj) h.env.size, h.row, h.ne⟩
theorem ExP.keepB {w w' : World} {n : Nat} {v : Value} {l : List Nd} (h : ExP w (fun _ => True) n v l) (hb : Below w.heap.size w w') : ExP w' (fun _ => True) n v l := ExP.keep (fun _ _ => trivial) (fun k _ _ _ hk _ => hb.block k (lt_of_heap hk)) n v l h
theorem errT_none {T : List Tb} {fs : Fs} {eo : ItemA → List Sr → Option (Nat × Nat)} {es : List (ItemA × Value × Option Addr)} {us : List (TestA × Value × Value)} (h : errT T fs (errI eo fs es) us = none) : fs.er = none :=
  fold_none (fun e : ItemA × Value × Option Addr => eo e.1 fs.ss) es _ (fold_none (fun u : TestA × Value × Value => tsErr T fs.ss u.1) us _ h)
/-- a block that holds no number is written. -/
theorem RowsB.turn {w w' : World} {g x : Nat} {t : TypeId} {cap : Nat} {l : List (List Int)} (h : RowsB w g t cap l) (hs : w.heap.size ≤ w'.heap.size) (hk : ∀ k, k < w.heap.size → k ≠ x → w'.heap[k]? = w.heap[k]?) (hgx : g ≠ x) (hx : ∀ o z, w.cell? ⟨x, o, none⟩ ≠ some (.int .i64 z)) : RowsB w' g t cap l := by
  obtain ⟨cur, h1, h2, h3, h4⟩ := h
  refine ⟨cur, (hk g (lt_of_heap h1) hgx).trans h1, h2, h3, fun i zs e => ?_⟩
  obtain ⟨v, hv, ad, cp, rfl, hm, hc⟩ := h4 i zs e
  refine ⟨_, hv, ad, cp, rfl, hm, fun hp => ?_⟩
  obtain ⟨b, o, rfl, hn, hb, hj⟩ := hc hp
  have hbx : b ≠ x := fun e => by
    subst e
    have h0 := hj 0 hp
    obtain ⟨z, hz⟩ : ∃ z, zs[0]? = some z := ⟨_, List.getElem?_eq_getElem hp⟩
    rw [intsV, List.getElem?_map, hz] at h0
    exact hx _ _ h0
  refine ⟨b, o, rfl, hn, Nat.lt_of_lt_of_le hb hs, fun j hjl => ?_⟩
  rw [← hj j hjl]
  simp only [World.cell?, hk b hb hbx]
theorem two_slices {w : World} {x : Nat} {a b : Value} {t : TypeId} (h : w.heap[x]? = some (.cells #[a, b] t (0, 0))) (ha : ∀ z, a ≠ .int .i64 z) (hb : ∀ z, b ≠ .int .i64 z) : ∀ o z, w.cell? ⟨x, o, none⟩ ≠ some (.int .i64 z) := fun o z e => by
  rw [(blk h).1 o] at e
  match o with
  | 0 => simp at e; exact ha z e
  | 1 => simp at e; exact hb z e
  | n + 2 => simp at e
/-- what Answer leaves. -/
def AnsDone (a : Nat → Addr) (w : World) (N : Nat) (l : List (List Int)) (es : List (ItemA × Value × Option Addr)) (er : Option (Nat × Nat)) (e : Ending) (w' : World) : Prop := Below w.heap.size w w' ∧
  (∀ p k, er = some (p, k) → ∃ ev, e = .returned (.tuple #[.agg #[.slice none 0 0, .slice none 0 0], ev]) ∧ AtErr a w p k ev w') ∧
  (er = none → 4000 < N → e = .returned (.tuple #[.agg #[.slice none 0 0, .slice none 0 0], errV a eMany])) ∧
  (er = none → N ≤ 4000 → ∃ gc gr, e = .returned (.tuple #[.agg #[.slice (some ⟨gc, 0, none⟩) es.length es.length, .slice (some ⟨gr, 0, none⟩) l.length l.length], .nilIface]) ∧ w.heap.size ≤ gc ∧ w.heap.size ≤ gr ∧ w'.heap[gc]? = some (.cells (namesV es).toArray 9 (0, 0)) ∧ RowsB w' gr 32 l.length (sortL l))
set_option maxRecDepth 100000 in
set_option maxHeartbeats 4000000 in
theorem answer_plain (a : Nat → Addr) (w : World) (B : Nat) (hE : EnvX a B w) (q lo : Nat) (qp : Int) (b : Nat) (hq : w.heap[q]? = some (.cells #[.int .i64 qp, .pointer none, .pointer (some ⟨b, 0, none⟩)] 180 (0, 0)))
    (tb tof tc : Nat) (T : List Tb) (hT : TabsAt w (.slice (some ⟨tb, tof, none⟩) T.length tc) T) (hc6 : ∀ t ∈ T, t.cols.length ≤ 6) (h200 : ∀ t ∈ T, t.rows.length ≤ 200) (hsh : ∀ t ∈ T, ∀ r ∈ t.rows, r.length = t.cols.length)
    (pl : Int) (vi vs vt : Value) (srcs : List (Tk × Tk)) (hb : w.heap[b]? = some (.cells #[.int .i64 pl, vi, vs, vt] 256 (0, 0))) (hs : w.ownsRow lo 260 5 vs srcs.length (srCells srcs)) (hs0 : 0 < srcs.length) (hs3 : srcs.length ≤ 3)
    (es : List (ItemA × Value × Option Addr)) (hi : w.ownsRow lo 251 5 vi es.length (itCells es)) (hi0 : 0 < es.length) (hi6 : es.length ≤ 6) (eo : ItemA → List Sr → Option (Nat × Nat)) (fo : ItemA → List Sr → List (List Int) → List Int) (hspec : ∀ (c : Fc), Below w.heap.size w c.w0 → c.T = T → c.iw = false → ∀ e ∈ es, ItemSpec c e.1.place e.2.1 (.pointer e.2.2) e.1.asP e.1.asT (eo e.1) (fo e.1)) (hone : ∀ e ∈ es, IsI e.2.1)
    (us : List (TestA × Value × Value)) (ht : w.ownsRow lo 263 4 vt us.length (tsCells us)) (hu9 : us.length ≤ 1000) (hex : ∀ u ∈ us, ∃ n, ExP w (fun _ => True) n u.2.1 u.1.l ∧ ExP w (fun _ => True) n u.2.2 u.1.r)
    (fs : Fs) (hfs : fs = foldS T srcs) (N : Nat) (hN : N = mulN (rowsOf T fs.ss)) (ch : List (List Int)) (hch : ch = chosenN T fs.ss (us.map fun u => tsHolds (colAt T fs.ss) u.1) N) (l : List (List Int)) (hl : l = turned ch.length ((es.map fun e => fo e.1 fs.ss).map fun f => f ch)) (R : Option (Nat × Nat)) (hR : R = errT T fs (errI eo fs es) us) :
    Calls Tryz.prog 51 #[.pointer (some ⟨q, 0, none⟩), .slice (some ⟨tb, tof, none⟩) T.length tc] w fun e w' => AnsDone a w N l es R e w' := by
  obtain ⟨W0, hW0⟩ : ∃ W0, W0 = w.alloc (.cells #[.slice none 0 0, .slice none 0 0] 68) := ⟨_, rfl⟩
  have hb0 : Below w.heap.size w W0 := by rw [hW0]; exact (Below.refl _ _).alloc (Nat.le_refl _) _
  have hx0 : W0.heap[w.heap.size]? = some (.cells #[.slice none 0 0, .slice none 0 0] 68 (0, 0)) := by rw [hW0]; exact heap_last rfl
  have kp : ∀ {k : Nat} {o : Obj}, w.heap[k]? = some o → W0.heap[k]? = some o := fun {k o} hk => (hb0.block k (lt_size hk)).trans hk
  have HM := hide (meaning_plain a W0 ((hE.keep (hb0.mono hE.env.size)).up) q lo qp b (kp hq) tb tof tc T (hT.keep hb0) hc6 pl vi vs vt srcs (kp hb) (owns_below hs hb0) hs0 hs3 es (owns_below hi hb0) hi0 hi6 eo fo (fun c hc => hspec c (by rw [hc]; exact hb0)) hone us (owns_below ht hb0) hu9 (fun u hu => let ⟨n, h1, h2⟩ := hex u hu; ⟨n, h1.keepB hb0, h2.keepB hb0⟩))
  rw [← hfs, ← hR] at HM
  have HB0 := hide hb0
  have HX0 := hide hx0
  have zx0 := lt_of_heap hx0
  have zq := lt_of_heap hq
  obtain ⟨kq, -⟩ := blk hq
  have q2 : w.cell? ⟨q, 2, none⟩ = some (.pointer (some ⟨b, 0, none⟩)) := kq 2
  have HE := hide hE
  have HT := hide hT
  have HB := hide hb
  have HI := hide hi
  have HON := hide hone
  have HFI : Hid (Firsts T 0 fs.ss ∧ fs.wd = wdS T fs.ss) := by rw [hfs]; exact firsts_foldS T srcs
  have HFULL : Hid (R = none → 0 < fs.ss.length) := fun h => by
    have h1 : fs.er = none := errT_none (hR.symm.trans h)
    rw [hfs] at h1 ⊢
    rw [foldS_full h1]; exact hs0
  have H2 := hide h200
  have HSH := hide hsh
  have HN := hide hN
  have HCH := hide hch
  have HL := hide hl
  have HTW := hide (hT.keep hb0)
  have HEW := hide (hE.keep (hb0.mono hE.env.size))
  clear hfs hR hE hT hb hs hi hspec hone ht hex hc6 hq kq h200 hsh hN hch hl hx0 hb0 kp
  have HWW := hide hW0
  clear hW0
  go_enter Tryz.func51, Tryz.ntmps51
  go_wp2_with fail
  rw [← unhide HWW]
  refine (unhide HM).mono ?_
  rintro e w1 ⟨hb1, hok, hbad⟩
  have HB1 := hide hb1
  have hx1 := (hb1.block _ zx0).trans (unhide HX0)
  have HX1 := hide hx1
  obtain ⟨kx, fx⟩ := blk hx1
  have zx1 := lt_of_heap hx1
  have x0 : w1.cell? ⟨w.heap.size, 0, none⟩ = some (.slice none 0 0) := kx 0
  have x1 : w1.cell? ⟨w.heap.size, 1, none⟩ = some (.slice none 0 0) := kx 1
  have xf0 : w1.frozen? ⟨w.heap.size, 0, none⟩ = false := fx 0
  have xf1 : w1.frozen? ⟨w.heap.size, 1, none⟩ = false := fx 1
  clear HM hb1 hx1 kx fx
  cases R with
  | some pk =>
    obtain ⟨p, k⟩ := pk
    obtain ⟨ev, rfl, b9, rfl, h1, h2⟩ := hbad p k rfl
    have H22 := hide h2
    clear hok hbad h2
    have hbe : Below w.heap.size w ((w1.setCell ⟨w.heap.size, 0, none⟩ (.slice none 0 0)).setCell ⟨w.heap.size, 1, none⟩ (.slice none 0 0)) := (((unhide HB0).trans ((unhide HB1).mono (unhide HB0).size)).setCell (Nat.le_refl _) _).setCell (Nat.le_refl _) _
    have HBE := hide hbe
    have HE9 : Hid (((w1.setCell ⟨w.heap.size, 0, none⟩ (.slice none 0 0)).setCell ⟨w.heap.size, 1, none⟩ (.slice none 0 0)).heap[b9]? = some (.cells #[.int .i64 (p : Nat), errV a k] 113 (0, 0))) := by
      unfold Hid
      rw [Below.heap_setCell _ _ _ _ (by show b9 ≠ w.heap.size; omega), Below.heap_setCell _ _ _ _ (by show b9 ≠ w.heap.size; omega)]
      exact unhide H22
    clear hbe
    go_wp2
    refine bodyPost_ret (v := .tuple #[.agg #[.slice none 0 0, .slice none 0 0], .iface 110 (.pointer (some ⟨b9, 0, none⟩))]) (by simp [results, Tryz.results51, go_sem, *]) rfl ⟨unhide HBE, fun p' k' e => ?_, (fun e => by cases e), (fun e => by cases e)⟩
    cases e
    exact ⟨_, rfl, b9, rfl, by omega, unhide HE9⟩
  | none =>
    obtain ⟨wb, fb, G, rfl, hx, hfit, hsel⟩ := hok rfl
    have HSEL := hide hsel
    have HFIT := hide hfit
    have hs1 := (unhide HFULL) rfl
    have HRW := hide (srows_any W0 G _ fs.ss fs.wd _ _ hsel hs1 (by simpa using hi6) w1 hfit B ((unhide HEW).keep ((unhide HB1).mono (unhide HEW).env.size)) T tc ((unhide HTW).keep (unhide HB1)) ⟨rfl, unhide H2, unhide HSH, (unhide HFI).1, (unhide HFI).2⟩ N (unhide HN) ch (unhide HCH))
    have HWR := hide (wrows_plain _ w1 wb fb N _ hx (unhide HRW))
    rw [← unhide HL] at HWR
    clear hok hbad hsel hfit hx HRW x0 x1 xf0 xf1
    go_wp2_with fail
    refine (unhide HWR).mono ?_
    rintro e w2 ⟨hb2, hr⟩
    have HB2 : Hid (Below W0.heap.size W0 w2) := (unhide HB1).trans (hb2.mono (unhide HB1).size)
    have hx2 := (hb2.block _ zx1).trans (unhide HX1)
    have HX2 := hide hx2
    have hzw2 := hb2.size
    have hz12 := (unhide HB1).size
    clear hb2 HWR
    by_cases h4 : 4000 < N
    · rw [if_pos h4] at hr
      subst hr
      obtain ⟨kx, fx⟩ := blk hx2
      have zx2 := lt_of_heap hx2
      have x0 : w2.cell? ⟨w.heap.size, 0, none⟩ = some (.slice none 0 0) := kx 0
      have x1 : w2.cell? ⟨w.heap.size, 1, none⟩ = some (.slice none 0 0) := kx 1
      have xf0 : w2.frozen? ⟨w.heap.size, 0, none⟩ = false := fx 0
      have xf1 : w2.frozen? ⟨w.heap.size, 1, none⟩ = false := fx 1
      have HBE : Hid (Below w.heap.size w ((w2.setCell ⟨w.heap.size, 0, none⟩ (.slice none 0 0)).setCell ⟨w.heap.size, 1, none⟩ (.slice none 0 0))) := (((unhide HB0).trans ((unhide HB2).mono (unhide HB0).size)).setCell (Nat.le_refl _) _).setCell (Nat.le_refl _) _
      clear hx2 kx fx
      go_wp2
      refine bodyPost_ret (v := .tuple #[.agg #[.slice none 0 0, .slice none 0 0], errV a eMany]) (by simp [results, Tryz.results51, go_sem, *]) rfl ⟨unhide HBE, (fun p' k' e => by cases e), fun _ _ => rfl, fun _ h => absurd h4 (by omega)⟩
    · rw [if_neg h4] at hr
      obtain ⟨gr, rfl, hgr, hrb⟩ := hr
      have hlN : l.length ≤ 4000 := by
        rw [unhide HL]
        have h9 : ch.length ≤ N := by rw [unhide HCH]; exact chosenN_le _ _ _ _
        simp [turned]; omega
      have HSR := hide (sortRows_any w2 gr l.length 32 l hrb (by omega))
      clear hrb hx2
      go_wp2_with fail
      refine (unhide HSR).mono ?_
      rintro e w3 ⟨rfl, hg3, hrb3⟩
      have hb3 : Below w.heap.size w w3 := ((unhide HB0).trans ((unhide HB2).mono (unhide HB0).size)).grown hg3 (by have := (unhide HB0).size; omega) (fun k e => by injection e with e; have := (unhide HB0).size; omega)
      have hx3 := (hg3.block w.heap.size (by omega) (fun e => by injection e with e; omega)).trans (unhide HX2)
      have HCO := hide (columns_any w3 b lo pl vi vs vt ((hb3.block b (lt_of_heap (unhide HB))).trans (unhide HB)) es (owns_below (unhide HI) hb3) hi0 hi6 (unhide HON))
      have q23 := (hb3.cell (p := ⟨q, 2, none⟩) zq).trans q2
      have zq3 : q < w3.heap.size := Nat.lt_of_lt_of_le zq hb3.size
      have HB3 := hide hb3
      have HX3 := hide hx3
      have HR3 := hide hrb3
      have zgr : gr < w3.heap.size := by obtain ⟨cur, h9, -⟩ := hrb3; exact lt_of_heap h9
      clear hb3 hx3 hrb3 hg3 HSR
      go_wp2_with fail
      refine (unhide HCO).mono ?_
      rintro e w4 ⟨gc, rfl, hb4, hgc, hnm⟩
      have hx4 := (hb4.block _ (lt_of_heap (unhide HX3))).trans (unhide HX3)
      obtain ⟨kx, fx⟩ := blk hx4
      have zx4 := lt_of_heap hx4
      have x0 : w4.cell? ⟨w.heap.size, 0, none⟩ = some (.slice none 0 0) := kx 0
      have x1 : w4.cell? ⟨w.heap.size, 1, none⟩ = some (.slice none 0 0) := kx 1
      have xf0 : w4.frozen? ⟨w.heap.size, 0, none⟩ = false := fx 0
      have xf1 : w4.frozen? ⟨w.heap.size, 1, none⟩ = false := fx 1
      have HB4 : Hid (Below w.heap.size w w4) := (unhide HB3).trans (hb4.mono (unhide HB3).size)
      have HX4 := hide hx4
      have HR4 : Hid (RowsB w4 gr 32 l.length (sortL l)) := (unhide HR3).turn (x := w3.heap.size) hb4.size (fun k hk _ => hb4.block k hk) (by omega) (fun o z e => by have := World.block_lt_of_cell? w3 _ e; simp at this)
      have HNM := hide hnm
      have hgc2 : w.heap.size < gc := by have := lt_of_heap (unhide HX3); omega
      have hgr2 : w.heap.size < gr := by have := (unhide HB0).size; omega
      have zgc := lt_of_heap hnm
      clear hb4 hx4 kx fx hnm HCO q23
      go_wp2
      refine bodyPost_ret (v := .tuple #[.agg #[.slice (some ⟨gc, 0, none⟩) es.length es.length, .slice (some ⟨gr, 0, none⟩) l.length l.length], .nilIface]) (by simp [results, Tryz.results51, go_sem, *]) rfl ⟨((unhide HB4).setCell (Nat.le_refl _) _).setCell (Nat.le_refl _) _, (fun p' k' e => by cases e), (fun _ h => absurd h h4), fun _ _ => ⟨gc, gr, rfl, by omega, by omega, ?_, ?_⟩⟩
      · rw [Below.heap_setCell _ _ _ _ (by show gc ≠ w.heap.size; omega), Below.heap_setCell _ _ _ _ (by show gc ≠ w.heap.size; omega)]
        exact unhide HNM
      · refine (unhide HR4).turn (x := w.heap.size) (by simp [World.setCell]) (fun k hk hne => ?_) (by omega) (two_slices (unhide HX4) (fun z e => by cases e) (fun z e => by cases e))
        rw [Below.heap_setCell _ _ _ _ hne, Below.heap_setCell _ _ _ _ hne]
end Go.Proofs.YtfkeddkfegaeiaaGreatDoor
namespace Go.Proofs.YtfkeddkfegaeiaaGreatDoor
open Go
abbrev muLink : Go.Conc.Locks.MuLink := { lock := 76, unlock := 77, ilock := 119, iunlock := 120, lockSlow := 185, unlockSlow := 188, disable := 174, enable := 176, acquire := 177, relMerge := 186, cas32 := 184, add32 := 187, tMutex := 135, tIMutex := 133, tPMutex := 282, tPIMutex := 342, tPI32 := 344, tUP := 336, tNoCopy := 130, tU32 := 131 }
theorem muLib : Go.Conc.Locks.MuLib Tryz.prog muLink :=
  ⟨Tryz.func76, Tryz.func77, Tryz.func119, Tryz.func120, Tryz.func174, Tryz.func176, Tryz.func177, Tryz.func186, Tryz.func184, Tryz.func187,
   Tryz.underlying133, Tryz.runUnderlying133, Tryz.sizeOf133, Tryz.isAgg133, Tryz.zeroValue133,
   Tryz.underlying135, Tryz.runUnderlying135, Tryz.sizeOf135, Tryz.isAgg135, Tryz.zeroValue135,
   Tryz.underlying282, Tryz.runUnderlying282, Tryz.sizeOf282, Tryz.isAgg282, Tryz.zeroValue282,
   Tryz.underlying342, Tryz.runUnderlying342, Tryz.sizeOf342, Tryz.isAgg342, Tryz.zeroValue342,
   Tryz.underlying344, Tryz.runUnderlying344, Tryz.sizeOf344, Tryz.isAgg344, Tryz.zeroValue344,
   Tryz.underlying336, Tryz.runUnderlying336, Tryz.sizeOf336, Tryz.isAgg336, Tryz.zeroValue336,
   Tryz.underlying130, Tryz.runUnderlying130, Tryz.sizeOf130, Tryz.isAgg130, Tryz.zeroValue130,
   Tryz.underlying21, Tryz.runUnderlying21, Tryz.sizeOf21, Tryz.isAgg21, Tryz.zeroValue21,
   (by kernel_rfl)⟩
end Go.Proofs.YtfkeddkfegaeiaaGreatDoor
namespace Go.Proofs.YtfkeddkfegaeiaaGreatDoor
open Go.RowKit Go.MuLone Go.Maps Go.WideMaps
/-- all but two blocks is as it was. -/
structure Off2 (p q : Nat) (w w' : World) : Prop where
  os : w'.os = w.os
  tape : w'.tape = w.tape
  output : w'.output = w.output
  size : w.heap.size ≤ w'.heap.size
  block : ∀ k, k < w.heap.size → k ≠ p → k ≠ q → w'.heap[k]? = w.heap[k]?
theorem Off2.refl (p q : Nat) (w : World) : Off2 p q w w := ⟨rfl, rfl, rfl, Nat.le_refl _, fun _ _ _ _ => rfl⟩
theorem Off2.trans {p q : Nat} {w w1 w2 : World} (h : Off2 p q w w1) (k : Off2 p q w1 w2) : Off2 p q w w2 :=
  ⟨k.os.trans h.os, k.tape.trans h.tape, k.output.trans h.output, Nat.le_trans h.size k.size, fun n hn h1 h2 => (k.block n (Nat.lt_of_lt_of_le hn h.size) h1 h2).trans (h.block n hn h1 h2)⟩
theorem Below.off2 {p q : Nat} {w w' : World} (h : Below w.heap.size w w') : Off2 p q w w' := ⟨h.os, h.tape, h.output, h.size, fun k hk _ _ => h.block k hk⟩
theorem Off2.below {p q B : Nat} {w w' : World} (h : Off2 p q w w') (hB : B ≤ w.heap.size) (hp : B ≤ p) (hq : B ≤ q) : Below B w w' := ⟨h.os, h.tape, h.output, h.size, fun k hk => h.block k (by omega) (by omega) (by omega)⟩
theorem Off2.setCell (p q : Nat) (w : World) (o : Nat) (u : Value) : Off2 p q w (w.setCell ⟨p, o, none⟩ u) :=
  ⟨rfl, rfl, rfl, by simp [World.setCell], fun k _ h1 _ => Below.heap_setCell _ _ _ _ (by show k ≠ p; exact h1)⟩
theorem Off2.grown {p q : Nat} {w w' : World} (h : w.grownBy w' (some q)) : Off2 p q w w' :=
  ⟨h.os, h.tape, h.output, h.size, fun k hk _ h2 => h.block k hk (fun e => by injection e with e; omega)⟩
/-- an element, as it lies. -/
abbrev RvM (v : Value) : Option (DataW Value × List MemPlace) := some (.held v, [])
theorem readsLaw : Keyed Tryz.prog 9 := string_keyed Tryz.underlying9
abbrev qCells (tv : Value) (x y : Int) (mb : Nat) (m : Int) : Array Value := #[tv, .int .i32 x, .int .u32 y, .map (some mb), .int .i64 m]
theorem nil_eql (w : World) (v : Value) : (binOp .eql 23 .nilIface (.iface 496 v)).run Tryz.prog w = .ok (.bool false) w := by
  have h : ∀ d : Nat, (Op.equalIn (d + 1) 23 .nilIface (.iface 496 v)).run Tryz.prog w = .ok false w := fun d => by simp [Op.equalIn, run_underlying Tryz.underlying23]
  simp only [binOp]
  simp [Op.equal, Op.maxDepth, h 9999]
set_option maxRecDepth 100000 in
set_option maxHeartbeats 1000000 in
theorem isNil_any (p : Addr) (w : World) : Calls Tryz.prog 18 #[.nilIface, .iface 496 (.pointer (some p))] w fun e w' => e = .returned (.bool false) ∧ w' = w := by
  have hne := nil_eql w (.pointer (some p))
  go_enter Tryz.func18, Tryz.ntmps18
  go_wp2
  go_ret
  exact ⟨rfl, rfl⟩
set_option maxRecDepth 100000 in
set_option maxHeartbeats 1000000 in
theorem asNil_any (t : Value) (w : World) : Calls Tryz.prog 122 #[.nilIface, t] w fun e w' => e = .returned (.bool false) ∧ w' = w := by
  go_enter Tryz.func122, Tryz.ntmps122
  go_wp2
  go_ret
  exact ⟨rfl, rfl⟩
set_option maxRecDepth 100000 in
set_option maxHeartbeats 1000000 in
theorem ownNil_any (w : World) : Calls Tryz.prog 80 #[.nilIface] w fun e w' => e = .returned .nilIface ∧ Below w.heap.size w w' := by
  go_enter Tryz.func80, Tryz.ntmps80
  go_wp2_with (go_at_call 122; refine (asNil_any _ _).mono ?_; rintro e w' ⟨rfl, rfl⟩)
  go_ret
  exact ⟨rfl, (Below.refl _ _).alloc (Nat.le_refl _) _⟩
set_option maxRecDepth 100000 in
set_option maxHeartbeats 1000000 in
theorem keep_ok (a : Nat → Addr) (B : Nat) (w : World) (hE : EnvX a B w) (qb mb n : Nat) (D : DataW Value) (s : ByteArray) (hs : s.size ≤ 1000) (ad : Option Addr) (tv : Value) (x y m : Int) (hm : 0 ≤ m ∧ m < 1000000000) (hn : n < 1000000000) (hne : mb ≠ qb)
    (hq : w.heap[qb]? = some (.cells (qCells tv x y mb m) 140 (0, 0))) (hown : w.ownsMap Tryz.prog 9 RvM mb n D) :
    Calls Tryz.prog 79 #[.pointer (some ⟨qb, 1, none⟩), .string s, .agg #[.pointer ad, .nilIface]] w fun e w' => e = .returned (.tuple #[]) ∧ w'.ownsMap Tryz.prog 9 RvM mb (n + 1) (D.put (.string s.data.toList) (.held (.agg #[.pointer ad, .nilIface]))) ∧ w'.heap[qb]? = some (.cells (qCells tv x y mb (m + 1)) 140 (0, 0)) ∧ Off2 qb mb w w' := by
  have hkey := keyOf_string_mk (P := Tryz.prog) Tryz.underlying9 (s := s) (by unfold maxLen; omega)
  have gl : w.cell? ⟨0, 0, none⟩ = some (errV a 0) := hE.cell _ (by decide)
  have zl : 0 < w.heap.size := World.block_lt_of_cell? w _ gl
  obtain ⟨kq, fq⟩ := blk hq
  have zq := lt_of_heap hq
  have k3 : w.cell? ⟨qb, 3, none⟩ = some (.map (some mb)) := kq 3
  have HQ := hide hq
  have HO := hide hown
  clear hq hown hE
  go_enter Tryz.func79, Tryz.ntmps79
  go_wp2_with fail
  refine (isNil_any _ _).mono ?_
  rintro e w1 ⟨rfl, hw1⟩
  subst hw1
  obtain ⟨w2, hrun, hown2, hturn2⟩ := ((unhide HO).alloc (.cells #[.pointer ad, .nilIface] 209)).drew.store (t := 136) (e := 209) readsLaw Tryz.underlying136 (by unfold maxLen; omega) (val := .agg #[.pointer ad, .nilIface]) hkey rfl
  have hg2 := hturn2.grown
  have HO2 := hide hown2
  have zm := (unhide HO).lt
  have hq2 : w2.heap[qb]? = some (.cells (qCells tv x y mb m) 140 (0, 0)) := (hg2.block qb (by simp; omega) (fun e => by injection e with e; omega)).trans (heap_prev (unhide HQ))
  have hb2 : w2.heap[w.heap.size]? = some (.cells #[.pointer ad, .nilIface] 209 (0, 0)) := (hg2.block w.heap.size (by simp) (fun e => by injection e with e; omega)).trans (heap_last rfl)
  obtain ⟨kq2, fq2⟩ := blk hq2
  obtain ⟨kb2, -⟩ := blk hb2
  have q3 : w2.cell? ⟨qb, 3, none⟩ = some (.map (some mb)) := kq2 3
  have q4 : w2.cell? ⟨qb, 4, none⟩ = some (.int .i64 m) := kq2 4
  have c0 : w2.cell? ⟨w.heap.size, 0, none⟩ = some (.pointer ad) := kb2 0
  have c1 : w2.cell? ⟨w.heap.size, 1, none⟩ = some .nilIface := kb2 1
  have z2 : qb < w2.heap.size := lt_of_heap hq2
  have z2b : w.heap.size < w2.heap.size := lt_of_heap hb2
  have HQ2 := hide hq2
  have HF2 : Hid (Off2 qb mb w w2) := (Below.off2 ((Below.refl _ _).alloc (Nat.le_refl _) _)).trans ((Below.off2 (Below.refl _ _).drew).trans (Off2.grown hg2))
  have hne4 : w.heap.size ≠ qb := by omega
  clear hturn2 hg2 hown2 hq2 hb2 kq2 kb2 kq
  go_wp2_with fail
  go_region_held3 (fun w' => w'.cell? ⟨qb, 3, none⟩ = some (.map (some mb)) ∧ w'.cell? ⟨w.heap.size, 0, none⟩ = some (.pointer ad) ∧ w'.cell? ⟨w.heap.size, 1, none⟩ = some .nilIface) (go_keep) (first | fail)
  have hw1 : wrap64 (m + 1) = m + 1 := by unfold wrap64; omega
  go_wp2
  go_end0
  refine ⟨rfl, (unhide HO2).setCell (a := ⟨qb, 4, none⟩) hne _, ?_, (unhide HF2).trans (Off2.setCell qb mb w2 4 _)⟩
  rw [heap_set (unhide HQ2)]
  rfl
end Go.Proofs.YtfkeddkfegaeiaaGreatDoor
