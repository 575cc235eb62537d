/-
  Part 50.
-/
import Derived.Test.YtfkeddkfegaeiaaGreatDoorMDgt
namespace Go.Proofs.YtfkeddkfegaeiaaGreatDoor
open Go.RowKit

set_option maxRecDepth 100000 in
set_option maxHeartbeats 2000000 in
theorem built_succ (raw : List Int) (hraw : ∀ z ∈ raw, InR z) (ad : Option Addr) (cap : Nat) (A B : Int) (d : Nat) (hd3 : d ≤ 2) (M : Nat) (hM : M ≤ 1000) (i : Nat) (hi : i + 50 ≤ M) (w : World) (hr : RowAt w (.slice ad raw.length cap) (intsV raw))
    (IH : ∀ (j : Nat) (W : World), j ≤ M → RowAt W (.slice ad raw.length cap) (intsV raw) → Calls Tryz.prog 21 #[.slice ad raw.length cap, .int .i64 (j : Nat), .int .i64 (d : Nat), .int .i64 A, .int .i64 B] W fun e w' => BDone raw A B d j W e w') :
    Calls Tryz.prog 21 #[.slice ad raw.length cap, .int .i64 (i : Nat), .int .i64 ((d : Int) + 1), .int .i64 A, .int .i64 B] w fun e w' => BDone raw A B (d + 1) i w e w' := by
  obtain ⟨n, hn⟩ : ∃ n, n = raw.getD i 0 := ⟨_, rfl⟩
  have hnr : InR n := by
    rw [hn, List.getD_eq_getElem?_getD]
    by_cases h : i < raw.length
    · rw [List.getElem?_eq_getElem h]; exact hraw _ (List.getElem_mem h)
    · rw [List.getElem?_eq_none (by omega)]; unfold InR; simp
  unfold InR at hnr
  obtain ⟨k, hk⟩ : ∃ k, k = pickI n 8 := ⟨_, rfl⟩
  have hk8 := pickI_lt n 8 (by omega)
  rw [← hk] at hk8
  have key : (decide ((i : Int) < (raw.length : Int)) = true ∧ (i : Int) < (raw.length : Int) ∧ ∃ b o, ad = some ⟨b, o, none⟩ ∧ b < w.heap.size ∧ w.cell? ⟨b, o + i, none⟩ = some (.int .i64 n)) ∨ (decide ((i : Int) < (raw.length : Int)) = false ∧ raw.length ≤ i ∧ n = 0) := by
    by_cases h : i < raw.length
    · obtain ⟨ad', cap', e, -, hc⟩ := hr
      injection e with e _ _
      subst e
      rw [List.length_map] at hc
      obtain ⟨b, o, e1, zb, h3⟩ := hc (by omega)
      refine Or.inl ⟨by simp; omega, by omega, b, o, e1, zb, ?_⟩
      rw [h3 i h, hn, List.getD_eq_getElem?_getD, List.getElem?_map, List.getElem?_eq_getElem h]
      rfl
    · exact Or.inr ⟨by simp; omega, by omega, by rw [hn, List.getD_eq_getElem?_getD, List.getElem?_eq_none (by omega)]; rfl⟩
  have HKK : Hid (k = 0 ∨ k = 1 ∨ k = 2 ∨ k = 3 ∨ k = 4 ∨ k = 5 ∨ k = 6 ∨ k = 7) := by unfold Hid; clear key; omega
  have HKEY := hide key
  clear key
  have hj1 : (bltB raw d (i + 1)).2 ≤ M := by
    have h1 := next_lt raw d (i + 1)
    have h2 : 2 ^ (d + 1) ≤ 2 ^ 3 := Nat.pow_le_pow_right (by omega) (by omega)
    omega
  have hb3 : bndB d ≤ 100 := by
    match d, hd3 with
    | 0, _ => decide
    | 1, _ => decide
    | 2, _ => decide
  have ht1 := Nat.le_trans (txt_le raw d (i + 1)) hb3
  have ht2 := Nat.le_trans (txt_le raw d (bltB raw d (i + 1)).2) hb3
  have HI1 : Hid (∀ W, RowAt W (.slice ad raw.length cap) (intsV raw) → Calls Tryz.prog 21 #[.slice ad raw.length cap, .int .i64 ((i : Int) + 1), .int .i64 (d : Nat), .int .i64 A, .int .i64 B] W fun e w' => e = .returned (.tuple #[.agg #[.string (txtB (bltB raw d (i + 1)).1), .int .i64 ((bltB raw d (i + 1)).1.val A B)], .int .i64 ((bltB raw d (i + 1)).2 : Nat)]) ∧ Below W.heap.size W w') := fun W hW => IH (i + 1) W (by omega) hW
  have HI2 : Hid (∀ W, RowAt W (.slice ad raw.length cap) (intsV raw) → Calls Tryz.prog 21 #[.slice ad raw.length cap, .int .i64 ((bltB raw d (i + 1)).2 : Nat), .int .i64 (d : Nat), .int .i64 A, .int .i64 B] W fun e w' => e = .returned (.tuple #[.agg #[.string (txtB (bltB raw d (bltB raw d (i + 1)).2).1), .int .i64 ((bltB raw d (bltB raw d (i + 1)).2).1.val A B)], .int .i64 ((bltB raw d (bltB raw d (i + 1)).2).2 : Nat)]) ∧ Below W.heap.size W w') := fun W hW => IH (bltB raw d (i + 1)).2 W hj1 hW
  have HRS : Hid (∀ (X : Bex × Nat), bltB raw (d + 1) i = X → ∀ (s : ByteArray) (y z : Int), txtB X.1 = s → X.1.val A B = y → ((X.2 : Nat) : Int) = z → ∀ w', Below w.heap.size w w' → BDone raw A B (d + 1) i w (.returned (.tuple #[.agg #[.string s, .int .i64 y], .int .i64 z])) w') := fun X hX s y z h1 h2 h3 w' hb => by
    subst h1 h2 h3
    rw [← hX]
    exact ⟨rfl, hb⟩
  have HB : Hid (bltB raw (d + 1) i = if k = 0 then (.num (numB n), i + 1) else if k = 1 then (.cola, i + 1) else if k = 2 then (.colb, i + 1) else if k = 3 then (.neg (bltB raw d (i + 1)).1, (bltB raw d (i + 1)).2) else if k = 4 then (.mul (bltB raw d (i + 1)).1 (bltB raw d (bltB raw d (i + 1)).2).1, (bltB raw d (bltB raw d (i + 1)).2).2) else if k = 5 then (.sub (bltB raw d (i + 1)).1 (bltB raw d (bltB raw d (i + 1)).2).1, (bltB raw d (bltB raw d (i + 1)).2).2) else (.add (bltB raw d (i + 1)).1 (bltB raw d (bltB raw d (i + 1)).2).1, (bltB raw d (bltB raw d (i + 1)).2).2)) := by
    unfold Hid
    rw [hk, hn]
    rfl
  obtain ⟨E1, hE1⟩ : ∃ E, E = bltB raw d (i + 1) := ⟨_, rfl⟩
  rw [← hE1] at ht1 ht2 HI1 HI2 HB hj1
  obtain ⟨E2, hE2⟩ : ∃ E, E = bltB raw d E1.2 := ⟨_, rfl⟩
  rw [← hE2] at ht2 HI2 HB
  obtain ⟨e1, j1⟩ := E1
  obtain ⟨e2, j2⟩ := E2
  simp only at ht1 ht2 HI1 HI2 HB hj1
  obtain ⟨T1, hT1⟩ : ∃ T, T = txtB e1 := ⟨_, rfl⟩
  obtain ⟨T2, hT2⟩ : ∃ T, T = txtB e2 := ⟨_, rfl⟩
  obtain ⟨v1, hv1⟩ : ∃ v, v = e1.val A B := ⟨_, rfl⟩
  obtain ⟨v2, hv2⟩ : ∃ v, v = e2.val A B := ⟨_, rfl⟩
  rw [← hT1] at ht1 HI1
  rw [← hT2] at ht2 HI2
  rw [← hv1] at HI1
  rw [← hv2] at HI2
  have HNEG : Hid (txtB (.neg e1) = (⟨#[45, 40]⟩ ++ T1) ++ ⟨#[41]⟩ ∧ (Bex.neg e1).val A B = wrap64 (-v1)) := by rw [hT1, hv1]; exact ⟨txt_neg _, rfl⟩
  have HMUL : Hid (txtB (.mul e1 e2) = (((⟨#[40]⟩ ++ T1) ++ ⟨#[41, 32, 42, 40]⟩) ++ T2) ++ ⟨#[41]⟩ ∧ (Bex.mul e1 e2).val A B = wrap64 (v1 * v2)) := by rw [hT1, hv1, hT2, hv2]; exact ⟨txt_mul _ _, rfl⟩
  have HSUB : Hid (txtB (.sub e1 e2) = ((T1 ++ ⟨#[32, 45, 32, 40]⟩) ++ T2) ++ ⟨#[41]⟩ ∧ (Bex.sub e1 e2).val A B = wrap64 (v1 - v2)) := by rw [hT1, hv1, hT2, hv2]; exact ⟨txt_sub _ _, rfl⟩
  have HADD : Hid (txtB (.add e1 e2) = (T1 ++ ⟨#[43, 32]⟩) ++ T2 ∧ (Bex.add e1 e2).val A B = wrap64 (v1 + v2)) := by rw [hT1, hv1, hT2, hv2]; exact ⟨txt_add _ _, rfl⟩
  clear hE1 hE2 hT1 hT2 hv1 hv2
  have HP := hide (pick_any n 8 hnr.1 hnr.2 (by omega) (by omega))
  rw [← hk] at HP
  have hw1 : wrap64 ((i : Int) + 1) = (i : Int) + 1 := by unfold wrap64; omega
  have hdd : wrap64 ((d : Int) + 1 - 1) = (d : Int) := by unfold wrap64; omega
  have hde : (((d : Int) + 1) == 0) = false := by simp; omega
  have hq8 : -9223372036854775808 ≤ n.tdiv 8 ∧ n.tdiv 8 < 9223372036854775808 := by
    rcases Int.le_total 0 n with h | h
    · rw [Int.tdiv_eq_ediv_of_nonneg h]; omega
    · have : n.tdiv 8 = -((-n) / 8) := by rw [← Int.tdiv_eq_ediv_of_nonneg (by omega), Int.neg_tdiv, Int.neg_neg]
      omega
  have hwq : wrap64 (n.tdiv 8) = n.tdiv 8 := by unfold wrap64; omega
  have HP2 := hide (pick_any (n.tdiv 8) 1000 hq8.1 hq8.2 (by omega) (by omega))
  rw [numB_eq] at HP2
  have HD := hide (digits_any (numB n).1 (numB n).2)
  have HTN := hide (txt_num (numB n))
  have HVN : Hid ((Bex.num (numB n)).val A B = ((numB n).1 : Nat)) := rfl
  obtain ⟨G, hG⟩ : ∃ G : ByteArray, G = ⟨(dig (numB n).1).toArray⟩ := ⟨_, rfl⟩
  obtain ⟨V, hV⟩ : ∃ V : Int, V = ((numB n).1 : Nat) := ⟨_, rfl⟩
  rw [← hG] at HD HTN
  rw [← hV] at HP2 HD HVN
  clear hG hV
  have HROW := hide hr
  clear hr hn hk hraw hnr hq8 IH hb3
  rcases unhide HKEY with ⟨hlt, hlt2, b, o, rfl, zb, kc⟩ | ⟨hlt, hle, hn0⟩
  rotate_left
  subst hn0
  simp only [Int.zero_tdiv] at HP2 hwq
  have hnl : ¬ i < raw.length := by omega
  all_goals
    go_enter Tryz.func21, Tryz.ntmps21
    go_wp2_with fail
    refine ((unhide HP) _).mono ?_
    rintro e w' ⟨rfl, rfl⟩
    rcases unhide HKK with rfl | rfl | rfl | rfl | rfl | rfl | rfl | rfl
    · go_wp2_with fail
      refine ((unhide HP2) _).mono ?_
      rintro e w' ⟨rfl, rfl⟩
      go_wp2_with fail
      refine ((unhide HD) _).mono ?_
      rintro e w3 ⟨rfl, hb3⟩
      have hx3 : w3.heap[w.heap.size]? = some (.cells #[.string ⟨#[]⟩, .int .i64 0] 46 (0, 0)) := (hb3.block _ (by simp)).trans (heap_last rfl)
      have HB3 : Hid (Below w.heap.size w w3) := ((Below.refl _ _).alloc (Nat.le_refl _) _).trans (hb3.mono (by simp))
      clear hb3
      obtain ⟨kx, fx⟩ := blk hx3
      have x0 : w3.cell? ⟨w.heap.size, 0, none⟩ = some (.string ⟨#[]⟩) := kx 0
      have x1 : w3.cell? ⟨w.heap.size, 1, none⟩ = some (.int .i64 0) := kx 1
      have xf0 : w3.frozen? ⟨w.heap.size, 0, none⟩ = false := fx 0
      have xf1 : w3.frozen? ⟨w.heap.size, 1, none⟩ = false := fx 1
      have zx := lt_of_heap hx3
      clear hx3 kx fx
      go_wp2
      refine bodyPost_ret (v := .tuple #[.agg #[.string (G), .int .i64 (V)], .int .i64 ((i : Int) + 1)]) (by simp [results, Tryz.results21, go_sem, *]) rfl ((unhide HRS) (.num (numB _), i + 1) ((unhide HB).trans (by rfl)) _ _ _ (unhide HTN) (unhide HVN) rfl _ (((unhide HB3).setCell (Nat.le_refl _) _).setCell (Nat.le_refl _) _))
    · go_wp2
      exact bodyPost_ret (v := .tuple #[.agg #[.string ⟨#[120, 46, 97]⟩, .int .i64 A], .int .i64 ((i : Int) + 1)]) (by simp [results, Tryz.results21, go_sem, *]) rfl ((unhide HRS) (.cola, i + 1) ((unhide HB).trans (by rfl)) _ _ _ (by decide : txtB .cola = ⟨#[120, 46, 97]⟩) rfl rfl _ ((Below.refl _ _).alloc (Nat.le_refl _) _))
    · go_wp2
      exact bodyPost_ret (v := .tuple #[.agg #[.string ⟨#[120, 32, 46, 32, 98]⟩, .int .i64 B], .int .i64 ((i : Int) + 1)]) (by simp [results, Tryz.results21, go_sem, *]) rfl ((unhide HRS) (.colb, i + 1) ((unhide HB).trans (by rfl)) _ _ _ (by decide : txtB .colb = ⟨#[120, 32, 46, 32, 98]⟩) rfl rfl _ ((Below.refl _ _).alloc (Nat.le_refl _) _))
    · go_wp2_with fail
      refine ((unhide HI1) _ (by exact (unhide HROW).keep ((Below.refl _ _).alloc (Nat.le_refl _) _))).mono ?_
      rintro e w3 ⟨rfl, hb3⟩
      have hx3 : w3.heap[w.heap.size]? = some (.cells #[.string ⟨#[]⟩, .int .i64 0] 46 (0, 0)) := (hb3.block _ (by simp)).trans (heap_last rfl)
      have HB3 : Hid (Below w.heap.size w w3) := ((Below.refl _ _).alloc (Nat.le_refl _) _).trans (hb3.mono (by simp))
      clear hb3
      obtain ⟨kx, fx⟩ := blk hx3
      have x0 : w3.cell? ⟨w.heap.size, 0, none⟩ = some (.string ⟨#[]⟩) := kx 0
      have x1 : w3.cell? ⟨w.heap.size, 1, none⟩ = some (.int .i64 0) := kx 1
      have xf0 : w3.frozen? ⟨w.heap.size, 0, none⟩ = false := fx 0
      have xf1 : w3.frozen? ⟨w.heap.size, 1, none⟩ = false := fx 1
      have zx := lt_of_heap hx3
      clear hx3 kx fx
      go_wp2
      refine bodyPost_ret (v := .tuple #[.agg #[.string ((⟨#[45, 40]⟩ ++ T1) ++ ⟨#[41]⟩), .int .i64 (wrap64 (-v1))], .int .i64 ((j1 : Nat))]) (by simp [results, Tryz.results21, go_sem, *]) rfl ((unhide HRS) (.neg e1, j1) ((unhide HB).trans (by rfl)) _ _ _ (unhide HNEG).1 (unhide HNEG).2 rfl _ ((((unhide HB3).setCell (Nat.le_refl _) _).setCell (Nat.le_refl _) _).alloc (by have := (unhide HB3).size; simpa [World.setCell] using this) _))
    · go_wp2_with fail
      refine ((unhide HI1) _ (by exact (unhide HROW).keep ((Below.refl _ _).alloc (Nat.le_refl _) _))).mono ?_
      rintro e w3 ⟨rfl, hb3⟩
      have hx3 : w3.heap[w.heap.size]? = some (.cells #[.string ⟨#[]⟩, .int .i64 0] 46 (0, 0)) := (hb3.block _ (by simp)).trans (heap_last rfl)
      have HB3 : Hid (Below w.heap.size w w3) := ((Below.refl _ _).alloc (Nat.le_refl _) _).trans (hb3.mono (by simp))
      clear hb3
      go_wp2_with fail
      refine ((unhide HI2) _ (by exact (unhide HROW).keep ((unhide HB3).alloc (unhide HB3).size _))).mono ?_
      rintro e w4 ⟨rfl, hb4⟩
      have hx4 := (hb4.block _ (by have := lt_of_heap hx3; simp; omega)).trans (heap_prev hx3)
      have ht4 : w4.heap[w3.heap.size]? = some (.cells #[.string T1, .int .i64 v1] 46 (0, 0)) := (hb4.block _ (by simp)).trans (heap_last rfl)
      obtain ⟨kt, -⟩ := blk ht4
      have y0 : w4.cell? ⟨w3.heap.size, 0, none⟩ = some (.string T1) := kt 0
      have y1 : w4.cell? ⟨w3.heap.size, 1, none⟩ = some (.int .i64 v1) := kt 1
      have zt := lt_of_heap ht4
      have hne3 : w.heap.size ≠ w3.heap.size := by have := lt_of_heap hx3; omega
      have HB4 : Hid (Below w.heap.size w w4) := ((unhide HB3).alloc (unhide HB3).size _).trans (hb4.mono (by have := (unhide HB3).size; simp; omega))
      clear hb4 hx3 ht4 kt
      obtain ⟨kx, fx⟩ := blk hx4
      have x0 : w4.cell? ⟨w.heap.size, 0, none⟩ = some (.string ⟨#[]⟩) := kx 0
      have x1 : w4.cell? ⟨w.heap.size, 1, none⟩ = some (.int .i64 0) := kx 1
      have xf0 : w4.frozen? ⟨w.heap.size, 0, none⟩ = false := fx 0
      have xf1 : w4.frozen? ⟨w.heap.size, 1, none⟩ = false := fx 1
      have zx := lt_of_heap hx4
      clear hx4 kx fx
      go_wp2
      refine bodyPost_ret (v := .tuple #[.agg #[.string ((((⟨#[40]⟩ ++ T1) ++ ⟨#[41, 32, 42, 40]⟩) ++ T2) ++ ⟨#[41]⟩), .int .i64 (wrap64 (v1 * v2))], .int .i64 ((j2 : Nat))]) (by simp [results, Tryz.results21, go_sem, *]) rfl ((unhide HRS) (.mul e1 e2, j2) ((unhide HB).trans (by rfl)) _ _ _ (unhide HMUL).1 (unhide HMUL).2 rfl _ ((((unhide HB4).setCell (Nat.le_refl _) _).setCell (Nat.le_refl _) _).alloc (by have := (unhide HB4).size; simpa [World.setCell] using this) _))
    · go_wp2_with fail
      refine ((unhide HI1) _ (by exact (unhide HROW).keep ((Below.refl _ _).alloc (Nat.le_refl _) _))).mono ?_
      rintro e w3 ⟨rfl, hb3⟩
      have hx3 : w3.heap[w.heap.size]? = some (.cells #[.string ⟨#[]⟩, .int .i64 0] 46 (0, 0)) := (hb3.block _ (by simp)).trans (heap_last rfl)
      have HB3 : Hid (Below w.heap.size w w3) := ((Below.refl _ _).alloc (Nat.le_refl _) _).trans (hb3.mono (by simp))
      clear hb3
      go_wp2_with fail
      refine ((unhide HI2) _ (by exact (unhide HROW).keep ((unhide HB3).alloc (unhide HB3).size _))).mono ?_
      rintro e w4 ⟨rfl, hb4⟩
      have hx4 := (hb4.block _ (by have := lt_of_heap hx3; simp; omega)).trans (heap_prev hx3)
      have ht4 : w4.heap[w3.heap.size]? = some (.cells #[.string T1, .int .i64 v1] 46 (0, 0)) := (hb4.block _ (by simp)).trans (heap_last rfl)
      obtain ⟨kt, -⟩ := blk ht4
      have y0 : w4.cell? ⟨w3.heap.size, 0, none⟩ = some (.string T1) := kt 0
      have y1 : w4.cell? ⟨w3.heap.size, 1, none⟩ = some (.int .i64 v1) := kt 1
      have zt := lt_of_heap ht4
      have hne3 : w.heap.size ≠ w3.heap.size := by have := lt_of_heap hx3; omega
      have HB4 : Hid (Below w.heap.size w w4) := ((unhide HB3).alloc (unhide HB3).size _).trans (hb4.mono (by have := (unhide HB3).size; simp; omega))
      clear hb4 hx3 ht4 kt
      obtain ⟨kx, fx⟩ := blk hx4
      have x0 : w4.cell? ⟨w.heap.size, 0, none⟩ = some (.string ⟨#[]⟩) := kx 0
      have x1 : w4.cell? ⟨w.heap.size, 1, none⟩ = some (.int .i64 0) := kx 1
      have xf0 : w4.frozen? ⟨w.heap.size, 0, none⟩ = false := fx 0
      have xf1 : w4.frozen? ⟨w.heap.size, 1, none⟩ = false := fx 1
      have zx := lt_of_heap hx4
      clear hx4 kx fx
      go_wp2
      refine bodyPost_ret (v := .tuple #[.agg #[.string (((T1 ++ ⟨#[32, 45, 32, 40]⟩) ++ T2) ++ ⟨#[41]⟩), .int .i64 (wrap64 (v1 - v2))], .int .i64 ((j2 : Nat))]) (by simp [results, Tryz.results21, go_sem, *]) rfl ((unhide HRS) (.sub e1 e2, j2) ((unhide HB).trans (by rfl)) _ _ _ (unhide HSUB).1 (unhide HSUB).2 rfl _ ((((unhide HB4).setCell (Nat.le_refl _) _).setCell (Nat.le_refl _) _).alloc (by have := (unhide HB4).size; simpa [World.setCell] using this) _))
    · go_wp2_with fail
      refine ((unhide HI1) _ (by exact (unhide HROW).keep ((Below.refl _ _).alloc (Nat.le_refl _) _))).mono ?_
      rintro e w3 ⟨rfl, hb3⟩
      have hx3 : w3.heap[w.heap.size]? = some (.cells #[.string ⟨#[]⟩, .int .i64 0] 46 (0, 0)) := (hb3.block _ (by simp)).trans (heap_last rfl)
      have HB3 : Hid (Below w.heap.size w w3) := ((Below.refl _ _).alloc (Nat.le_refl _) _).trans (hb3.mono (by simp))
      clear hb3
      go_wp2_with fail
      refine ((unhide HI2) _ (by exact (unhide HROW).keep ((unhide HB3).alloc (unhide HB3).size _))).mono ?_
      rintro e w4 ⟨rfl, hb4⟩
      have hx4 := (hb4.block _ (by have := lt_of_heap hx3; simp; omega)).trans (heap_prev hx3)
      have ht4 : w4.heap[w3.heap.size]? = some (.cells #[.string T1, .int .i64 v1] 46 (0, 0)) := (hb4.block _ (by simp)).trans (heap_last rfl)
      obtain ⟨kt, -⟩ := blk ht4
      have y0 : w4.cell? ⟨w3.heap.size, 0, none⟩ = some (.string T1) := kt 0
      have y1 : w4.cell? ⟨w3.heap.size, 1, none⟩ = some (.int .i64 v1) := kt 1
      have zt := lt_of_heap ht4
      have hne3 : w.heap.size ≠ w3.heap.size := by have := lt_of_heap hx3; omega
      have HB4 : Hid (Below w.heap.size w w4) := ((unhide HB3).alloc (unhide HB3).size _).trans (hb4.mono (by have := (unhide HB3).size; simp; omega))
      clear hb4 hx3 ht4 kt
      obtain ⟨kx, fx⟩ := blk hx4
      have x0 : w4.cell? ⟨w.heap.size, 0, none⟩ = some (.string ⟨#[]⟩) := kx 0
      have x1 : w4.cell? ⟨w.heap.size, 1, none⟩ = some (.int .i64 0) := kx 1
      have xf0 : w4.frozen? ⟨w.heap.size, 0, none⟩ = false := fx 0
      have xf1 : w4.frozen? ⟨w.heap.size, 1, none⟩ = false := fx 1
      have zx := lt_of_heap hx4
      clear hx4 kx fx
      go_wp2
      refine bodyPost_ret (v := .tuple #[.agg #[.string ((T1 ++ ⟨#[43, 32]⟩) ++ T2), .int .i64 (wrap64 (v1 + v2))], .int .i64 ((j2 : Nat))]) (by simp [results, Tryz.results21, go_sem, *]) rfl ((unhide HRS) (.add e1 e2, j2) ((unhide HB).trans (by rfl)) _ _ _ (unhide HADD).1 (unhide HADD).2 rfl _ ((((unhide HB4).setCell (Nat.le_refl _) _).setCell (Nat.le_refl _) _).alloc (by have := (unhide HB4).size; simpa [World.setCell] using this) _))
    · go_wp2_with fail
      refine ((unhide HI1) _ (by exact (unhide HROW).keep ((Below.refl _ _).alloc (Nat.le_refl _) _))).mono ?_
      rintro e w3 ⟨rfl, hb3⟩
      have hx3 : w3.heap[w.heap.size]? = some (.cells #[.string ⟨#[]⟩, .int .i64 0] 46 (0, 0)) := (hb3.block _ (by simp)).trans (heap_last rfl)
      have HB3 : Hid (Below w.heap.size w w3) := ((Below.refl _ _).alloc (Nat.le_refl _) _).trans (hb3.mono (by simp))
      clear hb3
      go_wp2_with fail
      refine ((unhide HI2) _ (by exact (unhide HROW).keep ((unhide HB3).alloc (unhide HB3).size _))).mono ?_
      rintro e w4 ⟨rfl, hb4⟩
      have hx4 := (hb4.block _ (by have := lt_of_heap hx3; simp; omega)).trans (heap_prev hx3)
      have ht4 : w4.heap[w3.heap.size]? = some (.cells #[.string T1, .int .i64 v1] 46 (0, 0)) := (hb4.block _ (by simp)).trans (heap_last rfl)
      obtain ⟨kt, -⟩ := blk ht4
      have y0 : w4.cell? ⟨w3.heap.size, 0, none⟩ = some (.string T1) := kt 0
      have y1 : w4.cell? ⟨w3.heap.size, 1, none⟩ = some (.int .i64 v1) := kt 1
      have zt := lt_of_heap ht4
      have hne3 : w.heap.size ≠ w3.heap.size := by have := lt_of_heap hx3; omega
      have HB4 : Hid (Below w.heap.size w w4) := ((unhide HB3).alloc (unhide HB3).size _).trans (hb4.mono (by have := (unhide HB3).size; simp; omega))
      clear hb4 hx3 ht4 kt
      obtain ⟨kx, fx⟩ := blk hx4
      have x0 : w4.cell? ⟨w.heap.size, 0, none⟩ = some (.string ⟨#[]⟩) := kx 0
      have x1 : w4.cell? ⟨w.heap.size, 1, none⟩ = some (.int .i64 0) := kx 1
      have xf0 : w4.frozen? ⟨w.heap.size, 0, none⟩ = false := fx 0
      have xf1 : w4.frozen? ⟨w.heap.size, 1, none⟩ = false := fx 1
      have zx := lt_of_heap hx4
      clear hx4 kx fx
      go_wp2
      refine bodyPost_ret (v := .tuple #[.agg #[.string ((T1 ++ ⟨#[43, 32]⟩) ++ T2), .int .i64 (wrap64 (v1 + v2))], .int .i64 ((j2 : Nat))]) (by simp [results, Tryz.results21, go_sem, *]) rfl ((unhide HRS) (.add e1 e2, j2) ((unhide HB).trans (by rfl)) _ _ _ (unhide HADD).1 (unhide HADD).2 rfl _ ((((unhide HB4).setCell (Nat.le_refl _) _).setCell (Nat.le_refl _) _).alloc (by have := (unhide HB4).size; simpa [World.setCell] using this) _))
end Go.Proofs.YtfkeddkfegaeiaaGreatDoor
