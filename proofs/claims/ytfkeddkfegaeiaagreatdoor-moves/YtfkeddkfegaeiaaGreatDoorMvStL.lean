/-
  Part 33.
-/
import Derived.Test.YtfkeddkfegaeiaaGreatDoorMvStI
namespace Go.Proofs.YtfkeddkfegaeiaaGreatDoor
open Go.RowKit
/-- a window as it lies: what its parts and its order are made of. -/
structure WnM (w0 : World) (G : Fx) (wd : Nat) (wb : Nat) (cv ov pv rv : Value) (ah : Int) (ps os : List (List Int → Int)) : Prop where
  box : G wb = some (.cells #[cv, ov, pv, rv, .int .i64 ah] 456 (0, 0))
  few : ps.length ≤ 100 ∧ os.length ≤ 100
  part : ∀ W, Fits w0 G W → Fns w0 G wd pv ps W
  ord : ∀ W, Fits w0 G W → Fns w0 G wd rv os W
theorem infoSeat : (Tryz.prog.info? 479).map (fun i => (i.zero, i.size, i.bytes)) = some (some (.agg #[.int .i64 0, .slice none 0 0, .slice none 0 0]), 3, 56) := by kernel_rfl
theorem cellFar (W : World) (x o : Nat) (u : Value) {y q : Nat} (h : y ≠ x) : (W.setCell ⟨x, o, none⟩ u).cell? ⟨y, q, none⟩ = W.cell? ⟨y, q, none⟩ := by
  simp only [World.cell?, Below.heap_setCell _ _ _ _ (show y ≠ (⟨x, o, none⟩ : Addr).block from h)]
def seat0 : Seat := ⟨0, none, 0, 0, none, 0, 0, [], []⟩
theorem seats_made {W : World} {g n : Nat} {cur : Array Value} (h : W.heap[g]? = some (.cells cur 479 (0, 0))) (hs : cur.size = n * 3) (hc : cur.toList = (madeCells #[Value.int .i64 0, .slice none 0 0, .slice none 0 0] (n * 3)).toList) : Sts W g n (fun _ => seat0) := by
  refine ⟨cur, h, hs, fun k hk => ?_⟩
  have e : ∀ j, j < n * 3 → cur[j]? = some (#[Value.int .i64 0, .slice none 0 0, .slice none 0 0][j % 3]!) := fun j hj => by
    rw [← Array.getElem?_toList, hc, Array.getElem?_toList]
    simp [madeCells, hj]
  refine ⟨?_, ?_, ?_⟩
  · rw [e _ (by omega), show k * 3 % 3 = 0 by omega]; rfl
  · rw [e _ (by omega), show (k * 3 + 1) % 3 = 1 by omega]; rfl
  · rw [e _ (by omega), show (k * 3 + 2) % 3 = 2 by omega]; rfl
/-- a seat of a row. -/
structure SeatOf (ps os : List (List Int → Int)) (rows : List (List Int)) (i : Nat) (s : Seat) : Prop where
  row : s.row = i
  num : ∃ r, rows[i]? = some r ∧ s.part = eachN ps r ∧ s.ord = eachN os r
set_option maxRecDepth 100000 in
set_option maxHeartbeats 1000000 in
theorem seats_any (w0 : World) (G : Fx) (wd wb : Nat) (cv ov pv rv : Value) (ah : Int) (ps os : List (List Int → Int)) (hm : WnM w0 G wd wb cv ov pv rv ah ps os) (rows : List (List Int)) (hwd : ∀ r ∈ rows, r.length = wd) (hn : rows.length ≤ 4000) (rw' : Value) (W : World) (hW : Fits w0 G W) (hr : RowsAt W rw' rows) :
    Calls Tryz.prog 319 #[.pointer (some ⟨wb, 0, none⟩), rw'] W fun e W' => ∃ g d, e = .returned (.slice (some ⟨g, 0, none⟩) rows.length rows.length) ∧ W.heap.size ≤ g ∧ Sts2 W' g rows.length d ∧ Below W.heap.size W W' ∧ Srt' SeatT d 0 rows.length ∧ (∀ k, k < rows.length → ∃ i r, rows[i]? = some r ∧ (d k).row = i ∧ (d k).part = eachN ps r ∧ (d k).ord = eachN os r) := by
  have HM := hide hm
  have HWD := hide hwd
  have HW := hide hW
  have HR := hide hr
  obtain ⟨vp, ⟨app, cpp, hpv, -, -⟩, lp, -⟩ := (hm.part W hW).row
  obtain ⟨vo, ⟨apo, cpo, hrv, -, -⟩, lo, -⟩ := (hm.ord W hW).row
  rw [lp] at hpv
  rw [lo] at hrv
  subst hpv hrv
  clear lp lo
  have hwb := hW.new _ _ hm.box
  obtain ⟨kb, -⟩ := blk hwb
  have k2 : W.cell? ⟨wb, 2, none⟩ = some (.slice app ps.length cpp) := kb 2
  have k3 : W.cell? ⟨wb, 3, none⟩ = some (.slice apo os.length cpo) := kb 3
  have zwb := lt_of_heap hwb
  obtain ⟨vs, ⟨adr, capr, rfl, mr, cr⟩, lr, rr⟩ := hr
  rw [lr] at HR ⊢
  clear hm hwd hW hwb kb cr rr mr
  obtain ⟨i0, hi, hinf⟩ := Option.map_eq_some_iff.1 infoSeat
  simp only [Prod.mk.injEq] at hinf
  obtain ⟨hz0, hz1, hz2⟩ := hinf
  have HI := hide hi
  have HZ0 := hide hz0
  have HZ1 := hide hz1
  have HZ2 := hide hz2
  have HLR := hide lr
  clear hi hz0 hz1 hz2 lr
  go_enter Tryz.func319, Tryz.ntmps319
  go_wp2_with (at_make; refine wpList_make_full _ rfl _ _ 476 rfl W.heap.size 479 i0 (.agg #[.int .i64 0, .slice none 0 0, .slice none 0 0]) 3 Tryz.underlying476 (unhide HI) (unhide HZ0) (unhide HZ1) .i64 .i64 _ _ rows.length rfl rfl ?c1 ?c2 ?c3 ?c4 ?c5 ?_)
  case c1 => simp
  case c2 => simp
  case c3 => rw [unhide HZ2]; omega
  case c4 => unfold maxLen; omega
  case c5 => exact Nat.le_refl _
  intro w1 ho hg
  rcases ho.2 with ⟨hv, _⟩ | ⟨g1, cap', cur, hv, hge, hh, c1, c2, c3, c4⟩
  · cases hv
  injection hv with hv1 hv2 hv3
  injection hv1 with hv1
  injection hv1 with hv1
  subst hv1
  have HS1 : Hid (Sts w1 W.heap.size rows.length (fun _ => seat0)) := by
    refine seats_made hh (by rw [c3]; omega) ?_
    have hcl : cur.toList.length = rows.length * 3 := by rw [Array.length_toList, c3]; omega
    rw [List.take_of_length_le (by omega)] at c4
    exact c4
  have HB1 : Hid (Below W.heap.size W w1) := (Below.refl _ _).grown hg (Nat.le_refl _) (fun k e => by cases e)
  clear ho hg hh c1 c2 c3 c4 hv2 hv3 hge
  have HE : Hid (∀ (v rowv : Value) (fs : List (List Int → Int)) (r : List Int) (W' : World), Fns w0 G wd v fs W' → fs.length ≤ 100 → r.length = wd → Fits w0 G W' → RowAt W' rowv (intsV r) → Calls Tryz.prog 330 #[v, rowv] W' fun e W2 => ∃ g, e = .returned (.slice (some ⟨g, 0, none⟩) fs.length fs.length) ∧ W'.heap.size ≤ g ∧ W2.heap[g]? = some (.cells (intsV (eachN fs r)).toArray 3 (0, 0)) ∧ Below W'.heap.size W' W2) := fun v rowv fs r W' h1 h2 h3 h4 h5 => each_any w0 G wd v rowv fs h2 r h3 W' h4 h1 h5
  obtain ⟨g, hgb⟩ : ∃ g, g = W.heap.size := ⟨_, rfl⟩
  rw [← hgb] at HS1 ⊢
  have HGB := hide hgb
  have hg1 : g ≤ W.heap.size := by omega
  have hg2 : W.heap.size ≤ g := by omega
  clear hgb
  go_wp2_with fail
  go_loopg [13] rows.length (fun f i W' => ∃ sl : List Seat, sl.length + f = rows.length ∧ i = .int .i64 (sl.length : Nat) ∧ Sts W' g rows.length (fun j => sl.getD j seat0) ∧ Below W.heap.size W W' ∧ ∀ (j : Nat) s, sl[j]? = some s → SeatAt g W' s ∧ SeatOf ps os rows j s)
  case atStart => exact ⟨[], by simp, rfl, unhide HS1, unhide HB1, fun j s e => by simp at e⟩
  case round =>
    obtain ⟨sl, hkf, rfl, hs, hbw, hof⟩ := hrel
    have HS := hide hs
    have HBW := hide hbw
    have HOF := hide hof
    clear hs hbw hof
    by_cases hlt : sl.length < rows.length
    · have hd : decide (sl.length < rows.length) = true := by simpa using hlt
      obtain ⟨gm, rfl⟩ : ∃ gm, gk = gm + 1 := ⟨gk - 1, by omega⟩
      obtain ⟨vs2, ⟨adr2, capr2, e0, -, cr⟩, lr2, rr⟩ := unhide HR
      injection e0 with e1 e2 e3
      subst e1 e3
      rw [lr2] at cr
      obtain ⟨b1, o1, rfl, z1, cc1⟩ := cr (by omega)
      obtain ⟨u, hu⟩ : ∃ u, vs2[sl.length]? = some u := ⟨vs2[sl.length]'(by rw [lr2]; omega), List.getElem?_eq_getElem _⟩
      obtain ⟨r, hr⟩ : ∃ r, rows[sl.length]? = some r := ⟨_, List.getElem?_eq_getElem hlt⟩
      have hru := rr sl.length r u hr hu
      have k1 : wr.cell? ⟨b1, o1 + sl.length, none⟩ = some u := by
        rw [(unhide HBW).cell (p := ⟨b1, _, none⟩) z1, cc1 _ (by omega), hu]
      have HRU := hide (hru.keep (unhide HBW))
      have HRL : Hid (r.length = wd) := (unhide HWD) r (List.mem_of_getElem? hr)
      obtain ⟨adu, capu, rfl, -, -⟩ := hru
      rw [List.length_map] at k1 HRU
      have HRR := hide hr
      have j2 := ((unhide HBW).cell (p := ⟨wb, 2, none⟩) zwb).trans k2
      have j3 := ((unhide HBW).cell (p := ⟨wb, 3, none⟩) zwb).trans k3
      have zw1 := (unhide HBW).size
      have zwb2 : wb < wr.heap.size := by omega
      obtain ⟨zg, x0, x1, x2⟩ := (unhide HS).at (k := sl.length) hlt
      have fr := (unhide HS).free
      have q1 : (0 : Int) ≤ (sl.length : Int) := by omega
      have q2 : (sl.length : Int) < (rows.length : Int) := by omega
      have hne : wb ≠ g := by omega
      generalize sl.getD sl.length seat0 = sz at *
      clear hu hr cc1 cr rr lr2 e2
      go_wp2_with fail
      go_region_held3 (fun w' => w'.cell? ⟨wb, 2, none⟩ = some (.slice app ps.length cpp) ∧ w'.cell? ⟨wb, 3, none⟩ = some (.slice apo os.length cpo)) (first | go_keep | exact ⟨by rw [cellFar _ _ _ _ hne, cellFar _ _ _ _ hne, cellFar _ _ _ _ hne]; assumption, by rw [cellFar _ _ _ _ hne, cellFar _ _ _ _ hne, cellFar _ _ _ _ hne]; assumption⟩) (first
        | (go_at_call 330; refine ((unhide HE) _ _ _ r _ (by exact (unhide HM).part _ ((unhide HW).below (unhide HBW).drew)) (unhide HM).few.1 (unhide HRL) (by exact (unhide HW).below (unhide HBW).drew) (by exact (unhide HRU).keep (Below.refl _ _).drew)).mono ?_; rintro e wp ⟨gp, rfl, hgp, hhp, hbp⟩; have HBP : Hid (Below wr.heap.size wr wp) := (Below.refl _ _).drew.trans hbp; have HHP := hide hhp; have m2 := (hbp.cell (p := ⟨wb, 2, none⟩) zwb2).trans j2; have m3 := (hbp.cell (p := ⟨wb, 3, none⟩) zwb2).trans j3; have zp : wr.heap.size ≤ wp.heap.size := hbp.size; have hgp' : wr.heap.size ≤ gp := hgp; have zgp := lt_of_heap hhp; clear hbp hhp hgp)
        | (go_at_call 330; refine ((unhide HE) _ _ _ r _ (by exact (unhide HM).ord _ ((unhide HW).below ((unhide HBW).trans ((unhide HBP).mono zw1)))) (unhide HM).few.2 (unhide HRL) (by exact (unhide HW).below ((unhide HBW).trans ((unhide HBP).mono zw1))) (by exact (unhide HRU).keep (unhide HBP))).mono ?_; rintro e wo ⟨go', rfl, hgo, hho, hbo⟩; have HBO : Hid (Below wp.heap.size wp wo) := hbo; have HHO := hide hho; have n2 := (hbo.cell (p := ⟨wb, 2, none⟩) (by show wb < wp.heap.size; omega)).trans m2; have n3 := (hbo.cell (p := ⟨wb, 3, none⟩) (by show wb < wp.heap.size; omega)).trans m3; have zo := hbo.size; have hgo' : wp.heap.size ≤ go' := hgo; have zgo := lt_of_heap hho; have y0 : wo.cell? ⟨g, sl.length * 3, none⟩ = some (.int .i64 (sz.row : Nat)) := (hbo.cell (p := ⟨g, _, none⟩) (by show g < wp.heap.size; omega)).trans (((unhide HBP).cell (p := ⟨g, _, none⟩) zg).trans x0); have y1 : wo.cell? ⟨g, sl.length * 3 + 1, none⟩ = some (.slice sz.pa sz.pl sz.pc) := (hbo.cell (p := ⟨g, _, none⟩) (by show g < wp.heap.size; omega)).trans (((unhide HBP).cell (p := ⟨g, _, none⟩) zg).trans x1); have y2 : wo.cell? ⟨g, sl.length * 3 + 2, none⟩ = some (.slice sz.oa sz.ol sz.oc) := (hbo.cell (p := ⟨g, _, none⟩) (by show g < wp.heap.size; omega)).trans (((unhide HBP).cell (p := ⟨g, _, none⟩) zg).trans x2); have yf : ∀ o, wo.frozen? ⟨g, o, none⟩ = false := (((unhide HS).below (unhide HBP)).below hbo).free; clear hbo hho hgo))
      have HSN : Hid (Sts (((wo.setCell ⟨g, sl.length * 3, none⟩ (.int .i64 (sl.length : Nat))).setCell ⟨g, sl.length * 3 + 1, none⟩ (.slice (some ⟨gp, 0, none⟩) ps.length ps.length)).setCell ⟨g, sl.length * 3 + 2, none⟩ (.slice (some ⟨go', 0, none⟩) os.length os.length)) g rows.length (fun j => (sl ++ [(⟨sl.length, some ⟨gp, 0, none⟩, ps.length, ps.length, some ⟨go', 0, none⟩, os.length, os.length, eachN ps r, eachN os r⟩ : Seat)]).getD j seat0)) := by
        refine ((((unhide HS).below (unhide HBP)).below (unhide HBO)).put hlt ⟨sl.length, some ⟨gp, 0, none⟩, ps.length, ps.length, some ⟨go', 0, none⟩, os.length, os.length, eachN ps r, eachN os r⟩).congr fun k hk => ?_
        by_cases e : k = sl.length
        · rw [if_pos e, e, List.getD_eq_getElem?_getD, List.getElem?_append_right (Nat.le_refl _), Nat.sub_self]; rfl
        · rw [if_neg e, List.getD_eq_getElem?_getD, List.getD_eq_getElem?_getD]
          by_cases e2 : k < sl.length
          · rw [List.getElem?_append_left e2]
          · rw [List.getElem?_eq_none (by simp; omega), List.getElem?_eq_none (by omega)]
      have HBN : Hid (Below W.heap.size W wo) := ((unhide HBW).trans ((unhide HBP).mono zw1)).trans ((unhide HBO).mono (by omega))
      clear y0 y1 y2 yf x0 x1 x2 fr m2 m3 n2 n3 j2 j3
      go_wp2
      go_roundg gm
      case measure => simp
      case rel =>
        have hkp : Kp g wr (((wo.setCell ⟨g, sl.length * 3, none⟩ (.int .i64 (sl.length : Nat))).setCell ⟨g, sl.length * 3 + 1, none⟩ (.slice (some ⟨gp, 0, none⟩) ps.length ps.length)).setCell ⟨g, sl.length * 3 + 2, none⟩ (.slice (some ⟨go', 0, none⟩) os.length os.length)) := ((((Kp.ofBelow (unhide HBP)).trans (Kp.ofBelow (unhide HBO))).setCell _ _).setCell _ _).setCell _ _
        refine ⟨sl ++ [(⟨sl.length, some ⟨gp, 0, none⟩, ps.length, ps.length, some ⟨go', 0, none⟩, os.length, os.length, eachN ps r, eachN os r⟩ : Seat)], by simp; omega, ?_, unhide HSN, (((unhide HBN).setCell hg2 _).setCell hg2 _).setCell hg2 _, fun j s hj => ?_⟩
        · rw [List.length_append]; go_num
        · by_cases e : j < sl.length
          · rw [List.getElem?_append_left e] at hj
            obtain ⟨q1, q2⟩ := (unhide HOF) j s hj
            exact ⟨q1.keep hkp, q2⟩
          · have hj2 := (List.getElem?_eq_some_iff.1 hj).1
            rw [List.length_append, List.length_singleton] at hj2
            obtain rfl : j = sl.length := by omega
            rw [List.getElem?_append_right (Nat.le_refl _), Nat.sub_self] at hj
            simp at hj
            subst hj
            have far : ∀ (b : Nat) (cs : Array Value), b ≠ g → wo.heap[b]? = some (.cells cs 3 (0, 0)) → (((wo.setCell ⟨g, sl.length * 3, none⟩ (.int .i64 (sl.length : Nat))).setCell ⟨g, sl.length * 3 + 1, none⟩ (.slice (some ⟨gp, 0, none⟩) ps.length ps.length)).setCell ⟨g, sl.length * 3 + 2, none⟩ (.slice (some ⟨go', 0, none⟩) os.length os.length)).heap[b]? = some (.cells cs 3 (0, 0)) := fun b cs hb h => by
              rw [Below.heap_setCell _ _ _ _ hb, Below.heap_setCell _ _ _ _ hb, Below.heap_setCell _ _ _ _ hb]; exact h
            have off : ∀ (b : Nat) (fs : List (List Int → Int)), fs.length ≤ 100 → b ≠ g → wo.heap[b]? = some (.cells (intsV (eachN fs r)).toArray 3 (0, 0)) → OffAt g (((wo.setCell ⟨g, sl.length * 3, none⟩ (.int .i64 (sl.length : Nat))).setCell ⟨g, sl.length * 3 + 1, none⟩ (.slice (some ⟨gp, 0, none⟩) ps.length ps.length)).setCell ⟨g, sl.length * 3 + 2, none⟩ (.slice (some ⟨go', 0, none⟩) os.length os.length)) (.slice (some ⟨b, 0, none⟩) fs.length fs.length) (eachN fs r) := fun b fs hf hb h => by
              have hl : (eachN fs r).length = fs.length := by simp [eachN]
              have h2 := far b _ hb h
              refine ⟨some ⟨b, 0, none⟩, fs.length, by rw [hl], by rw [hl]; unfold maxLen; omega, fun _ => ⟨b, 0, rfl, hb, lt_of_heap h2, fun k hk => ?_⟩⟩
              rw [Nat.zero_add, (blk h2).1]
              simp
            exact ⟨⟨off gp ps (unhide HM).few.1 (by omega) (((unhide HBO).block _ zgp).trans (unhide HHP)), off go' os (unhide HM).few.2 (by omega) (unhide HHO)⟩, rfl, r, unhide HRR, rfl, rfl⟩
    · have hd : decide (sl.length < rows.length) = false := by simpa using hlt
      have hll : sl.length = rows.length := by omega
      have HAT : Hid (∀ k, k < rows.length → SeatAt g wr (sl.getD k seat0) ∧ SeatOf ps os rows k (sl.getD k seat0)) := fun k hk => by
        obtain ⟨s, hs⟩ : ∃ s, sl[k]? = some s := ⟨_, List.getElem?_eq_getElem (by omega)⟩
        rw [List.getD_eq_getElem?_getD, hs]
        exact (unhide HOF) k s hs
      have HSRT := hide (sortStable_any SeatT SeatT.ordr g rows.length rows.length hn wr (fun j => sl.getD j seat0) ⟨unhide HS, fun k hk => ((unhide HAT) k hk).1⟩ (fun i j h1 h2 => SeatT.bfr (by rw [((unhide HAT) i (by omega)).2.row, ((unhide HAT) j h2).2.row]; exact h1)))
      clear hll
      go_wp2_with fail
      refine (unhide HSRT).mono ?_
      rintro e W2 ⟨d2, rfl, hs2, hk2, hi2, hr2⟩
      have HS2 := hide hs2
      have HK2 := hide hk2
      have HI2 := hide hi2
      have HR2 := hide hr2
      clear hs2 hk2 hi2 hr2 HSRT
      go_wp2
      go_ret
      refine ⟨g, d2, rfl, hg2, unhide HS2, (unhide HBW).trans ((unhide HK2).below hg2 (unhide HBW).size), unhide HR2, fun k hk => ?_⟩
      obtain ⟨i, -, i2, e⟩ := (unhide HI2).2 k (Nat.zero_le _) hk
      obtain ⟨q1, r, q2, q3, q4⟩ := ((unhide HAT) i i2).2
      refine ⟨i, r, q2, ?_, ?_, ?_⟩
      · rw [e]; exact q1
      · rw [e]; exact q3
      · rw [e]; exact q4
end Go.Proofs.YtfkeddkfegaeiaaGreatDoor
namespace Go.Proofs.YtfkeddkfegaeiaaGreatDoor
open Go.RowKit
def sumW (l : List Int) : Int := l.foldl (fun a n => wrap64 (a + n)) 0
def minL (l : List Int) : Int := match l with
  | [] => 0
  | x :: r => r.foldl min x
def maxL (l : List Int) : Int := match l with
  | [] => 0
  | x :: r => r.foldl max x
set_option maxRecDepth 100000 in
set_option maxHeartbeats 1000000 in
theorem psum_any (v : Value) (l : List Int) (W : World) (h : RowAt W v (intsV l)) : Calls Tryz.prog 314 #[v] W fun e W' => e = .returned (.int .i64 (sumW l)) ∧ W' = W := by
  obtain ⟨ad, cap, rfl, hm, hc⟩ := h
  rw [List.length_map] at hm hc ⊢
  have HC := hide hc
  obtain ⟨R, hR⟩ : ∃ R, R = sumW l := ⟨_, rfl⟩
  rw [← hR]
  have HR := hide hR
  clear hc hR
  unfold maxLen at hm
  go_enter Tryz.func314, Tryz.ntmps314
  go_wp2_with fail
  go_loopg [3, 8] l.length (fun f tv i W' => ∃ pre suf, l = pre ++ suf ∧ f = suf.length ∧ tv = .int .i64 (sumW pre) ∧ i = .int .i64 (pre.length : Nat) ∧ W' = W)
  case atStart => exact ⟨[], l, rfl, rfl, rfl, rfl, rfl⟩
  case round =>
    obtain ⟨pre, suf, h1, rfl, rfl, rfl, hWr⟩ := hrel
    obtain rfl := hWr.symm
    have l1 : pre.length + suf.length = l.length := by rw [h1, List.length_append]
    have HZ := hide h1
    clear h1
    cases suf with
    | nil =>
      have hlt : decide (pre.length < l.length) = false := by simp at l1 ⊢; omega
      have HE : Hid (R = sumW pre) := by show R = sumW pre; rw [unhide HR, unhide HZ, List.append_nil]
      go_wp2
      go_ret
      exact ⟨by rw [unhide HE]; rfl, rfl⟩
    | cons z suf =>
      rw [List.length_cons] at l1
      have hlt : decide (pre.length < l.length) = true := by simp; omega
      obtain ⟨b, o, rfl, zb, cc⟩ := (unhide HC) (by omega)
      have k1 : W.cell? ⟨b, o + pre.length, none⟩ = some (.int .i64 z) := by
        rw [cc _ (by omega), unhide HZ]; simp
      have HZ2 : Hid (l = (pre ++ [z]) ++ suf) := by unfold Hid; rw [unhide HZ]; simp
      have HSM : Hid (sumW (pre ++ [z]) = wrap64 (sumW pre + z)) := by unfold Hid sumW; rw [List.foldl_append]; rfl
      clear cc
      generalize sumW pre = S at *
      go_wp2
      go_roundg suf.length
      case measure => simp
      case rel =>
        refine ⟨pre ++ [z], suf, unhide HZ2, rfl, ?_, ?_, rfl⟩
        · rw [unhide HSM]
        · rw [List.length_append]; go_num
set_option maxRecDepth 100000 in
set_option maxHeartbeats 1000000 in
theorem pmin_any (v : Value) (l : List Int) (h0 : 0 < l.length) (h9 : l.length ≤ 4000) (W : World) (h : RowAt W v (intsV l)) : Calls Tryz.prog 316 #[v] W fun e W' => e = .returned (.int .i64 (minL l)) ∧ W' = W := by
  obtain ⟨ad, cap, rfl, hm, hc⟩ := h
  rw [List.length_map] at hm hc ⊢
  obtain ⟨b, o, rfl, zb, cc⟩ := hc h0
  have HC := hide cc
  have hlt : decide ((l.length : Int) < 1) = false := by rw [decide_eq_false_iff_not]; omega
  clear hm hc
  obtain ⟨x, r, rfl⟩ : ∃ x r, l = x :: r := by
    cases l with
    | nil => simp at h0
    | cons x r => exact ⟨x, r, rfl⟩
  have k0 : W.cell? ⟨b, o, none⟩ = some (.int .i64 x) := cc 0 (by simp)
  clear cc
  have hz : (0 : Int) < ((x :: r).length : Int) := by simp
  generalize hL : x :: r = L at *
  have HL := hide hL
  clear hL
  go_enter Tryz.func316, Tryz.ntmps316
  go_wp2_with fail
  go_loopg [3, 4] (L.length - 1) (fun f mv i W' => ∃ pre suf, L = pre ++ suf ∧ f = suf.length ∧ 0 < pre.length ∧ mv = .int .i64 (minL pre) ∧ i = .int .i64 (pre.length : Nat) ∧ W' = W)
  case atStart => exact ⟨[x], r, (unhide HL).symm, by rw [← unhide HL]; rfl, by simp, rfl, rfl, rfl⟩
  case round =>
    obtain ⟨pre, suf, h1, rfl, hp, rfl, rfl, hWr⟩ := hrel
    obtain rfl := hWr.symm
    have l1 : pre.length + suf.length = L.length := by rw [h1, List.length_append]
    have HZ := hide h1
    clear h1
    cases suf with
    | nil =>
      have hlt2 : decide (pre.length < L.length) = false := by have h := l1; simp at h ⊢; omega
      clear l1
      have HE : Hid (minL L = minL pre) := by show minL L = minL pre; rw [unhide HZ, List.append_nil]
      go_wp2
      go_ret
      exact ⟨by rw [unhide HE]; rfl, rfl⟩
    | cons z suf =>
      rw [List.length_cons] at l1
      have hlt2 : decide (pre.length < L.length) = true := by simp; omega
      have k1 : W.cell? ⟨b, o + pre.length, none⟩ = some (.int .i64 z) := by
        rw [(unhide HC) _ (by omega), unhide HZ]; simp
      have HZ2 : Hid (L = (pre ++ [z]) ++ suf) := by unfold Hid; rw [unhide HZ]; simp
      have HSM : Hid (minL (pre ++ [z]) = min (minL pre) z) := by
        obtain ⟨y, q, rfl⟩ : ∃ y q, pre = y :: q := by
          cases pre with
          | nil => simp at hp
          | cons y q => exact ⟨y, q, rfl⟩
        show (q ++ [z]).foldl min y = _
        rw [List.foldl_append]; rfl
      have q1 : (0 : Int) ≤ (pre.length : Int) := by omega
      have q2 : (pre.length : Int) < (L.length : Int) := by omega
      generalize minL pre = S at *
      go_wp2
      go_roundg suf.length
      case measure => simp
      case rel =>
        refine ⟨pre ++ [z], suf, unhide HZ2, rfl, by simp, ?_, ?_, rfl⟩
        · rw [unhide HSM]
        · rw [List.length_append]; go_num
set_option maxRecDepth 100000 in
set_option maxHeartbeats 1000000 in
theorem pmax_any (v : Value) (l : List Int) (h0 : 0 < l.length) (h9 : l.length ≤ 4000) (W : World) (h : RowAt W v (intsV l)) : Calls Tryz.prog 318 #[v] W fun e W' => e = .returned (.int .i64 (maxL l)) ∧ W' = W := by
  obtain ⟨ad, cap, rfl, hm, hc⟩ := h
  rw [List.length_map] at hm hc ⊢
  obtain ⟨b, o, rfl, zb, cc⟩ := hc h0
  have HC := hide cc
  have hlt : decide ((l.length : Int) < 1) = false := by rw [decide_eq_false_iff_not]; omega
  clear hm hc
  obtain ⟨x, r, rfl⟩ : ∃ x r, l = x :: r := by
    cases l with
    | nil => simp at h0
    | cons x r => exact ⟨x, r, rfl⟩
  have k0 : W.cell? ⟨b, o, none⟩ = some (.int .i64 x) := cc 0 (by simp)
  clear cc
  have hz : (0 : Int) < ((x :: r).length : Int) := by simp
  generalize hL : x :: r = L at *
  have HL := hide hL
  clear hL
  go_enter Tryz.func318, Tryz.ntmps318
  go_wp2_with fail
  go_loopg [3, 4] (L.length - 1) (fun f mv i W' => ∃ pre suf, L = pre ++ suf ∧ f = suf.length ∧ 0 < pre.length ∧ mv = .int .i64 (maxL pre) ∧ i = .int .i64 (pre.length : Nat) ∧ W' = W)
  case atStart => exact ⟨[x], r, (unhide HL).symm, by rw [← unhide HL]; rfl, by simp, rfl, rfl, rfl⟩
  case round =>
    obtain ⟨pre, suf, h1, rfl, hp, rfl, rfl, hWr⟩ := hrel
    obtain rfl := hWr.symm
    have l1 : pre.length + suf.length = L.length := by rw [h1, List.length_append]
    have HZ := hide h1
    clear h1
    cases suf with
    | nil =>
      have hlt2 : decide (pre.length < L.length) = false := by have h := l1; simp at h ⊢; omega
      clear l1
      have HE : Hid (maxL L = maxL pre) := by show maxL L = maxL pre; rw [unhide HZ, List.append_nil]
      go_wp2
      go_ret
      exact ⟨by rw [unhide HE]; rfl, rfl⟩
    | cons z suf =>
      rw [List.length_cons] at l1
      have hlt2 : decide (pre.length < L.length) = true := by simp; omega
      have k1 : W.cell? ⟨b, o + pre.length, none⟩ = some (.int .i64 z) := by
        rw [(unhide HC) _ (by omega), unhide HZ]; simp
      have HZ2 : Hid (L = (pre ++ [z]) ++ suf) := by unfold Hid; rw [unhide HZ]; simp
      have HSM : Hid (maxL (pre ++ [z]) = max (maxL pre) z) := by
        obtain ⟨y, q, rfl⟩ : ∃ y q, pre = y :: q := by
          cases pre with
          | nil => simp at hp
          | cons y q => exact ⟨y, q, rfl⟩
        show (q ++ [z]).foldl max y = _
        rw [List.foldl_append]; rfl
      have q1 : (0 : Int) ≤ (pre.length : Int) := by omega
      have q2 : (pre.length : Int) < (L.length : Int) := by omega
      generalize maxL pre = S at *
      go_wp2
      go_roundg suf.length
      case measure => simp
      case rel =>
        refine ⟨pre ++ [z], suf, unhide HZ2, rfl, by simp, ?_, ?_, rfl⟩
        · rw [unhide HSM]
        · rw [List.length_append]; go_num
end Go.Proofs.YtfkeddkfegaeiaaGreatDoor
namespace Go.Proofs.YtfkeddkfegaeiaaGreatDoor
open Go.RowKit
/-- what a call comes to, of a row's place and of its frame. -/
def callF (nm : ByteArray) (place : Int) (fr : List Int) : Int := if nm.toList == [114, 111, 119, 95, 110, 117, 109, 98, 101, 114] then place else if nm.toList == [99, 111, 117, 110, 116] then (fr.length : Int) else if nm.toList == [115, 117, 109] then sumW fr else if nm.toList == [109, 105, 110] then minL fr else maxL fr
/-- a function that gives it. -/
def CallG (g : Nat) (f : Int → List Int → Int) : Prop := Enters g ∧ ∀ (W : World) (fv : Value) (place : Int) (fr : List Int), 0 < fr.length → fr.length ≤ 4000 → RowAt W fv (intsV fr) → Calls Tryz.prog g #[.int .i64 place, fv] W fun e W' => e = .returned (.int .i64 (f place fr)) ∧ Below W.heap.size W W'
set_option maxRecDepth 100000
set_option maxHeartbeats 1000000
theorem call_row : CallG 311 (fun p _ => p) := by
  refine ⟨enters_of Tryz.func311 (by kernel_rfl) rfl, fun W fv place fr h0 h9 hr => ?_⟩
  obtain ⟨ad, cap, rfl, -, -⟩ := hr
  go_enter Tryz.func311, Tryz.ntmps311
  go_wp2
  go_ret
  exact ⟨rfl, Below.refl _ _⟩
theorem call_count : CallG 312 (fun _ fr => (fr.length : Int)) := by
  refine ⟨enters_of Tryz.func312 (by kernel_rfl) rfl, fun W fv place fr h0 h9 hr => ?_⟩
  obtain ⟨ad, cap, rfl, -, -⟩ := hr
  rw [List.length_map]
  go_enter Tryz.func312, Tryz.ntmps312
  go_wp2
  go_ret
  exact ⟨rfl, Below.refl _ _⟩
theorem call_sum : CallG 313 (fun _ fr => sumW fr) := by
  refine ⟨enters_of Tryz.func313 (by kernel_rfl) rfl, fun W fv place fr h0 h9 hr => ?_⟩
  have HC := hide (psum_any _ fr W hr)
  obtain ⟨ad, cap, rfl, -, -⟩ := hr
  rw [List.length_map] at HC ⊢
  go_enter Tryz.func313, Tryz.ntmps313
  go_wp2_with fail
  refine (unhide HC).mono ?_
  rintro e w2 ⟨rfl, hw⟩
  obtain rfl := hw.symm
  go_wp2
  go_ret
  exact ⟨rfl, Below.refl _ _⟩
theorem call_min : CallG 315 (fun _ fr => minL fr) := by
  refine ⟨enters_of Tryz.func315 (by kernel_rfl) rfl, fun W fv place fr h0 h9 hr => ?_⟩
  have HC := hide (pmin_any _ fr h0 h9 W hr)
  obtain ⟨ad, cap, rfl, -, -⟩ := hr
  rw [List.length_map] at HC ⊢
  go_enter Tryz.func315, Tryz.ntmps315
  go_wp2_with fail
  refine (unhide HC).mono ?_
  rintro e w2 ⟨rfl, hw⟩
  obtain rfl := hw.symm
  go_wp2
  go_ret
  exact ⟨rfl, Below.refl _ _⟩
theorem call_max : CallG 317 (fun _ fr => maxL fr) := by
  refine ⟨enters_of Tryz.func317 (by kernel_rfl) rfl, fun W fv place fr h0 h9 hr => ?_⟩
  have HC := hide (pmax_any _ fr h0 h9 W hr)
  obtain ⟨ad, cap, rfl, -, -⟩ := hr
  rw [List.length_map] at HC ⊢
  go_enter Tryz.func317, Tryz.ntmps317
  go_wp2_with fail
  refine (unhide HC).mono ?_
  rintro e w2 ⟨rfl, hw⟩
  obtain rfl := hw.symm
  go_wp2
  go_ret
  exact ⟨rfl, Below.refl _ _⟩
theorem callNamed_any (nm : ByteArray) (W : World) : Calls Tryz.prog 282 #[.string nm] W fun e W' => W' = W ∧ ∃ g, e = .returned (.func (.func g) #[] #[]) ∧ CallG g (callF nm) := by
  obtain ⟨F, hF⟩ : ∃ F, F = callF nm := ⟨_, rfl⟩
  rw [← hF]
  have HF : Hid (F = callF nm) := hF
  clear hF
  cases h1 : (nm.toList == [114, 111, 119, 95, 110, 117, 109, 98, 101, 114]) with
  | true =>
    have HE : Hid (F = fun p _ => p) := by unfold Hid; rw [unhide HF]; funext p fr; unfold callF; rw [h1]; rfl
    go_enter Tryz.func282, Tryz.ntmps282
    go_wp2
    go_ret
    exact ⟨rfl, _, rfl, by rw [unhide HE]; exact call_row⟩
  | false =>
    cases h2 : (nm.toList == [99, 111, 117, 110, 116]) with
    | true =>
      have HE : Hid (F = fun _ fr => (fr.length : Int)) := by unfold Hid; rw [unhide HF]; funext p fr; unfold callF; rw [h1, h2]; rfl
      go_enter Tryz.func282, Tryz.ntmps282
      go_wp2
      go_ret
      exact ⟨rfl, _, rfl, by rw [unhide HE]; exact call_count⟩
    | false =>
      cases h3 : (nm.toList == [115, 117, 109]) with
      | true =>
        have HE : Hid (F = fun _ fr => sumW fr) := by unfold Hid; rw [unhide HF]; funext p fr; unfold callF; rw [h1, h2, h3]; rfl
        go_enter Tryz.func282, Tryz.ntmps282
        go_wp2
        go_ret
        exact ⟨rfl, _, rfl, by rw [unhide HE]; exact call_sum⟩
      | false =>
        cases h4 : (nm.toList == [109, 105, 110]) with
        | true =>
          have HE : Hid (F = fun _ fr => minL fr) := by unfold Hid; rw [unhide HF]; funext p fr; unfold callF; rw [h1, h2, h3, h4]; rfl
          go_enter Tryz.func282, Tryz.ntmps282
          go_wp2
          go_ret
          exact ⟨rfl, _, rfl, by rw [unhide HE]; exact call_min⟩
        | false =>
          have HE : Hid (F = fun _ fr => maxL fr) := by unfold Hid; rw [unhide HF]; funext p fr; unfold callF; rw [h1, h2, h3, h4]; rfl
          go_enter Tryz.func282, Tryz.ntmps282
          go_wp2
          go_ret
          exact ⟨rfl, _, rfl, by rw [unhide HE]; exact call_max⟩
end Go.Proofs.YtfkeddkfegaeiaaGreatDoor
