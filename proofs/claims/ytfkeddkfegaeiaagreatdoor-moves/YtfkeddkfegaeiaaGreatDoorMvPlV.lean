/-
  Part 28.
-/
import Derived.Test.YtfkeddkfegaeiaaGreatDoorMvPlT
import Derived.Ground.SlsfProg
import Derived.Shelf.SlSortCmp.Whole1
import Derived.Test.YtfkeddkfegaeiaaGreatDoorProg
namespace Go.Proofs.YtfkeddkfegaeiaaGreatDoor
open Go.RowKit
set_option maxRecDepth 100000 in
set_option maxHeartbeats 1000000 in
theorem sholds_any (w0 : World) (G : Fx) (c : Fc) (ss : List Sr) (wd : Nat) (fns : List (List (List Int) → List Int)) (tns : List (List Int → Bool)) (h : SelM w0 G c ss wd fns tns) (w : World) (hw : Fits w0 G w) (rv : Value) (row : List Int) (hl : row.length = wd) (hr : RowAt w rv (intsV row)) :
    Calls Tryz.prog 255 #[.pointer (some ⟨c.fb, 2, none⟩), rv] w fun e w' => e = .returned (.bool (tns.all fun t => t row)) ∧ Below w.heap.size w w' := by
  obtain ⟨sv, iv, tv, ev, ivs, tvs, hbx, -, -, hrow, htl, hts⟩ := h.lies
  have hb := hw.new _ _ hbx
  have zb := lt_of_heap hb
  obtain ⟨kb, fb⟩ := blk hb
  have k5 : w.cell? ⟨c.fb, 5, none⟩ = some tv := kb 5
  obtain ⟨adt, ct, rfl, mt, htc⟩ := hrow.row rfl hw
  rw [htl] at mt htc k5
  have HTC := hide htc
  have HTS := hide hts
  have HTL := hide htl
  have HW := hide hw
  have HR := hide hr
  have HL := hide hl
  obtain ⟨adr, capr, rfl, _, _⟩ := hr
  rw [List.length_map] at HR ⊢
  unfold maxLen at mt
  clear hrow htc hts htl hw hl kb hb hbx h
  go_enter Tryz.func255, Tryz.ntmps255
  go_wp2_with fail
  go_loopg [6, 12] tns.length (fun f _ i W => ∃ pre suf, tns = pre ++ suf ∧ f = suf.length ∧ i = .int .i64 (pre.length : Nat) ∧ pre.all (fun t => t row) = true ∧ Below w.heap.size w W)
  case atStart => exact ⟨[], tns, rfl, rfl, rfl, rfl, Below.refl _ _⟩
  case round =>
    obtain ⟨pre, suf, h1, rfl, rfl, hal, hbw⟩ := hrel
    have l1 : pre.length + suf.length = tns.length := by rw [h1, List.length_append]
    have HZ := hide h1
    have HAL := hide hal
    have HB := hide hbw
    clear h1 hal hbw
    cases suf with
    | nil =>
      have hlt : decide (pre.length < tns.length) = false := by simp at l1 ⊢; omega
      go_wp2
      go_ret
      refine ⟨?_, unhide HB⟩
      rw [unhide HZ, List.append_nil, unhide HAL]
      rfl
    | cons t suf =>
      rw [List.length_cons] at l1
      have hlt : decide (pre.length < tns.length) = true := by simp; omega
      have HZ2 : Hid (tns = (pre ++ [t]) ++ suf) := by unfold Hid; rw [unhide HZ]; simp
      obtain ⟨b1, o1, rfl, z1, c1⟩ := (unhide HTC) (by omega)
      obtain ⟨u, hu⟩ : ∃ u, tvs[pre.length]? = some u := ⟨tvs[pre.length]'(by rw [unhide HTL]; omega), List.getElem?_eq_getElem _⟩
      obtain ⟨g, cb, rfl, hg⟩ := (unhide HTS) pre.length u t hu (by rw [unhide HZ]; simp)
      have k1 : wr.cell? ⟨b1, o1 + pre.length, none⟩ = some (.func (.func g) #[] cb) := by
        rw [(unhide HB).cell (p := ⟨b1, _, none⟩) z1, c1 _ (by omega), hu]
      have eg := hg.1
      have HC := hide (hg.2 wr _ row ((unhide HW).below (unhide HB)) (unhide HL) ((unhide HR).keep (unhide HB)))
      clear hu hg c1
      go_wp2_with fail
      refine (unhide HC).mono ?_
      rintro e w2 ⟨rfl, hb2⟩
      have HB2 : Hid (Below w.heap.size w w2) := (unhide HB).trans (hb2.mono (unhide HB).size)
      clear hb2
      cases ht : t row with
      | true =>
        have HT := hide ht
        go_wp2
        go_roundg suf.length
        case measure => simp
        case rel =>
          refine ⟨pre ++ [t], suf, unhide HZ2, rfl, ?_, ?_, unhide HB2⟩
          · rw [List.length_append]; go_num
          · rw [List.all_append, unhide HAL, List.all_cons, unhide HT]; rfl
      | false =>
        have HT := hide ht
        go_wp2
        go_ret
        refine ⟨?_, unhide HB2⟩
        rw [unhide HZ, List.all_append, List.all_cons, unhide HT]
        simp
/-- a cell of a source, in any world that fits. -/
theorem RowG.cell3 {G : Fx} {w0 W : World} {c : Fc} {sv : Value} {ss pre suf : List Sr} {s : Sr} (h : RowG G 3 sv ss.length (srP c ss)) (hW : Fits w0 G W) (hz : ss = pre ++ s :: suf) : ∃ g cap, sv = .slice (some ⟨g, 0, none⟩) ss.length cap ∧ g < W.heap.size ∧ W.cell? ⟨g, pre.length * 3, none⟩ = some (.string s.alias) ∧ W.cell? ⟨g, pre.length * 3 + 1, none⟩ = some (.pointer (some ⟨c.tb, c.tof + s.tab * 3, none⟩)) ∧ W.cell? ⟨g, pre.length * 3 + 2, none⟩ = some (.int .i64 s.first) := by
  have hlen : pre.length < ss.length := by rw [hz, List.length_append, List.length_cons]; omega
  rcases h with ⟨h1, h2⟩ | ⟨g, cap, cur, T, h1, h2, h3, h4, h5⟩
  · omega
  · have hc : ∀ j, j < ss.length * 3 → W.cell? ⟨g, j, none⟩ = (srP c ss)[j]? := fun j hj => by
      rw [(blk (hW.new _ _ h2)).1, ← h3, List.getElem?_take, if_pos hj]; simp
    obtain ⟨e1, e2, e3⟩ := srP_at c pre suf s
    refine ⟨g, cap, h1, lt_size (hW.new _ _ h2), ?_, ?_, ?_⟩
    · rw [hc _ (by omega), hz]; exact e1
    · rw [hc _ (by omega), hz]; exact e2
    · rw [hc _ (by omega), hz]; exact e3
def mulN (rs : List (List (List Int))) : Nat := (rs.map List.length).foldl (· * ·) 1
theorem mulN_snoc (rs : List (List (List Int))) (r : List (List Int)) : mulN (rs ++ [r]) = mulN rs * r.length := by simp [mulN]
theorem mulN_le : ∀ (rs : List (List (List Int))) (a : Nat), (∀ r ∈ rs, r.length ≤ 200) → (rs.map List.length).foldl (· * ·) a ≤ a * 200 ^ rs.length
  | [], a, _ => by simp
  | r :: rs, a, h => by
    have h1 := mulN_le rs (a * r.length) (fun x hx => h x (List.mem_cons_of_mem _ hx))
    have h2 : a * r.length * 200 ^ rs.length ≤ a * 200 * 200 ^ rs.length := Nat.mul_le_mul_right _ (Nat.mul_le_mul_left a (h r List.mem_cons_self))
    simp only [List.map_cons, List.foldl_cons, List.length_cons, Nat.pow_succ]
    rw [Nat.mul_comm (200 ^ rs.length) 200, ← Nat.mul_assoc]
    exact Nat.le_trans h1 h2
theorem mulN_small {rs : List (List (List Int))} (h : ∀ r ∈ rs, r.length ≤ 200) (hl : rs.length ≤ 3) : mulN rs ≤ 8000000 := by
  have h1 := mulN_le rs 1 h
  have h2 : 200 ^ rs.length ≤ 200 ^ 3 := Nat.pow_le_pow_right (by omega) hl
  unfold mulN
  omega
set_option maxRecDepth 100000 in
set_option maxHeartbeats 1000000 in
theorem smade_any (w0 : World) (G : Fx) (c : Fc) (ss : List Sr) (wd : Nat) (fns : List (List (List Int) → List Int)) (tns : List (List Int → Bool)) (h : SelM w0 G c ss wd fns tns) (w : World) (hw : Fits w0 G w) (T : List Tb) (tc : Nat) (hT : TabsAt w (.slice (some ⟨c.tb, c.tof, none⟩) T.length tc) T) (hTl : T.length = c.T.length) (h200 : ∀ t ∈ T, t.rows.length ≤ 200) :
    Calls Tryz.prog 253 #[.pointer (some ⟨c.fb, 2, none⟩)] w fun e w' => e = .returned (.int .i64 (mulN (rowsOf T ss) : Nat)) ∧ Below w.heap.size w w' := by
  obtain ⟨sv, iv, tv, ev, ivs, tvs, hbx, hsr, -, -⟩ := h.lies
  have hb := hw.new _ _ hbx
  have zb := lt_of_heap hb
  obtain ⟨kb, fb⟩ := blk hb
  have few := h.few
  have HSR := hide hsr
  have HOK := hide h.ok
  have HW := hide hw
  have HT := hide hT
  have H200 := hide h200
  obtain ⟨ads, caps, hsv⟩ : ∃ ads caps, sv = .slice ads ss.length caps := by
    rcases hsr with ⟨h1, h2⟩ | ⟨g, cap, cur, T, h1, _⟩
    · exact ⟨none, 0, by rw [h1, h2]⟩
    · exact ⟨_, _, h1⟩
  subst hsv
  have k2 : w.cell? ⟨c.fb, 2, none⟩ = some (.slice ads ss.length caps) := kb 2
  clear hsr hw hT h200 hb hbx h kb
  go_enter Tryz.func253, Tryz.ntmps253
  go_wp2_with fail
  go_loopg [3, 5, 11] ss.length (fun f n _ i W => ∃ pre suf, ss = pre ++ suf ∧ f = suf.length ∧ n = .int .i64 (mulN (rowsOf T pre) : Nat) ∧ i = .int .i64 (pre.length : Nat) ∧ Below w.heap.size w W)
  case atStart => exact ⟨[], ss, rfl, rfl, rfl, rfl, Below.refl _ _⟩
  case round =>
    obtain ⟨pre, suf, h1, rfl, rfl, rfl, hbw⟩ := hrel
    have l1 : pre.length + suf.length = ss.length := by rw [h1, List.length_append]
    have HZ := hide h1
    have HB := hide hbw
    clear h1 hbw
    cases suf with
    | nil =>
      have hlt : decide (pre.length < ss.length) = false := by simp at l1 ⊢; omega
      obtain rfl : pre = ss := by rw [unhide HZ, List.append_nil]
      go_wp2
      go_ret
      exact ⟨rfl, unhide HB⟩
    | cons s suf =>
      rw [List.length_cons] at l1
      have hlt : decide (pre.length < ss.length) = true := by simp; omega
      have HZ2 : Hid (ss = (pre ++ [s]) ++ suf) := by unfold Hid; rw [unhide HZ]; simp
      have hsm : s ∈ ss := by rw [unhide HZ]; simp
      obtain ⟨g, cap, e1, z1, c1, c2, c3⟩ := (unhide HSR).cell3 ((unhide HW).below (unhide HB)) (unhide HZ)
      injection e1 with e1 _ e2
      subst e1 e2
      obtain ⟨ztb, cv, rv, -, -, t3, -, hrows⟩ := ((unhide HT).keep (unhide HB)).tab (j := s.tab) (by rw [hTl]; exact (unhide HOK) s hsm)
      obtain ⟨vs, ⟨adr, capr, rfl, _, _⟩, lr, _⟩ := hrows
      rw [lr] at t3
      have hmem : T.getD s.tab tb0 ∈ T := by
        have hlt' : s.tab < T.length := by rw [hTl]; exact (unhide HOK) s hsm
        rw [List.getD_eq_getElem?_getD, List.getElem?_eq_getElem hlt']
        exact List.getElem_mem hlt'
      have hr200 := (unhide H200) _ hmem
      have HMN : Hid (mulN (rowsOf T (pre ++ [s])) = mulN (rowsOf T pre) * (T.getD s.tab tb0).rows.length) := by
        unfold Hid
        rw [show rowsOf T (pre ++ [s]) = rowsOf T pre ++ [(T.getD s.tab tb0).rows] from by simp [rowsOf], mulN_snoc]
      have hsmall : mulN (rowsOf T pre) ≤ 8000000 := by
        refine mulN_small (fun r hr => ?_) (by simp [rowsOf]; omega)
        obtain ⟨q, hq, rfl⟩ := List.mem_map.1 hr
        refine (unhide H200) _ ?_
        have hlt' : q.tab < T.length := by rw [hTl]; exact (unhide HOK) q (by rw [unhide HZ]; exact List.mem_append_left _ hq)
        rw [List.getD_eq_getElem?_getD, List.getElem?_eq_getElem hlt']
        exact List.getElem_mem hlt'
      clear hmem hsm
      generalize (T.getD s.tab tb0).rows.length = k at *
      generalize mulN (rowsOf T pre) = m at *
      have hmk : m * k ≤ 1600000000 := Nat.le_trans (Nat.mul_le_mul hsmall hr200) (by omega)
      generalize hq : m * k = q at *
      have hqi : (m : Int) * (k : Int) = (q : Int) := by rw [← hq]; simp
      clear hq
      go_wp2
      go_roundg suf.length
      case measure => simp
      case rel =>
        refine ⟨pre ++ [s], suf, unhide HZ2, rfl, ?_, ?_, (unhide HB).alloc (unhide HB).size _⟩
        · rw [unhide HMN]
        · rw [List.length_append]; go_num
end Go.Proofs.YtfkeddkfegaeiaaGreatDoor
namespace Go.Proofs.YtfkeddkfegaeiaaGreatDoor
open Go.RowKit
def cmpI (a b : Int) : Int := if a < b then -1 else if b < a then 1 else 0
/-- two lists of numbers, by the first one that parts. -/
def cmpL : List Int → List Int → Int
  | [], [] => 0
  | [], _ :: _ => -1
  | _ :: _, [] => 1
  | a :: r, b :: s => if cmpI a b = 0 then cmpL r s else cmpI a b
set_option maxRecDepth 100000 in
set_option maxHeartbeats 1000000 in
theorem isNaN_any (x : Int) (w : World) : Calls Tryz.prog 266 #[.int .i64 x] w fun e w' => e = .returned (.bool false) ∧ w' = w := by
  have hx : (x != x) = false := by simp
  go_enter Tryz.func266, Tryz.ntmps266
  go_wp2
  go_ret
  exact ⟨rfl, rfl⟩
set_option maxRecDepth 100000 in
set_option maxHeartbeats 1000000 in
theorem cmpI_any (a b : Int) (w : World) : Calls Tryz.prog 204 #[.int .i64 a, .int .i64 b] w fun e w' => e = .returned (.int .i64 (cmpI a b)) ∧ w' = w := by
  obtain ⟨q, HQ⟩ : ∃ q, Hid (q = cmpI a b) := ⟨_, rfl⟩
  rw [← unhide HQ]
  go_enter Tryz.func204, Tryz.ntmps204
  go_wp2_with fail
  refine (isNaN_any a _).mono ?_
  rintro e w1 ⟨rfl, hw1⟩
  obtain rfl := hw1.symm
  go_wp2_with fail
  refine (isNaN_any b _).mono ?_
  rintro e w2 ⟨rfl, hw2⟩
  obtain rfl := hw2.symm
  by_cases h1 : a < b
  · have hd : decide (a < b) = true := by simpa using h1
    have HE : Hid (q = -1) := by unfold Hid; rw [unhide HQ]; unfold cmpI; rw [if_pos h1]
    clear h1
    go_wp2
    go_ret
    exact ⟨by rw [unhide HE]; rfl, rfl⟩
  · have hd : decide (a < b) = false := by simpa using h1
    by_cases h2 : b < a
    · have hd2 : decide (b < a) = true := by simpa using h2
      have HE : Hid (q = 1) := by unfold Hid; rw [unhide HQ]; unfold cmpI; rw [if_neg h1, if_pos h2]
      clear h1 h2
      go_wp2
      go_ret
      exact ⟨by rw [unhide HE]; rfl, rfl⟩
    · have hd2 : decide (b < a) = false := by simpa using h2
      have HE : Hid (q = 0) := by unfold Hid; rw [unhide HQ]; unfold cmpI; rw [if_neg h1, if_neg h2]
      clear h1 h2
      go_wp2
      go_ret
      exact ⟨by rw [unhide HE]; rfl, rfl⟩
theorem cmpI_self (a : Int) : cmpI a a = 0 := by simp [cmpI]
theorem cmpI_zero {a b : Int} (h : cmpI a b = 0) : a = b := by
  unfold cmpI at h
  split at h
  · omega
  · split at h
    · omega
    · omega
theorem cmpL_pre (pre r s : List Int) : cmpL (pre ++ r) (pre ++ s) = cmpL r s := by
  induction pre with
  | nil => rfl
  | cons a p ih => simp only [List.cons_append, cmpL, cmpI_self, if_true]; exact ih
set_option maxRecDepth 100000 in
set_option maxHeartbeats 1000000 in
theorem sCompare_any (a b : Value) (zs ys : List Int) (w : World) (ha : RowAt w a (intsV zs)) (hb : RowAt w b (intsV ys)) :
    Calls Tryz.prog 128 #[a, b] w fun e w' => e = .returned (.int .i64 (cmpL zs ys)) ∧ w' = w := by
  obtain ⟨ada, capa, rfl, ma, ca⟩ := ha
  obtain ⟨adb, capb, rfl, mb, cb⟩ := hb
  rw [List.length_map] at ma mb ca cb
  unfold maxLen at ma mb
  simp only [List.length_map]
  obtain ⟨q, HQ⟩ : ∃ q, Hid (q = cmpL zs ys) := ⟨_, rfl⟩
  rw [← unhide HQ]
  have HCA := hide ca
  have HCB := hide cb
  clear ca cb
  go_enter Tryz.func128, Tryz.ntmps128
  go_wp2_with fail
  go_loopg [5, 6, 7, 8, 11] zs.length (fun f _ _ _ _ i W => ∃ pre s1 s2, zs = pre ++ s1 ∧ ys = pre ++ s2 ∧ f = s1.length ∧ i = .int .i64 (pre.length : Nat) ∧ W = w)
  case atStart => exact ⟨[], zs, ys, rfl, rfl, rfl, rfl, rfl⟩
  case round =>
    obtain ⟨pre, s1, s2, h1, h2, rfl, rfl, hw⟩ := hrel
    obtain rfl := hw.symm
    have HZ := hide h1
    have HY := hide h2
    have l1 : pre.length + s1.length = zs.length := by rw [h1, List.length_append]
    have l2 : pre.length + s2.length = ys.length := by rw [h2, List.length_append]
    have HC : Hid (q = cmpL s1 s2) := by unfold Hid; rw [unhide HQ, h1, h2, cmpL_pre]
    clear h1 h2
    cases s1 with
    | nil =>
      have hlt : decide (pre.length < zs.length) = false := by simp at l1 ⊢; omega
      cases s2 with
      | nil =>
        have hlt2 : decide (zs.length < ys.length) = false := by simp at l1 l2 ⊢; omega
        go_wp2
        go_ret
        exact ⟨by rw [unhide HC]; rfl, rfl⟩
      | cons y s2 =>
        have hlt2 : decide (zs.length < ys.length) = true := by simp at l1 l2 ⊢; omega
        go_wp2
        go_ret
        exact ⟨by rw [unhide HC]; rfl, rfl⟩
    | cons z s1 =>
      rw [List.length_cons] at l1
      have hlt : decide (pre.length < zs.length) = true := by simp; omega
      obtain ⟨b1, o1, rfl, z1, c1⟩ := (unhide HCA) (by omega)
      have k1 : w.cell? ⟨b1, o1 + pre.length, none⟩ = some (.int .i64 z) := by
        rw [c1 _ (by omega), unhide HZ]
        simp
      clear c1
      cases s2 with
      | nil =>
        have hge : decide (ys.length ≤ pre.length) = true := by simp at l2 ⊢; omega
        go_wp2
        go_ret
        exact ⟨by rw [unhide HC]; rfl, rfl⟩
      | cons y s2 =>
        rw [List.length_cons] at l2
        have hge : decide (ys.length ≤ pre.length) = false := by simp; omega
        obtain ⟨b2, o2, rfl, z2, c2⟩ := (unhide HCB) (by omega)
        have k2 : w.cell? ⟨b2, o2 + pre.length, none⟩ = some (.int .i64 y) := by
          rw [c2 _ (by omega), unhide HY]
          simp
        clear c2
        go_wp2_with fail
        refine (cmpI_any z y _).mono ?_
        rintro e w2 ⟨rfl, hw2⟩
        obtain rfl := hw2.symm
        by_cases h0 : cmpI z y = 0
        · have hd : (cmpI z y != 0) = false := by rw [h0]; rfl
          have hzy := cmpI_zero h0
          have HZ2 : Hid (zs = (pre ++ [z]) ++ s1) := by unfold Hid; rw [unhide HZ]; simp
          have HY2 : Hid (ys = (pre ++ [z]) ++ s2) := by unfold Hid; rw [unhide HY, hzy]; simp
          clear h0 hzy
          generalize cmpI z y = cc at *
          go_wp2
          go_roundg s1.length
          case measure => simp
          case rel =>
            refine ⟨pre ++ [z], s1, s2, unhide HZ2, unhide HY2, rfl, ?_, rfl⟩
            rw [List.length_append]; go_num
        · have hd : (cmpI z y != 0) = true := by simpa using h0
          have HE : Hid (q = cmpI z y) := by unfold Hid; rw [unhide HC]; simp only [cmpL]; rw [if_neg h0]
          clear h0
          generalize cmpI z y = cc at *
          go_wp2
          go_ret
          exact ⟨by rw [unhide HE]; rfl, rfl⟩
end Go.Proofs.YtfkeddkfegaeiaaGreatDoor
namespace Go.Proofs
open Go.Shelf
def Tryz.laysSlF6_f127_ren : Go.Shelf.Ren := ⟨fun | 6 => 127 | 15 => 203 | 14 => 202 | 28 => 264 | 29 => 265 | 20 => 256 | 21 => 257 | 22 => 258 | 23 => 259 | 24 => 260 | 25 => 261 | 26 => 262 | 27 => 263 | 46 => 298 | 47 => 299 | 48 => 300 | 49 => 301 | 50 => 302 | 57 => 324 | n => n, fun | 22 => 42 | 24 => 32 | 25 => 303 | 3 => 3 | 39 => 334 | 0 => 0 | 53 => 131 | 55 => 276 | 4 => 4 | 46 => 434 | 45 => 433 | 50 => 438 | 5 => 5 | 9 => 9 | 66 => 463 | 70 => 466 | 76 => 481 | 77 => 482 | n => n, fun | n => n⟩
theorem Tryz.laysSlF6_f127 : Go.Proofs.SlLaysF.n6 Tryz.prog Tryz.laysSlF6_f127_ren := {
  mixed := by kernel_rfl
  f6 := ⟨Tryz.f127.name, by decide, Tryz.func127.trans (congrArg some (by kernel_rfl))⟩
  f14 := ⟨Tryz.f202.name, by decide, Tryz.func202.trans (congrArg some (by kernel_rfl))⟩
  f15 := Tryz.func203.trans (congrArg some (by kernel_rfl))
  f20 := ⟨Tryz.f256.name, by decide, Tryz.func256.trans (congrArg some (by kernel_rfl))⟩
  f21 := ⟨Tryz.f257.name, by decide, Tryz.func257.trans (congrArg some (by kernel_rfl))⟩
  f22 := ⟨Tryz.f258.name, by decide, Tryz.func258.trans (congrArg some (by kernel_rfl))⟩
  f23 := ⟨Tryz.f259.name, by decide, Tryz.func259.trans (congrArg some (by kernel_rfl))⟩
  f24 := ⟨Tryz.f260.name, by decide, Tryz.func260.trans (congrArg some (by kernel_rfl))⟩
  f25 := ⟨Tryz.f261.name, by decide, Tryz.func261.trans (congrArg some (by kernel_rfl))⟩
  f26 := ⟨Tryz.f262.name, by decide, Tryz.func262.trans (congrArg some (by kernel_rfl))⟩
  f27 := ⟨Tryz.f263.name, by decide, Tryz.func263.trans (congrArg some (by kernel_rfl))⟩
  f28 := Tryz.func264.trans (congrArg some (by kernel_rfl))
  f29 := Tryz.func265.trans (congrArg some (by kernel_rfl))
  f46 := ⟨Tryz.f298.name, by decide, Tryz.func298.trans (congrArg some (by kernel_rfl))⟩
  f47 := Tryz.func299.trans (congrArg some (by kernel_rfl))
  f48 := Tryz.func300.trans (congrArg some (by kernel_rfl))
  f49 := ⟨Tryz.f301.name, by decide, Tryz.func301.trans (congrArg some (by kernel_rfl))⟩
  f50 := ⟨Tryz.f302.name, by decide, Tryz.func302.trans (congrArg some (by kernel_rfl))⟩
  f57 := ⟨Tryz.f324.name, by decide, Tryz.func324.trans (congrArg some (by kernel_rfl))⟩
  t0 := Tryz.underlying0
  a0 := Tryz.isAgg0
  z0 := Tryz.sizeOf0
  v0 := Tryz.zeroValue0
  t3 := Tryz.underlying3
  a3 := Tryz.isAgg3
  z3 := Tryz.sizeOf3
  v3 := Tryz.zeroValue3
  t4 := Tryz.underlying4
  a4 := Tryz.isAgg4
  z4 := Tryz.sizeOf4
  v4 := Tryz.zeroValue4
  t5 := Tryz.underlying5
  a5 := Tryz.isAgg5
  z5 := Tryz.sizeOf5
  v5 := Tryz.zeroValue5
  t9 := Tryz.underlying9
  a9 := Tryz.isAgg9
  z9 := Tryz.sizeOf9
  v9 := Tryz.zeroValue9
  t22 := Tryz.underlying42
  a22 := Tryz.isAgg42
  z22 := Tryz.sizeOf42
  v22 := Tryz.zeroValue42
  a24 := Tryz.isAgg32
  z24 := Tryz.sizeOf32
  t25 := Tryz.underlying303
  a25 := Tryz.isAgg303
  z25 := Tryz.sizeOf303
  v25 := Tryz.zeroValue303
  t39 := Tryz.underlying334
  a39 := Tryz.isAgg334
  z39 := Tryz.sizeOf334
  v39 := Tryz.zeroValue334
  t45 := Tryz.underlying433
  a45 := Tryz.isAgg433
  z45 := Tryz.sizeOf433
  v45 := Tryz.zeroValue433
  t46 := Tryz.underlying434
  a46 := Tryz.isAgg434
  z46 := Tryz.sizeOf434
  v46 := Tryz.zeroValue434
  t50 := Tryz.underlying438
  a50 := Tryz.isAgg438
  z50 := Tryz.sizeOf438
  v50 := Tryz.zeroValue438
  t53 := Tryz.underlying131
  a53 := Tryz.isAgg131
  z53 := Tryz.sizeOf131
  v53 := Tryz.zeroValue131
  t55 := Tryz.underlying276
  a55 := Tryz.isAgg276
  z55 := Tryz.sizeOf276
  v55 := Tryz.zeroValue276
  t66 := Tryz.underlying463
  a66 := Tryz.isAgg463
  z66 := Tryz.sizeOf463
  v66 := Tryz.zeroValue463
  t70 := Tryz.underlying466
  a70 := Tryz.isAgg466
  z70 := Tryz.sizeOf466
  v70 := Tryz.zeroValue466
  t76 := Tryz.underlying481
  a76 := Tryz.isAgg481
  z76 := Tryz.sizeOf481
  v76 := Tryz.zeroValue481
  t77 := Tryz.underlying482
  a77 := Tryz.isAgg482
  z77 := Tryz.sizeOf482
  v77 := Tryz.zeroValue482 }
open Go.RowKit Go.Lib Go.Sort in
/-- **slices.SortFunc, IN THE DOCUMENTATION's OWN TERMS: A PERMUTATION OF WHAT THE ROW HELD, SORTED BY 'cmp(a, b) < 0'.** Which of two equals comes first is left open ("The sort is not guaranteed to be stable"). (LAID AT THE INSTANCE 'slices.SortFunc[[][]int,[]int]': no walk: one application.) -/
theorem Tryz.slices_SortFunc {α : Type} [Inhabited α] (enc : α → Value) (h1 : OneCell enc) (cf : α → α → Int) (hO : SWO (ltOf cf)) (g : Nat) (cb : Array Value) (blk off cap : Nat) (d : Array α) (w : World) (eg : ∀ args w, (callFunc g args).run Tryz.prog w = .ok (.enter g args) w) (hcmp : CmpLays1 Tryz.prog g cb enc cf blk off d.size w) (hH : Holds enc w blk off d) (hblk : blk < w.heap.size) (hsz : d.size < 4611686018427387904) :
    Calls Tryz.prog 127 #[.slice (some ⟨blk, off, none⟩) d.size cap, .func (.func g) #[] cb] w fun e w' =>
      e = .returned (.tuple #[]) ∧ ∃ d' n os, PermIn 0 d.size d d' ∧ SortedIn (ltOf cf) 0 d.size d' ∧ w' = sortWorld enc w blk off n d' os := Any.slices_SortFunc Tryz.laysSlF6_f127 enc h1 cf hO g cb blk off cap d w eg hcmp hH hblk hsz
end Go.Proofs
namespace Go.Proofs.YtfkeddkfegaeiaaGreatDoor
open Go.RowKit Go.Sort
theorem cmpI_swap (a b : Int) : cmpI b a = - cmpI a b := by
  unfold cmpI
  split <;> split <;> (try split) <;> omega
theorem cmpI_le {a b : Int} : cmpI a b ≤ 0 ↔ a ≤ b := by
  unfold cmpI
  split <;> (try split) <;> omega
theorem cmpI_lt {a b : Int} : cmpI a b < 0 ↔ a < b := by
  unfold cmpI
  split <;> (try split) <;> omega
theorem cmpL_self (a : List Int) : cmpL a a = 0 := by
  induction a with
  | nil => rfl
  | cons x r ih => simp only [cmpL, cmpI_self, if_true]; exact ih
theorem cmpL_zero : ∀ {a b : List Int}, cmpL a b = 0 → a = b
  | [], [], _ => rfl
  | [], _ :: _, h => by simp [cmpL] at h
  | _ :: _, [], h => by simp [cmpL] at h
  | x :: r, y :: s, h => by
    unfold cmpL at h
    split at h
    · rename_i h1
      rw [cmpI_zero h1, cmpL_zero h]
    · contradiction
theorem cmpL_swap : ∀ (a b : List Int), cmpL b a = - cmpL a b
  | [], [] => rfl
  | [], _ :: _ => rfl
  | _ :: _, [] => rfl
  | x :: r, y :: s => by
    have h := cmpI_swap x y
    unfold cmpL
    split
    · rename_i h1
      rw [if_pos (by omega), cmpL_swap r s]
    · rename_i h1
      rw [if_neg (by omega), h]
theorem cmpL_le : ∀ (a b c : List Int), cmpL a b ≤ 0 → cmpL b c ≤ 0 → cmpL a c ≤ 0
  | [], _, [], _, _ => by simp [cmpL]
  | [], _, _ :: _, _, _ => by simp [cmpL]
  | _ :: _, [], _, h, _ => by simp [cmpL] at h
  | _ :: _, _ :: _, [], _, h => by simp [cmpL] at h
  | x :: r, y :: s, z :: t, h1, h2 => by
    unfold cmpL at h1 h2 ⊢
    by_cases e1 : cmpI x y = 0
    · rw [if_pos e1] at h1
      obtain rfl := cmpI_zero e1
      by_cases e2 : cmpI x z = 0
      · rw [if_pos e2] at h2 ⊢
        exact cmpL_le r s t h1 h2
      · rw [if_neg e2] at h2 ⊢
        exact h2
    · rw [if_neg e1] at h1
      have l1 : x < y := cmpI_lt.1 (by omega)
      have l2 : y ≤ z := by
        by_cases e2 : cmpI y z = 0
        · exact Int.le_of_eq (cmpI_zero e2)
        · rw [if_neg e2] at h2
          exact cmpI_le.1 h2
      have l3 : cmpI x z < 0 := cmpI_lt.2 (by omega)
      rw [if_neg (by omega)]
      omega
theorem cmpL_lt (a b c : List Int) (h1 : cmpL a b < 0) (h2 : cmpL b c < 0) : cmpL a c < 0 := by
  have h3 := cmpL_le a b c (by omega) (by omega)
  by_cases h : cmpL a c = 0
  · obtain rfl := cmpL_zero h
    have := cmpL_swap a b
    omega
  · omega
/-- by a list of numbers that each one bears. -/
theorem swo_by {α : Type} (f : α → List Int) : SWO (ltOf fun x y : α => cmpL (f x) (f y)) where
  irrefl x := by simp [ltOf, cmpL_self]
  trans x y z h1 h2 := by
    simp only [ltOf, decide_eq_true_eq] at h1 h2 ⊢
    exact cmpL_lt _ _ _ h1 h2
  ntrans x y z h1 h2 := by
    simp only [ltOf, decide_eq_false_iff_not, Int.not_lt] at h1 h2 ⊢
    have a1 := cmpL_swap (f x) (f y)
    have a2 := cmpL_swap (f y) (f z)
    have a3 := cmpL_swap (f x) (f z)
    have := cmpL_le (f z) (f y) (f x) (by omega) (by omega)
    omega
/-- lists of numbers in order. -/
def sortL (l : List (List Int)) : List (List Int) := l.mergeSort (fun x y => decide (cmpL x y ≤ 0))
end Go.Proofs.YtfkeddkfegaeiaaGreatDoor
