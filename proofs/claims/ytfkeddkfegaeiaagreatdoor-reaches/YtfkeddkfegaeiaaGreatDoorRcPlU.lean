/-
  Part 30.
-/
import Derived.Test.YtfkeddkfegaeiaaGreatDoorRcPlT
import Derived.Test.YtfkeddkfegaeiaaGreatDoorRcTel
namespace Go.Proofs.YtfkeddkfegaeiaaGreatDoor
open Go.RowKit
/-- a list whose cells lie in a fixed block. -/
def RowG (G : Fx) (k : Nat) (v : Value) (n : Nat) (xs : List Value) : Prop := (v = .slice none 0 0 ∧ n = 0) ∨ ∃ g cap cur T, v = .slice (some ⟨g, 0, none⟩) n cap ∧ G g = some (.cells cur T (0, 0)) ∧ cur.toList.take (n * k) = xs ∧ n * k ≤ cur.size ∧ n ≤ maxLen
theorem RowG.mono {G G' : Fx} (hG : G.le G') {k : Nat} {v : Value} {n : Nat} {xs : List Value} (h : RowG G k v n xs) : RowG G' k v n xs := by
  rcases h with h | ⟨g, cap, cur, T, h1, h2, h3⟩
  · exact Or.inl h
  · exact Or.inr ⟨g, cap, cur, T, h1, hG _ _ h2, h3⟩
theorem row_seal {lo p n k : Nat} {F : Fx} {T : TypeId} {v : Value} {vs xs : List Value} {W : World} {X : Nat → Bool} (h : Grow lo F p (v :: vs) W) (ho : W.ownsRow lo T k v n xs) (hn : n ≤ maxLen) (hX : ∀ b, X b = true → ∃ o, F b = some o) : ∃ F', F.le F' ∧ Grow lo F' p vs W ∧ RowG (F'.off X) k v n xs := by
  rcases ho.2 with ⟨hv, h0⟩ | ⟨g, cap, cur, hv, hge, hh, c1, c2, c3, c4⟩
  · exact ⟨F, Fx.le.refl F, h.drop, Or.inl ⟨hv, h0⟩⟩
  · have hb : v.ownBlock = some g := by rw [hv]; rfl
    have hn' := (h.off v List.mem_cons_self g hb).1
    have hx : X g = false := by
      cases e : X g with
      | false => rfl
      | true => obtain ⟨o, ho'⟩ := hX g e; rw [hn'] at ho'; cases ho'
    refine ⟨F.set g (.cells cur T (0, 0)), Fx.le_set _ hn', h.seal hb hh, Or.inr ⟨g, cap, cur, T, hv, Fx.off_some (Fx.set_same _ _ _) hx, ?_, ?_, hn⟩⟩
    · exact c4
    · rw [c3]; exact Nat.mul_le_mul_right k c1
theorem RowG.row {G : Fx} {w0 W : World} {v : Value} {n : Nat} {xs : List Value} (h : RowG G 1 v n xs) (hl : xs.length = n) (hW : Fits w0 G W) : RowAt W v xs := by
  rcases h with ⟨h1, h2⟩ | ⟨g, cap, cur, T, h1, h2, h3, h4, h5⟩
  · subst h2
    have : xs = [] := List.eq_nil_of_length_eq_zero hl
    subst this
    exact ⟨none, 0, h1, by unfold maxLen; simp, fun hp => by simp at hp⟩
  · refine ⟨_, cap, by rw [h1, hl], by rw [hl]; exact h5, fun hp => ⟨g, 0, rfl, lt_size (hW.new _ _ h2), fun j hj => ?_⟩⟩
    rw [hl] at hj
    rw [Nat.zero_add, (blk (hW.new _ _ h2)).1, ← h3, Nat.mul_one, List.getElem?_take, if_pos hj]
    simp
/-- a select that was found: where its sources, items and tests lie. -/
structure SelM (w0 : World) (G : Fx) (c : Fc) (ss : List Sr) (wd : Nat) (fns : List (List (List Int) → List Int)) (tns : List (List Int → Bool)) : Prop where
  lies : ∃ sv iv tv ev ivs tvs, G c.fb = some (.cells #[c.tabs, .bool c.iw, sv, .int .i64 wd, iv, tv, ev] 299 (0, 0)) ∧ RowG G 3 sv ss.length (srP c ss) ∧ (RowG G 1 iv ivs.length ivs ∧ ItsF w0 G wd ivs fns) ∧ (RowG G 1 tv tvs.length tvs ∧ TsF w0 G wd tvs tns)
  few : ss.length ≤ 3
  ok : ∀ s ∈ ss, s.tab < c.T.length
  wide : wd ≤ 18 ∧ ∀ s ∈ ss, s.first + (colsOf c.T s).length ≤ wd
theorem FT.seal {c : Fc} {F : Fx} {fs : Fs} {sv iv tv ev : Value} {ivs tvs : List Value} {W : World} {fns : List (List (List Int) → List Int)} {tns : List (List Int → Bool)} (h : FT c F fs sv iv tv ev ivs tvs W fns tns none) (hX : ∀ b, c.X b = true → ∃ o, F b = some o) (hi : ivs.length ≤ maxLen) (ht : tvs.length ≤ maxLen) :
    ∃ F', F.le F' ∧ (∀ b o, F' b = some o → c.w0.heap.size ≤ b ∧ W.heap[b]? = some o) ∧ SelM c.w0 (F'.off c.X) c fs.ss fs.wd fns tns := by
  obtain ⟨F1, l1, g1, r1⟩ := row_seal (X := c.X) h.st.grow h.st.srcs (by have := h.st.few; unfold maxLen; omega) hX
  obtain ⟨F2, l2, g2, r2⟩ := row_seal (X := c.X) g1 h.row hi (fun b e => let ⟨o, ho⟩ := hX b e; ⟨o, l1 _ _ ho⟩)
  obtain ⟨F3, l3, g3, r3⟩ := row_seal (X := c.X) g2 h.trow ht (fun b e => let ⟨o, ho⟩ := hX b e; ⟨o, l2 _ _ (l1 _ _ ho)⟩)
  have hn := g3.offp
  have hx : c.X c.fb = false := by
    cases e : c.X c.fb with
    | false => rfl
    | true => obtain ⟨o, ho⟩ := hX _ e; rw [h.st.grow.offp] at ho; cases ho
  have l4 := Fx.le_set (F := F3) (.cells #[c.tabs, .bool c.iw, sv, .int .i64 fs.wd, iv, tv, ev] 299 (0, 0)) hn
  have m34 := Fx.off_mono l4 c.X
  have m3 := (Fx.off_mono l3 c.X).trans m34
  have m2 := (Fx.off_mono l2 c.X).trans m3
  have m1 := (Fx.off_mono l1 c.X).trans m2
  have hw := h.st.wide
  have hf := h.st.few
  refine ⟨F3.set c.fb (.cells #[c.tabs, .bool c.iw, sv, .int .i64 fs.wd, iv, tv, ev] 299 (0, 0)), ((l1.trans l2).trans l3).trans l4, fun b o e => ?_, ⟨⟨sv, iv, tv, ev, ivs, tvs, Fx.off_some (Fx.set_same _ _ _) hx, r1.mono m2, ⟨r2.mono m3, (h.its rfl).mono m1⟩, r3.mono m34, (h.tst rfl).mono m1⟩, hf, h.st.ok, by omega, hw.2.1⟩⟩
  by_cases hb : b = c.fb
  · subst hb
    rw [Fx.set_same] at e
    injection e with e
    subst e
    exact ⟨h.st.low, h.st.box⟩
  · rw [Fx.set_other _ _ hb] at e
    exact g3.fits b o e
end Go.Proofs.YtfkeddkfegaeiaaGreatDoor
namespace Go.Proofs.YtfkeddkfegaeiaaGreatDoor
open Go.RowKit
set_option maxRecDepth 100000 in
set_option maxHeartbeats 1000000 in
theorem sholds_any (w0 : World) (G : Fx) (c : Fc) (ss : List Sr) (wd : Nat) (fns : List (List (List Int) → List Int)) (tns : List (List Int → Bool)) (h : SelM w0 G c ss wd fns tns) (w : World) (hw : Fits w0 G w) (rv : Value) (row : List Int) (hl : row.length = wd) (hr : RowAt w rv (intsV row)) :
    Calls Tryz.prog 255 #[.pointer (some ⟨c.fb, 2, none⟩), rv] w fun e w' => e = .returned (.bool (tns.all fun t => t row)) ∧ Below w.heap.size w w' := by
  obtain ⟨sv, iv, tv, ev, ivs, tvs, hbx, -, -, hrow, htl, hts⟩ := h.lies
  have hb := hw.new _ _ hbx
  have zb := lt_of_heap hb
  obtain ⟨kb, fb⟩ := blk hb
  have k5 : w.cell? ⟨c.fb, 5, none⟩ = some tv := kb 5
  obtain ⟨adt, ct, rfl, mt, htc⟩ := hrow.row rfl hw
  rw [htl] at mt htc k5
  have HTC := hide htc
  have HTS := hide hts
  have HTL := hide htl
  have HW := hide hw
  have HR := hide hr
  have HL := hide hl
  obtain ⟨adr, capr, rfl, _, _⟩ := hr
  rw [List.length_map] at HR ⊢
  unfold maxLen at mt
  clear hrow htc hts htl hw hl kb hb hbx h
  go_enter Tryz.func255, Tryz.ntmps255
  go_wp2_with fail
  go_loopg [6, 12] tns.length (fun f _ i W => ∃ pre suf, tns = pre ++ suf ∧ f = suf.length ∧ i = .int .i64 (pre.length : Nat) ∧ pre.all (fun t => t row) = true ∧ Below w.heap.size w W)
  case atStart => exact ⟨[], tns, rfl, rfl, rfl, rfl, Below.refl _ _⟩
  case round =>
    obtain ⟨pre, suf, h1, rfl, rfl, hal, hbw⟩ := hrel
    have l1 : pre.length + suf.length = tns.length := by rw [h1, List.length_append]
    have HZ := hide h1
    have HAL := hide hal
    have HB := hide hbw
    clear h1 hal hbw
    cases suf with
    | nil =>
      have hlt : decide (pre.length < tns.length) = false := by simp at l1 ⊢; omega
      go_wp2
      go_ret
      refine ⟨?_, unhide HB⟩
      rw [unhide HZ, List.append_nil, unhide HAL]
      rfl
    | cons t suf =>
      rw [List.length_cons] at l1
      have hlt : decide (pre.length < tns.length) = true := by simp; omega
      have HZ2 : Hid (tns = (pre ++ [t]) ++ suf) := by unfold Hid; rw [unhide HZ]; simp
      obtain ⟨b1, o1, rfl, z1, c1⟩ := (unhide HTC) (by omega)
      obtain ⟨u, hu⟩ : ∃ u, tvs[pre.length]? = some u := ⟨tvs[pre.length]'(by rw [unhide HTL]; omega), List.getElem?_eq_getElem _⟩
      obtain ⟨g, cb, rfl, hg⟩ := (unhide HTS) pre.length u t hu (by rw [unhide HZ]; simp)
      have k1 : wr.cell? ⟨b1, o1 + pre.length, none⟩ = some (.func (.func g) #[] cb) := by
        rw [(unhide HB).cell (p := ⟨b1, _, none⟩) z1, c1 _ (by omega), hu]
      have eg := hg.1
      have HC := hide (hg.2 wr _ row ((unhide HW).below (unhide HB)) (unhide HL) ((unhide HR).keep (unhide HB)))
      clear hu hg c1
      go_wp2_with fail
      refine (unhide HC).mono ?_
      rintro e w2 ⟨rfl, hb2⟩
      have HB2 : Hid (Below w.heap.size w w2) := (unhide HB).trans (hb2.mono (unhide HB).size)
      clear hb2
      cases ht : t row with
      | true =>
        have HT := hide ht
        go_wp2
        go_roundg suf.length
        case measure => simp
        case rel =>
          refine ⟨pre ++ [t], suf, unhide HZ2, rfl, ?_, ?_, unhide HB2⟩
          · rw [List.length_append]; go_num
          · rw [List.all_append, unhide HAL, List.all_cons, unhide HT]; rfl
      | false =>
        have HT := hide ht
        go_wp2
        go_ret
        refine ⟨?_, unhide HB2⟩
        rw [unhide HZ, List.all_append, List.all_cons, unhide HT]
        simp
/-- a cell of a source, in any world that fits. -/
theorem RowG.cell3 {G : Fx} {w0 W : World} {c : Fc} {sv : Value} {ss pre suf : List Sr} {s : Sr} (h : RowG G 3 sv ss.length (srP c ss)) (hW : Fits w0 G W) (hz : ss = pre ++ s :: suf) : ∃ g cap, sv = .slice (some ⟨g, 0, none⟩) ss.length cap ∧ g < W.heap.size ∧ W.cell? ⟨g, pre.length * 3, none⟩ = some (.string s.alias) ∧ W.cell? ⟨g, pre.length * 3 + 1, none⟩ = some (.pointer (some ⟨c.tb, c.tof + s.tab * 3, none⟩)) ∧ W.cell? ⟨g, pre.length * 3 + 2, none⟩ = some (.int .i64 s.first) := by
  have hlen : pre.length < ss.length := by rw [hz, List.length_append, List.length_cons]; omega
  rcases h with ⟨h1, h2⟩ | ⟨g, cap, cur, T, h1, h2, h3, h4, h5⟩
  · omega
  · have hc : ∀ j, j < ss.length * 3 → W.cell? ⟨g, j, none⟩ = (srP c ss)[j]? := fun j hj => by
      rw [(blk (hW.new _ _ h2)).1, ← h3, List.getElem?_take, if_pos hj]; simp
    obtain ⟨e1, e2, e3⟩ := srP_at c pre suf s
    refine ⟨g, cap, h1, lt_size (hW.new _ _ h2), ?_, ?_, ?_⟩
    · rw [hc _ (by omega), hz]; exact e1
    · rw [hc _ (by omega), hz]; exact e2
    · rw [hc _ (by omega), hz]; exact e3
def mulN (rs : List (List (List Int))) : Nat := (rs.map List.length).foldl (· * ·) 1
theorem mulN_snoc (rs : List (List (List Int))) (r : List (List Int)) : mulN (rs ++ [r]) = mulN rs * r.length := by simp [mulN]
theorem mulN_le : ∀ (rs : List (List (List Int))) (a : Nat), (∀ r ∈ rs, r.length ≤ 200) → (rs.map List.length).foldl (· * ·) a ≤ a * 200 ^ rs.length
  | [], a, _ => by simp
  | r :: rs, a, h => by
    have h1 := mulN_le rs (a * r.length) (fun x hx => h x (List.mem_cons_of_mem _ hx))
    have h2 : a * r.length * 200 ^ rs.length ≤ a * 200 * 200 ^ rs.length := Nat.mul_le_mul_right _ (Nat.mul_le_mul_left a (h r List.mem_cons_self))
    simp only [List.map_cons, List.foldl_cons, List.length_cons, Nat.pow_succ]
    rw [Nat.mul_comm (200 ^ rs.length) 200, ← Nat.mul_assoc]
    exact Nat.le_trans h1 h2
theorem mulN_small {rs : List (List (List Int))} (h : ∀ r ∈ rs, r.length ≤ 200) (hl : rs.length ≤ 3) : mulN rs ≤ 8000000 := by
  have h1 := mulN_le rs 1 h
  have h2 : 200 ^ rs.length ≤ 200 ^ 3 := Nat.pow_le_pow_right (by omega) hl
  unfold mulN
  omega
set_option maxRecDepth 100000 in
set_option maxHeartbeats 1000000 in
theorem smade_any (w0 : World) (G : Fx) (c : Fc) (ss : List Sr) (wd : Nat) (fns : List (List (List Int) → List Int)) (tns : List (List Int → Bool)) (h : SelM w0 G c ss wd fns tns) (w : World) (hw : Fits w0 G w) (T : List Tb) (tc : Nat) (hT : TabsAt w (.slice (some ⟨c.tb, c.tof, none⟩) T.length tc) T) (hTl : T.length = c.T.length) (h200 : ∀ t ∈ T, t.rows.length ≤ 200) :
    Calls Tryz.prog 253 #[.pointer (some ⟨c.fb, 2, none⟩)] w fun e w' => e = .returned (.int .i64 (mulN (rowsOf T ss) : Nat)) ∧ Below w.heap.size w w' := by
  obtain ⟨sv, iv, tv, ev, ivs, tvs, hbx, hsr, -, -⟩ := h.lies
  have hb := hw.new _ _ hbx
  have zb := lt_of_heap hb
  obtain ⟨kb, fb⟩ := blk hb
  have few := h.few
  have HSR := hide hsr
  have HOK := hide h.ok
  have HW := hide hw
  have HT := hide hT
  have H200 := hide h200
  obtain ⟨ads, caps, hsv⟩ : ∃ ads caps, sv = .slice ads ss.length caps := by
    rcases hsr with ⟨h1, h2⟩ | ⟨g, cap, cur, T, h1, _⟩
    · exact ⟨none, 0, by rw [h1, h2]⟩
    · exact ⟨_, _, h1⟩
  subst hsv
  have k2 : w.cell? ⟨c.fb, 2, none⟩ = some (.slice ads ss.length caps) := kb 2
  clear hsr hw hT h200 hb hbx h kb
  go_enter Tryz.func253, Tryz.ntmps253
  go_wp2_with fail
  go_loopg [3, 5, 11] ss.length (fun f n _ i W => ∃ pre suf, ss = pre ++ suf ∧ f = suf.length ∧ n = .int .i64 (mulN (rowsOf T pre) : Nat) ∧ i = .int .i64 (pre.length : Nat) ∧ Below w.heap.size w W)
  case atStart => exact ⟨[], ss, rfl, rfl, rfl, rfl, Below.refl _ _⟩
  case round =>
    obtain ⟨pre, suf, h1, rfl, rfl, rfl, hbw⟩ := hrel
    have l1 : pre.length + suf.length = ss.length := by rw [h1, List.length_append]
    have HZ := hide h1
    have HB := hide hbw
    clear h1 hbw
    cases suf with
    | nil =>
      have hlt : decide (pre.length < ss.length) = false := by simp at l1 ⊢; omega
      obtain rfl : pre = ss := by rw [unhide HZ, List.append_nil]
      go_wp2
      go_ret
      exact ⟨rfl, unhide HB⟩
    | cons s suf =>
      rw [List.length_cons] at l1
      have hlt : decide (pre.length < ss.length) = true := by simp; omega
      have HZ2 : Hid (ss = (pre ++ [s]) ++ suf) := by unfold Hid; rw [unhide HZ]; simp
      have hsm : s ∈ ss := by rw [unhide HZ]; simp
      obtain ⟨g, cap, e1, z1, c1, c2, c3⟩ := (unhide HSR).cell3 ((unhide HW).below (unhide HB)) (unhide HZ)
      injection e1 with e1 _ e2
      subst e1 e2
      obtain ⟨ztb, cv, rv, -, -, t3, -, hrows⟩ := ((unhide HT).keep (unhide HB)).tab (j := s.tab) (by rw [hTl]; exact (unhide HOK) s hsm)
      obtain ⟨vs, ⟨adr, capr, rfl, _, _⟩, lr, _⟩ := hrows
      rw [lr] at t3
      have hmem : T.getD s.tab tb0 ∈ T := by
        have hlt' : s.tab < T.length := by rw [hTl]; exact (unhide HOK) s hsm
        rw [List.getD_eq_getElem?_getD, List.getElem?_eq_getElem hlt']
        exact List.getElem_mem hlt'
      have hr200 := (unhide H200) _ hmem
      have HMN : Hid (mulN (rowsOf T (pre ++ [s])) = mulN (rowsOf T pre) * (T.getD s.tab tb0).rows.length) := by
        unfold Hid
        rw [show rowsOf T (pre ++ [s]) = rowsOf T pre ++ [(T.getD s.tab tb0).rows] from by simp [rowsOf], mulN_snoc]
      have hsmall : mulN (rowsOf T pre) ≤ 8000000 := by
        refine mulN_small (fun r hr => ?_) (by simp [rowsOf]; omega)
        obtain ⟨q, hq, rfl⟩ := List.mem_map.1 hr
        refine (unhide H200) _ ?_
        have hlt' : q.tab < T.length := by rw [hTl]; exact (unhide HOK) q (by rw [unhide HZ]; exact List.mem_append_left _ hq)
        rw [List.getD_eq_getElem?_getD, List.getElem?_eq_getElem hlt']
        exact List.getElem_mem hlt'
      clear hmem hsm
      generalize (T.getD s.tab tb0).rows.length = k at *
      generalize mulN (rowsOf T pre) = m at *
      have hmk : m * k ≤ 1600000000 := Nat.le_trans (Nat.mul_le_mul hsmall hr200) (by omega)
      generalize hq : m * k = q at *
      have hqi : (m : Int) * (k : Int) = (q : Int) := by rw [← hq]; simp
      clear hq
      go_wp2
      go_roundg suf.length
      case measure => simp
      case rel =>
        refine ⟨pre ++ [s], suf, unhide HZ2, rfl, ?_, ?_, (unhide HB).alloc (unhide HB).size _⟩
        · rw [unhide HMN]
        · rw [List.length_append]; go_num
end Go.Proofs.YtfkeddkfegaeiaaGreatDoor
namespace Go.Proofs.YtfkeddkfegaeiaaGreatDoor
open Go.RowKit
def cmpI (a b : Int) : Int := if a < b then -1 else if b < a then 1 else 0
/-- two lists of numbers, by the first one that parts. -/
def cmpL : List Int → List Int → Int
  | [], [] => 0
  | [], _ :: _ => -1
  | _ :: _, [] => 1
  | a :: r, b :: s => if cmpI a b = 0 then cmpL r s else cmpI a b
set_option maxRecDepth 100000 in
set_option maxHeartbeats 1000000 in
theorem isNaN_any (x : Int) (w : World) : Calls Tryz.prog 266 #[.int .i64 x] w fun e w' => e = .returned (.bool false) ∧ w' = w := by
  have hx : (x != x) = false := by simp
  go_enter Tryz.func266, Tryz.ntmps266
  go_wp2
  go_ret
  exact ⟨rfl, rfl⟩
set_option maxRecDepth 100000 in
set_option maxHeartbeats 1000000 in
theorem cmpI_any (a b : Int) (w : World) : Calls Tryz.prog 204 #[.int .i64 a, .int .i64 b] w fun e w' => e = .returned (.int .i64 (cmpI a b)) ∧ w' = w := by
  obtain ⟨q, HQ⟩ : ∃ q, Hid (q = cmpI a b) := ⟨_, rfl⟩
  rw [← unhide HQ]
  go_enter Tryz.func204, Tryz.ntmps204
  go_wp2_with fail
  refine (isNaN_any a _).mono ?_
  rintro e w1 ⟨rfl, hw1⟩
  obtain rfl := hw1.symm
  go_wp2_with fail
  refine (isNaN_any b _).mono ?_
  rintro e w2 ⟨rfl, hw2⟩
  obtain rfl := hw2.symm
  by_cases h1 : a < b
  · have hd : decide (a < b) = true := by simpa using h1
    have HE : Hid (q = -1) := by unfold Hid; rw [unhide HQ]; unfold cmpI; rw [if_pos h1]
    clear h1
    go_wp2
    go_ret
    exact ⟨by rw [unhide HE]; rfl, rfl⟩
  · have hd : decide (a < b) = false := by simpa using h1
    by_cases h2 : b < a
    · have hd2 : decide (b < a) = true := by simpa using h2
      have HE : Hid (q = 1) := by unfold Hid; rw [unhide HQ]; unfold cmpI; rw [if_neg h1, if_pos h2]
      clear h1 h2
      go_wp2
      go_ret
      exact ⟨by rw [unhide HE]; rfl, rfl⟩
    · have hd2 : decide (b < a) = false := by simpa using h2
      have HE : Hid (q = 0) := by unfold Hid; rw [unhide HQ]; unfold cmpI; rw [if_neg h1, if_neg h2]
      clear h1 h2
      go_wp2
      go_ret
      exact ⟨by rw [unhide HE]; rfl, rfl⟩
theorem cmpI_self (a : Int) : cmpI a a = 0 := by simp [cmpI]
theorem cmpI_zero {a b : Int} (h : cmpI a b = 0) : a = b := by
  unfold cmpI at h
  split at h
  · omega
  · split at h
    · omega
    · omega
theorem cmpL_pre (pre r s : List Int) : cmpL (pre ++ r) (pre ++ s) = cmpL r s := by
  induction pre with
  | nil => rfl
  | cons a p ih => simp only [List.cons_append, cmpL, cmpI_self, if_true]; exact ih
set_option maxRecDepth 100000 in
set_option maxHeartbeats 1000000 in
theorem sCompare_any (a b : Value) (zs ys : List Int) (w : World) (ha : RowAt w a (intsV zs)) (hb : RowAt w b (intsV ys)) :
    Calls Tryz.prog 128 #[a, b] w fun e w' => e = .returned (.int .i64 (cmpL zs ys)) ∧ w' = w := by
  obtain ⟨ada, capa, rfl, ma, ca⟩ := ha
  obtain ⟨adb, capb, rfl, mb, cb⟩ := hb
  rw [List.length_map] at ma mb ca cb
  unfold maxLen at ma mb
  simp only [List.length_map]
  obtain ⟨q, HQ⟩ : ∃ q, Hid (q = cmpL zs ys) := ⟨_, rfl⟩
  rw [← unhide HQ]
  have HCA := hide ca
  have HCB := hide cb
  clear ca cb
  go_enter Tryz.func128, Tryz.ntmps128
  go_wp2_with fail
  go_loopg [5, 6, 7, 8, 11] zs.length (fun f _ _ _ _ i W => ∃ pre s1 s2, zs = pre ++ s1 ∧ ys = pre ++ s2 ∧ f = s1.length ∧ i = .int .i64 (pre.length : Nat) ∧ W = w)
  case atStart => exact ⟨[], zs, ys, rfl, rfl, rfl, rfl, rfl⟩
  case round =>
    obtain ⟨pre, s1, s2, h1, h2, rfl, rfl, hw⟩ := hrel
    obtain rfl := hw.symm
    have HZ := hide h1
    have HY := hide h2
    have l1 : pre.length + s1.length = zs.length := by rw [h1, List.length_append]
    have l2 : pre.length + s2.length = ys.length := by rw [h2, List.length_append]
    have HC : Hid (q = cmpL s1 s2) := by unfold Hid; rw [unhide HQ, h1, h2, cmpL_pre]
    clear h1 h2
    cases s1 with
    | nil =>
      have hlt : decide (pre.length < zs.length) = false := by simp at l1 ⊢; omega
      cases s2 with
      | nil =>
        have hlt2 : decide (zs.length < ys.length) = false := by simp at l1 l2 ⊢; omega
        go_wp2
        go_ret
        exact ⟨by rw [unhide HC]; rfl, rfl⟩
      | cons y s2 =>
        have hlt2 : decide (zs.length < ys.length) = true := by simp at l1 l2 ⊢; omega
        go_wp2
        go_ret
        exact ⟨by rw [unhide HC]; rfl, rfl⟩
    | cons z s1 =>
      rw [List.length_cons] at l1
      have hlt : decide (pre.length < zs.length) = true := by simp; omega
      obtain ⟨b1, o1, rfl, z1, c1⟩ := (unhide HCA) (by omega)
      have k1 : w.cell? ⟨b1, o1 + pre.length, none⟩ = some (.int .i64 z) := by
        rw [c1 _ (by omega), unhide HZ]
        simp
      clear c1
      cases s2 with
      | nil =>
        have hge : decide (ys.length ≤ pre.length) = true := by simp at l2 ⊢; omega
        go_wp2
        go_ret
        exact ⟨by rw [unhide HC]; rfl, rfl⟩
      | cons y s2 =>
        rw [List.length_cons] at l2
        have hge : decide (ys.length ≤ pre.length) = false := by simp; omega
        obtain ⟨b2, o2, rfl, z2, c2⟩ := (unhide HCB) (by omega)
        have k2 : w.cell? ⟨b2, o2 + pre.length, none⟩ = some (.int .i64 y) := by
          rw [c2 _ (by omega), unhide HY]
          simp
        clear c2
        go_wp2_with fail
        refine (cmpI_any z y _).mono ?_
        rintro e w2 ⟨rfl, hw2⟩
        obtain rfl := hw2.symm
        by_cases h0 : cmpI z y = 0
        · have hd : (cmpI z y != 0) = false := by rw [h0]; rfl
          have hzy := cmpI_zero h0
          have HZ2 : Hid (zs = (pre ++ [z]) ++ s1) := by unfold Hid; rw [unhide HZ]; simp
          have HY2 : Hid (ys = (pre ++ [z]) ++ s2) := by unfold Hid; rw [unhide HY, hzy]; simp
          clear h0 hzy
          generalize cmpI z y = cc at *
          go_wp2
          go_roundg s1.length
          case measure => simp
          case rel =>
            refine ⟨pre ++ [z], s1, s2, unhide HZ2, unhide HY2, rfl, ?_, rfl⟩
            rw [List.length_append]; go_num
        · have hd : (cmpI z y != 0) = true := by simpa using h0
          have HE : Hid (q = cmpI z y) := by unfold Hid; rw [unhide HC]; simp only [cmpL]; rw [if_neg h0]
          clear h0
          generalize cmpI z y = cc at *
          go_wp2
          go_ret
          exact ⟨by rw [unhide HE]; rfl, rfl⟩
end Go.Proofs.YtfkeddkfegaeiaaGreatDoor
namespace Go.Proofs.YtfkeddkfegaeiaaGreatDoor
open Go.RowKit
set_option maxRecDepth 100000 in
set_option maxHeartbeats 1000000 in
theorem sEqual_any (a b : Value) (zs ys : List Int) (w : World) (ha : RowAt w a (intsV zs)) (hb : RowAt w b (intsV ys)) :
    Calls Tryz.prog 252 #[a, b] w fun e w' => e = .returned (.bool (decide (zs = ys))) ∧ Below w.heap.size w w' := by
  obtain ⟨ada, capa, rfl, ma, ca⟩ := ha
  obtain ⟨adb, capb, rfl, mb, cb⟩ := hb
  rw [List.length_map] at ma mb ca cb
  unfold maxLen at ma mb
  simp only [List.length_map]
  by_cases hl : zs.length = ys.length
  · have hd : ((zs.length : Int) != (ys.length : Int)) = false := by rw [hl]; simp
    have HL := hide hl
    clear hl
    have HCA := hide ca
    have HCB := hide cb
    clear ca cb
    go_enter Tryz.func252, Tryz.ntmps252
    go_wp2_with fail
    go_loopg [5, 13] zs.length (fun f _ i W => ∃ pre s1 s2, zs = pre ++ s1 ∧ ys = pre ++ s2 ∧ f = s1.length ∧ i = .int .i64 (pre.length : Nat) ∧ Below w.heap.size w W)
    case atStart => exact ⟨[], zs, ys, rfl, rfl, rfl, rfl, Below.refl _ _⟩
    case round =>
      obtain ⟨pre, s1, s2, h1, h2, rfl, rfl, hbw⟩ := hrel
      have HB := hide hbw
      have HZ := hide h1
      have HY := hide h2
      have l1 : pre.length + s1.length = zs.length := by rw [h1, List.length_append]
      have l2 : pre.length + s2.length = ys.length := by rw [h2, List.length_append]
      clear h1 h2 hbw
      cases s1 with
      | nil =>
        have hlt : decide (pre.length < zs.length) = false := by simp at l1 ⊢; omega
        go_wp2
        go_ret
        have e2 : s2 = [] := by apply List.eq_nil_of_length_eq_zero; have := unhide HL; simp at l1; omega
        have e : decide (zs = ys) = true := by rw [unhide HZ, unhide HY, e2]; simp
        rw [e]
        exact ⟨rfl, unhide HB⟩
      | cons z s1 =>
        cases s2 with
        | nil => exfalso; have := unhide HL; simp at l1 l2; omega
        | cons y s2 =>
          rw [List.length_cons] at l1 l2
          have hlt : decide (pre.length < zs.length) = true := by simp; omega
          obtain ⟨b1, o1, rfl, z1, c1⟩ := (unhide HCA) (by omega)
          obtain ⟨b2, o2, rfl, z2, c2⟩ := (unhide HCB) (by have := unhide HL; omega)
          have k1 : wr.cell? ⟨b1, o1 + pre.length, none⟩ = some (.int .i64 z) := by
            rw [(unhide HB).cell (p := ⟨b1, o1 + pre.length, none⟩) z1, c1 _ (by omega), unhide HZ]
            simp
          have k2 : wr.cell? ⟨b2, o2 + pre.length, none⟩ = some (.int .i64 y) := by
            rw [(unhide HB).cell (p := ⟨b2, o2 + pre.length, none⟩) z2, c2 _ (by omega), unhide HY]
            simp
          have HZ2 : Hid (zs = (pre ++ [z]) ++ s1) := by unfold Hid; rw [unhide HZ]; simp
          have HY2 : Hid (ys = (pre ++ [y]) ++ s2) := by unfold Hid; rw [unhide HY]; simp
          clear c1 c2
          cases hzy : (z != y) with
          | true =>
            have HNE : Hid (decide (zs = ys) = false) := by
              unfold Hid
              rw [decide_eq_false_iff_not, unhide HZ, unhide HY]
              intro e
              have := List.append_cancel_left e
              simp at this hzy
              exact hzy this.1
            go_wp2
            go_region
            go_wp2
            go_ret
            rw [unhide HNE]
            exact ⟨rfl, (unhide HB).drew⟩
          | false =>
            have hze : z = y := by simpa using hzy
            go_wp2
            go_region
            go_wp2
            go_roundg s1.length
            case measure => simp
            case rel =>
              refine ⟨pre ++ [z], s1, s2, unhide HZ2, by rw [hze]; exact unhide HY2, rfl, ?_, (unhide HB).drew⟩
              rw [List.length_append]
              go_num
  · have hd : ((zs.length : Int) != (ys.length : Int)) = true := by
      rw [bne_iff_ne]
      intro e
      exact hl (by exact_mod_cast e)
    have HNE : Hid (decide (zs = ys) = false) := by
      unfold Hid
      rw [decide_eq_false_iff_not]
      intro e
      exact hl (by rw [e])
    clear ca cb
    go_enter Tryz.func252, Tryz.ntmps252
    go_wp2
    go_ret
    rw [unhide HNE]
    exact ⟨rfl, Below.refl _ _⟩
end Go.Proofs.YtfkeddkfegaeiaaGreatDoor
