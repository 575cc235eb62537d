/-
  Part 37.
-/
import Derived.Test.YtfkeddkfegaeiaaGreatDoorMvStQ
namespace Go.Proofs.YtfkeddkfegaeiaaGreatDoor
open Go.RowKit
set_option maxHeartbeats 400000 in
theorem clone_any (s : ByteArray) (w : World) (hs : s.size ≤ 8) : Calls Tryz.prog 78 #[.string s] w fun e w' => e = .returned (.string s) ∧ Below w.heap.size w w' := by
  go_enter Tryz.func78, Tryz.ntmps78
  go_wp2_with fail
  refine (Tryz.stringslite_Clone s _ (by omega)).mono ?_
  rintro e w1 ⟨rfl, hb⟩
  have HB := hide hb
  clear hb
  go_wp2
  go_ret
  exact ⟨rfl, unhide HB⟩
theorem iClone_any (a : Value) (zs : List Int) (w : World) (ha : RowAt w a (intsV zs)) (hn : zs.length ≤ 1000000) :
    Calls Tryz.prog 92 #[a] w fun e w' => ∃ v', e = .returned v' ∧ w'.ownsRow w.heap.size 3 1 v' zs.length (intsV zs) ∧ Below w.heap.size w w' := by
  obtain ⟨ad, cap, rfl, hm, hc⟩ := ha
  rw [List.length_map] at hm hc ⊢
  cases zs with
  | nil =>
    cases ad with
    | none =>
      refine (Tryz.slices_Clone_int_nil _ _ _).mono ?_
      rintro e w' ⟨rfl, rfl⟩
      exact ⟨_, rfl, World.ownsRow_nil _ _ _ _, Below.refl _ _⟩
    | some ad =>
      refine (Tryz.slices_Clone_int_zero _ _ _).mono ?_
      rintro e w' ⟨v', rfl, h1, _, h2⟩
      exact ⟨v', rfl, h1, h2⟩
  | cons z zs =>
    obtain ⟨b, o, rfl, hb, hcell⟩ := hc (by simp)
    refine (Tryz.slices_Clone_int b o _ cap (z :: zs) w (Nat.le_refl _) (by omega) (fun j hj => ?_)).mono ?_
    · rw [hcell j hj, intsV, List.getElem?_map, List.getD_eq_getElem?_getD, List.getElem?_eq_getElem hj]
      rfl
    · rintro e w' ⟨v', rfl, h1, _, h2⟩
      rw [List.take_length] at h1
      exact ⟨v', rfl, h1, h2⟩
theorem owns_form {W : World} {base n : Nat} {e : TypeId} {size : Nat} {v : Value} {xs : List Value} (h : W.ownsRow base e size v n xs) : ∃ ad cap, v = .slice ad n cap := by
  rcases h.2 with ⟨h1, h2⟩ | ⟨g, cap, cur, h1, _⟩
  · exact ⟨none, 0, by rw [h1, h2]⟩
  · exact ⟨_, cap, h1⟩
theorem news1 {W : World} {B : Nat} {x : Value} {T : TypeId} (h : W.heap[B]? = some (.cells #[x] T (0, 0))) : ∀ j u, [x][j]? = some u → W.cell? ((⟨B, 0, none⟩ : Addr).add j) = some u :=
  World.news_of_block (cs := #[x]) h
theorem Grow.drew {lo p : Nat} {F : Fx} {vs : List Value} {W : World} (h : Grow lo F p vs W) : Grow lo F p vs W.drew := h.keep (Nat.le_refl _) (fun _ _ => rfl)
theorem one1s (c : ByteArray) : ∀ u ∈ [Value.string c], u.oneCell' = true := by
  intro u hu
  simp only [List.mem_singleton] at hu
  subst hu
  rfl
theorem one1l (ad : Option Addr) (n c : Nat) : ∀ u ∈ [Value.slice ad n c], u.oneCell' = true := by
  intro u hu
  simp only [List.mem_singleton] at hu
  subst hu
  rfl
theorem owns_mono {W : World} {base base' n : Nat} {e : TypeId} {size : Nat} {v : Value} {xs : List Value} (h : W.ownsRow base e size v n xs) (hb : base' ≤ base) : W.ownsRow base' e size v n xs :=
  ⟨h.1, h.2.imp id (fun ⟨g, cap, cur, h1, h2, h3⟩ => ⟨g, cap, cur, h1, Nat.le_trans hb h2, h3⟩)⟩
/-- a new list, laid down. -/
theorem rowF_new {lo p n : Nat} {F : Fx} {T : TypeId} {v : Value} {vs xs : List Value} {W W' : World} (h : Grow lo F p vs W) (hlo : lo ≤ W.heap.size) (hb : Below W.heap.size W W') (ho : W'.ownsRow W.heap.size T 1 v n xs) : ∃ F', F.le F' ∧ Grow lo F' p vs W' ∧ RowF F' T v xs := by
  refine rowF_seal (v := v) (n := n) ?_ (owns_mono ho hlo)
  have h' := h.below hb
  refine ⟨h'.fits, h'.offp, h'.ltp, fun u hu b e => ?_, List.pairwise_cons.2 ⟨fun u hu b e1 e2 => ?_, h'.dis⟩⟩
  · rcases List.mem_cons.1 hu with rfl | hu
    · have hk := ho.lt b e
      exact ⟨h.noneF hk.1, fun e' => by have := h.ltp; omega, by omega, hk.2⟩
    · exact h'.off u hu b e
  · have h1 := (ho.lt b e1).1
    have h2 := (h.off u hu b e2).2.2.2
    omega
theorem infoRow : (Tryz.prog.info? 32).map (fun i => (i.zero, i.size, i.bytes)) = some (some (.slice none 0 0), 1, 24) := by kernel_rfl
theorem infoTab : (Tryz.prog.info? 44).map (fun i => (i.zero, i.size, i.bytes)) = some (some (.agg #[.string ⟨#[]⟩, .slice none 0 0, .slice none 0 0]), 3, 64) := by kernel_rfl
/-- tables that are not yet filled. -/
def zer : Nat → List Value
  | 0 => []
  | n + 1 => .string ⟨#[]⟩ :: .slice none 0 0 :: .slice none 0 0 :: zer n
theorem zer_len (n : Nat) : (zer n).length = n * 3 := by
  induction n with
  | zero => rfl
  | succ n ih => simp only [zer, List.length_cons, ih]; omega
theorem zer_at (n : Nat) : ∀ i, i < n * 3 → (zer n)[i]? = some (#[Value.string ⟨#[]⟩, .slice none 0 0, .slice none 0 0][i % 3]!) := by
  induction n with
  | zero => intro i h; omega
  | succ n ih =>
    intro i h
    match i, h with
    | 0, _ => rfl
    | 1, _ => rfl
    | 2, _ => rfl
    | i + 3, h =>
      have e := ih i (by omega)
      rw [show (i + 3) % 3 = i % 3 from by omega]
      exact e
theorem zer_made (n : Nat) : (madeCells #[Value.string ⟨#[]⟩, .slice none 0 0, .slice none 0 0] (n * 3)).toList = zer n := by
  apply List.ext_getElem?
  intro i
  by_cases h : i < n * 3
  · rw [zer_at n i h]
    simp [madeCells, h]
  · rw [List.getElem?_eq_none (l := zer n) (by rw [zer_len]; omega), List.getElem?_eq_none (by rw [Array.length_toList, size_madeCells]; omega)]
set_option maxRecDepth 100000 in
set_option maxHeartbeats 4000000 in
theorem copied_any (lv : Value) (l : List Tb) (w : World) (hl : TabsAt w lv l) (h6 : p6all l = 0) :
    Calls Tryz.prog 59 #[lv] w fun e w' => ∃ g F D, e = .returned (.slice (some ⟨g, 0, none⟩) l.length l.length) ∧ Tabs F g l D ∧ (∀ b o, F b = some o → w.heap.size ≤ b ∧ w'.heap[b]? = some o) ∧ Below w.heap.size w w' := by
  obtain ⟨hn4, hsm⟩ := p6all_small h6
  have HSM := hide hsm
  clear hsm h6
  obtain ⟨i0, hi, hinf⟩ := Option.map_eq_some_iff.1 infoTab
  simp only [Prod.mk.injEq] at hinf
  obtain ⟨hz0, hz1, hz2⟩ := hinf
  have HI := hide hi
  have HZ0 := hide hz0
  have HZ1 := hide hz1
  have HZ2 := hide hz2
  clear hi hz0 hz1 hz2
  obtain ⟨i1, hi1, hinf1⟩ := Option.map_eq_some_iff.1 infoStr
  simp only [Prod.mk.injEq] at hinf1
  obtain ⟨hz01, hz11, hz21⟩ := hinf1
  have HI1 := hide hi1
  have HZ01 := hide hz01
  have HZ11 := hide hz11
  have HZ21 := hide hz21
  clear hi1 hz01 hz11 hz21
  obtain ⟨i2, hi2, hinf2⟩ := Option.map_eq_some_iff.1 infoRow
  simp only [Prod.mk.injEq] at hinf2
  obtain ⟨hz02, hz12, hz22⟩ := hinf2
  have HI2 := hide hi2
  have HZ02 := hide hz02
  have HZ12 := hide hz12
  have HZ22 := hide hz22
  clear hi2 hz02 hz12 hz22
  have HL := hide hl
  obtain ⟨adl, capl, rfl, ml, mcap, cl⟩ := hl
  unfold maxLen at ml
  have HCL := hide cl
  clear cl
  go_enter Tryz.func59, Tryz.ntmps59
  go_wp2_with (at_make; refine wpList_make_full _ rfl _ _ 84 rfl w.heap.size 44 i0 (.agg #[.string ⟨#[]⟩, .slice none 0 0, .slice none 0 0]) 3 Tryz.underlying84 (unhide HI) (unhide HZ0) (unhide HZ1) .i64 .i64 _ _ l.length rfl rfl ?c1 ?c2 ?c3 ?c4 ?c5 ?_)
  case c1 => simp
  case c2 => simp
  case c3 => rw [unhide HZ2]; omega
  case c4 => unfold maxLen; omega
  case c5 => exact Nat.le_refl _
  intro w1 ho hg
  rcases ho with ⟨hol, ⟨hv, _⟩ | ⟨g, cap, cur, hv, hge, hh, c1, c2, c3, c4⟩⟩
  · cases hv
  injection hv with hv1 hv2 hv3
  injection hv1 with hv1
  injection hv1 with hv1
  subst hv1
  have hh1 : w1.heap[w.heap.size]? = some (.cells (zer l.length).toArray 44 (0, 0)) := by
    rw [hh, ← zer_made]
    rw [← hv3] at c3
    rw [List.take_of_length_le (by rw [Array.length_toList]; omega)] at c4
    rw [show (madeCells #[Value.string ⟨#[]⟩, .slice none 0 0, .slice none 0 0] (l.length * 3)).toList = cur.toList from c4.symm]
  have HH1 := hide hh1
  have HG1 : Hid (Grow w.heap.size (fun _ => none) w.heap.size [] w1) := ⟨fun b o e => (by simp at e), rfl, lt_of_heap hh1, fun v hv => (by simp at hv), List.Pairwise.nil⟩
  have HB1 : Hid (Below w.heap.size w w1) := (Below.refl _ _).grown hg (Nat.le_refl _) (fun k e => by cases e)
  clear hg hh hh1 c1 c2 c3 c4 hv2 hv3 hge hol
  go_wp2_with fail
  go_loopg [15] l.length (fun f j W => ∃ pre suf F D, l = pre ++ suf ∧ f = suf.length ∧ j = .int .i64 (pre.length : Nat) ∧ W.heap[w.heap.size]? = some (.cells (D ++ zer suf.length).toArray 44 (0, 0)) ∧ TabsF F pre D ∧ Grow w.heap.size F w.heap.size [] W ∧ Below w.heap.size w W)
  case atStart => exact ⟨[], l, _, [], rfl, rfl, rfl, unhide HH1, .nil, unhide HG1, unhide HB1⟩
  case round =>
    clear HH1 HG1 HB1
    obtain ⟨pre, suf, F, D, h1, rfl, rfl, hx, htf, hgr, hbw⟩ := hrel
    have l1 : pre.length + suf.length = l.length := by rw [h1, List.length_append]
    have lD := htf.len
    have HZ := hide h1
    have HX := hide hx
    have HTF := hide htf
    have HGR := hide hgr
    have HB := hide hbw
    clear h1 hx htf hgr hbw
    cases suf with
    | nil =>
      have hlt : decide (pre.length < l.length) = false := by simp at l1 ⊢; omega
      go_wp2
      go_ret
      refine ⟨w.heap.size, F.set w.heap.size (.cells D.toArray 44 (0, 0)), D, rfl, ⟨Fx.set_same _ _ _, ?_⟩, fun b o e => ?_, unhide HB⟩
      · have e : l = pre := by rw [unhide HZ, List.append_nil]
        rw [e]
        exact (unhide HTF).mono (Fx.le_set _ (unhide HGR).offp)
      · by_cases hb : b = w.heap.size
        · subst hb
          rw [Fx.set_same] at e
          injection e with e
          subst e
          refine ⟨Nat.le_refl _, ?_⟩
          rw [unhide HX, show zer ([] : List Tb).length = [] from rfl, List.append_nil]
        · rw [Fx.set_other _ _ hb] at e
          exact (unhide HGR).fits b o e
    | cons t suf =>
      rw [List.length_cons] at l1
      have hlt : decide (pre.length < l.length) = true := by simp; omega
      obtain ⟨b1, o1, rfl, z1, c1⟩ := (unhide HCL) (by omega)
      obtain ⟨cv, rv, htb, k1, k2, k3⟩ := c1 pre.length t (by rw [unhide HZ]; simp)
      rw [← (unhide HB).cell (p := ⟨b1, o1 + pre.length * 3, none⟩) z1] at k1
      rw [← (unhide HB).cell (p := ⟨b1, o1 + pre.length * 3 + 1, none⟩) z1] at k2
      rw [← (unhide HB).cell (p := ⟨b1, o1 + pre.length * 3 + 2, none⟩) z1] at k3
      obtain ⟨cv', rv', e', htc, _, htr⟩ := htb
      injection e' with _ e'
      injection e' with e1 e'
      injection e' with e2 _
      subst e1 e2
      have HTC := hide htc
      have HTR := hide htr
      obtain ⟨adc, capc, rfl, mc, q0⟩ := htc
      obtain ⟨vs, ⟨adr, capr, rfl, mr, q1⟩, lr, q2⟩ := htr
      clear q0 q1 q2
      rw [lr] at HTR k3 mr
      rw [List.length_map] at HTC k2 mc
      clear lr vs
      have HZ2 : Hid (l = (pre ++ [t]) ++ suf) := by unfold Hid; rw [unhide HZ]; simp
      have HST : Hid (Small t) := (unhide HSM) t (by rw [unhide HZ]; simp)
      clear c1
      have zg : w.heap.size < wr.heap.size := (unhide HGR).ltp
      go_wp2_with fail
      refine (clone_any t.name _ (unhide HST).name).mono ?_
      rintro e w2 ⟨rfl, hb2⟩
      have HB2 : Hid (Below w.heap.size w w2) := ((unhide HB).alloc (unhide HB).size _).trans (hb2.mono (by simp; omega))
      have HX2 : Hid (w2.heap[w.heap.size]? = some (.cells (D ++ .string ⟨#[]⟩ :: .slice none 0 0 :: .slice none 0 0 :: zer suf.length).toArray 44 (0, 0))) := by
        unfold Hid
        rw [hb2.block _ (by simp; omega)]
        exact heap_prev (unhide HX)
      have HT2 : Hid (w2.heap[wr.heap.size]? = some (.cells #[.string t.name, .slice adc t.cols.length capc, .slice adr t.rows.length capr] 44 (0, 0))) := by
        unfold Hid
        rw [hb2.block _ (by simp)]
        exact heap_last rfl
      have HG2 : Hid (Grow w.heap.size (F.set wr.heap.size (.cells #[.string t.name, .slice adc t.cols.length capc, .slice adr t.rows.length capr] 44 (0, 0))) w.heap.size [] w2) :=
        (((unhide HGR).alloc _).below hb2).fix (Nat.le_of_lt zg) (unhide HT2) (by omega) (fun v hv => (by simp at hv))
      have HF1 : Hid (Fx.le F (F.set wr.heap.size (.cells #[.string t.name, .slice adc t.cols.length capc, .slice adr t.rows.length capr] 44 (0, 0)))) := Fx.le_set _ ((unhide HGR).noneF (Nat.le_refl _))
      generalize hFx : F.set wr.heap.size (.cells #[.string t.name, .slice adc t.cols.length capc, .slice adr t.rows.length capr] 44 (0, 0)) = F1 at *
      have HFb : Hid (F1 wr.heap.size = some (.cells #[.string t.name, .slice adc t.cols.length capc, .slice adr t.rows.length capr] 44 (0, 0))) := by unfold Hid; rw [← hFx, Fx.set_same]
      clear hFx hb2 k1 k2 k3
      obtain ⟨kx, fx⟩ := blk (unhide HX2)
      obtain ⟨kt, ft⟩ := blk (unhide HT2)
      have zx := lt_of_heap (unhide HX2)
      have zt := lt_of_heap (unhide HT2)
      have m0 : w2.cell? ⟨w.heap.size, pre.length * 3, none⟩ = some (.string ⟨#[]⟩) := by
        rw [kx, ← lD]
        simp
      have hne : wr.heap.size ≠ w.heap.size := by omega
      have hne' : w.heap.size ≠ wr.heap.size := by omega
      have HX3 : Hid ((w2.setCell ⟨w.heap.size, pre.length * 3, none⟩ (.string t.name)).heap[w.heap.size]? = some (.cells (D ++ .string t.name :: .slice none 0 0 :: .slice none 0 0 :: zer suf.length).toArray 44 (0, 0))) := by
        unfold Hid
        rw [heap_set (unhide HX2), ← lD, List.setIfInBounds_toArray, List.set_append_right _ _ (Nat.le_refl _), Nat.sub_self, List.set_cons_zero]
      have HG3 : Hid (Grow w.heap.size F1 w.heap.size [] (w2.setCell ⟨w.heap.size, pre.length * 3, none⟩ (.string t.name))) := (unhide HG2).box _ _
      have HB3 : Hid (Below w.heap.size w (w2.setCell ⟨w.heap.size, pre.length * 3, none⟩ (.string t.name))) := (unhide HB2).setCell (Nat.le_refl _) _
      clear kx
      go_wp2_with fail
      clear kt ft fx m0 zx zt HX2 HT2 HG2 HB2
      generalize w2.setCell ⟨w.heap.size, pre.length * 3, none⟩ (.string t.name) = w3 at *
      go_loopg [30] t.cols.length (fun f j W => ∃ p2 s2 v, t.cols = p2 ++ s2 ∧ f = s2.length ∧ j = .int .i64 (p2.length : Nat) ∧ W.heap[w.heap.size]? = some (.cells (D ++ .string t.name :: v :: .slice none 0 0 :: zer suf.length).toArray 44 (0, 0)) ∧ W.ownsRow w.heap.size 9 1 v p2.length (textsV p2) ∧ Grow w.heap.size F1 w.heap.size [v] W ∧ Below w.heap.size w W)
      case atStart => exact ⟨[], t.cols, _, rfl, rfl, rfl, unhide HX3, World.ownsRow_nil _ _ _ _, (unhide HG3).add 0 0, unhide HB3⟩
      case round =>
        clear HX3 HG3 HB3
        obtain ⟨p2, s2, v, h1, rfl, rfl, hx, ho, hgr, hbw⟩ := hrel
        have l2 : p2.length + s2.length = t.cols.length := by rw [h1, List.length_append]
        have HZC := hide h1
        have HXC := hide hx
        have HOC := hide ho
        have HGC := hide hgr
        have HBC := hide hbw
        clear h1 hx ho hgr hbw
        cases s2 with
        | cons c s2 =>
          rw [List.length_cons] at l2
          have hlt2 : decide (p2.length < t.cols.length) = true := by simp; omega
          obtain ⟨ad9, cap9, e9, q9, ccc⟩ := unhide HTC
          rw [List.length_map] at ccc
          injection e9 with e9 e11 e10
          subst e9 e10
          clear q9 e11
          obtain ⟨b2, o2, rfl, z2, cc2⟩ := ccc (by omega)
          have k1 : wr.cell? ⟨b2, o2 + p2.length, none⟩ = some (.string c) := by
            rw [(unhide HBC).cell (p := ⟨b2, o2 + p2.length, none⟩) z2, cc2 _ (by omega), unhide HZC]
            simp
          have HZC2 : Hid (t.cols = (p2 ++ [c]) ++ s2) := by unfold Hid; rw [unhide HZC]; simp
          have hcs : c.size ≤ 8 := (unhide HST).cols c (by rw [unhide HZC]; simp)
          clear cc2 ccc hne hne' zg z1
          unfold maxLen at mc mr
          obtain ⟨av, cpv, rfl⟩ := owns_form (unhide HOC)
          obtain ⟨kx, fx⟩ := blk (unhide HXC)
          have zx := lt_of_heap (unhide HXC)
          have m1 : wr.drew.cell? ⟨w.heap.size, pre.length * 3 + 1, none⟩ = some (.slice av p2.length cpv) := by
            show wr.cell? _ = _
            rw [kx, ← lD, List.getElem?_toArray, List.getElem?_append_right (by omega), Nat.add_sub_cancel_left]
            rfl
          have hll : pre.length < l.length := by omega
          have hnc := (unhide HST).ncols
          clear kx
          go_wp2_with fail
          go_region_law (first
            | (refine step_append_lies _ rfl (.tmp 40) (.tmp 43) 39 rfl w.heap.size 9 i1 (.string ⟨#[]⟩) 1 16 Tryz.underlying39 (unhide HI1) (unhide HZ01) (unhide HZ11) (unhide HZ21) rfl (by decide) (.slice av p2.length cpv) p2.length (textsV p2) (by simp [Act.eval]) ((unhide HO4).alloc _) ⟨w4.heap.size, 0, none⟩ 1 1 [.string c] (by simp [Act.eval]) rfl (news1 (heap_last rfl)) (one1s c) (by decide) (by unfold maxLen; omega) (by omega) (by simp; omega) _ rfl ?_; intro gt ct w11 ho hg hat hlt11; have HX11 := hide ((hg.block w.heap.size (by simp; omega) (fun e' => ((unhide HG4).off _ List.mem_cons_self _ e'.symm).2.1 rfl)).trans (heap_prev (unhide HX4))); have m11 := (hg.cell_far ⟨w.heap.size, pre.length * 3 + 1, none⟩ (by simp; omega) (fun e' => ((unhide HG4).off _ List.mem_cons_self _ e'.symm).2.1 rfl)).trans ((World.cell?_alloc_lt _ _ ⟨w.heap.size, pre.length * 3 + 1, none⟩ z4).trans m4); have f11 := (blk (unhide HX11)).2; have z11 := lt_of_heap (unhide HX11); have HG11 := hide (Grow.app (vs1 := []) (vs2 := []) (v' := .slice (some ⟨gt, 0, none⟩) (p2.length + 1) ct) ((unhide HG4).alloc _) (by simp; omega) hg rfl (hat.imp id (fun e => Nat.le_of_eq e.symm)) hlt11); have HB11 := hide (((unhide HB4).alloc (by omega) _).grown hg (by simp; omega) (fun k e' => ((unhide HG4).off _ List.mem_cons_self k e').2.2.1)); have HO11 := hide ho; clear ho hg hat)
            | (go_simp; go_at_call 78; refine (clone_any c _ hcs).mono ?_; rintro e w4 ⟨rfl, hb4⟩; have HG4 := hide ((unhide HGC).drew.below hb4); have HO4 := hide (owns_below (unhide HOC).drew hb4); have HX4 := hide ((hb4.block _ (by exact zx)).trans (unhide HXC)); have HB4 := hide ((unhide HBC).drew.trans (hb4.mono (by exact (unhide HBC).size))); have m4 := (hb4.cell (p := ⟨w.heap.size, pre.length * 3 + 1, none⟩) (by exact zx)).trans m1; have z4 := lt_of_heap (unhide HX4); clear hb4))
          all_goals
            go_wp2
            go_roundg s2.length
            case measure => simp
            case rel =>
              have hgne : gt ≠ w.heap.size := ((unhide HG11).off _ List.mem_cons_self gt rfl).2.1
              refine ⟨p2 ++ [c], s2, .slice (some ⟨gt, 0, none⟩) (p2.length + 1) ct, unhide HZC2, rfl, ?_, ?_, ?_, (unhide HG11).box _ _, (unhide HB11).setCell (Nat.le_refl _) _⟩
              · rw [List.length_append]; go_num
              · rw [heap_set (unhide HX11), ← lD, List.setIfInBounds_toArray, List.set_append_right _ _ (by omega), Nat.add_sub_cancel_left]
                rfl
              · have := owns_set (off := pre.length * 3 + 1) (x := .slice (some ⟨gt, 0, none⟩) (p2.length + 1) ct) (unhide HO11) (b := w.heap.size) (by simp [Value.ownBlock]; exact hgne)
                rw [List.length_append, textsV, List.map_append]
                exact this
        | nil =>
          have hlt2 : decide (p2.length < t.cols.length) = false := by simp at l2 ⊢; omega
          obtain ⟨av, cpv, rfl⟩ := owns_form (unhide HOC)
          obtain ⟨F2, hF2, hg2, hr2⟩ := rowF_seal (unhide HGC) (unhide HOC)
          have HF2 := hide hF2
          have HG2 := hide hg2
          have HR2 : Hid (RowF F2 9 (.slice av p2.length cpv) (textsV t.cols)) := by
            unfold Hid
            rw [show t.cols = p2 from by rw [unhide HZC, List.append_nil]]
            exact hr2
          clear hF2 hg2 hr2 HGC HOC HZC l2
          have HFb2 := hide ((unhide HF2) _ _ (unhide HFb))
          have hbt := ((unhide HG2).fits _ _ (unhide HFb2)).2
          obtain ⟨kt, ft⟩ := blk hbt
          have zt := lt_of_heap hbt
          clear hbt
          unfold maxLen at mc mr
          go_wp2_with fail
          clear kt ft zt hlt2
          go_loopg [51] t.rows.length (fun f j W => ∃ p3 s3 F3 v3 es, t.rows = p3 ++ s3 ∧ f = s3.length ∧ j = .int .i64 (p3.length : Nat) ∧ W.heap[w.heap.size]? = some (.cells (D ++ .string t.name :: .slice av p2.length cpv :: v3 :: zer suf.length).toArray 44 (0, 0)) ∧ W.ownsRow w.heap.size 32 1 v3 p3.length es ∧ F2.le F3 ∧ Grow w.heap.size F3 w.heap.size [v3] W ∧ Below w.heap.size w W ∧ es.length = p3.length ∧ ∀ (k : Nat) (r : List Int) (u : Value), p3[k]? = some r → es[k]? = some u → RowF F3 3 u (intsV r))
          case atStart => exact ⟨[], t.rows, F2, _, [], rfl, rfl, rfl, unhide HXC, World.ownsRow_nil _ _ _ _, Fx.le.refl _, (unhide HG2).add 0 0, unhide HBC, rfl, fun k r u e => by simp at e⟩
          case round =>
            clear HXC HBC
            obtain ⟨p3, s3, F3, v3, es, h1, rfl, rfl, hx, ho, hF3, hgr, hbw, hes, hel⟩ := hrel
            have l3 : p3.length + s3.length = t.rows.length := by rw [h1, List.length_append]
            have HZC := hide h1
            have HXC := hide hx
            have HOC := hide ho
            have HF3 := hide hF3
            have HGC := hide hgr
            have HBC := hide hbw
            have HES := hide hes
            have HEL := hide hel
            clear h1 hx ho hF3 hgr hbw hes hel
            cases s3 with
            | cons r s3 =>
              rw [List.length_cons] at l3
              have hlt2 : decide (p3.length < t.rows.length) = true := by simp; omega
              obtain ⟨vs, ⟨ad9, cap9, e9, q9, ccc⟩, lr, rr⟩ := unhide HTR
              injection e9 with e9 e11 e10
              subst e9 e10
              rw [lr] at ccc
              obtain ⟨b2, o2, rfl, z2, cc2⟩ := ccc (by omega)
              obtain ⟨u, hu⟩ : ∃ u, vs[p3.length]? = some u := ⟨vs[p3.length]'(by omega), List.getElem?_eq_getElem _⟩
              have hru := rr p3.length r u (by rw [unhide HZC]; simp) hu
              have HRU := hide hru
              obtain ⟨adu, capu, rfl, q3, q4⟩ := hru
              rw [List.length_map] at hu HRU
              have k1 : wr.cell? ⟨b2, o2 + p3.length, none⟩ = some (.slice adu r.length capu) := by
                rw [(unhide HBC).cell (p := ⟨b2, o2 + p3.length, none⟩) z2, cc2 _ (by omega), hu]
              clear q9 e11 q3 q4 hu rr ccc cc2 lr
              have HZC2 : Hid (t.rows = (p3 ++ [r]) ++ s3) := by unfold Hid; rw [unhide HZC]; simp
              have hrl : r.length ≤ 6 := by
                rw [(unhide HST).rows r (by rw [unhide HZC]; simp)]
                exact (unhide HST).ncols
              have hnr := (unhide HST).nrows
              clear hne hne' zg z1
              obtain ⟨av3, cpv3, rfl⟩ := owns_form (unhide HOC)
              obtain ⟨kx, fx⟩ := blk (unhide HXC)
              have zx := lt_of_heap (unhide HXC)
              have m1 : wr.drew.cell? ⟨w.heap.size, pre.length * 3 + 2, none⟩ = some (.slice av3 p3.length cpv3) := by
                show wr.cell? _ = _
                rw [kx, ← lD, List.getElem?_toArray, List.getElem?_append_right (by omega), Nat.add_sub_cancel_left]
                rfl
              have hll : pre.length < l.length := by omega
              clear kx
              go_wp2_with fail
              go_region_law (first
                | (refine step_append_lies _ rfl (.tmp 61) (.tmp 64) 42 rfl w.heap.size 32 i2 (.slice none 0 0) 1 24 Tryz.underlying42 (unhide HI2) (unhide HZ02) (unhide HZ12) (unhide HZ22) rfl (by decide) (.slice av3 p3.length cpv3) p3.length es (by simp [Act.eval]) ((unhide HO4).alloc _) ⟨w4.heap.size, 0, none⟩ 1 1 [.slice av4 r.length cpv4] (by simp [Act.eval]) rfl (news1 (heap_last rfl)) (one1l _ _ _) (by decide) (by unfold maxLen; omega) (by omega) (by simp; omega) _ rfl ?_; intro gt ct w11 ho hg hat hlt11; have HX11 := hide ((hg.block w.heap.size (by simp; omega) (fun e' => ((unhide HG4).off _ List.mem_cons_self _ e'.symm).2.1 rfl)).trans (heap_prev (unhide HX4))); have m11 := (hg.cell_far ⟨w.heap.size, pre.length * 3 + 2, none⟩ (by simp; omega) (fun e' => ((unhide HG4).off _ List.mem_cons_self _ e'.symm).2.1 rfl)).trans ((World.cell?_alloc_lt _ _ ⟨w.heap.size, pre.length * 3 + 2, none⟩ z4).trans m4); have f11 := (blk (unhide HX11)).2; have z11 := lt_of_heap (unhide HX11); have HG11 := hide (Grow.app (vs1 := []) (vs2 := []) (v' := .slice (some ⟨gt, 0, none⟩) (p3.length + 1) ct) ((unhide HG4).alloc _) (by simp; omega) hg rfl (hat.imp id (fun e => Nat.le_of_eq e.symm)) hlt11); have HB11 := hide (((unhide HB4).alloc (by omega) _).grown hg (by simp; omega) (fun k e' => ((unhide HG4).off _ List.mem_cons_self k e').2.2.1)); have HO11 := hide ho; clear ho hg hat)
                | (go_simp; go_at_call 92; refine (iClone_any _ r _ (by exact (unhide HRU).keep (unhide HBC).drew) (by omega)).mono ?_; rintro e w4 ⟨v4, rfl, ho4, hb4⟩; obtain ⟨av4, cpv4, rfl⟩ := owns_form ho4; obtain ⟨F4, hF4, hg4, hr4⟩ := rowF_new (unhide HGC).drew (by exact (unhide HBC).size) hb4 ho4; have HF4 := hide hF4; have HG4 := hide hg4; have HR4 := hide hr4; have HO4 := hide (owns_below (unhide HOC).drew hb4); have HX4 := hide ((hb4.block _ (by exact zx)).trans (unhide HXC)); have HB4 := hide ((unhide HBC).drew.trans (hb4.mono (by exact (unhide HBC).size))); have m4 := (hb4.cell (p := ⟨w.heap.size, pre.length * 3 + 2, none⟩) (by exact zx)).trans m1; have z4 := lt_of_heap (unhide HX4); clear hb4 ho4 hF4 hg4 hr4))
              all_goals
                go_wp2
                go_roundg s3.length
                case measure => simp
                case rel =>
                  have hgne : gt ≠ w.heap.size := ((unhide HG11).off _ List.mem_cons_self gt rfl).2.1
                  refine ⟨p3 ++ [r], s3, F4, .slice (some ⟨gt, 0, none⟩) (p3.length + 1) ct, es ++ [.slice av4 r.length cpv4], unhide HZC2, rfl, ?_, ?_, ?_, (unhide HF3).trans (unhide HF4), (unhide HG11).box _ _, (unhide HB11).setCell (Nat.le_refl _) _, ?_, ?_⟩
                  · rw [List.length_append]; go_num
                  · rw [heap_set (unhide HX11), ← lD, List.setIfInBounds_toArray, List.set_append_right _ _ (by omega), Nat.add_sub_cancel_left]
                    rfl
                  · have := owns_set (off := pre.length * 3 + 2) (x := .slice (some ⟨gt, 0, none⟩) (p3.length + 1) ct) (unhide HO11) (b := w.heap.size) (by simp [Value.ownBlock]; exact hgne)
                    rw [List.length_append]
                    exact this
                  · rw [List.length_append, List.length_append, unhide HES]; rfl
                  · intro k r' u e1 e2
                    rcases Nat.lt_trichotomy k p3.length with hk | hk | hk
                    · rw [List.getElem?_append_left hk] at e1
                      rw [List.getElem?_append_left (by rw [unhide HES]; exact hk)] at e2
                      exact ((unhide HEL) k r' u e1 e2).mono (unhide HF4)
                    · subst hk
                      rw [List.getElem?_append_right (Nat.le_refl _), Nat.sub_self] at e1
                      rw [List.getElem?_append_right (by rw [unhide HES]; exact Nat.le_refl _), unhide HES, Nat.sub_self] at e2
                      simp at e1 e2
                      subst e1 e2
                      exact unhide HR4
                    · rw [List.getElem?_eq_none (by simp; omega)] at e1
                      cases e1
            | nil =>
              have hlt2 : decide (p3.length < t.rows.length) = false := by simp at l3 ⊢; omega
              obtain ⟨F5, hF5, hg5, hr5⟩ := rowF_seal (unhide HGC) (unhide HOC)
              have hF25 := (unhide HF3).trans hF5
              have HTF5 : Hid (TabsF F5 (pre ++ [t]) (D ++ [.string t.name, .slice av p2.length cpv, v3])) := by
                refine .snoc t _ _ ((unhide HTF).mono (((unhide HF1).trans (unhide HF2)).trans hF25)) ⟨(unhide HR2).mono hF25, es, hr5, ?_, ?_⟩
                · rw [unhide HES, unhide HZC, List.append_nil]
                · intro k r u e1 e2
                  rw [unhide HZC, List.append_nil] at e1
                  exact ((unhide HEL) k r u e1 e2).mono hF5
              have HG5 := hide hg5
              clear hF5 hg5 hr5 hF25
              go_wp2
              go_roundg suf.length
              case measure => simp
              case rel =>
                refine ⟨pre ++ [t], suf, F5, _, unhide HZ2, rfl, ?_, ?_, unhide HTF5, unhide HG5, unhide HBC⟩
                · rw [List.length_append]; go_num
                · rw [unhide HXC, List.append_assoc]; rfl
end Go.Proofs.YtfkeddkfegaeiaaGreatDoor
