/-
  Part 45.
-/
import Derived.Test.YtfkeddkfegaeiaaGreatDoorRcPlCi
namespace Go.Proofs.YtfkeddkfegaeiaaGreatDoor
open Go.RowKit
theorem SelM.mono {w0 : World} {G G' : Fx} {c : Fc} {ss : List Sr} {wd : Nat} {fns : List (List (List Int) → List Int)} {tns : List (List Int → Bool)} (h : SelM w0 G c ss wd fns tns) (hG : G.le G') : SelM w0 G' c ss wd fns tns := by
  obtain ⟨sv, iv, tv, ev, ivs, tvs, h1, h2, ⟨h3, h4⟩, h5, h6⟩ := h.lies
  exact ⟨⟨sv, iv, tv, ev, ivs, tvs, hG _ _ h1, h2.mono hG, ⟨h3.mono hG, h4.mono hG⟩, h5.mono hG, h6.mono hG⟩, h.few, h.ok, h.wide⟩
/-- the table that 'with' makes, without its rows. -/
def newT (x : WithX) : Tb := ⟨x.name.text, x.cols.map (·.text), []⟩
/-- a with without windows, whose names are found. -/
structure WithFine (T0 : List Tb) (x : WithX) : Prop where
  c1 : 0 < x.cols.length
  c6 : x.cols.length ≤ 6
  no : tabNo T0 x.name.text = none
  nd : ∀ pre c suf, x.cols = pre ++ c :: suf → Lib.containsS (pre.map (·.text)) c.text = false
  f1 : SelFine T0 x.first
  w1 : x.first.items.length = x.cols.length
  f2 : SelFine (T0 ++ [newT x]) x.second
  w2 : x.second.items.length = x.cols.length
/-- what withMeaning leaves. -/
def WithDone (a : Nat → Addr) (w0 : World) (F : Fx) (X : Nat → Bool) (tb0 tof0 tc0 : Nat) (T0 : List Tb) (x : WithX) (e : Ending) (W' : World) : Prop := Below w0.heap.size w0 W' ∧ ∃ gb tb tc f1 f2 F', e = .returned (.tuple #[.pointer (some ⟨gb, 0, none⟩), .nilIface]) ∧ F.le F' ∧ (∀ b o, F' b = some o → w0.heap.size ≤ b ∧ W'.heap[b]? = some o) ∧ X tb = false ∧ X gb = false ∧ gb ≠ tb ∧
  F' gb = some (.cells #[.slice (some ⟨tb, 0, none⟩) (T0.length + 1) tc, .pointer (some ⟨f1, 2, none⟩), .pointer (some ⟨f2, 2, none⟩)] 292 (0, 0)) ∧
  (∃ cur cv o, F' tb = some o ∧ ∀ W2, Fits w0 (F'.off X) W2 → GrowAt w0 W2 tb tc T0 (newT x) cur cv (.slice none 0 0)) ∧
  SelM w0 (F'.off fun b => X b || b == tb) ⟨w0, a, f1, tb0, tof0, tc0, T0, X, true⟩ (foldS T0 x.first.srcs).ss (foldS T0 x.first.srcs).wd (fnsX T0 x.first) (tnsX T0 x.first) ∧
  SelM w0 (F'.off fun b => X b || b == tb) ⟨w0, a, f2, tb, 0, tc, T0 ++ [newT x], fun b => X b || b == tb, true⟩ (foldS (T0 ++ [newT x]) x.second.srcs).ss (foldS (T0 ++ [newT x]) x.second.srcs).wd (fnsX (T0 ++ [newT x]) x.second) (tnsX (T0 ++ [newT x]) x.second)
set_option maxRecDepth 100000 in
set_option maxHeartbeats 4000000 in
theorem withMeaning_ok (a : Nat → Addr) (w0 : World) (hE : EnvX a w0.heap.size w0) (F : Fx) (W : World) (X : Nat → Bool) (hold : Below w0.heap.size w0 W) (hF : ∀ b o, F b = some o → w0.heap.size ≤ b ∧ W.heap[b]? = some o) (hX : ∀ b, X b = true → ∃ o, F b = some o)
    (tb0 tof0 tc0 : Nat) (T0 : List Tb) (hT0 : TabsAt w0 (.slice (some ⟨tb0, tof0, none⟩) T0.length tc0) T0) (h0 : 0 < T0.length) (hf9 : T0.length < 1000) (hc6 : ∀ t ∈ T0, t.cols.length ≤ 6) (lo : Nat) (v : Value) (x : WithX) (hv : WithOk w0 lo v x) (hx : WithFine T0 x) :
    Calls Tryz.prog 123 #[v, .slice (some ⟨tb0, tof0, none⟩) T0.length tc0] W fun e W' => WithDone a w0 F X tb0 tof0 tc0 T0 x e W' := by
  obtain ⟨b, vc, vf, vg, rfl, -, hb, hcols, hs1, hs2⟩ := hv
  have hbW := (hold.block b (lt_of_heap hb)).trans hb
  have HHD := hide (heading_ok W b lo x vc vf vg hbW (owns_below hcols hold) hx.c6 tb0 tof0 tc0 T0 (hT0.keep hold) hx.no hx.nd)
  obtain ⟨hbt, cs0, q1, q2, q3, q4⟩ := tabs_cells hT0 h0
  have HE := hide hE
  have HF := hide hF
  have HX := hide hX
  have HOLD := hide hold
  have HT0 := hide hT0
  have HC6 := hide hc6
  have HS1 := hide hs1
  have HS2 := hide hs2
  have HFX := hide hx
  have HB := hide hb
  have HQ1 := hide q1
  have HQ2 := hide q2
  have HQ3 := hide q3
  have HQ4 := hide q4
  have zb := lt_of_heap hb
  have hw1 := hx.w1
  have hw2 := hx.w2
  have hcc := hx.c1
  have hc6' := hx.c6
  have hzW := hold.size
  clear hb hbW hcols hs1 hs2 hE hF hX hold hT0 hc6 hx q1 q2 q3 q4
  go_enter Tryz.func123, Tryz.ntmps123
  go_wp2_with fail
  refine (unhide HHD).mono ?_
  rintro e W1 ⟨hb1, cv, rfl, hcv⟩
  obtain ⟨g, capc, curc, rfl, hgc⟩ : ∃ g capc curc, cv = .slice (some ⟨g, 0, none⟩) x.cols.length capc ∧ W1.heap[g]? = some (.cells curc 9 (0, 0)) ∧ W.heap.size ≤ g ∧ x.cols.length ≤ capc ∧ capc ≤ maxLen ∧ curc.size = capc * 1 ∧ curc.toList.take (x.cols.length * 1) = textsV (x.cols.map (·.text)) := by
    rcases hcv.2 with ⟨-, h2⟩ | ⟨g, cap, cur, h1, h2, h3, h4⟩
    · omega
    · exact ⟨g, cap, cur, h1, h3, h2, h4⟩
  have HOLD1 : Hid (Below w0.heap.size w0 W1) := (unhide HOLD).trans (hb1.mono hzW)
  have HFg : Hid (F g = none) := by
    show F g = none
    cases e : F g with
    | none => rfl
    | some o => have := lt_size ((unhide HF) _ _ e).2; omega
  have hgW1 := lt_of_heap hgc.1
  obtain ⟨W2, hW2⟩ : ∃ W2, W2 = W1.alloc (.cells #[.string x.name.text, .slice (some ⟨g, 0, none⟩) x.cols.length capc, .slice none 0 0] 44) := ⟨_, rfl⟩
  have hb12 : Below W1.heap.size W1 W2 := by rw [hW2]; exact (Below.refl _ _).alloc (Nat.le_refl _) _
  have hxb : W2.heap[W1.heap.size]? = some (.cells #[.string x.name.text, .slice (some ⟨g, 0, none⟩) x.cols.length capc, .slice none 0 0] 44 (0, 0)) := by rw [hW2]; exact heap_last rfl
  obtain ⟨F1, hF1⟩ : ∃ F1, F1 = (F.set g (.cells curc 9 (0, 0))).set W1.heap.size (.cells #[.string x.name.text, .slice (some ⟨g, 0, none⟩) x.cols.length capc, .slice none 0 0] 44 (0, 0)) := ⟨_, rfl⟩
  have hFx : (F.set g (.cells curc 9 (0, 0))) W1.heap.size = none := by
    rw [Fx.set_other _ _ (by omega)]
    cases e : F W1.heap.size with
    | none => rfl
    | some o => have := lt_size ((unhide HF) _ _ e).2; have := hb1.size; omega
  have HLE1 : Hid (F.le F1) := by
    show F.le F1
    rw [hF1]
    exact (Fx.le_set _ (unhide HFg)).trans (Fx.le_set _ hFx)
  have HF1g : Hid (F1 g = some (.cells curc 9 (0, 0))) := by
    show F1 g = _
    rw [hF1, Fx.set_other _ _ (by omega), Fx.set_same]
  have HF1x : Hid (F1 W1.heap.size = some (.cells #[.string x.name.text, .slice (some ⟨g, 0, none⟩) x.cols.length capc, .slice none 0 0] 44 (0, 0))) := by
    show F1 _ = _
    rw [hF1, Fx.set_same]
  have HF1 : Hid (∀ b o, F1 b = some o → w0.heap.size ≤ b ∧ W2.heap[b]? = some o) := fun b o e => by
    rw [hF1] at e
    by_cases hk : b = W1.heap.size
    · subst hk
      rw [Fx.set_same] at e
      injection e with e
      subst e
      exact ⟨by omega, hxb⟩
    · rw [Fx.set_other _ _ hk] at e
      by_cases hk : b = g
      · subst hk
        rw [Fx.set_same] at e
        injection e with e
        subst e
        exact ⟨by omega, (hb12.block b hgW1).trans hgc.1⟩
      · rw [Fx.set_other _ _ hk] at e
        obtain ⟨h1, h2⟩ := (unhide HF) b o e
        exact ⟨h1, (hb12.block b (Nat.lt_of_lt_of_le (lt_size h2) hb1.size)).trans ((hb1.block b (lt_size h2)).trans h2)⟩
  have HOLD2 : Hid (Below w0.heap.size w0 W2) := (unhide HOLD1).trans (hb12.mono (unhide HOLD1).size)
  have HGC := hide hgc
  have HX1 : Hid (∀ b, X b = true → ∃ o, F1 b = some o) := fun b hb => by
    obtain ⟨o, ho⟩ := (unhide HX) b hb
    exact ⟨o, (unhide HLE1) _ _ ho⟩
  have HH1 : Hid (∀ Wd, Below W2.heap.size W2 Wd → Wd.heap.size = W2.heap.size → Calls Tryz.prog 194 #[vf, .slice (some ⟨tb0, tof0, none⟩) T0.length tc0, .int .i64 (x.cols.length : Nat), .agg #[.int .i64 (x.union : Nat)]] Wd fun e W' => Below w0.heap.size w0 W' ∧ e = .returned (.tuple #[.pointer (some ⟨W2.heap.size + 1, 2, none⟩), .nilIface]) ∧ ∃ F', F1.le F' ∧ (∀ b o, F' b = some o → w0.heap.size ≤ b ∧ W'.heap[b]? = some o) ∧ SelM w0 (F'.off X) ⟨w0, a, W2.heap.size + 1, tb0, tof0, tc0, T0, X, true⟩ (foldS T0 x.first.srcs).ss (foldS T0 x.first.srcs).wd (fnsX T0 x.first) (tnsX T0 x.first)) := fun Wd hbd hsz => by
    have := half_sel a w0 (unhide HE) F1 Wd X ((unhide HOLD2).trans (hbd.mono (unhide HOLD2).size)) (fun b o e => ⟨((unhide HF1) b o e).1, (hbd.block b (lt_size ((unhide HF1) b o e).2)).trans ((unhide HF1) b o e).2⟩) (unhide HX1) tb0 tof0 tc0 T0 (fun W' hW' => (unhide HT0).keep hW'.old) (unhide HC6) lo vf x.first (unhide HS1) (unhide HFX).f1 x.union
    rw [hw1, hsz] at this
    exact this
  have HKB : Hid (∀ Wd, Below w0.heap.size w0 Wd → Wd.cell? ⟨b, 4, none⟩ = some vf ∧ Wd.cell? ⟨b, 5, none⟩ = some (.int .i64 x.union) ∧ Wd.cell? ⟨b, 6, none⟩ = some vg ∧ Wd.cell? ⟨b, 7, none⟩ = some (.int .i64 x.endp)) := fun Wd h => by
    obtain ⟨kb, -⟩ := blk ((h.block b zb).trans (unhide HB))
    exact ⟨kb 4, kb 5, kb 6, kb 7⟩
  obtain ⟨k4, k5, -, -⟩ := (unhide HKB) W2 (unhide HOLD2)
  obtain ⟨kx, -⟩ := blk hxb
  have x1 : W2.cell? ⟨W1.heap.size, 1, none⟩ = some (.slice (some ⟨g, 0, none⟩) x.cols.length capc) := kx 1
  have zb2 : b < W2.heap.size := Nat.lt_of_lt_of_le zb (unhide HOLD2).size
  have zx2 : W1.heap.size < W2.heap.size := lt_of_heap hxb
  have HW2 := hide hW2
  have hz12 := hb1.size
  clear hcv hb1 hgc HHD hF1 hFx hb12 hxb hW2 kx
  go_wp2_with fail
  rw [← unhide HW2]
  go_region_held3 (fun w' => w'.cell? ⟨b, 4, none⟩ = some vf ∧ w'.cell? ⟨W1.heap.size, 1, none⟩ = some (.slice (some ⟨g, 0, none⟩) x.cols.length capc) ∧ w'.cell? ⟨b, 5, none⟩ = some (.int .i64 x.union)) (go_keep) (first
    | (go_at_call 194; refine ((unhide HH1) _ (by exact (Below.refl _ _).drew) (by rfl)).mono ?_; rintro e W3 ⟨hold3, rfl, F3, hle3, hF3, hsel1⟩; obtain ⟨j4, j5, -, -⟩ := (unhide HKB) W3 hold3; obtain ⟨kx, -⟩ := blk (hF3 _ _ (hle3 _ _ (unhide HF1x))).2; have j1 : W3.cell? ⟨W1.heap.size, 1, none⟩ = some (.slice (some ⟨g, 0, none⟩) x.cols.length capc) := kx 1; have HOLD3 := hide hold3; have HLE3 := hide hle3; have HF3 := hide hF3; have HSEL1 := hide hsel1; clear hold3 hle3 hF3 hsel1 kx))
  have hle13 := unhide HLE3
  have hfx3 := ((unhide HF3) _ _ (hle13 _ _ (unhide HF1x))).2
  have hfg3 := ((unhide HF3) _ _ (hle13 _ _ (unhide HF1g))).2
  obtain ⟨kx, -⟩ := blk hfx3
  have y0 : W3.cell? ⟨W1.heap.size, 0, none⟩ = some (.string x.name.text) := kx 0
  have y1 : W3.cell? ⟨W1.heap.size, 1, none⟩ = some (.slice (some ⟨g, 0, none⟩) x.cols.length capc) := kx 1
  have y2 : W3.cell? ⟨W1.heap.size, 2, none⟩ = some (.slice none 0 0) := kx 2
  have zx3 := lt_of_heap hfx3
  have zg3 := lt_of_heap hfg3
  obtain ⟨W4, hW4⟩ : ∃ W4, W4 = (W3.alloc (.cells #[.string x.name.text, .slice (some ⟨g, 0, none⟩) x.cols.length capc, .slice none 0 0] 44)).alloc (.cells #[.slice (some ⟨tb0, tof0, none⟩) T0.length tc0, .slice (some ⟨W3.heap.size, 0, none⟩) 1 1] 84) := ⟨_, rfl⟩
  have hb34 : Below W3.heap.size W3 W4 := by rw [hW4]; exact ((Below.refl _ _).alloc (Nat.le_refl _) _).alloc (by simp) _
  have HOLD4 : Hid (Below w0.heap.size w0 W4) := (unhide HOLD3).trans (hb34.mono (unhide HOLD3).size)
  have hnb : W4.heap[W3.heap.size]? = some (.cells #[.string x.name.text, .slice (some ⟨g, 0, none⟩) x.cols.length capc, .slice none 0 0] 44 (0, 0)) := by rw [hW4]; exact heap_prev (heap_last rfl)
  have hsb : W4.heap[W3.heap.size + 1]? = some (.cells #[.slice (some ⟨tb0, tof0, none⟩) T0.length tc0, .slice (some ⟨W3.heap.size, 0, none⟩) 1 1] 84 (0, 0)) := by rw [hW4]; exact heap_last (by simp)
  have hz34 : W4.heap.size = W3.heap.size + 2 := by rw [hW4]; simp
  have HCC : Hid (Calls Tryz.prog 195 #[.slice (some ⟨W3.heap.size + 1, 0, none⟩) 2 2] W4 fun e w' => ∃ g' cap, e = .returned (.slice (some ⟨g', 0, none⟩) (T0.length + 1) cap) ∧ TbRow w' W4.heap.size g' (T0.length + 1) cap (cs0 ++ [.string x.name.text, .slice (some ⟨g, 0, none⟩) x.cols.length capc, .slice none 0 0]) ∧ Below W4.heap.size W4 w') := by
    have := concat_any W4 (W3.heap.size + 1) [⟨⟨tb0, tof0, none⟩, T0.length, tc0, cs0⟩, ⟨⟨W3.heap.size, 0, none⟩, 1, 1, [.string x.name.text, .slice (some ⟨g, 0, none⟩) x.cols.length capc, .slice none 0 0]⟩] hsb (fun p hp => ?_) (by simp) (by simp) (by simp [sumN]; omega)
    · refine this.mono ?_
      rintro e w' ⟨g', cap, h1, h2, h3⟩
      refine ⟨g', cap, ?_, ?_, h3⟩
      · rw [h1]; simp [sumN]
      · simpa [sumN] using h2
    · simp only [List.mem_cons, List.not_mem_nil, or_false] at hp
      rcases hp with rfl | rfl
      · refine ⟨h0, unhide HQ1, fun j u e => ?_, fun u hu => ((unhide HQ3) u hu).1, fun u hu => ((unhide HQ3) u hu).2, Nat.lt_of_lt_of_le hbt (unhide HOLD4).size⟩
        have h1 := (unhide HQ2) j u e
        rw [show Addr.add ⟨tb0, tof0, none⟩ j = ⟨tb0, tof0 + j, none⟩ by unfold Addr.add; split <;> simp_all]
        exact ((unhide HOLD4).cell (p := ⟨tb0, tof0 + j, none⟩) hbt).trans h1
      · refine ⟨Nat.one_pos, rfl, fun j u e => ?_, fun u hu => ?_, fun u hu => ?_, lt_of_heap hnb⟩
        · rw [show Addr.add ⟨W3.heap.size, 0, none⟩ j = ⟨W3.heap.size, j, none⟩ by unfold Addr.add; split <;> simp_all]
          rw [(blk hnb).1]
          simpa using e
        · simp only [List.mem_cons, List.not_mem_nil, or_false] at hu
          rcases hu with rfl | rfl | rfl <;> rfl
        · simp only [List.mem_cons, List.not_mem_nil, or_false] at hu
          rcases hu with rfl | rfl | rfl <;> exact fun z e => by cases e
  have HW4 := hide hW4
  have hfx4 := (hb34.block _ zx3).trans hfx3
  have hfg4 := (hb34.block _ zg3).trans hfg3
  have HFX4 := hide hfx4
  have HFG4 := hide hfg4
  have HF4 : Hid (∀ b o, F3 b = some o → w0.heap.size ≤ b ∧ W4.heap[b]? = some o) := fun b o e => ⟨((unhide HF3) b o e).1, (hb34.block b (lt_size ((unhide HF3) b o e).2)).trans ((unhide HF3) b o e).2⟩
  have hzs4 := (unhide HOLD3).size
  clear hfx3 hfg3 kx hW4 hb34 hnb hsb hfx4 hfg4 hle13 j1 j4 j5
  go_wp2_with fail
  rw [← unhide HW4]
  refine (unhide HCC).mono ?_
  rintro e W5 ⟨tb, tc, rfl, hrow, hb5⟩
  have HOLD5 : Hid (Below w0.heap.size w0 W5) := (unhide HOLD4).trans (hb5.mono (unhide HOLD4).size)
  obtain ⟨cur, t1, t2, t3, t4⟩ := hrow.lies
  have htlow := hrow.low
  have hF3t : F3 tb = none := by
    cases e : F3 tb with
    | none => rfl
    | some o => have := lt_size ((unhide HF4) _ _ e).2; omega
  have HF3t := hide hF3t
  obtain ⟨F5, hF5⟩ : ∃ F5, F5 = F3.set tb (.cells cur 44 (0, 0)) := ⟨_, rfl⟩
  have HLE5 : Hid (F3.le F5) := by show F3.le F5; rw [hF5]; exact Fx.le_set _ hF3t
  have HF5t : Hid (F5 tb = some (.cells cur 44 (0, 0))) := by show F5 tb = _; rw [hF5]; exact Fx.set_same _ _ _
  have HF5 : Hid (∀ b o, F5 b = some o → w0.heap.size ≤ b ∧ W5.heap[b]? = some o) := fun b o e => by
    rw [hF5] at e
    by_cases hk : b = tb
    · subst hk
      rw [Fx.set_same] at e
      injection e with e
      subst e
      exact ⟨by omega, t1⟩
    · rw [Fx.set_other _ _ hk] at e
      obtain ⟨h1, h2⟩ := (unhide HF4) b o e
      exact ⟨h1, (hb5.block b (lt_size h2)).trans h2⟩
  have HXt : Hid (X tb = false) := by
    show X tb = false
    cases e : X tb with
    | false => rfl
    | true =>
      obtain ⟨o, ho⟩ := (unhide HX1) tb e
      have := (unhide HLE3) _ _ ho
      rw [hF3t] at this
      cases this
  have HXg : Hid (X g = false) := by
    show X g = false
    cases e : X g with
    | false => rfl
    | true =>
      obtain ⟨o, ho⟩ := (unhide HX) g e
      rw [unhide HFg] at ho
      cases ho
  have HGR : Hid (∀ Fz W', (F5.off X).le Fz → Fits w0 Fz W' → GrowAt w0 W' tb tc T0 (newT x) cur (.slice (some ⟨g, 0, none⟩) x.cols.length capc) (.slice none 0 0)) := fun Fz W' hz hW' => by
    have hb1 := hW'.new _ _ (hz _ _ (Fx.off_some (unhide HF5t) (unhide HXt)))
    have hb2 := hW'.new _ _ (hz _ _ (Fx.off_some ((unhide HLE5) _ _ ((unhide HLE3) _ _ (unhide HF1g))) (unhide HXg)))
    obtain ⟨q1, q2, q3, q4, q5, q6⟩ := unhide HGC
    have hr' : TbRow W' w0.heap.size tb (T0.length + 1) tc (cs0 ++ [.string x.name.text, .slice (some ⟨g, 0, none⟩) x.cols.length capc, .slice none 0 0]) := ⟨by omega, ⟨cur, hb1, t2, t3, t4⟩, hrow.fits, hrow.max⟩
    have hl : (x.cols.map (·.text)).length = x.cols.length := List.length_map _
    have hc' : W'.ownsRow w0.heap.size 9 1 (.slice (some ⟨g, 0, none⟩) x.cols.length capc) (x.cols.map (·.text)).length (textsV (x.cols.map (·.text))) := by
      rw [hl]
      exact ⟨by simp [textsV], Or.inr ⟨g, capc, curc, rfl, by omega, hb2, q3, q4, q5, q6⟩⟩
    obtain ⟨cur', hg'⟩ := grow_of_row hr' (unhide HQ1) (unhide HQ4) hc' (fun e => by have e' : some g = some tb := e; injection e' with e'; omega) hf9
    have : cur' = cur := by
      have e1 := hg'.blk
      rw [hb1] at e1
      injection e1 with e1
      injection e1 with e1
      exact e1.symm
    subst this
    exact hg'
  have HX5 : Hid (∀ b, (X b || b == tb) = true → ∃ o, F5 b = some o) := fun b hb => by
    rw [Bool.or_eq_true] at hb
    rcases hb with hb | hb
    · obtain ⟨o, ho⟩ := (unhide HX1) b hb
      exact ⟨o, (unhide HLE5) _ _ ((unhide HLE3) _ _ ho)⟩
    · obtain rfl : b = tb := by simpa using hb
      exact ⟨_, unhide HF5t⟩
  have hTl : (T0 ++ [newT x]).length = T0.length + 1 := by simp
  have HH2 : Hid (∀ Wd, Below W5.heap.size W5 Wd → Wd.heap.size = W5.heap.size → Calls Tryz.prog 194 #[vg, .slice (some ⟨tb, 0, none⟩) (T0.length + 1) tc, .int .i64 (x.cols.length : Nat), .agg #[.int .i64 (x.endp : Nat)]] Wd fun e W' => Below w0.heap.size w0 W' ∧ e = .returned (.tuple #[.pointer (some ⟨W5.heap.size + 1, 2, none⟩), .nilIface]) ∧ ∃ F', F5.le F' ∧ (∀ b o, F' b = some o → w0.heap.size ≤ b ∧ W'.heap[b]? = some o) ∧ SelM w0 (F'.off fun b => X b || b == tb) ⟨w0, a, W5.heap.size + 1, tb, 0, tc, T0 ++ [newT x], fun b => X b || b == tb, true⟩ (foldS (T0 ++ [newT x]) x.second.srcs).ss (foldS (T0 ++ [newT x]) x.second.srcs).wd (fnsX (T0 ++ [newT x]) x.second) (tnsX (T0 ++ [newT x]) x.second)) := fun Wd hbd hsz => by
    have := half_sel a w0 (unhide HE) F5 Wd (fun b => X b || b == tb) ((unhide HOLD5).trans (hbd.mono (unhide HOLD5).size)) (fun b o e => ⟨((unhide HF5) b o e).1, (hbd.block b (lt_size ((unhide HF5) b o e).2)).trans ((unhide HF5) b o e).2⟩) (unhide HX5) tb 0 tc (T0 ++ [newT x]) (fun W' hW' => ((unhide HGR) F5 W' (Fx.off_le _ _) hW').tabs hW'.old (by simp [newT])) (fun t ht => by
      rcases List.mem_append.1 ht with h | h
      · exact (unhide HC6) t h
      · obtain rfl : t = newT x := by simpa using h
        simpa [newT] using hc6') lo vg x.second (unhide HS2) (unhide HFX).f2 x.endp
    rw [hw2, hsz, hTl] at this
    exact this
  obtain ⟨-, -, k6, k7⟩ := (unhide HKB) W5 (unhide HOLD5)
  have hfx5 := (hb5.block _ (by omega)).trans (unhide HFX4)
  have HFX5 := hide hfx5
  obtain ⟨kx, -⟩ := blk hfx5
  have x1 : W5.cell? ⟨W1.heap.size, 1, none⟩ = some (.slice (some ⟨g, 0, none⟩) x.cols.length capc) := kx 1
  have zb5 : b < W5.heap.size := Nat.lt_of_lt_of_le zb (unhide HOLD5).size
  have zx5 : W1.heap.size < W5.heap.size := lt_of_heap hfx5
  clear hrow hb5 t1 t2 t3 t4 hF3t hF5 hTl hfx5 kx
  go_wp2_with fail
  go_region_held3 (fun w' => w'.cell? ⟨b, 6, none⟩ = some vg ∧ w'.cell? ⟨W1.heap.size, 1, none⟩ = some (.slice (some ⟨g, 0, none⟩) x.cols.length capc) ∧ w'.cell? ⟨b, 7, none⟩ = some (.int .i64 x.endp)) (go_keep) (first
    | (go_at_call 194; refine ((unhide HH2) _ (by exact (Below.refl _ _).drew) (by rfl)).mono ?_; rintro e W6 ⟨hold6, rfl, F6, hle6, hF6, hsel2⟩; obtain ⟨-, -, j6, j7⟩ := (unhide HKB) W6 hold6; obtain ⟨kx, -⟩ := blk (hF6 _ _ (hle6 _ _ ((unhide HLE5) _ _ ((unhide HLE3) _ _ (unhide HF1x))))).2; have j1 : W6.cell? ⟨W1.heap.size, 1, none⟩ = some (.slice (some ⟨g, 0, none⟩) x.cols.length capc) := kx 1; have HOLD6 := hide hold6; have HLE6 := hide hle6; have HF6 := hide hF6; have HSEL2 := hide hsel2; clear hold6 hle6 hF6 hsel2 kx))
  clear j1 j6 j7
  go_wp2
  go_ret2
  have hn : F6 W6.heap.size = none := by
    cases e : F6 W6.heap.size with
    | none => rfl
    | some o => have := lt_size ((unhide HF6) _ _ e).2; omega
  have l6 := Fx.le_set (F := F6) (.cells #[.slice (some ⟨tb, 0, none⟩) (T0.length + 1) tc, .pointer (some ⟨W2.heap.size + 1, 2, none⟩), .pointer (some ⟨W5.heap.size + 1, 2, none⟩)] 292 (0, 0)) hn
  have ht6 := lt_size ((unhide HF6) _ _ ((unhide HLE6) _ _ (unhide HF5t))).2
  have hz6 := (unhide HOLD6).size
  refine ⟨(unhide HOLD6).alloc (unhide HOLD6).size _, W6.heap.size, tb, tc, W2.heap.size + 1, W5.heap.size + 1, F6.set W6.heap.size (.cells #[.slice (some ⟨tb, 0, none⟩) (T0.length + 1) tc, .pointer (some ⟨W2.heap.size + 1, 2, none⟩), .pointer (some ⟨W5.heap.size + 1, 2, none⟩)] 292 (0, 0)), rfl, ((((unhide HLE1).trans (unhide HLE3)).trans (unhide HLE5)).trans (unhide HLE6)).trans l6, fun b o e => ?_, unhide HXt, ?_, by omega, Fx.set_same _ _ _, ⟨cur, _, _, l6 _ _ ((unhide HLE6) _ _ (unhide HF5t)), fun W2 h2 => (unhide HGR) _ W2 (Fx.off_mono ((unhide HLE6).trans l6) X) h2⟩, (unhide HSEL1).mono (fun b o e => ?_), (unhide HSEL2).mono (Fx.off_mono l6 _)⟩
  · by_cases hk : b = W6.heap.size
    · subst hk
      rw [Fx.set_same] at e
      injection e with e
      subst e
      exact ⟨hz6, heap_last rfl⟩
    · rw [Fx.set_other _ _ hk] at e
      obtain ⟨h1, h2⟩ := (unhide HF6) b o e
      exact ⟨h1, heap_prev h2⟩
  · cases e : X W6.heap.size with
    | false => rfl
    | true =>
      obtain ⟨o, ho⟩ := (unhide HX5) W6.heap.size (by rw [e]; rfl)
      have := (unhide HLE6) _ _ ho
      rw [hn] at this
      cases this
  · unfold Fx.off at e
    cases hxb : X b with
    | true => rw [hxb] at e; simp at e
    | false =>
      rw [hxb] at e
      simp only [Bool.false_eq_true, if_false] at e
      have hbt : b ≠ tb := fun e' => by
        rw [e', unhide HF3t] at e
        cases e
      exact Fx.off_some (l6 _ _ ((unhide HLE6) _ _ ((unhide HLE5) _ _ e))) (by show (X b || b == tb) = false; rw [hxb]; simpa using hbt)
end Go.Proofs.YtfkeddkfegaeiaaGreatDoor
