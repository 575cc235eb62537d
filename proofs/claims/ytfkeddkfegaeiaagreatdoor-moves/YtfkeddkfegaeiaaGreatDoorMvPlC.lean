/-
  Part 19.
-/
import Derived.Test.YtfkeddkfegaeiaaGreatDoorMvNwG
namespace Go.Proofs.YtfkeddkfegaeiaaGreatDoor
open Go.RowKit
theorem tabNo_skip {pre : List Tb} {s : ByteArray} (h : pre.all (fun t => !(t.name.toList == s.toList)) = true) : ∀ suf : List Tb, tabNo (pre ++ suf) s = (tabNo suf s).map (· + pre.length) := by
  intro suf
  unfold tabNo
  rw [List.findIdx?_append]
  have e : pre.findIdx? (fun t => t.name.toList == s.toList) = none := by
    rw [List.findIdx?_eq_none_iff]
    intro x hx
    have := List.all_eq_true.1 h x hx
    simpa using this
  rw [e]
  rfl
set_option maxRecDepth 100000 in
set_option maxHeartbeats 1000000 in
theorem tableNamed_any (b o cap : Nat) (T : List Tb) (s : ByteArray) (w : World) (h : TabsAt w (.slice (some ⟨b, o, none⟩) T.length cap) T) :
    Calls Tryz.prog 242 #[.slice (some ⟨b, o, none⟩) T.length cap, .string s] w fun e w' => e = .returned (.pointer ((tabNo T s).map fun j => ⟨b, o + j * 3, none⟩)) ∧ w' = w := by
  obtain ⟨ad, cap', e0, ml, mc, cl⟩ := h
  injection e0 with e1 e2 e3
  subst e1 e3
  unfold maxLen at ml
  have HCL := hide cl
  clear cl e2
  go_enter Tryz.func242, Tryz.ntmps242
  go_wp2_with fail
  go_loopg [5, 8] T.length (fun f _ i W => ∃ pre suf, T = pre ++ suf ∧ f = suf.length ∧ i = .int .i64 (pre.length : Nat) ∧ pre.all (fun t => !(t.name.toList == s.toList)) = true ∧ W = w)
  case atStart => exact ⟨[], T, rfl, rfl, rfl, rfl, rfl⟩
  case round =>
    obtain ⟨pre, suf, h1, rfl, rfl, hal, hw⟩ := hrel
    obtain rfl := hw.symm
    have l1 : pre.length + suf.length = T.length := by rw [h1, List.length_append]
    have HZ := hide h1
    have HAL := hide hal
    clear h1 hal
    cases suf with
    | nil =>
      have hlt : decide (pre.length < T.length) = false := by simp at l1 ⊢; omega
      go_wp2
      go_ret
      refine ⟨?_, rfl⟩
      have e : tabNo T s = none := by rw [unhide HZ, tabNo_skip (unhide HAL)]; rfl
      rw [e]; rfl
    | cons t suf =>
      rw [List.length_cons] at l1
      have hlt : decide (pre.length < T.length) = true := by simp; omega
      obtain ⟨b1, o1, e1, z1, c1⟩ := (unhide HCL) (by omega)
      injection e1 with e1
      injection e1 with e1 e2
      subst e1 e2
      obtain ⟨cv, rv, htb, k1, k2, k3⟩ := c1 pre.length t (by rw [unhide HZ]; simp)
      have HZ2 : Hid (T = (pre ++ [t]) ++ suf) := by unfold Hid; rw [unhide HZ]; simp
      clear c1 htb k2 k3
      cases hzy : (t.name.toList == s.toList) with
      | true =>
        have HY := hide hzy
        go_wp2
        go_ret
        refine ⟨?_, rfl⟩
        have e : tabNo T s = some pre.length := by
          rw [unhide HZ, tabNo_skip (unhide HAL)]
          unfold tabNo
          rw [List.findIdx?_cons, unhide HY]
          simp
        rw [e]; rfl
      | false =>
        have HY := hide hzy
        go_wp2
        go_roundg suf.length
        case measure => simp
        case rel =>
          refine ⟨pre ++ [t], suf, unhide HZ2, rfl, ?_, ?_, rfl⟩
          · rw [List.length_append]; go_num
          · rw [List.all_append, unhide HAL, List.all_cons, unhide HY]; rfl
theorem owns_shape {W : World} {base n : Nat} {e : TypeId} {size : Nat} {v : Value} {xs : List Value} (h : W.ownsRow base e size v n xs) : ∃ ad cap, v = .slice ad n cap := by
  rcases h.2 with ⟨h1, h2⟩ | ⟨g, cap, cur, hv, _⟩
  · exact ⟨none, 0, by rw [h1, h2]⟩
  · exact ⟨_, cap, hv⟩
theorem spoken_skip {pre : List Sr} {s : ByteArray} (h : pre.all (fun t => !(t.alias.toList == s.toList)) = true) : ∀ suf : List Sr, spoken (pre ++ suf) s = spoken suf s := by
  intro suf
  unfold spoken
  rw [List.find?_append]
  have e : pre.find? (fun t => t.alias.toList == s.toList) = none := by
    rw [List.find?_eq_none]
    intro x hx
    have := List.all_eq_true.1 h x hx
    simpa using this
  rw [e]
  rfl
/-- a source's three cells. -/
theorem FS.srcAt {c : Fc} {F : Fx} {W : World} {sv iv tv ev : Value} {wd : Nat} {ss : List Sr} {er : Option (Nat × Nat)} (h : FS c F W sv iv tv ev wd ss er) {pre suf : List Sr} {s : Sr} (hz : ss = pre ++ s :: suf) : ∃ g cap, sv = .slice (some ⟨g, 0, none⟩) ss.length cap ∧ g < W.heap.size ∧ W.cell? ⟨g, pre.length * 3, none⟩ = some (.string s.alias) ∧ W.cell? ⟨g, pre.length * 3 + 1, none⟩ = some (.pointer (some ⟨c.tb, c.tof + s.tab * 3, none⟩)) ∧ W.cell? ⟨g, pre.length * 3 + 2, none⟩ = some (.int .i64 s.first) := by
  have hn : 0 < ss.length := by rw [hz, List.length_append, List.length_cons]; omega
  have ho := h.srcs
  obtain ⟨g, cap, rfl, _, hlt⟩ := ho.form hn
  refine ⟨g, cap, rfl, hlt, ?_, ?_, ?_⟩
  · rw [ho.cellAt _ (by rw [hz, List.length_append, List.length_cons]; omega), hz]; exact (srP_at c pre suf s).1
  · rw [ho.cellAt _ (by rw [hz, List.length_append, List.length_cons]; omega), hz]; exact (srP_at c pre suf s).2.1
  · rw [ho.cellAt _ (by rw [hz, List.length_append, List.length_cons]; omega), hz]; exact (srP_at c pre suf s).2.2
/-- where the source of a name lies. -/
def SpAt (c : Fc) (w : World) (sv : Value) (ss : List Sr) (s : ByteArray) (ad : Option Addr) : Prop := match spoken ss s with
  | none => ad = none
  | some x => x ∈ ss ∧ ∃ g k, ad = some ⟨g, k, none⟩ ∧ g < w.heap.size ∧ w.cell? ⟨g, k + 1, none⟩ = some (.pointer (some ⟨c.tb, c.tof + x.tab * 3, none⟩)) ∧ w.cell? ⟨g, k + 2, none⟩ = some (.int .i64 x.first) ∧ sv.ownBlock = some g
theorem SpAt.no {c : Fc} {w : World} {sv : Value} {ss : List Sr} {s : ByteArray} {ad : Option Addr} (h : SpAt c w sv ss s ad) (hs : spoken ss s = none) : ad = none := by
  unfold SpAt at h; rw [hs] at h; exact h
theorem SpAt.yes {c : Fc} {w : World} {sv : Value} {ss : List Sr} {s : ByteArray} {ad : Option Addr} (h : SpAt c w sv ss s ad) {x : Sr} (hs : spoken ss s = some x) : x ∈ ss ∧ ∃ g k, ad = some ⟨g, k, none⟩ ∧ g < w.heap.size ∧ w.cell? ⟨g, k + 1, none⟩ = some (.pointer (some ⟨c.tb, c.tof + x.tab * 3, none⟩)) ∧ w.cell? ⟨g, k + 2, none⟩ = some (.int .i64 x.first) ∧ sv.ownBlock = some g := by
  unfold SpAt at h; rw [hs] at h; exact h
set_option maxRecDepth 100000 in
set_option maxHeartbeats 1000000 in
theorem spokenOf_any (c : Fc) (F : Fx) (w : World) (sv iv tv ev : Value) (wd : Nat) (ss : List Sr) (er : Option (Nat × Nat)) (h : FS c F w sv iv tv ev wd ss er) (s : ByteArray) :
    Calls Tryz.prog 245 #[.pointer (some ⟨c.fb, 0, none⟩), .string s] w fun e w' => (∃ ad, e = .returned (.pointer ad) ∧ SpAt c w sv ss s ad) ∧ w' = w := by
  obtain ⟨j, fz, z⟩ := h.facts
  have few := h.few
  have HH := hide h
  obtain ⟨ads, caps, hsv⟩ := owns_shape h.srcs
  subst hsv
  clear h
  go_enter Tryz.func245, Tryz.ntmps245
  go_wp2_with fail
  go_loopg [5, 12] ss.length (fun f _ i W => ∃ pre suf, ss = pre ++ suf ∧ f = suf.length ∧ i = .int .i64 (pre.length : Nat) ∧ pre.all (fun t => !(t.alias.toList == s.toList)) = true ∧ W = w)
  case atStart => exact ⟨[], ss, rfl, rfl, rfl, rfl, rfl⟩
  case round =>
    obtain ⟨pre, suf, h1, rfl, rfl, hal, hw⟩ := hrel
    obtain rfl := hw.symm
    have l1 : pre.length + suf.length = ss.length := by rw [h1, List.length_append]
    have HZ := hide h1
    have HAL := hide hal
    clear h1 hal
    cases suf with
    | nil =>
      have hlt : decide (pre.length < ss.length) = false := by simp at l1 ⊢; omega
      go_wp2
      go_ret
      refine ⟨⟨none, rfl, ?_⟩, rfl⟩
      have e : spoken ss s = none := by rw [unhide HZ, spoken_skip (unhide HAL)]; rfl
      unfold SpAt
      rw [e]
    | cons t suf =>
      rw [List.length_cons] at l1
      have hlt : decide (pre.length < ss.length) = true := by simp; omega
      obtain ⟨g, cap, e1, z1, k1, k2, k3⟩ := (unhide HH).srcAt (unhide HZ)
      injection e1 with e1 _ e2
      subst e1 e2
      have HZ2 : Hid (ss = (pre ++ [t]) ++ suf) := by unfold Hid; rw [unhide HZ]; simp
      have HK2 := hide k2
      have HK3 := hide k3
      clear k2 k3
      cases hzy : (t.alias.toList == s.toList) with
      | true =>
        have HY := hide hzy
        go_wp2
        go_ret
        refine ⟨⟨_, rfl, ?_⟩, rfl⟩
        have e : spoken ss s = some t := by
          rw [unhide HZ, spoken_skip (unhide HAL)]
          unfold spoken
          rw [List.find?_cons, unhide HY]
        unfold SpAt
        rw [e]
        exact ⟨by rw [unhide HZ]; simp, g, pre.length * 3, by simp, z1, unhide HK2, unhide HK3, rfl⟩
      | false =>
        have HY := hide hzy
        go_wp2
        go_roundg suf.length
        case measure => simp
        case rel =>
          refine ⟨pre ++ [t], suf, unhide HZ2, rfl, ?_, ?_, rfl⟩
          · rw [List.length_append]; go_num
          · rw [List.all_append, unhide HAL, List.all_cons, unhide HY]; rfl
end Go.Proofs.YtfkeddkfegaeiaaGreatDoor
namespace Go.Proofs.YtfkeddkfegaeiaaGreatDoor
open Go.RowKit
set_option maxHeartbeats 400000 in
theorem isNoName_any (s : ByteArray) (w : World) : Calls Tryz.prog 137 #[.string s] w fun e w' => e = .returned (.bool (!nameB s.data.toList)) ∧ w' = w := by
  go_enter Tryz.func137, Tryz.ntmps137
  go_wp2_with fail
  refine (isName_any s _).mono ?_
  rintro e w1 ⟨rfl, hw1⟩
  obtain rfl := hw1.symm
  go_wp2
  go_ret
  exact ⟨rfl, rfl⟩
set_option maxRecDepth 100000 in
set_option maxHeartbeats 1000000 in
theorem indexNoName_any (a : Value) (ts : List ByteArray) (w : World) (ha : RowAt w a (textsV ts)) :
    Calls Tryz.prog 209 #[a, .func (.func 137) #[] #[]] w fun e w' => ∃ n : Int, e = .returned (.int .i64 n) ∧ decide (0 ≤ n) = ts.any (fun c => !nameB c.data.toList) ∧ w' = w := by
  obtain ⟨ada, capa, rfl, ma, ca⟩ := ha
  rw [List.length_map] at ma ca
  unfold maxLen at ma
  simp only [List.length_map]
  have HCA := hide ca
  clear ca
  go_enter Tryz.func209, Tryz.ntmps209
  go_wp2_with fail
  go_loopg [5, 8] ts.length (fun f j i W => ∃ pre suf, ts = pre ++ suf ∧ f = suf.length ∧ i = .int .i64 (pre.length : Nat) ∧ pre.any (fun c => !nameB c.data.toList) = false ∧ W = w)
  case atStart => exact ⟨[], ts, rfl, rfl, rfl, rfl, rfl⟩
  case round =>
    obtain ⟨pre, suf, h1, rfl, rfl, hal, hw⟩ := hrel
    obtain rfl := hw.symm
    have l1 : pre.length + suf.length = ts.length := by rw [h1, List.length_append]
    have HZ := hide h1
    have HAL := hide hal
    clear h1 hal
    cases suf with
    | nil =>
      have hlt : decide (pre.length < ts.length) = false := by simp at l1 ⊢; omega
      go_wp2
      go_ret
      refine ⟨-1, rfl, ?_, rfl⟩
      rw [unhide HZ, List.append_nil, unhide HAL]
      rfl
    | cons z suf =>
      rw [List.length_cons] at l1
      have hlt : decide (pre.length < ts.length) = true := by simp; omega
      obtain ⟨b1, o1, rfl, z1, c1⟩ := (unhide HCA) (by omega)
      have k1 : w.cell? ⟨b1, o1 + pre.length, none⟩ = some (.string z) := by
        rw [c1 _ (by omega), unhide HZ]
        simp
      have HZ2 : Hid (ts = (pre ++ [z]) ++ suf) := by unfold Hid; rw [unhide HZ]; simp
      clear c1
      go_wp2_with fail
      refine (isNoName_any z _).mono ?_
      rintro e w1 ⟨rfl, hw1⟩
      obtain rfl := hw1.symm
      cases hnz : nameB z.data.toList with
      | false =>
        have HNZ := hide hnz
        go_wp2
        go_ret
        refine ⟨(pre.length : Int), rfl, ?_, rfl⟩
        rw [unhide HZ, List.any_append, List.any_cons, unhide HNZ]
        simp
      | true =>
        have HNZ := hide hnz
        go_wp2
        go_roundg suf.length
        case measure => simp
        case rel =>
          refine ⟨pre ++ [z], suf, unhide HZ2, rfl, ?_, ?_, rfl⟩
          · rw [List.length_append]; go_num
          · rw [List.any_append, unhide HAL, List.any_cons, unhide HNZ]; rfl
set_option maxHeartbeats 1000000 in
theorem hasNoName_any (a : Value) (ts : List ByteArray) (w : World) (ha : RowAt w a (textsV ts)) :
    Calls Tryz.prog 136 #[a, .func (.func 137) #[] #[]] w fun e w' => e = .returned (.bool (ts.any (fun c => !nameB c.data.toList))) ∧ w' = w := by
  have HA := hide ha
  clear ha
  go_enter Tryz.func136, Tryz.ntmps136
  go_wp2_with fail
  refine (indexNoName_any a ts _ (by exact unhide HA)).mono ?_
  rintro e w1 ⟨n, rfl, hn, hw1⟩
  obtain rfl := hw1.symm
  have HN := hide hn
  clear hn
  go_wp2
  go_ret
  exact ⟨by rw [← unhide HN]; rfl, rfl⟩
set_option maxHeartbeats 400000 in
theorem named_any (nm : ByteArray) (cv rv : Value) (s : ByteArray) (g : Nat) (w : World) (hg : w.heap[g]? = some (.cells #[.string s] 9 (0, 0))) :
    Calls Tryz.prog 211 #[.agg #[.string nm, cv, rv], .pointer (some ⟨g, 0, none⟩)] w fun e w' => e = .returned (.bool (nm.toList == s.toList)) ∧ Below w.heap.size w w' := by
  have k1 := (blk hg).1 0
  have z1 := lt_of_heap hg
  clear hg
  go_enter Tryz.func211, Tryz.ntmps211
  go_wp2
  go_ret
  exact ⟨rfl, (Below.refl _ _).alloc (Nat.le_refl _) _⟩
set_option maxRecDepth 100000 in
set_option maxHeartbeats 1000000 in
theorem indexNamed_any (lv : Value) (l : List Tb) (s : ByteArray) (g : Nat) (w : World) (hl : TabsAt w lv l) (hg : w.heap[g]? = some (.cells #[.string s] 9 (0, 0))) :
    Calls Tryz.prog 267 #[lv, .func (.func 211) #[] #[.pointer (some ⟨g, 0, none⟩)]] w fun e w' => ∃ n : Int, e = .returned (.int .i64 n) ∧ decide (0 ≤ n) = l.any (fun u => u.name.toList == s.toList) ∧ Below w.heap.size w w' := by
  have HL := hide hl
  have HG := hide hg
  clear hg
  obtain ⟨adl, capl, rfl, ml, mcap, cl⟩ := hl
  unfold maxLen at ml
  have HCL := hide cl
  clear cl
  go_enter Tryz.func267, Tryz.ntmps267
  go_wp2_with fail
  go_loopg [5, 8] l.length (fun f j i W => ∃ pre suf, l = pre ++ suf ∧ f = suf.length ∧ i = .int .i64 (pre.length : Nat) ∧ pre.any (fun u => u.name.toList == s.toList) = false ∧ Below w.heap.size w W)
  case atStart => exact ⟨[], l, rfl, rfl, rfl, rfl, Below.refl _ _⟩
  case round =>
    obtain ⟨pre, suf, h1, rfl, rfl, hal, hbw⟩ := hrel
    have l1 : pre.length + suf.length = l.length := by rw [h1, List.length_append]
    have HZ := hide h1
    have HAL := hide hal
    have HB := hide hbw
    clear h1 hal hbw
    cases suf with
    | nil =>
      have hlt : decide (pre.length < l.length) = false := by simp at l1 ⊢; omega
      go_wp2
      go_ret
      refine ⟨-1, rfl, ?_, unhide HB⟩
      rw [unhide HZ, List.append_nil, unhide HAL]
      rfl
    | cons t suf =>
      rw [List.length_cons] at l1
      have hlt : decide (pre.length < l.length) = true := by simp; omega
      obtain ⟨b1, o1, rfl, z1, c1⟩ := (unhide HCL) (by omega)
      obtain ⟨cv, rv, _, k1, k2, k3⟩ := c1 pre.length t (by rw [unhide HZ]; simp)
      rw [← (unhide HB).cell (p := ⟨b1, o1 + pre.length * 3, none⟩) z1] at k1
      rw [← (unhide HB).cell (p := ⟨b1, o1 + pre.length * 3 + 1, none⟩) z1] at k2
      rw [← (unhide HB).cell (p := ⟨b1, o1 + pre.length * 3 + 2, none⟩) z1] at k3
      have HZ2 : Hid (l = (pre ++ [t]) ++ suf) := by unfold Hid; rw [unhide HZ]; simp
      clear c1
      go_wp2_with fail
      refine (named_any t.name cv rv s g _ (by rw [(unhide HB).block g (lt_of_heap (unhide HG))]; exact unhide HG)).mono ?_
      rintro e w1 ⟨rfl, hb1⟩
      have HB1 : Hid (Below w.heap.size w w1) := (unhide HB).trans (hb1.mono (unhide HB).size)
      clear hb1 k1 k2 k3
      cases hnz : (t.name.toList == s.toList) with
      | true =>
        have HNZ := hide hnz
        go_wp2
        go_ret
        refine ⟨(pre.length : Int), rfl, ?_, unhide HB1⟩
        rw [unhide HZ, List.any_append, List.any_cons, unhide HNZ]
        simp
      | false =>
        have HNZ := hide hnz
        go_wp2
        go_roundg suf.length
        case measure => simp
        case rel =>
          refine ⟨pre ++ [t], suf, unhide HZ2, rfl, ?_, ?_, unhide HB1⟩
          · rw [List.length_append]; go_num
          · rw [List.any_append, unhide HAL, List.any_cons, unhide HNZ]; rfl
set_option maxHeartbeats 1000000 in
theorem hasNamed_any (lv : Value) (l : List Tb) (s : ByteArray) (g : Nat) (w : World) (hl : TabsAt w lv l) (hg : w.heap[g]? = some (.cells #[.string s] 9 (0, 0))) :
    Calls Tryz.prog 210 #[lv, .func (.func 211) #[] #[.pointer (some ⟨g, 0, none⟩)]] w fun e w' => e = .returned (.bool (l.any (fun u => u.name.toList == s.toList))) ∧ Below w.heap.size w w' := by
  have HL := hide hl
  have HG := hide hg
  clear hl hg
  go_enter Tryz.func210, Tryz.ntmps210
  go_wp2_with fail
  refine (indexNamed_any lv l s g _ (by exact unhide HL) (by exact unhide HG)).mono ?_
  rintro e w1 ⟨n, rfl, hn, hb1⟩
  have HN := hide hn
  have HB := hide hb1
  clear hn hb1
  go_wp2
  go_ret
  exact ⟨by rw [← unhide HN]; rfl, unhide HB⟩
set_option maxHeartbeats 400000 in
theorem hasTable_any (lv : Value) (l : List Tb) (s : ByteArray) (w : World) (hl : TabsAt w lv l) :
    Calls Tryz.prog 138 #[lv, .string s] w fun e w' => e = .returned (.bool (l.any (fun u => u.name.toList == s.toList))) ∧ Below w.heap.size w w' := by
  have HL := hide hl
  clear hl
  go_enter Tryz.func138, Tryz.ntmps138
  go_wp2_with fail
  refine (hasNamed_any lv l s w.heap.size _ ((unhide HL).keep ((Below.refl _ _).alloc (Nat.le_refl _) _)) (heap_last rfl)).mono ?_
  rintro e w1 ⟨rfl, hb1⟩
  have HB : Hid (Below w.heap.size w w1) := ((Below.refl _ _).alloc (Nat.le_refl _) _).trans (hb1.mono (by simp))
  clear hb1
  go_wp2
  go_ret
  exact ⟨rfl, unhide HB⟩
theorem bne_nat (n m : Nat) : ((n : Int) != (m : Int)) = decide (n ≠ m) := by
  rw [Bool.eq_iff_iff, bne_iff_ne, decide_eq_true_eq]
  omega
set_option maxHeartbeats 400000 in
theorem wide_any (ad : Option Addr) (n c : Nat) (nm : ByteArray) (adc : Option Addr) (m cc : Nat) (rv : Value) (g : Nat) (w : World) (hg : w.heap[g]? = some (.cells #[.string nm, .slice adc m cc, rv] 44 (0, 0))) :
    Calls Tryz.prog 141 #[.slice ad n c, .pointer (some ⟨g, 0, none⟩)] w fun e w' => e = .returned (.bool (decide (n ≠ m))) ∧ Below w.heap.size w w' := by
  have k1 := (blk hg).1
  have z1 := lt_of_heap hg
  clear hg
  go_enter Tryz.func141, Tryz.ntmps141
  go_wp2
  go_ret
  exact ⟨by simp [decide_not, bne_nat], Below.refl _ _⟩
set_option maxRecDepth 100000 in
set_option maxHeartbeats 1000000 in
theorem indexWide_any (rv : Value) (rows : List (List Int)) (nm : ByteArray) (adc : Option Addr) (m cc : Nat) (rv' : Value) (g : Nat) (w : World) (hr : RowsAt w rv rows) (hg : w.heap[g]? = some (.cells #[.string nm, .slice adc m cc, rv'] 44 (0, 0))) :
    Calls Tryz.prog 213 #[rv, .func (.func 141) #[] #[.pointer (some ⟨g, 0, none⟩)]] w fun e w' => ∃ n : Int, e = .returned (.int .i64 n) ∧ decide (0 ≤ n) = rows.any (fun r => decide (r.length ≠ m)) ∧ Below w.heap.size w w' := by
  have HG := hide hg
  clear hg
  obtain ⟨vs, ⟨adr, capr, rfl, mr, cr⟩, lr, rr⟩ := hr
  rw [lr] at mr cr
  rw [lr]
  unfold maxLen at mr
  have HCR := hide cr
  have HRR := hide rr
  clear cr rr
  go_enter Tryz.func213, Tryz.ntmps213
  go_wp2_with fail
  go_loopg [5, 8] rows.length (fun f j i W => ∃ pre suf, rows = pre ++ suf ∧ f = suf.length ∧ i = .int .i64 (pre.length : Nat) ∧ pre.any (fun r => decide (r.length ≠ m)) = false ∧ Below w.heap.size w W)
  case atStart => exact ⟨[], rows, rfl, rfl, rfl, rfl, Below.refl _ _⟩
  case round =>
    obtain ⟨pre, suf, h1, rfl, rfl, hal, hbw⟩ := hrel
    have l1 : pre.length + suf.length = rows.length := by rw [h1, List.length_append]
    have HZ := hide h1
    have HAL := hide hal
    have HB := hide hbw
    clear h1 hal hbw
    cases suf with
    | nil =>
      have hlt : decide (pre.length < rows.length) = false := by simp at l1 ⊢; omega
      go_wp2
      go_ret
      refine ⟨-1, rfl, ?_, unhide HB⟩
      rw [unhide HZ, List.append_nil, unhide HAL]
      rfl
    | cons r suf =>
      rw [List.length_cons] at l1
      have hlt : decide (pre.length < rows.length) = true := by simp; omega
      obtain ⟨b1, o1, rfl, z1, c1⟩ := (unhide HCR) (by omega)
      obtain ⟨u, hu⟩ : ∃ u, vs[pre.length]? = some u := ⟨vs[pre.length]'(by omega), List.getElem?_eq_getElem _⟩
      have k1 : wr.cell? ⟨b1, o1 + pre.length, none⟩ = some u := by
        rw [(unhide HB).cell (p := ⟨b1, o1 + pre.length, none⟩) z1, c1 _ (by omega), hu]
      obtain ⟨adu, capu, rfl, _, _⟩ := (unhide HRR) pre.length r u (by rw [unhide HZ]; simp) hu
      rw [List.length_map] at k1
      have HZ2 : Hid (rows = (pre ++ [r]) ++ suf) := by unfold Hid; rw [unhide HZ]; simp
      clear c1 hu
      go_wp2_with fail
      refine (wide_any adu r.length capu nm adc m cc rv' g _ (by rw [(unhide HB).block g (lt_of_heap (unhide HG))]; exact unhide HG)).mono ?_
      rintro e w1 ⟨rfl, hb1⟩
      have HB1 : Hid (Below w.heap.size w w1) := (unhide HB).trans (hb1.mono (unhide HB).size)
      clear hb1 k1
      cases hnz : decide (r.length ≠ m) with
      | true =>
        have HNZ := hide hnz
        go_wp2
        go_ret
        refine ⟨(pre.length : Int), rfl, ?_, unhide HB1⟩
        rw [unhide HZ, List.any_append, List.any_cons, unhide HNZ]
        simp
      | false =>
        have HNZ := hide hnz
        go_wp2
        go_roundg suf.length
        case measure => simp
        case rel =>
          refine ⟨pre ++ [r], suf, unhide HZ2, rfl, ?_, ?_, unhide HB1⟩
          · rw [List.length_append]; go_num
          · rw [List.any_append, unhide HAL, List.any_cons, unhide HNZ]; rfl
set_option maxHeartbeats 1000000 in
theorem hasWide_any (rv : Value) (rows : List (List Int)) (nm : ByteArray) (adc : Option Addr) (m cc : Nat) (rv' : Value) (g : Nat) (w : World) (hr : RowsAt w rv rows) (hg : w.heap[g]? = some (.cells #[.string nm, .slice adc m cc, rv'] 44 (0, 0))) :
    Calls Tryz.prog 140 #[rv, .func (.func 141) #[] #[.pointer (some ⟨g, 0, none⟩)]] w fun e w' => e = .returned (.bool (rows.any (fun r => decide (r.length ≠ m)))) ∧ Below w.heap.size w w' := by
  have HL := hide hr
  have HG := hide hg
  clear hr hg
  go_enter Tryz.func140, Tryz.ntmps140
  go_wp2_with fail
  refine (indexWide_any rv rows nm adc m cc rv' g _ (by exact unhide HL) (by exact unhide HG)).mono ?_
  rintro e w1 ⟨n, rfl, hn, hb1⟩
  have HN := hide hn
  have HB := hide hb1
  clear hn hb1
  go_wp2
  go_ret
  exact ⟨by rw [← unhide HN]; rfl, unhide HB⟩
end Go.Proofs.YtfkeddkfegaeiaaGreatDoor
namespace Go.Proofs.YtfkeddkfegaeiaaGreatDoor
open Go.RowKit
theorem RowAt.ahead {W : World} {ad : Option Addr} {n cap : Nat} {pre suf : List ByteArray} (h : RowAt W (.slice ad n cap) (textsV (pre ++ suf))) : RowAt W (.slice ad pre.length cap) (textsV pre) := by
  obtain ⟨ad', cap', h1, h2, h3⟩ := h
  injection h1 with e1 e2 e3
  subst e1 e3
  rw [List.length_map, List.length_append] at h2 h3
  refine ⟨ad, cap, by rw [List.length_map], by rw [List.length_map]; omega, fun hp => ?_⟩
  rw [List.length_map] at hp
  obtain ⟨b, o, h4, h5, h6⟩ := h3 (by omega)
  refine ⟨b, o, h4, h5, fun j hj => ?_⟩
  rw [List.length_map] at hj
  rw [h6 j (by omega), textsV, textsV, List.map_append, List.getElem?_append_left (by rw [List.length_map]; exact hj)]
set_option maxRecDepth 100000 in
set_option maxHeartbeats 1000000 in
theorem sIndex_any (a : Value) (ts : List ByteArray) (s : ByteArray) (w : World) (ha : RowAt w a (textsV ts)) :
    Calls Tryz.prog 268 #[a, .string s] w fun e w' => e = .returned (.int .i64 (Lib.idxOfS ts s)) ∧ w' = w := by
  obtain ⟨ada, capa, rfl, ma, ca⟩ := ha
  rw [List.length_map] at ma ca
  unfold maxLen at ma
  simp only [List.length_map]
  have HCA := hide ca
  clear ca
  go_enter Tryz.func268, Tryz.ntmps268
  go_wp2_with fail
  go_loopg [5, 8] ts.length (fun f j i W => ∃ pre suf, ts = pre ++ suf ∧ ¬ s ∈ pre ∧ f = suf.length ∧ i = .int .i64 (pre.length : Nat) ∧ W = w)
  case atStart => exact ⟨[], ts, rfl, (fun h => by cases h), rfl, rfl, rfl⟩
  case round =>
    obtain ⟨pre, suf, h1, h2, rfl, rfl, hw⟩ := hrel
    obtain rfl := hw.symm
    have l1 : pre.length + suf.length = ts.length := by rw [h1, List.length_append]
    have HZ := hide h1
    have HN := hide h2
    clear h1 h2
    cases suf with
    | nil =>
      have hlt : decide (pre.length < ts.length) = false := by simp at l1 ⊢; omega
      go_wp2
      go_ret
      refine ⟨?_, rfl⟩
      have e : Lib.idxOfS ts s = -1 := by
        unfold Lib.idxOfS
        rw [unhide HZ, idx_skip (unhide HN)]
        rfl
      rw [e]
      rfl
    | cons z suf =>
      rw [List.length_cons] at l1
      have hlt : decide (pre.length < ts.length) = true := by simp; omega
      obtain ⟨b1, o1, rfl, z1, c1⟩ := (unhide HCA) (by omega)
      have k1 : w.cell? ⟨b1, o1 + pre.length, none⟩ = some (.string z) := by
        rw [c1 _ (by omega), unhide HZ]
        simp
      have HZ2 : Hid (ts = (pre ++ [z]) ++ suf) := by unfold Hid; rw [unhide HZ]; simp
      clear c1
      cases hzy : (s.toList == z.toList) with
      | true =>
        have hze : z = s := by
          rw [beq_iff_eq, ByteArray.toList_eq, ByteArray.toList_eq] at hzy
          exact (Go.WideShapes.bytes_inj hzy).symm
        have HE : Hid (Lib.idxOfS ts s = pre.length) := by
          unfold Hid Lib.idxOfS
          rw [unhide HZ, idx_skip (unhide HN), Lib.idxFromS, if_pos hze]
          simp
        clear hze
        go_wp2
        go_ret
        exact ⟨by rw [unhide HE]; rfl, rfl⟩
      | false =>
        have HNE : Hid (¬ s ∈ pre ++ [z]) := fun hm => by
          rcases List.mem_append.1 hm with q | q
          · exact (unhide HN) q
          · rw [List.mem_singleton] at q
            rw [q] at hzy
            simp at hzy
        go_wp2
        go_roundg suf.length
        case measure => simp
        case rel =>
          refine ⟨pre ++ [z], suf, unhide HZ2, unhide HNE, rfl, ?_, rfl⟩
          rw [List.length_append]
          go_num
set_option maxHeartbeats 1000000 in
theorem sContains_any (a : Value) (ts : List ByteArray) (s : ByteArray) (w : World) (ha : RowAt w a (textsV ts)) :
    Calls Tryz.prog 212 #[a, .string s] w fun e w' => e = .returned (.bool (Lib.containsS ts s)) ∧ w' = w := by
  have HA := hide ha
  clear ha
  go_enter Tryz.func212, Tryz.ntmps212
  go_wp2_with fail
  refine (sIndex_any a ts s _ (by exact unhide HA)).mono ?_
  rintro e w1 ⟨rfl, hw1⟩
  obtain rfl := hw1.symm
  go_wp2
  go_ret
  exact ⟨rfl, rfl⟩
set_option maxRecDepth 100000 in
set_option maxHeartbeats 1000000 in
theorem hasTwice_any (a : Value) (ts : List ByteArray) (w : World) (ha : RowAt w a (textsV ts)) (hcap : ts.length ≤ scap a) :
    Calls Tryz.prog 139 #[a] w fun e w' => e = .returned (.bool (dupF [] ts)) ∧ w' = w := by
  have HA := hide ha
  obtain ⟨ada, capa, rfl, ma, ca⟩ := ha
  rw [List.length_map] at ma ca
  rw [scap] at hcap
  unfold maxLen at ma
  simp only [List.length_map]
  have HCA := hide ca
  clear ca
  go_enter Tryz.func139, Tryz.ntmps139
  go_wp2_with fail
  go_loopg [3, 4, 7] ts.length (fun f i nm j W => ∃ pre suf, ts = pre ++ suf ∧ f = suf.length ∧ j = .int .i64 (pre.length : Nat) ∧ dupF [] ts = dupF pre suf ∧ W = w)
  case atStart => exact ⟨[], ts, rfl, rfl, rfl, rfl, rfl⟩
  case round =>
    obtain ⟨pre, suf, h1, rfl, rfl, hal, hw⟩ := hrel
    obtain rfl := hw.symm
    have l1 : pre.length + suf.length = ts.length := by rw [h1, List.length_append]
    have HZ := hide h1
    have HAL := hide hal
    clear h1 hal
    cases suf with
    | nil =>
      have hlt : decide (pre.length < ts.length) = false := by simp at l1 ⊢; omega
      go_wp2
      go_ret
      exact ⟨by rw [unhide HAL]; rfl, rfl⟩
    | cons z suf =>
      rw [List.length_cons] at l1
      have hlt : decide (pre.length < ts.length) = true := by simp; omega
      obtain ⟨b1, o1, rfl, z1, c1⟩ := (unhide HCA) (by omega)
      have k1 : w.cell? ⟨b1, o1 + pre.length, none⟩ = some (.string z) := by
        rw [c1 _ (by omega), unhide HZ]
        simp
      have HZ2 : Hid (ts = (pre ++ [z]) ++ suf) := by unfold Hid; rw [unhide HZ]; simp
      have HAH : Hid (RowAt w (.slice (some ⟨b1, o1, none⟩) pre.length capa) (textsV pre)) := by
        have h := unhide HA
        rw [List.length_map, unhide HZ] at h
        exact h.ahead
      have hpc : pre.length ≤ capa := by omega
      clear c1
      go_wp2_with fail
      refine (sContains_any _ pre z _ (by exact unhide HAH)).mono ?_
      rintro e w1 ⟨rfl, hw1⟩
      obtain rfl := hw1.symm
      cases hcc : Lib.containsS pre z with
      | true =>
        have HCC := hide hcc
        clear hcc
        go_wp2
        go_ret
        exact ⟨by rw [unhide HAL, dupF, unhide HCC]; rfl, rfl⟩
      | false =>
        have HCC := hide hcc
        clear hcc
        go_wp2
        go_roundg suf.length
        case measure => simp
        case rel =>
          refine ⟨pre ++ [z], suf, unhide HZ2, rfl, ?_, ?_, rfl⟩
          · rw [List.length_append]; go_num
          · rw [unhide HAL, dupF, unhide HCC]; rfl
end Go.Proofs.YtfkeddkfegaeiaaGreatDoor
