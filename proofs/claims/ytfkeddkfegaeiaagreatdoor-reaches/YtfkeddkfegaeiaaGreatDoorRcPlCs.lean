/-
  Part 41.
-/
import Derived.Test.YtfkeddkfegaeiaaGreatDoorRcPlCd
import Derived.Test.YtfkeddkfegaeiaaGreatDoorRcPlBh
namespace Go.Proofs.YtfkeddkfegaeiaaGreatDoor
open Go.RowKit
/-- in order, each one once. -/
def OrdS (l : List (List Int)) : Prop := l.Pairwise fun x y => cmpL x y < 0
theorem sortL_sorted (l : List (List Int)) : (sortL l).Pairwise fun x y => cmpL x y ≤ 0 := by
  have h := List.pairwise_mergeSort (le := fun x y : List Int => decide (cmpL x y ≤ 0)) (fun a b c h1 h2 => by
      simp only [decide_eq_true_eq] at h1 h2 ⊢
      exact cmpL_le a b c h1 h2) (fun a b => by
      have := cmpL_swap a b
      simp only [Bool.or_eq_true, decide_eq_true_eq]
      omega) l
  exact h.imp fun h => by simpa using h
theorem mem_sortL {l : List (List Int)} {x : List Int} : x ∈ sortL l ↔ x ∈ l := (List.mergeSort_perm _ _).mem_iff
theorem keepB_no {l : List (List Int)} {n : Nat} (h : keepB l n = false) : ∃ m, n = m + 1 ∧ l[n]? = l[m]? := by
  unfold keepB at h
  simp only [Bool.or_eq_false_iff, Bool.not_eq_false', decide_eq_true_eq, beq_eq_false_iff_ne] at h
  exact ⟨n - 1, by omega, h.2⟩
theorem mem_compN (l : List (List Int)) (x : List Int) : ∀ n, n ≤ l.length → (x ∈ compN l n ↔ x ∈ l.take n)
  | 0, _ => by simp [compN]
  | n + 1, hn => by
    rw [compN_succ, List.take_add_one, List.mem_append, List.mem_append, mem_compN l x n (by omega)]
    have e : l[n]? = some l[n] := List.getElem?_eq_getElem (by omega)
    cases hk : keepB l n with
    | true => simp [List.getD_eq_getElem?_getD, e]
    | false =>
      obtain ⟨m, rfl, h2⟩ := keepB_no hk
      simp only [Bool.false_eq_true, if_false, List.not_mem_nil, or_false]
      constructor
      · exact Or.inl
      · rintro (h | h)
        · exact h
        · rw [h2] at h
          simp only [Option.mem_toList] at h
          exact List.mem_of_getElem? (i := m) (by rw [List.getElem?_take_of_lt (by omega)]; exact h)
theorem compN_ss {l : List (List Int)} (hl : l.Pairwise fun x y => cmpL x y ≤ 0) : ∀ n, n ≤ l.length → OrdS (compN l n)
  | 0, _ => List.Pairwise.nil
  | n + 1, hn => by
    rw [compN_succ]
    cases hk : keepB l n with
    | false => simpa using compN_ss hl n (by omega)
    | true =>
      rw [if_pos rfl]
      refine List.pairwise_append.2 ⟨compN_ss hl n (by omega), List.pairwise_singleton _ _, fun x hx y hy => ?_⟩
      have e : l[n]? = some l[n] := List.getElem?_eq_getElem (by omega)
      obtain rfl : y = l[n] := by simpa [List.getD_eq_getElem?_getD, e] using hy
      rw [mem_compN l x n (by omega)] at hx
      obtain ⟨i, hi, rfl⟩ := List.getElem_of_mem hx
      rw [List.length_take] at hi
      rw [List.getElem_take]
      have hp := List.pairwise_iff_getElem.1 hl
      have h1 := hp i n (by omega) (by omega) (by omega)
      have h2 : cmpL l[i] l[n - 1] ≤ 0 := by
        by_cases e : i = n - 1
        · subst e
          rw [cmpL_self]
          omega
        · exact hp i (n - 1) (by omega) (by omega) (by omega)
      have h3 := hp (n - 1) n (by omega) (by omega) (by omega)
      by_cases h0 : cmpL l[i] l[n] = 0
      · exfalso
        have e1 := cmpL_zero h0
        rw [e1] at h2
        have h4 := cmpL_swap l[n - 1] l[n]
        have e2 := cmpL_zero (a := l[n - 1]) (b := l[n]) (by omega)
        unfold keepB at hk
        rw [e, List.getElem?_eq_getElem (show n - 1 < l.length by omega), e2] at hk
        simp at hk
        omega
      · omega
theorem addR_ss (l m : List (List Int)) : OrdS (addR l m) := compN_ss (sortL_sorted _) _ (Nat.le_refl _)
theorem mem_addR {l m : List (List Int)} {x : List Int} : x ∈ addR l m ↔ x ∈ l ∨ x ∈ m := by
  unfold addR compL
  rw [mem_compN _ _ _ (Nat.le_refl _), List.take_length, mem_sortL, List.mem_append]
theorem OrdS.nodup {l : List (List Int)} (h : OrdS l) : l.Nodup := h.imp fun {a b} h e => by
  subst e
  rw [cmpL_self] at h
  omega
theorem len_sub : ∀ {l m : List (List Int)}, l.Nodup → (∀ x ∈ l, x ∈ m) → l.length ≤ m.length
  | [], _, _, _ => Nat.zero_le _
  | a :: l, m, hn, hs => by
    have h1 := hs a List.mem_cons_self
    have h2 := len_sub (m := m.erase a) (List.nodup_cons.1 hn).2 (fun x hx => (List.mem_erase_of_ne (fun e => (List.nodup_cons.1 hn).1 (by rw [← e]; exact hx))).2 (hs x (List.mem_cons_of_mem _ hx)))
    rw [List.length_erase_of_mem h1] at h2
    have := List.length_pos_of_mem h1
    rw [List.length_cons]
    omega
theorem ss_ext {l m : List (List Int)} (hl : OrdS l) (hm : OrdS m) (h : ∀ x, x ∈ l ↔ x ∈ m) : l = m := by
  refine List.Perm.eq_of_pairwise (le := fun x y => cmpL x y < 0) ?_ hl hm ((List.perm_ext_iff_of_nodup hl.nodup hm.nodup).2 h)
  intro a b _ _ h1 h2
  have := cmpL_swap a b
  omega
theorem addR_len {l m : List (List Int)} (hm : OrdS m) : m.length ≤ (addR l m).length := len_sub hm.nodup fun _ hx => mem_addR.2 (Or.inr hx)
theorem addR_same {l m : List (List Int)} (hm : OrdS m) (h : (addR l m).length = m.length) : ∀ x ∈ l, x ∈ m := by
  intro x hx
  by_cases hxm : x ∈ m
  · exact hxm
  · have := len_sub (l := x :: m) (m := addR l m) (List.nodup_cons.2 ⟨hxm, hm.nodup⟩) (fun y hy => by
      rcases List.mem_cons.1 hy with rfl | hy
      · exact mem_addR.2 (Or.inl hx)
      · exact mem_addR.2 (Or.inr hy))
    rw [List.length_cons] at this
    omega
theorem OrdS.sortL {l : List (List Int)} (h : OrdS l) : sortL l = l := (sortL_of (List.Perm.refl _) (h.imp fun h => by omega)).symm
end Go.Proofs.YtfkeddkfegaeiaaGreatDoor
namespace Go.Proofs.YtfkeddkfegaeiaaGreatDoor
open Go.RowKit
abbrev Rws' := List (List Int)
/-- the rows behind an add; none: too many. -/
def addO (N : Nat) (l m : Rws') : Option Rws' := if 4000 < N then none else if 200 < (addR l m).length then none else some (addR l m)
/-- the second select is asked until it gives nothing new. -/
def growF (N2 : Rws' → Nat) (l2 : Rws' → Rws') : Nat → Rws' → Option Rws'
  | 0, m => some m
  | n + 1, m => match addO (N2 m) (l2 m) m with
    | none => none
    | some m' => if m'.length = m.length then some m' else growF N2 l2 n m'
def growR (N1 : Nat) (l1 : Rws') (N2 : Rws' → Nat) (l2 : Rws' → Rws') : Option Rws' := match addO N1 l1 [] with
  | none => none
  | some m => growF N2 l2 201 m
/-- rows as wide as the table. -/
def Wide (k : Nat) (m : Rws') : Prop := ∀ r ∈ m, r.length = k
theorem Wide.addR {k : Nat} {l m : Rws'} (hl : Wide k l) (hm : Wide k m) : Wide k (addR l m) := fun r hr => by
  rcases mem_addR.1 hr with h | h
  · exact hl r h
  · exact hm r h
theorem addO_none {N : Nat} {l m : Rws'} (h : addO N l m = none) : 4000 < N ∨ (N ≤ 4000 ∧ 200 < (addR l m).length) := by
  unfold addO at h
  split at h
  · exact Or.inl ‹_›
  · split at h
    · exact Or.inr ⟨by omega, ‹_›⟩
    · cases h
theorem addO_some {N : Nat} {l m m' : Rws'} (h : addO N l m = some m') : N ≤ 4000 ∧ m' = addR l m ∧ m'.length ≤ 200 := by
  unfold addO at h
  split at h
  · cases h
  · split at h
    · cases h
    · injection h with h
      subst h
      exact ⟨by omega, rfl, by omega⟩
theorem RowsOff.shape {W : World} {tb : Nat} {rv : Value} {rows : Rws'} (h : RowsOff W tb rv rows) : ∃ ad c, rv = .slice ad rows.length c := by
  rcases h with ⟨h1, rfl⟩ | ⟨g, c, h1, -⟩
  · exact ⟨none, 0, h1⟩
  · exact ⟨_, c, h1⟩
theorem growF_none {N2 : Rws' → Nat} {l2 : Rws' → Rws'} {n : Nat} {m : Rws'} (h : addO (N2 m) (l2 m) m = none) : growF N2 l2 (n + 1) m = none := by
  unfold growF
  rw [h]
theorem growF_some {N2 : Rws' → Nat} {l2 : Rws' → Rws'} {n : Nat} {m m' : Rws'} (h : addO (N2 m) (l2 m) m = some m') : growF N2 l2 (n + 1) m = if m'.length = m.length then some m' else growF N2 l2 n m' := by
  rw [growF.eq_def]
  simp only [h]
/-- what grow leaves. -/
def GrowDone (a : Nat → Addr) (w0 w : World) (tb tc : Nat) (T0 : List Tb) (nm : ByteArray) (cols : List ByteArray) (res : Option Rws') (e : Ending) (w' : World) : Prop := Kp tb w w' ∧ (res = none → e = .returned (errV a eMany)) ∧
  ∀ rows, res = some rows → e = .returned .nilIface ∧ OrdS rows ∧ rows.length ≤ 200 ∧ Wide cols.length rows ∧ ∃ cur cv rv, GrowAt w0 w' tb tc T0 ⟨nm, cols, rows⟩ cur cv rv
set_option maxRecDepth 100000 in
set_option maxHeartbeats 4000000 in
theorem grow_any (a : Nat → Addr) (w0 w : World) (B : Nat) (hE : EnvX a B w) (gb tb tc f1 f2 : Nat) (hBt : B ≤ tb) (hgt : gb ≠ tb) (T0 : List Tb) (nm : ByteArray) (cols : List ByteArray) (cur : Array Value) (cv rv : Value) (hg : w.heap[gb]? = some (.cells #[.slice (some ⟨tb, 0, none⟩) (T0.length + 1) tc, .pointer (some ⟨f1, 2, none⟩), .pointer (some ⟨f2, 2, none⟩)] 292 (0, 0))) (hG : GrowAt w0 w tb tc T0 ⟨nm, cols, []⟩ cur cv rv)
    (N1 : Nat) (l1 : Rws') (hl1 : N1 ≤ 4000 → l1.length ≤ 4000) (hw1 : Wide cols.length l1) (h1 : Calls Tryz.prog 126 #[.pointer (some ⟨f1, 2, none⟩)] w fun e w' => RwDone a w N1 l1 e w')
    (N2 : Rws' → Nat) (l2 : Rws' → Rws') (hl2 : ∀ m, N2 m ≤ 4000 → (l2 m).length ≤ 4000) (hw2 : ∀ m, Wide cols.length m → Wide cols.length (l2 m))
    (h2 : ∀ W m cur cv rv, Kp tb w W → GrowAt w0 W tb tc T0 ⟨nm, cols, m⟩ cur cv rv → m.length ≤ 200 → Wide cols.length m → Calls Tryz.prog 126 #[.pointer (some ⟨f2, 2, none⟩)] W fun e w' => RwDone a W (N2 m) (l2 m) e w') :
    Calls Tryz.prog 125 #[.pointer (some ⟨gb, 0, none⟩)] w fun e w' => GrowDone a w0 w tb tc T0 nm cols (growR N1 l1 N2 l2) e w' := by
  obtain ⟨res, hres⟩ : ∃ res, res = growR N1 l1 N2 l2 := ⟨_, rfl⟩
  rw [← hres]
  have HRES := hide hres
  have HE := hide hE
  have HGB := hide hg
  have HH2 := hide h2
  have HL2 := hide hl2
  have HW1 := hide hw1
  have HW2 := hide hw2
  have htw : tb < w.heap.size := lt_of_heap hG.blk
  have hfew := hG.few
  have HADD : Hid (∀ W m cur cv rv, Kp tb w W → GrowAt w0 W tb tc T0 ⟨nm, cols, m⟩ cur cv rv → m.length ≤ 200 → Wide cols.length m → Calls Tryz.prog 199 #[.pointer (some ⟨gb, 0, none⟩), .pointer (some ⟨f2, 2, none⟩)] W fun e w' => AddDone a w0 W tb tc T0 ⟨nm, cols, m⟩ (N2 m) (l2 m) e w') := fun W m cur cv rv hk hGW hm hwm =>
    gadd_any a w0 W B ((unhide HE).keep (hk.below hBt (unhide HE).env.size)) gb tb tc f2 _ _ T0 ⟨nm, cols, m⟩ cur cv rv ((hk.block gb (lt_of_heap (unhide HGB)) hgt).trans (unhide HGB)) hGW hm (N2 m) (l2 m) ((unhide HL2) m) ((unhide HH2) W m cur cv rv hk hGW hm hwm)
  have HTAB : Hid (∀ W, Kp tb w W → Calls Tryz.prog 200 #[.pointer (some ⟨gb, 0, none⟩)] W fun e w' => e = .returned (.pointer (some ⟨tb, T0.length * 3, none⟩)) ∧ Below W.heap.size W w') := fun W hk => by
    have := gtable_any W gb tb 0 (T0.length + 1) tc _ _ ((hk.block gb (lt_of_heap (unhide HGB)) hgt).trans (unhide HGB)) (by omega) (by omega)
    rw [Nat.zero_add, Nat.add_sub_cancel] at this
    exact this
  have HA1 : Hid (Calls Tryz.prog 199 #[.pointer (some ⟨gb, 0, none⟩), .pointer (some ⟨f1, 2, none⟩)] w fun e w' => AddDone a w0 w tb tc T0 ⟨nm, cols, []⟩ N1 l1 e w') :=
    gadd_any a w0 w B hE gb tb tc f1 _ _ T0 ⟨nm, cols, []⟩ cur cv rv hg hG (by simp) N1 l1 hl1 h1
  obtain ⟨kg, -⟩ := blk hg
  have g1 : w.cell? ⟨gb, 1, none⟩ = some (.pointer (some ⟨f1, 2, none⟩)) := kg 1
  have g2 : w.cell? ⟨gb, 2, none⟩ = some (.pointer (some ⟨f2, 2, none⟩)) := kg 2
  have zg := lt_of_heap hg
  have G2 := hide g2
  clear hE hg hG h1 h2 hl1 hl2 hw1 hw2 hres kg g2
  go_enter Tryz.func125, Tryz.ntmps125
  go_wp2_with fail
  refine (unhide HA1).mono ?_
  rintro e w1 ⟨hk1, hn1, hn2, hok⟩
  have HK1 := hide hk1
  cases ha : addO N1 l1 [] with
  | none =>
    have hr : res = none := by rw [unhide HRES]; unfold growR; rw [ha]
    have he : e = .returned (errV a eMany) := by
      rcases addO_none ha with h | ⟨h, h'⟩
      · exact hn1 h
      · exact hn2 h h'
    subst he
    have HR := hide hr
    clear hn1 hn2 hok ha hk1 hr
    go_wp2
    go_ret
    exact ⟨unhide HK1, fun _ => rfl, fun rows e => by rw [unhide HR] at e; cases e⟩
  | some m1 =>
    have hr : res = growF N2 l2 201 m1 := by rw [unhide HRES]; unfold growR; rw [ha]
    obtain ⟨hN, hm, hml⟩ := addO_some ha
    obtain ⟨rfl, cur1, cv1, rv1, hG1⟩ := hok hN (by rw [← hm]; exact hml)
    have hG1' : GrowAt w0 w1 tb tc T0 ⟨nm, cols, m1⟩ cur1 cv1 rv1 := by rw [hm]; exact hG1
    have HO1 : Hid (OrdS m1) := by show OrdS m1; rw [hm]; exact addR_ss _ _
    have HWD1 : Hid (Wide cols.length m1) := by show Wide _ m1; rw [hm]; exact (unhide HW1).addR (fun r hr => by simp at hr)
    have HG1 := hide hG1'
    have HR := hide hr
    clear hn1 hn2 hok ha hk1 hr hm hG1 hG1' hN g1
    go_wp2_with fail
    go_loopg [4] (200 - m1.length) (fun f _ W => ∃ n m cur cv rv, f = 200 - m.length ∧ res = growF N2 l2 (n + 1) m ∧ 200 - m.length ≤ n ∧ OrdS m ∧ m.length ≤ 200 ∧ Wide cols.length m ∧ GrowAt w0 W tb tc T0 ⟨nm, cols, m⟩ cur cv rv ∧ Kp tb w W)
    case atStart => exact ⟨200, m1, cur1, cv1, rv1, rfl, unhide HR, by omega, unhide HO1, hml, unhide HWD1, unhide HG1, unhide HK1⟩
    case round =>
      clear HR HO1 hml HWD1 HG1 HK1 HA1
      obtain ⟨n, m, curm, cvm, rvm, rfl, hr, hnn, hom, hml, hwm, hGm, hkm⟩ := hrel
      have HR := hide hr
      have HOM := hide hom
      have HWM := hide hwm
      have HGM := hide hGm
      have HKM := hide hkm
      obtain ⟨ad, c, rfl⟩ := hGm.rows.shape
      clear hr hom hwm hGm hkm
      go_wp2_with fail
      refine ((unhide HTAB) _ (unhide HKM)).mono ?_
      rintro e w2 ⟨rfl, hb2⟩
      have HK2 : Hid (Kp tb w w2) := (unhide HKM).trans (Kp.ofBelow hb2)
      have HG2 := hide ((unhide HGM).below hb2)
      obtain ⟨kb, -⟩ := blk (unhide HG2).blk
      have krv : w2.cell? ⟨tb, T0.length * 3 + 2, none⟩ = some (.slice ad m.length c) := (kb _).trans (unhide HG2).rw'
      have g2 : w2.cell? ⟨gb, 2, none⟩ = some (.pointer (some ⟨f2, 2, none⟩)) := by
        rw [← unhide G2]
        simp only [World.cell?, (unhide HK2).block gb zg hgt]
      clear hb2 kb HKM HGM
      go_wp2_with fail
      refine ((unhide HADD) _ m _ _ _ (unhide HK2) (unhide HG2) hml (unhide HWM)).mono ?_
      rintro e w3 ⟨hk3, hn1, hn2, hok⟩
      have HK3 : Hid (Kp tb w w3) := (unhide HK2).trans hk3
      clear krv g2 hk3
      cases ha : addO (N2 m) (l2 m) m with
      | none =>
        have hr : res = none := by rw [unhide HR]; exact growF_none ha
        have he : e = .returned (errV a eMany) := by
          rcases addO_none ha with h | ⟨h, h'⟩
          · exact hn1 h
          · exact hn2 h h'
        subst he
        have HR2 := hide hr
        clear hn1 hn2 hok ha hr
        go_wp2
        go_ret
        exact ⟨unhide HK3, fun _ => rfl, fun rows e => by rw [unhide HR2] at e; cases e⟩
      | some m' =>
        have hr : res = if m'.length = m.length then some m' else growF N2 l2 n m' := by rw [unhide HR]; exact growF_some ha
        obtain ⟨hN, hm, hml'⟩ := addO_some ha
        obtain ⟨rfl, cur3, cv3, rv3, hG3⟩ := hok hN (by rw [← hm]; exact hml')
        have hG3' : GrowAt w0 w3 tb tc T0 ⟨nm, cols, m'⟩ cur3 cv3 rv3 := by rw [hm]; exact hG3
        have HO3 : Hid (OrdS m') := by show OrdS m'; rw [hm]; exact addR_ss _ _
        have HWD3 : Hid (Wide cols.length m') := by show Wide _ m'; rw [hm]; exact ((unhide HW2) m (unhide HWM)).addR (unhide HWM)
        have hge : m.length ≤ m'.length := by rw [hm]; exact addR_len (unhide HOM)
        have HR3 := hide hr
        have HG3 := hide hG3'
        obtain ⟨ad3, c3, rfl⟩ := hG3'.rows.shape
        clear hn1 hn2 hok ha hr hm hG3 hG3' hN
        go_wp2_with fail
        refine ((unhide HTAB) _ (unhide HK3)).mono ?_
        rintro e w4 ⟨rfl, hb4⟩
        have HK4 : Hid (Kp tb w w4) := (unhide HK3).trans (Kp.ofBelow hb4)
        have HG4 := hide ((unhide HG3).below hb4)
        obtain ⟨kb, -⟩ := blk (unhide HG4).blk
        have krv : w4.cell? ⟨tb, T0.length * 3 + 2, none⟩ = some (.slice ad3 m'.length c3) := (kb _).trans (unhide HG4).rw'
        clear hb4 kb HG3
        by_cases hq : m'.length = m.length
        · have hd : ((m'.length : Int) == (m.length : Int)) = true := by simp; omega
          have HR4 : Hid (res = some m') := by show res = some m'; rw [unhide HR3, if_pos hq]
          go_wp2
          go_ret
          refine ⟨unhide HK4, fun e => (by rw [unhide HR4] at e; cases e), fun rows e => ?_⟩
          rw [unhide HR4] at e
          injection e with e
          subst e
          exact ⟨rfl, unhide HO3, hml', unhide HWD3, _, _, _, unhide HG4⟩
        · have hd : ((m'.length : Int) == (m.length : Int)) = false := by simp; omega
          obtain ⟨n', rfl⟩ : ∃ n', n = n' + 1 := ⟨n - 1, by omega⟩
          have HR4 : Hid (res = growF N2 l2 (n' + 1) m') := by
            show res = _
            rw [unhide HR3, if_neg hq]
          go_wp2
          go_roundg (200 - m'.length)
          case measure => omega
          case rel => exact ⟨n', m', _, _, _, rfl, unhide HR4, by omega, unhide HO3, hml', unhide HWD3, unhide HG4, unhide HK4⟩
end Go.Proofs.YtfkeddkfegaeiaaGreatDoor
namespace Go.Proofs.YtfkeddkfegaeiaaGreatDoor
open Go.RowKit
/-- what half leaves. -/
def HalfDone (a : Nat → Addr) (w0 : World) (F : Fx) (fb tb tof tc : Nat) (T : List Tb) (X : Nat → Bool) (fs : Fs) (fns : List (List (List Int) → List Int)) (tns : List (List Int → Bool)) (len width pb : Nat) (R : Option (Nat × Nat)) (e : Ending) (W' : World) : Prop := Below w0.heap.size w0 W' ∧ (∀ b o, F b = some o → W'.heap[b]? = some o) ∧
  (R = none → len = width → ∃ F', F.le F' ∧ (∀ b o, F' b = some o → w0.heap.size ≤ b ∧ W'.heap[b]? = some o) ∧ e = .returned (.tuple #[.pointer (some ⟨fb, 2, none⟩), .nilIface]) ∧ SelM w0 (F'.off X) ⟨w0, a, fb, tb, tof, tc, T, X, true⟩ fs.ss fs.wd fns tns) ∧
  (R = none → len ≠ width → ∃ ev, e = .returned (.tuple #[.pointer none, ev]) ∧ AtErr a w0 pb eShape ev W') ∧
  (∀ p k, R = some (p, k) → ∃ ev, e = .returned (.tuple #[.pointer none, ev]) ∧ AtErr a w0 p k ev W')
set_option maxRecDepth 100000 in
set_option maxHeartbeats 4000000 in
theorem half_any (a : Nat → Addr) (w0 : World) (F : Fx) (W : World) (X : Nat → Bool) (hE : EnvX a w0.heap.size W) (hold : Below w0.heap.size w0 W) (hF : ∀ b o, F b = some o → w0.heap.size ≤ b ∧ W.heap[b]? = some o) (hX : ∀ b, X b = true → ∃ o, F b = some o)
    (tb tof tc : Nat) (T : List Tb) (hT : ∀ W', Fits w0 F W' → TabsAt W' (.slice (some ⟨tb, tof, none⟩) T.length tc) T) (hc6 : ∀ t ∈ T, t.cols.length ≤ 6) (lo : Nat) (b : Nat) (width pb : Nat)
    (pl : Int) (vi vs vt : Value) (srcs : List (Tk × Tk)) (hb : w0.heap[b]? = some (.cells #[.int .i64 pl, vi, vs, vt] 256 (0, 0))) (hs : w0.ownsRow lo 260 5 vs srcs.length (srCells srcs)) (hs0 : 0 < srcs.length) (hs3 : srcs.length ≤ 3)
    (es : List (ItemA × Value × Option Addr)) (hi : w0.ownsRow lo 251 5 vi es.length (itCells es)) (hi0 : 0 < es.length) (hi6 : es.length ≤ 6) (eo : ItemA → List Sr → Option (Nat × Nat)) (fo : ItemA → List Sr → List (List Int) → List Int) (hspec : ∀ (c : Fc), c.w0 = w0 → c.T = T → c.iw = true → ∀ e ∈ es, ItemSpec c e.1.place e.2.1 (.pointer e.2.2) e.1.asP e.1.asT (eo e.1) (fo e.1)) (hone : ∀ e ∈ es, IsI e.2.1)
    (us : List (TestA × Value × Value)) (ht : w0.ownsRow lo 263 4 vt us.length (tsCells us)) (hu9 : us.length ≤ 1000) (hex : ∀ u ∈ us, ∃ n, ExP w0 (fun _ => True) n u.2.1 u.1.l ∧ ExP w0 (fun _ => True) n u.2.2 u.1.r) :
    Calls Tryz.prog 194 #[.pointer (some ⟨b, 0, none⟩), .slice (some ⟨tb, tof, none⟩) T.length tc, .int .i64 (width : Nat), .agg #[.int .i64 (pb : Nat)]] W fun e W' => HalfDone a w0 F (W.heap.size + 1) tb tof tc T X (foldS T srcs) (es.map fun e => fo e.1 (foldS T srcs).ss) (us.map fun u => tsHolds (colAt T (foldS T srcs).ss) u.1) es.length width pb (errT T (foldS T srcs) (errI eo (foldS T srcs) es) us) e W' := by
  obtain ⟨R, hR⟩ : ∃ R, R = errT T (foldS T srcs) (errI eo (foldS T srcs) es) us := ⟨_, rfl⟩
  rw [← hR]
  have HR := hide hR
  have HE := hide hE
  have HT := hide hT
  have HB := hide hb
  have HS := hide hs
  have HI := hide hi
  have HSP := hide hspec
  have HO := hide hone
  have HTS := hide ht
  have HXX := hide hex
  have HC6 := hide hc6
  have HF := hide hF
  have HX := hide hX
  have HOLD := hide hold
  have hz := hold.size
  have gsh : W.cell? ⟨9, 0, none⟩ = some (errV a 9) := hE.cell _ (by decide)
  have zsh : 9 < w0.heap.size := Nat.lt_of_lt_of_le (by decide) hE.env.low
  clear hR hE hT hb hs hi hspec hone ht hex hc6 hF hX hold
  have HFN : Hid (F W.heap.size = none ∧ F (W.heap.size + 1) = none) := by
    refine ⟨?_, ?_⟩
    · cases e : F W.heap.size with
      | none => rfl
      | some o => have := lt_size ((unhide HF) _ _ e).2; omega
    · cases e : F (W.heap.size + 1) with
      | none => rfl
      | some o => have := lt_size ((unhide HF) _ _ e).2; omega
  have HFS : Hid (FS ⟨w0, a, W.heap.size + 1, tb, tof, tc, T, X, true⟩ (F.set W.heap.size (.cells #[.int .i64 (pb : Nat)] 170 (0, 0))) ((W.alloc (.cells #[.int .i64 (pb : Nat)] 170)).alloc (.cells #[.slice (some ⟨tb, tof, none⟩) T.length tc, .bool true, .slice none 0 0, .int .i64 0, .slice none 0 0, .slice none 0 0, .nilIface] 299)) (.slice none 0 0) (.slice none 0 0) (.slice none 0 0) .nilIface 0 [] none) := by
    have hbl : Below w0.heap.size w0 ((W.alloc (.cells #[.int .i64 (pb : Nat)] 170)).alloc (.cells #[.slice (some ⟨tb, tof, none⟩) T.length tc, .bool true, .slice none 0 0, .int .i64 0, .slice none 0 0, .slice none 0 0, .nilIface] 299)) := ((unhide HOLD).alloc hz _).alloc (by simp; omega) _
    refine ⟨((unhide HE).alloc _).alloc _, hbl, ⟨fun k o e => ?_, ?_, by simp, fun v hv k e => ?_, ?_⟩, heap_last (by simp), rfl, fun W' hW' => (unhide HT) W' (hW'.mono (Fx.le_set _ (unhide HFN).1)), World.ownsRow_nil _ _ _ _, by simp, fun s hs => by simp at hs, ⟨by simp, fun s hs => by simp at hs, unhide HC6⟩, fun k e => ?_, by show w0.heap.size ≤ W.heap.size + 1; omega⟩
    · by_cases hk : k = W.heap.size
      · subst hk
        rw [Fx.set_same] at e
        injection e with e
        subst e
        exact ⟨hz, heap_prev (heap_last rfl)⟩
      · rw [Fx.set_other _ _ hk] at e
        obtain ⟨h1, h2⟩ := (unhide HF) k o e
        exact ⟨h1, heap_prev (heap_prev h2)⟩
    · exact (Fx.set_other _ _ (by simp)).trans (unhide HFN).2
    · simp only [List.mem_cons, List.mem_nil_iff, or_false, or_self] at hv
      subst hv
      simp [Value.ownBlock] at e
    · refine .cons (fun v hv => ?_) (.cons (fun v hv => ?_) (.cons (fun v hv => by cases hv) .nil)) <;> exact Dis.nilL _ _ _
    · obtain ⟨o, ho⟩ := (unhide HX) k e
      have := lt_size ((unhide HF) k o ho).2
      simp; omega
  go_enter Tryz.func194, Tryz.ntmps194
  go_wp2_with fail
  refine (fselection_any _ _ _ b lo pl vi vs vt srcs (unhide HFS) (unhide HB) (unhide HS) hs0 hs3 es (unhide HI) hi0 hi6 eo fo ((unhide HSP) _ rfl rfl rfl) (unhide HO) us (unhide HTS) hu9 (unhide HXX)).mono ?_
  intro e w2 hdone
  obtain ⟨F', sv, iv, tv, ev, ivs, tvs, hle, hft, he⟩ := hdone
  simp only at hft he
  rw [← unhide HR] at hft he
  have hleF : F.le F' := (Fx.le_set _ (unhide HFN).1).trans hle
  have hxp : w2.heap[W.heap.size]? = some (.cells #[.int .i64 (pb : Nat)] 170 (0, 0)) := (hft.st.grow.fits _ _ (hle _ _ (Fx.set_same _ _ _))).2
  have hold2 := hft.st.old
  have HENV := hide hft.st.env
  simp only at hold2
  have HKF : Hid (∀ b o, F b = some o → w2.heap[b]? = some o) := fun b o e => (hft.st.grow.fits _ _ (hleF _ _ e)).2
  have gsh2 : w2.cell? ⟨9, 0, none⟩ = some (errV a 9) := (unhide HENV).cell _ (by decide)
  have zsh2 : 9 < w2.heap.size := World.block_lt_of_cell? w2 _ gsh2
  have hz2 := hold2.size
  have HOLD2 := hide hold2
  clear HFS HB HS HI HSP HO HTS HXX HC6 HT HE HR gsh
  cases R with
  | none =>
    obtain rfl : ev = .nilIface := hft.st.err
    simp only [Option.isNone_none, if_true] at he
    subst he
    have hl1 : ivs.length = es.length := by have := (hft.its rfl).1; simpa using this
    have hl2 : tvs.length = us.length := by have := (hft.tst rfl).1; simpa using this
    obtain ⟨F2, hle2, hF2, hsel⟩ := hft.seal (fun k hk => by
      obtain ⟨o, ho⟩ := (unhide HX) k hk
      exact ⟨o, hleF _ _ ho⟩) (by unfold maxLen; omega) (by unfold maxLen; omega)
    obtain ⟨adi, ci, hiv⟩ := owns_shape hft.row
    rw [hl1] at hiv
    obtain ⟨kb, -⟩ := blk hft.st.box
    have k4 : w2.cell? ⟨W.heap.size + 1, 4, none⟩ = some (.slice adi es.length ci) := (kb 4).trans (by rw [hiv]; rfl)
    have zb := lt_of_heap hft.st.box
    obtain ⟨kp, -⟩ := blk hxp
    have kp0 : w2.cell? ⟨W.heap.size, 0, none⟩ = some (.int .i64 (pb : Nat)) := kp 0
    have zp := lt_of_heap hxp
    have HF2 := hide hF2
    have HSEL := hide hsel
    have HLE2 := hide (hleF.trans hle2)
    clear hft hle hle2 hF2 hsel hxp hold2 kb kp hl1 hl2 hiv hleF
    by_cases hw : es.length = width
    · have hd : ((es.length : Int) != (width : Int)) = false := by simp; omega
      go_wp2
      go_ret2
      exact ⟨unhide HOLD2, unhide HKF, fun _ _ => ⟨F2, unhide HLE2, unhide HF2, rfl, unhide HSEL⟩, fun _ h => absurd hw h, fun p k e => by cases e⟩
    · have hd : ((es.length : Int) != (width : Int)) = true := by simp; omega
      go_wp2_with fail
      refine (Wrong_any _ _ _ _).mono ?_
      rintro e w' ⟨rfl, rfl⟩
      go_wp2
      go_ret2
      refine ⟨((unhide HOLD2).alloc (by omega) _).alloc (by simp; omega) _, fun b o e => heap_prev (heap_prev ((unhide HKF) b o e)), fun _ h => absurd h hw, fun _ _ => ⟨_, rfl, _, rfl, ?_, heap_last (by simp)⟩, fun p k e => by cases e⟩
      show w0.heap.size ≤ w2.heap.size + 1
      omega
  | some pk =>
    obtain ⟨p, k⟩ := pk
    obtain ⟨b9, rfl, hb9⟩ := hft.st.err
    simp only [Option.isNone_some, Bool.false_eq_true, if_false] at he
    subst he
    have HB9 := hide (hft.st.grow.fits _ _ hb9)
    clear hft hle hxp hold2 hb9 hleF
    go_wp2
    go_ret2
    refine ⟨unhide HOLD2, unhide HKF, (fun e => by cases e), (fun e => by cases e), fun p' k' e => ?_⟩
    cases e
    exact ⟨_, rfl, b9, rfl, (unhide HB9).1, (unhide HB9).2⟩
end Go.Proofs.YtfkeddkfegaeiaaGreatDoor
