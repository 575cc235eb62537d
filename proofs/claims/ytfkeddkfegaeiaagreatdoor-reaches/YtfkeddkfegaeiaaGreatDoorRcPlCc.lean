/-
  Part 32.
-/
import Derived.Test.YtfkeddkfegaeiaaGreatDoorRcPlU
import Derived.Test.YtfkeddkfegaeiaaGreatDoorRcSrt
import Derived.Lib.Walk
import Derived.Lib.SliceRun
namespace Go.Proofs.YtfkeddkfegaeiaaGreatDoor
open Go.RowKit Go.Lib
/-- this row is not the one ahead of it. -/
def keepB (l : List (List Int)) (i : Nat) : Bool := i == 0 || !(decide (l[i]? = l[i - 1]?))
def compN (l : List (List Int)) (n : Nat) : List (List Int) := ((List.range n).filter (keepB l)).map fun i => l.getD i []
/-- rows side by side that are alike are one. -/
def compL (l : List (List Int)) : List (List Int) := compN l l.length
theorem compN_succ (l : List (List Int)) (n : Nat) : compN l (n + 1) = compN l n ++ (if keepB l n = true then [l.getD n []] else []) := by
  unfold compN
  rw [List.range_succ, List.filter_append, List.map_append]
  congr 1
  simp only [List.filter_cons, List.filter_nil]
  split <;> rfl
theorem compN_len (l : List (List Int)) (n : Nat) : (compN l n).length ≤ n := by
  unfold compN
  rw [List.length_map]
  refine Nat.le_trans (List.length_filter_le _ _) (by simp)
/-- the first n rows are done: what was kept stands ahead of k, the rest is as it was. -/
def CInv (w : World) (g : Nat) (t : TypeId) (cur : Array Value) (l : List (List Int)) (n k : Nat) (W : World) : Prop := Kp g w W ∧ (compN l n).length = k ∧ ∃ cur' : Array Value, W.heap[g]? = some (.cells cur' t (0, 0)) ∧ cur'.size = cur.size ∧ (∀ (i : Nat) zs, (compN l n)[i]? = some zs → ∃ v, cur'[i]? = some v ∧ OffAt g w v zs) ∧ ∀ i, k ≤ i → cur'[i]? = cur[i]?
theorem compN_all {l : List (List Int)} : ∀ {k : Nat}, k ≤ l.length → (∀ j, j < k → keepB l j = true) → compN l k = l.take k
  | 0, _, _ => by simp [compN]
  | k + 1, hk, h => by
    rw [compN_succ, compN_all (by omega) (fun j hj => h j (by omega)), if_pos (h k (by omega)), List.take_add_one, List.getElem?_eq_getElem (by omega)]
    simp [List.getD_eq_getElem?_getD, List.getElem?_eq_getElem (show k < l.length by omega)]
theorem sets_low {g : Nat} {t : TypeId} : ∀ (vs : List Value) (o : Nat) (W : World) (cur : Array Value), W.heap[g]? = some (.cells cur t (0, 0)) → ∃ cur', (W.setCells g o vs).heap[g]? = some (.cells cur' t (0, 0)) ∧ cur'.size = cur.size ∧ (∀ i, i < o → cur'[i]? = cur[i]?) ∧ Kp g W (W.setCells g o vs)
  | [], _, W, cur, h => ⟨cur, h, rfl, fun _ _ => rfl, Kp.refl _ _⟩
  | v :: vs, o, W, cur, h => by
    obtain ⟨cur', h1, h2, h3, h4⟩ := sets_low vs (o + 1) (W.setCell ⟨g, o, none⟩ v) _ (heap_set h v)
    refine ⟨cur', h1, by simpa using h2, fun i hi => ?_, (Kp.setCell (Kp.refl g W) o v).trans h4⟩
    rw [h3 i (by omega), Array.getElem?_setIfInBounds_ne (by omega)]
theorem CInv.start {w : World} {g : Nat} {t : TypeId} {cur : Array Value} {l : List (List Int)} {k : Nat} {W : World} (hb : w.heap[g]? = some (.cells cur t (0, 0))) (hr : ∀ (i : Nat) zs, l[i]? = some zs → ∃ v, cur[i]? = some v ∧ OffAt g w v zs) (hW : Below w.heap.size w W) (hk : k < l.length) (ha : ∀ j, j < k → keepB l j = true) (hn : keepB l k = false) : CInv w g t cur l (k + 1) k W := by
  have e : compN l (k + 1) = l.take k := by rw [compN_succ, compN_all (by omega) ha, hn]; simp
  refine ⟨Kp.ofBelow hW, by rw [e, List.length_take]; omega, cur, (hW.block g (lt_of_heap hb)).trans hb, rfl, fun i zs h => ?_, fun _ _ => rfl⟩
  rw [e] at h
  have hi : i < k := by
    have := (List.getElem?_eq_some_iff.1 h).1
    rw [List.length_take] at this
    omega
  rw [List.getElem?_take_of_lt hi] at h
  exact hr i zs h
theorem CInv.drop {w : World} {g : Nat} {t : TypeId} {cur : Array Value} {l : List (List Int)} {n k : Nat} {W W' : World} (h : CInv w g t cur l n k W) (hW : Below W.heap.size W W') (hn : keepB l n = false) : CInv w g t cur l (n + 1) k W' := by
  obtain ⟨h1, h2, cur', h3, h4, h5, h6⟩ := h
  have e : compN l (n + 1) = compN l n := by rw [compN_succ, hn]; simp
  refine ⟨h1.trans (Kp.ofBelow hW), by rw [e]; exact h2, cur', (hW.block g (lt_of_heap h3)).trans h3, h4, fun i zs h => h5 i zs (by rw [← e]; exact h), h6⟩
theorem CInv.put {w : World} {g : Nat} {t : TypeId} {cur : Array Value} {l : List (List Int)} {n k : Nat} {W W' : World} (h : CInv w g t cur l n k W) (hW : Below W.heap.size W W') (hn : keepB l n = true) (hk : k < cur.size) {u : Value} {x : List Int} (hx : l[n]? = some x) (hu : OffAt g w u x) : CInv w g t cur l (n + 1) (k + 1) (W'.setCell ⟨g, k, none⟩ u) := by
  obtain ⟨h1, h2, cur', h3, h4, h5, h6⟩ := h
  have e : compN l (n + 1) = compN l n ++ [x] := by rw [compN_succ, hn, if_pos rfl, List.getD_eq_getElem?_getD, hx]; rfl
  refine ⟨(h1.trans (Kp.ofBelow hW)).setCell _ _, by rw [e, List.length_append, h2]; rfl, _, heap_set ((hW.block g (lt_of_heap h3)).trans h3) u, by simpa using h4, fun i zs h => ?_, fun i hi => ?_⟩
  · rw [e] at h
    by_cases hi : i < k
    · rw [List.getElem?_append_left (by omega)] at h
      rw [Array.getElem?_setIfInBounds_ne (by omega)]
      exact h5 i zs h
    · have hi2 := (List.getElem?_eq_some_iff.1 h).1
      rw [List.length_append, h2, List.length_singleton] at hi2
      obtain rfl : i = k := by omega
      rw [List.getElem?_append_right (by omega), h2, Nat.sub_self] at h
      simp only [List.getElem?_cons_zero, Option.some.injEq] at h
      subst h
      exact ⟨u, by rw [Array.getElem?_setIfInBounds_self_of_lt (by omega)], hu⟩
  · rw [Array.getElem?_setIfInBounds_ne (by omega)]
    exact h6 i (by omega)
theorem CInv.done {w : World} {g : Nat} {t : TypeId} {cur : Array Value} {l : List (List Int)} {k : Nat} {W : World} (h : CInv w g t cur l l.length k W) (vs : List Value) (hl : l.length ≤ cur.size) : Kp g w (W.setCells g k vs) ∧ RowsB (W.setCells g k vs) g t cur.size (compL l) ∧ (compL l).length = k := by
  obtain ⟨h1, h2, cur', h3, h4, h5, h6⟩ := h
  obtain ⟨c2, g1, g2, g3, g4⟩ := sets_low vs k W cur' h3
  have hkp := h1.trans g4
  refine ⟨hkp, ⟨c2, g1, g2.trans h4, Nat.le_trans (compN_len _ _) hl, fun i zs h => ?_⟩, h2⟩
  obtain ⟨v, hv, ho⟩ := h5 i zs h
  have hi := (List.getElem?_eq_some_iff.1 h).1
  exact ⟨v, (g3 i (by unfold compL at hi; omega)).trans hv, ho.keep hkp.size hkp.block⟩
theorem sliceInts : Tryz.prog.underlying 42 = some (.slice 32) := by kernel_rfl
set_option maxRecDepth 100000 in
set_option maxHeartbeats 2000000 in
theorem compact_any (w : World) (g cap c9 : Nat) (t : TypeId) (l : List (List Int)) (h : RowsB w g t cap l) (hlen : l.length ≤ 1000000) (hc9 : l.length ≤ c9) :
    Calls Tryz.prog 251 #[.slice (some ⟨g, 0, none⟩) l.length c9, .func (.func 252) #[] #[]] w fun e w' => e = .returned (.slice (some ⟨g, 0, none⟩) (compL l).length c9) ∧ Kp g w w' ∧ RowsB w' g t cap (compL l) := by
  have H := hide h
  clear h
  by_cases h2 : l.length < 2
  · have hd : decide ((l.length : Int) < 2) = true := by simp; omega
    have HE : Hid (compL l = l) := by
      show compL l = l
      match l, h2 with
      | [], _ => rfl
      | [x], _ => rfl
    go_enter Tryz.func251, Tryz.ntmps251
    go_wp2
    go_ret
    rw [unhide HE]
    exact ⟨rfl, Kp.refl _ _, unhide H⟩
  · have hd : decide ((l.length : Int) < 2) = false := by simp; omega
    go_enter Tryz.func251, Tryz.ntmps251
    go_wp2_with fail
    clear hd
    obtain ⟨cur, hb, hcs, hlc, hr⟩ := unhide H
    have HB := hide hb
    have HR := hide hr
    have zg := lt_of_heap hb
    clear hb hr H
    go_loopg [5] l.length (fun f s5 W => ∃ k : Nat, 1 ≤ k ∧ k ≤ l.length ∧ l.length - k ≤ f ∧ s5 = .int .i64 (k : Nat) ∧ Below w.heap.size w W ∧ ∀ j, j < k → keepB l j = true)
    case atStart => 
      refine ⟨1, Nat.le_refl _, by omega, by omega, rfl, Below.refl _ _, fun j hj => ?_⟩
      obtain rfl : j = 0 := by omega
      rfl
    case round =>
      obtain ⟨k, hk1, hk, hf, rfl, hbw, hall⟩ := hrel
      have HBW := hide hbw
      have HALL := hide hall
      clear hbw hall
      by_cases hlt : k < l.length
      · obtain ⟨u, hu, hou⟩ := (unhide HR) k _ (List.getElem?_eq_getElem hlt)
        obtain ⟨v, hv, hov⟩ := (unhide HR) (k - 1) _ (List.getElem?_eq_getElem (show k - 1 < l.length by omega))
        obtain ⟨kb, -⟩ := blk (((unhide HBW).block g zg).trans (unhide HB))
        have c1 : wr.cell? ⟨g, k, none⟩ = some u := (kb k).trans hu
        have c0 : wr.cell? ⟨g, k - 1, none⟩ = some v := (kb (k - 1)).trans hv
        have HU := hide (hou.row.keep (unhide HBW))
        have HV := hide (hov.row.keep (unhide HBW))
        have HKB : Hid (keepB l k = !decide (l[k] = l[k - 1])) := by
          show keepB l k = _
          unfold keepB
          rw [List.getElem?_eq_getElem hlt, List.getElem?_eq_getElem (show k - 1 < l.length by omega)]
          have : k ≠ 0 := by omega
          simp [this]
        clear kb hu hv hou hov
        generalize l[k] = x at *
        generalize l[k - 1] = y at *
        have hi1 : (0 : Int) ≤ (k : Int) := by omega
        have hi2 : (k : Int) < (l.length : Int) := by omega
        have hd : decide ((k : Int) < (l.length : Int)) = true := by simp; omega
        have hs1 : IntKind.i64.wrap ((k : Int) - 1) = ((k - 1 : Nat) : Int) := by unfold IntKind.wrap; simp [IntKind.bits, IntKind.signed]; omega
        have hs2 : (0 : Int) ≤ ((k - 1 : Nat) : Int) := by omega
        have hs3 : ((k - 1 : Nat) : Int) < (l.length : Int) := by omega
        have zg2 : g < wr.heap.size := Nat.lt_of_lt_of_le zg (unhide HBW).size
        obtain ⟨adu, cpu, rfl, -, -⟩ := unhide HU
        obtain ⟨adv, cpv, rfl, -, -⟩ := unhide HV
        rw [List.length_map] at HU HV c1 c0
        go_wp2_with fail
        go_region_held3 (fun w' => w'.cell? ⟨g, k, none⟩ = some (.slice adu x.length cpu) ∧ w'.cell? ⟨g, k - 1, none⟩ = some (.slice adv y.length cpv)) (go_keep) (first
          | (go_at_call 252; refine (sEqual_any _ _ x y _ (by exact (unhide HU).keep (Below.refl _ _).drew) (by exact (unhide HV).keep (Below.refl _ _).drew)).mono ?_; rintro e w2 ⟨rfl, hb2⟩; have j1 := (hb2.cell (p := ⟨g, k, none⟩) zg2).trans c1; have j2 := (hb2.cell (p := ⟨g, k - 1, none⟩) zg2).trans c0; have HB2 : Hid (Below w.heap.size w w2) := (unhide HBW).drew.trans (hb2.mono (unhide HBW).size); clear hb2))
        clear hs1 hs2 hs3 c1 c0 HU HV hi1 hi2 j1 j2
        by_cases hxy : x = y
        · have hdd : decide (x = y) = true := by simpa using hxy
          have HN : Hid (keepB l k = false) := by
            show keepB l k = false
            rw [unhide HKB, hdd]
            rfl
          have HST : Hid (CInv w g t cur l (k + 1) k w2) := CInv.start (unhide HB) (unhide HR) (unhide HB2) hlt (unhide HALL) (unhide HN)
          clear hxy HKB HN HALL HBW HB2 zg2
          generalize decide (x = y) = bb at *
          subst hdd
          go_wp2_with fail
          go_loopg [5, 7] l.length (fun f s5 s7 W => ∃ kk k2 : Nat, 1 ≤ k2 ∧ k + k2 ≤ l.length ∧ kk < k + k2 ∧ l.length - (k + k2) ≤ f ∧ s5 = .int .i64 (kk : Nat) ∧ s7 = .int .i64 (k2 : Nat) ∧ CInv w g t cur l (k + k2) kk W)
          case atStart => exact ⟨k, 1, Nat.le_refl _, by omega, by omega, by omega, rfl, rfl, unhide HST⟩
          case round =>
            clear HST
            obtain ⟨kk, k2, h1, h3, h4, hf2, rfl, rfl, hI⟩ := hrel
            have HI := hide hI
            obtain ⟨hkp, hkl, cur', hbl, hsz, -, hhi⟩ := hI
            have zg3 := lt_of_heap hbl
            obtain ⟨kb, fb⟩ := blk hbl
            by_cases hlt2 : k2 < l.length - k
            · have hlt3 : k + k2 < l.length := by omega
              obtain ⟨u, hu, hou⟩ := (unhide HR) (k + k2) _ (List.getElem?_eq_getElem hlt3)
              obtain ⟨v, hv, hov⟩ := (unhide HR) (k + k2 - 1) _ (List.getElem?_eq_getElem (show k + k2 - 1 < l.length by omega))
              have c1 : wr.cell? ⟨g, k + k2, none⟩ = some u := (kb _).trans ((hhi _ (by omega)).trans hu)
              have c0 : wr.cell? ⟨g, k + (k2 - 1), none⟩ = some v := by
                rw [show k + (k2 - 1) = k + k2 - 1 by omega]
                exact (kb _).trans ((hhi _ (by omega)).trans hv)
              obtain ⟨old, ck⟩ : ∃ old, wr.cell? ⟨g, kk, none⟩ = some old := ⟨_, (kb kk).trans (Array.getElem?_eq_getElem (by omega))⟩
              have fk : wr.frozen? ⟨g, kk, none⟩ = false := fb kk
              have HU := hide (hou.keep hkp.size hkp.block).row
              have HV := hide (hov.keep hkp.size hkp.block).row
              have HOU := hide hou
              have HXX := hide (List.getElem?_eq_getElem hlt3)
              have HKB : Hid (keepB l (k + k2) = !decide (l[k + k2] = l[k + k2 - 1])) := by
                show keepB l (k + k2) = _
                unfold keepB
                rw [List.getElem?_eq_getElem hlt3, List.getElem?_eq_getElem (show k + k2 - 1 < l.length by omega)]
                rw [show (k + k2 == 0) = false by rw [beq_eq_false_iff_ne]; omega]
                simp
              have hkc : kk < cur.size := by omega
              clear kb fb hu hv hou hov hhi hbl hkp hsz
              generalize l[k + k2] = x' at *
              generalize l[k + k2 - 1] = y' at *
              have hi1 : (0 : Int) ≤ (k2 : Int) := by omega
              have hi2 : (k2 : Int) < ((l.length - k : Nat) : Int) := by omega
              have hd2 : decide ((k2 : Int) < ((l.length - k : Nat) : Int)) = true := by simp; omega
              have hs1 : IntKind.i64.wrap ((k2 : Int) - 1) = ((k2 - 1 : Nat) : Int) := by unfold IntKind.wrap; simp [IntKind.bits, IntKind.signed]; omega
              have hs2 : (0 : Int) ≤ ((k2 - 1 : Nat) : Int) := by omega
              have hs3 : ((k2 - 1 : Nat) : Int) < ((l.length - k : Nat) : Int) := by omega
              obtain ⟨adu', cpu', rfl, -, -⟩ := unhide HU
              obtain ⟨adv', cpv', rfl, -, -⟩ := unhide HV
              rw [List.length_map] at HU HV HOU c1 c0
              have hj1 : (0 : Int) ≤ (kk : Int) := by omega
              have hj2 : (kk : Int) < (l.length : Int) := by omega
              go_wp2_with fail
              go_region_held3 (fun w' => w'.cell? ⟨g, k + k2, none⟩ = some (.slice adu' x'.length cpu') ∧ w'.cell? ⟨g, k + (k2 - 1), none⟩ = some (.slice adv' y'.length cpv') ∧ w'.cell? ⟨g, kk, none⟩ = some old) (go_keep) (first
                | (go_at_call 252; refine (sEqual_any _ _ x' y' _ (by exact (unhide HU).keep (Below.refl _ _).drew) (by exact (unhide HV).keep (Below.refl _ _).drew)).mono ?_; rintro e w3 ⟨rfl, hb2⟩; have j1 := (hb2.cell (p := ⟨g, k + k2, none⟩) zg3).trans c1; have j2 := (hb2.cell (p := ⟨g, k + (k2 - 1), none⟩) zg3).trans c0; have j3 := (hb2.cell (p := ⟨g, kk, none⟩) zg3).trans ck; have j4 : w3.frozen? ⟨g, kk, none⟩ = false := (by rw [hb2.frozen (p := ⟨g, kk, none⟩) zg3]; exact fk); have HB3 : Hid (Below wr.heap.size wr w3) := (Below.refl _ _).drew.trans hb2; clear hb2))
              clear hs1 hs2 hs3 c1 c0 ck fk HU HV
              by_cases hxy : x' = y'
              · have hdd : decide (x' = y') = true := by simpa using hxy
                have HN : Hid (keepB l (k + k2) = false) := by
                  show keepB l (k + k2) = false
                  rw [unhide HKB, hdd]
                  rfl
                clear hxy HKB
                generalize decide (x' = y') = bb at *
                subst hdd
                go_wp2
                go_roundg (l.length - (k + (k2 + 1)))
                case measure => omega
                case rel => exact ⟨kk, k2 + 1, by omega, by omega, by omega, Nat.le_refl _, rfl, by go_num, (unhide HI).drop (unhide HB3) (unhide HN)⟩
              · have hdd : decide (x' = y') = false := by simpa using hxy
                have HN : Hid (keepB l (k + k2) = true) := by
                  show keepB l (k + k2) = true
                  rw [unhide HKB, hdd]
                  rfl
                clear hxy HKB
                generalize decide (x' = y') = bb at *
                subst hdd
                go_wp2
                go_roundg (l.length - (k + (k2 + 1)))
                case measure => omega
                case rel => exact ⟨kk + 1, k2 + 1, by omega, by omega, by omega, Nat.le_refl _, by go_num, by go_num, (unhide HI).put (unhide HB3) (unhide HN) hkc (unhide HXX) (unhide HOU)⟩
            · obtain rfl : k2 = l.length - k := by omega
              have hend : k + (l.length - k) = l.length := by omega
              have hd2 : decide (((l.length - k : Nat) : Int) < ((l.length - k : Nat) : Int)) = false := by simp
              have hj1 : (0 : Int) ≤ (kk : Int) := by omega
              have hj2 : (kk : Int) ≤ (l.length : Int) := by omega
              have hcl : ∀ ty, (Builtin.clear_ #[42] ty #[.slice (some ⟨g, kk, none⟩) (l.length - kk) (c9 - kk)]).run Tryz.prog wr = .ok (.tuple #[]) (wr.setCells g kk (List.replicate (l.length - kk) (.slice none 0 0))) :=
                fun ty => Lib.run_clear_slice wr _ _ ty _ sliceInts (fun w => by kernel_rfl) rfl rfl g kk _ _ (by omega) (fun j hj => by rw [kb]; rw [Array.getElem?_eq_getElem (by omega)]; rfl) (fun j hj => fb _)
              rw [hend] at HI
              clear kb fb hhi hbl hkp hsz hkl
              go_wp2
              go_ret
              obtain ⟨q1, q2, q3⟩ := (unhide HI).done (List.replicate (l.length - kk) (.slice none 0 0)) (by omega)
              rw [hcs] at q2
              exact ⟨by rw [q3]; rfl, q1, q2⟩
        · have hdd : decide (x = y) = false := by simpa using hxy
          have HN : Hid (keepB l k = true) := by
            show keepB l k = true
            rw [unhide HKB, hdd]
            rfl
          clear hxy HKB HBW zg2
          generalize decide (x = y) = bb at *
          subst hdd
          go_wp2
          go_roundg (l.length - (k + 1))
          case measure => omega
          case rel =>
            refine ⟨k + 1, by omega, by omega, Nat.le_refl _, by go_num, unhide HB2, fun j hj => ?_⟩
            by_cases e : j = k
            · subst e
              exact unhide HN
            · exact (unhide HALL) j (by omega)
      · have hd : decide ((k : Int) < (l.length : Int)) = false := by simp; omega
        have HE : Hid (compL l = l) := by
          show compN l l.length = l
          rw [compN_all (Nat.le_refl _) (fun j hj => (unhide HALL) j (by omega)), List.take_length]
        go_wp2
        go_ret
        rw [unhide HE]
        exact ⟨rfl, Kp.ofBelow (unhide HBW), cur, ((unhide HBW).block g zg).trans (unhide HB), hcs, hlc, fun i zs e => by
          obtain ⟨v, hv, ho⟩ := (unhide HR) i zs e
          exact ⟨v, hv, ho.keep (unhide HBW).size (fun k hk _ => (unhide HBW).block k hk)⟩⟩
end Go.Proofs.YtfkeddkfegaeiaaGreatDoor
namespace Go.Proofs.YtfkeddkfegaeiaaGreatDoor
open Go.RowKit
/-- the name that a column gets. -/
def nameC (s : ByteArray) : ByteArray := if s.toList.isEmpty then ⟨#[95]⟩ else s
def namesV (es : List (ItemA × Value × Option Addr)) : List Value := es.map fun e => .string (nameC e.1.asT)
set_option maxRecDepth 100000 in
set_option maxHeartbeats 2000000 in
theorem columns_any (w : World) (b lo : Nat) (pl : Int) (vi vs vt : Value) (hb : w.heap[b]? = some (.cells #[.int .i64 pl, vi, vs, vt] 256 (0, 0)))
    (es : List (ItemA × Value × Option Addr)) (hi : w.ownsRow lo 251 5 vi es.length (itCells es)) (hi0 : 0 < es.length) (hi6 : es.length ≤ 6) (hone : ∀ e ∈ es, IsI e.2.1) :
    Calls Tryz.prog 84 #[.pointer (some ⟨b, 0, none⟩)] w fun e w' => ∃ g, e = .returned (.slice (some ⟨g, 0, none⟩) es.length es.length) ∧ Below w.heap.size w w' ∧ w.heap.size ≤ g ∧ w'.heap[g]? = some (.cells (namesV es).toArray 9 (0, 0)) := by
  obtain ⟨i0, hi9, hinf⟩ := Option.map_eq_some_iff.1 infoStr
  simp only [Prod.mk.injEq] at hinf
  obtain ⟨hz0, hz1, hz2⟩ := hinf
  have HI0 := hide hi9
  have HZ0 := hide hz0
  have HZ1 := hide hz1
  have HZ2 := hide hz2
  clear hi9 hz0 hz1 hz2
  obtain ⟨gi, ci, rfl, _, zi⟩ := hi.form hi0
  have HI := hide hi
  have HONE := hide hone
  clear hone
  have HB := hide hb
  have zb := lt_of_heap hb
  obtain ⟨kb, fb⟩ := blk hb
  have k1 : w.cell? ⟨b, 1, none⟩ = some (.slice (some ⟨gi, 0, none⟩) es.length ci) := kb 1
  clear hi hb kb
  go_enter Tryz.func84, Tryz.ntmps84
  go_wp2_with (at_make; refine wpList_make_full _ rfl _ _ 39 rfl w.heap.size 9 i0 (.string ⟨#[]⟩) 1 Tryz.underlying39 (unhide HI0) (unhide HZ0) (unhide HZ1) .i64 .i64 _ _ es.length rfl rfl ?c1 ?c2 ?c3 ?c4 ?c5 ?_)
  case c1 => simp
  case c2 => simp
  case c3 => rw [unhide HZ2]; omega
  case c4 => unfold maxLen; omega
  case c5 => exact Nat.le_refl _
  intro w1 ho hg
  rcases ho.2 with ⟨hv, _⟩ | ⟨g, cap, cur, hv, hge, hh, c1, c2, c3, c4⟩
  · cases hv
  injection hv with hv1 hv2 hv3
  injection hv1 with hv1
  injection hv1 with hv1
  subst hv1
  have hcl : cur.toList.length = es.length := by rw [Array.length_toList, c3]; omega
  have HH1 : Hid (w1.heap[w.heap.size]? = some (.cells cur.toList.toArray 9 (0, 0))) := by unfold Hid; rw [hh]
  have HB1 : Hid (Below w.heap.size w w1) := (Below.refl _ _).grown hg (Nat.le_refl _) (fun k e => by cases e)
  clear ho hg hh c1 c2 c3 c4 hv2 hv3 hge k1 fb
  generalize cur.toList = L at *
  have HCL := hide hcl
  clear hcl
  have hbW := ((unhide HB1).block b zb).trans (unhide HB)
  have zbW := lt_of_heap hbW
  obtain ⟨kb, fb⟩ := blk hbW
  have k1 : w1.cell? ⟨b, 1, none⟩ = some (.slice (some ⟨gi, 0, none⟩) es.length ci) := kb 1
  clear hbW kb
  go_wp2_with fail
  clear k1 zbW fb
  go_loopg [5, 17] es.length (fun f _ i W => ∃ pre suf T, es = pre ++ suf ∧ f = suf.length ∧ T.length = suf.length ∧ i = .int .i64 (pre.length : Nat) ∧ W.heap[w.heap.size]? = some (.cells (namesV pre ++ T).toArray 9 (0, 0)) ∧ Below w.heap.size w W)
  case atStart => exact ⟨[], es, L, rfl, rfl, unhide HCL, rfl, unhide HH1, unhide HB1⟩
  case round =>
    obtain ⟨pre, suf, T, h1, rfl, hT, rfl, hh, hbw⟩ := hrel
    have l1 : pre.length + suf.length = es.length := by rw [h1, List.length_append]
    have HZ := hide h1
    have HHW := hide hh
    have HBW := hide hbw
    have zw := lt_of_heap hh
    obtain ⟨kc, kf⟩ := blk hh
    clear h1 hh hbw
    cases suf with
    | nil =>
      have hlt : decide (pre.length < es.length) = false := by simp at l1 ⊢; omega
      obtain rfl : pre = es := by rw [unhide HZ, List.append_nil]
      obtain rfl : T = [] := List.eq_nil_of_length_eq_zero hT
      clear kc
      go_wp2
      go_ret
      refine ⟨w.heap.size, rfl, unhide HBW, Nat.le_refl _, ?_⟩
      have := unhide HHW
      rw [List.append_nil] at this
      exact this
    | cons y suf =>
      rw [List.length_cons] at l1
      cases T with
      | nil => cases hT
      | cons t T =>
      have hlt : decide (pre.length < es.length) = true := by simp; omega
      have HZ2 : Hid (es = (pre ++ [y]) ++ suf) := by unfold Hid; rw [unhide HZ]; simp
      have HC : Hid (∀ j, j < 5 → wr.cell? ⟨gi, pre.length * 5 + j, none⟩ = [Value.int .i64 y.1.place, y.2.1, .pointer y.2.2, .int .i64 y.1.asP, .string y.1.asT][j]?) := fun j hj => by
        rw [(unhide HBW).cell (p := ⟨gi, pre.length * 5 + j, none⟩) zi, (unhide HI).cellAt _ (by omega), unhide HZ, itCells_at pre suf y j hj]
      have hiy := (unhide HONE) y (by rw [unhide HZ]; simp)
      obtain ⟨x, v, wa⟩ := y
      have k0 : wr.cell? ⟨gi, pre.length * 5, none⟩ = some (.int .i64 x.place) := (unhide HC) 0 (by omega)
      have k1 : wr.cell? ⟨gi, pre.length * 5 + 1, none⟩ = some v := (unhide HC) 1 (by omega)
      have k2 : wr.cell? ⟨gi, pre.length * 5 + 2, none⟩ = some (.pointer wa) := (unhide HC) 2 (by omega)
      have k3 : wr.cell? ⟨gi, pre.length * 5 + 3, none⟩ = some (.int .i64 x.asP) := (unhide HC) 3 (by omega)
      have k4 : wr.cell? ⟨gi, pre.length * 5 + 4, none⟩ = some (.string x.asT) := (unhide HC) 4 (by omega)
      have hal : (namesV pre).length = pre.length := by simp [namesV]
      have kt : wr.cell? ⟨w.heap.size, pre.length, none⟩ = some t := by
        rw [kc, ← hal]
        simp
      have hT2 : T.length = suf.length := by simpa using hT
      have zgi : gi < wr.heap.size := Nat.lt_of_lt_of_le zi (unhide HBW).size
      have HNX : Hid (∀ u, (namesV pre ++ t :: T).toArray.setIfInBounds pre.length u = (namesV pre ++ u :: T).toArray) := fun u => by
        rw [← hal, List.setIfInBounds_toArray, List.set_append_right _ _ (Nat.le_refl _), Nat.sub_self, List.set_cons_zero]
      have HNY : Hid (∀ u u', (namesV pre ++ u' :: T).toArray.setIfInBounds pre.length u = (namesV pre ++ u :: T).toArray) := fun u u' => by
        rw [← hal, List.setIfInBounds_toArray, List.set_append_right _ _ (Nat.le_refl _), Nat.sub_self, List.set_cons_zero]
      have HNZ : Hid (∀ z : Value, namesV (pre ++ [(x, z, wa)]) ++ T = namesV pre ++ .string (nameC x.asT) :: T) := fun z => by simp [namesV]
      clear HC kc hal hT
      rcases hiy with rfl | ⟨ui, vi, rfl⟩
      all_goals (
        cases he : x.asT.toList.isEmpty
        · have HN : Hid (nameC x.asT = x.asT) := by unfold Hid nameC; rw [he]; rfl
          go_wp2_with fail
          go_roundg suf.length
          case measure => simp
          case rel =>
            refine ⟨pre ++ [(x, _, wa)], suf, T, unhide HZ2, rfl, hT2, ?_, ?_, ?_⟩
            · rw [List.length_append]; go_num
            · rw [Below.heap_alloc _ _ _ (by simpa using zw), heap_set (unhide HHW), unhide HNX, unhide HNZ, unhide HN]
            · exact ((unhide HBW).setCell (by exact Nat.le_refl _) _).alloc (by simpa using Nat.le_of_lt zw) _
        · have HN : Hid (nameC x.asT = ⟨#[95]⟩) := by unfold Hid nameC; rw [he]; rfl
          go_wp2_with fail
          go_roundg suf.length
          case measure => simp
          case rel =>
            refine ⟨pre ++ [(x, _, wa)], suf, T, unhide HZ2, rfl, hT2, ?_, ?_, ?_⟩
            · rw [List.length_append]; go_num
            · rw [Below.heap_alloc _ _ _ (by simpa using zw), heap_set (heap_set (unhide HHW) _), unhide HNX, unhide HNY, unhide HNZ, unhide HN]
            · exact (((unhide HBW).setCell (by exact Nat.le_refl _) _).setCell (by exact Nat.le_refl _) _).alloc (by simpa using Nat.le_of_lt zw) _)
end Go.Proofs.YtfkeddkfegaeiaaGreatDoor
