/-
  Part 36.
-/
import Derived.Test.YtfkeddkfegaeiaaGreatDoorMNwD
namespace Go.Proofs.YtfkeddkfegaeiaaGreatDoor
open Go.RowKit

theorem place_lt {pre suf : List ByteArray} {c : ByteArray} : decide (Lib.idxOfS (pre ++ c :: suf) c < (pre.length : Int)) = Lib.containsS pre c := by
  cases h : Lib.containsS pre c with
  | true =>
    rw [decide_eq_true_eq]
    rw [Lib.containsS_iff] at h
    have aux : ∀ (p : List ByteArray) (i : Nat), c ∈ p → Lib.idxFromS (p ++ c :: suf) c i < ((i + p.length : Nat) : Int) := by
      intro p
      induction p with
      | nil => intro i hm; cases hm
      | cons a r ih =>
        intro i hm
        rw [List.cons_append, Lib.idxFromS]
        split
        · simp; omega
        · rename_i hne
          rcases List.mem_cons.1 hm with e | e
          · exact absurd e.symm hne
          · have := ih (i + 1) e
            simp only [List.length_cons]
            omega
    have := aux pre 0 h
    unfold Lib.idxOfS
    rw [Nat.zero_add] at this
    exact this
  | false =>
    rw [decide_eq_false_iff_not]
    have hn : ¬ c ∈ pre := fun hm => by rw [(Lib.containsS_iff _ _).2 hm] at h; cases h
    unfold Lib.idxOfS
    rw [idx_skip hn, Lib.idxFromS, if_pos rfl]
    simp

set_option maxRecDepth 100000 in
set_option maxHeartbeats 4000000 in
theorem rtable_any (t : Tb) (cv rv lv : Value) (ahead : List Tb) (w : World) (hc : RowAt w cv (textsV t.cols)) (hr : RowsAt w rv t.rows) (hl : TabsAt w lv ahead) :
    Calls Tryz.prog 75 #[.agg #[.string t.name, cv, rv], lv] w fun e w' => e = .returned (.int .i64 (p6 t ahead)) ∧ Below w.heap.size w w' := by
  have HC := hide hc
  have HR := hide hr
  have HL := hide hl
  obtain ⟨adc, capc, rfl, mc, cc⟩ := hc
  obtain ⟨vs, ⟨adr, capr, rfl, mr, cr⟩, lr, rr⟩ := hr
  obtain ⟨adl, capl, rfl, ml, _, cl⟩ := hl
  rw [List.length_map] at mc cc
  simp only [List.length_map]
  rw [lr] at mr cr
  rw [lr]
  unfold maxLen at mc mr ml
  have HCC := hide cc
  have HCR := hide cr
  have HCL := hide cl
  have HRR := hide rr
  clear cc cr cl rr
  go_enter Tryz.func75, Tryz.ntmps75
  go_wp2_with fail
  refine (risName_any t.name _).mono ?_
  rintro e w1 ⟨rfl, hb1⟩
  have HB1 : Hid (Below w.heap.size w w1) := ((Below.refl _ _).alloc (Nat.le_refl _) _).trans (hb1.mono (by simp))
  have HX1 : Hid (w1.heap[w.heap.size]? = some (.cells #[.string t.name, .slice adc t.cols.length capc, .slice adr t.rows.length capr] 204 (0, 0))) := by
    unfold Hid
    rw [hb1.block _ (by simp)]
    exact heap_last rfl
  have kx1 := (blk (unhide HX1)).1
  have zx1 := lt_of_heap (unhide HX1)
  clear hb1
  cases hn : nameB t.name.data.toList with
  | false =>
    have HN := hide hn
    go_wp2
    go_ret
    refine ⟨?_, unhide HB1⟩
    have e : p6 t ahead = 4 := by unfold p6; rw [unhide HN]; rfl
    rw [e]
    rfl
  | true =>
    have HN := hide hn
    clear hn
    go_wp2_with fail
    clear kx1 zx1
    go_loopg [5, 6] t.cols.length (fun f nm i W => ∃ pre suf, t.cols = pre ++ suf ∧ f = suf.length ∧ nm = .bool true ∧ i = .int .i64 (pre.length : Nat) ∧ pre.any (fun c => !nameB c.data.toList) = false ∧ Below w.heap.size w W ∧ W.heap[w.heap.size]? = some (.cells #[.string t.name, .slice adc t.cols.length capc, .slice adr t.rows.length capr] 204 (0, 0)))
    case atStart => exact ⟨[], t.cols, rfl, rfl, rfl, rfl, rfl, unhide HB1, unhide HX1⟩
    case round =>
      clear HB1 HX1 w1
      obtain ⟨pre, suf, h1, rfl, rfl, rfl, hal, hbw, hxw⟩ := hrel
      have l1 : pre.length + suf.length = t.cols.length := by rw [h1, List.length_append]
      have HZ := hide h1
      have HAL := hide hal
      have HB := hide hbw
      have HX := hide hxw
      have kx := (blk (unhide HX)).1
      have zx := lt_of_heap (unhide HX)
      clear h1 hal hbw hxw
      cases suf with
      | cons c suf =>
        rw [List.length_cons] at l1
        have hlt : decide (pre.length < t.cols.length) = true := by simp; omega
        obtain ⟨b1, o1, rfl, z1, c1⟩ := (unhide HCC) (by omega)
        have k1 : wr.cell? ⟨b1, o1 + pre.length, none⟩ = some (.string c) := by
          rw [(unhide HB).cell (p := ⟨b1, o1 + pre.length, none⟩) z1, c1 _ (by omega), unhide HZ]
          simp
        have HZ2 : Hid (t.cols = (pre ++ [c]) ++ suf) := by unfold Hid; rw [unhide HZ]; simp
        clear c1
        go_wp2_with fail
        refine (risName_any c _).mono ?_
        rintro e w2 ⟨rfl, hb2⟩
        have HB2 : Hid (Below w.heap.size w w2) := (unhide HB).trans (hb2.mono (by have := (unhide HB).size; omega))
        have HX2 : Hid (w2.heap[w.heap.size]? = some (.cells #[.string t.name, .slice (some ⟨b1, o1, none⟩) t.cols.length capc, .slice adr t.rows.length capr] 204 (0, 0))) := by
          unfold Hid
          rw [hb2.block _ zx]
          exact unhide HX
        clear hb2 kx zx k1
        cases hnc : nameB c.data.toList with
        | false =>
          have HNC := hide hnc
          go_wp2
          go_ret
          refine ⟨?_, unhide HB2⟩
          have e : p6 t ahead = 4 := by
            unfold p6
            rw [unhide HZ, List.any_append, List.any_cons, unhide HNC]
            simp
          rw [e]
          rfl
        | true =>
          have HNC := hide hnc
          go_wp2
          go_roundg suf.length
          case measure => simp
          case rel =>
            refine ⟨pre ++ [c], suf, unhide HZ2, rfl, rfl, ?_, ?_, unhide HB2, unhide HX2⟩
            · rw [List.length_append]; go_num
            · rw [List.any_append, unhide HAL, List.any_cons, unhide HNC]; rfl
      | nil =>
        have hlt : decide (pre.length < t.cols.length) = false := by simp at l1 ⊢; omega
        have HAL2 : Hid (t.cols.any (fun c => !nameB c.data.toList) = false) := by unfold Hid; rw [unhide HZ, List.append_nil]; exact unhide HAL
        clear HZ HAL l1
        by_cases hbad : t.cols.length < 1 ∨ 6 < t.cols.length ∨ 200 < t.rows.length
        · have HE : Hid (p6 t ahead = 9) := by
            unfold Hid p6
            rw [unhide HN, unhide HAL2, if_neg (by simp), if_pos]
            simp only [Bool.or_eq_true, decide_eq_true_eq]
            omega
          by_cases d1 : t.cols.length < 1
          · have hd1 : decide ((t.cols.length : Int) < 1) = true := by simp; omega
            go_wp2
            go_ret
            exact ⟨by rw [unhide HE]; rfl, unhide HB⟩
          · have hd1 : decide ((t.cols.length : Int) < 1) = false := by simp; omega
            by_cases d2 : 6 < t.cols.length
            · have hd2 : decide ((6 : Int) < (t.cols.length : Int)) = true := by simp; omega
              go_wp2
              go_ret
              exact ⟨by rw [unhide HE]; rfl, unhide HB⟩
            · have hd2 : decide ((6 : Int) < (t.cols.length : Int)) = false := by simp; omega
              have hd3 : decide ((200 : Int) < (t.rows.length : Int)) = true := by simp; omega
              go_wp2
              go_ret
              exact ⟨by rw [unhide HE]; rfl, unhide HB⟩
        · have hd1 : decide ((t.cols.length : Int) < 1) = false := by simp; omega
          have hd2 : decide ((6 : Int) < (t.cols.length : Int)) = false := by simp; omega
          have hd3 : decide ((200 : Int) < (t.rows.length : Int)) = false := by simp; omega
          have HE : Hid (p6 t ahead = if ahead.any (fun u => u.name.toList == t.name.toList) || dupF [] t.cols then 7 else if t.rows.any (fun r => decide (r.length ≠ t.cols.length)) then 10 else 0) := by
            unfold Hid p6
            rw [unhide HN, unhide HAL2, if_neg (by simp), if_neg]
            simp only [Bool.or_eq_true, decide_eq_true_eq]
            omega
          go_wp2_with fail
          clear hd1 hd2 hd3 kx zx hlt
          go_loopg [7] ahead.length (fun f i W => ∃ pre suf, ahead = pre ++ suf ∧ f = suf.length ∧ i = .int .i64 (pre.length : Nat) ∧ pre.any (fun u => u.name.toList == t.name.toList) = false ∧ Below w.heap.size w W ∧ W.heap[w.heap.size]? = some (.cells #[.string t.name, .slice adc t.cols.length capc, .slice adr t.rows.length capr] 204 (0, 0)))
          case atStart => exact ⟨[], ahead, rfl, rfl, rfl, rfl, unhide HB, unhide HX⟩
          case round =>
            clear HB HX
            obtain ⟨pre, suf, h1, rfl, rfl, hal, hbw, hxw⟩ := hrel
            have l1 : pre.length + suf.length = ahead.length := by rw [h1, List.length_append]
            have HZ := hide h1
            have HAL := hide hal
            have HB := hide hbw
            have HX := hide hxw
            have kx := (blk (unhide HX)).1
            have zx := lt_of_heap (unhide HX)
            clear h1 hal hbw hxw
            cases suf with
            | cons u suf =>
              rw [List.length_cons] at l1
              have hlt : decide (pre.length < ahead.length) = true := by simp; omega
              obtain ⟨b1, o1, rfl, z1, c1⟩ := (unhide HCL) (by omega)
              obtain ⟨cv, rv, _, k1, k2, k3⟩ := c1 pre.length u (by rw [unhide HZ]; simp)
              rw [← (unhide HB).cell (p := ⟨b1, o1 + pre.length * 3, none⟩) z1] at k1
              rw [← (unhide HB).cell (p := ⟨b1, o1 + pre.length * 3 + 1, none⟩) z1] at k2
              rw [← (unhide HB).cell (p := ⟨b1, o1 + pre.length * 3 + 2, none⟩) z1] at k3
              have HZ2 : Hid (ahead = (pre ++ [u]) ++ suf) := by unfold Hid; rw [unhide HZ]; simp
              clear c1
              cases hnc : (u.name.toList == t.name.toList) with
              | true =>
                have HNC := hide hnc
                go_wp2
                go_region
                go_wp2
                go_ret
                refine ⟨?_, (unhide HB).drew⟩
                have e : p6 t ahead = 7 := by
                  rw [unhide HE, if_pos]
                  rw [unhide HZ, List.any_append, List.any_cons, unhide HNC]
                  simp
                rw [e]
                rfl
              | false =>
                have HNC := hide hnc
                go_wp2
                go_region
                go_wp2
                go_roundg suf.length
                case measure => simp
                case rel =>
                  refine ⟨pre ++ [u], suf, unhide HZ2, rfl, ?_, ?_, (unhide HB).drew, unhide HX⟩
                  · rw [List.length_append]; go_num
                  · rw [List.any_append, unhide HAL, List.any_cons, unhide HNC]; rfl
            | nil =>
              have hlt : decide (pre.length < ahead.length) = false := by simp at l1 ⊢; omega
              have HAL3 : Hid (ahead.any (fun u => u.name.toList == t.name.toList) = false) := by unfold Hid; rw [unhide HZ, List.append_nil]; exact unhide HAL
              clear HZ HAL l1
              go_wp2_with fail
              clear kx zx hlt
              go_loopg [8] t.cols.length (fun f i W => ∃ pre suf, t.cols = pre ++ suf ∧ f = suf.length ∧ i = .int .i64 (pre.length : Nat) ∧ dupF [] t.cols = dupF pre suf ∧ Below w.heap.size w W ∧ W.heap[w.heap.size]? = some (.cells #[.string t.name, .slice adc t.cols.length capc, .slice adr t.rows.length capr] 204 (0, 0)))
              case atStart => exact ⟨[], t.cols, rfl, rfl, rfl, rfl, unhide HB, unhide HX⟩
              case round =>
                clear HB HX
                obtain ⟨pre, suf, h1, rfl, rfl, hal, hbw, hxw⟩ := hrel
                have l1 : pre.length + suf.length = t.cols.length := by rw [h1, List.length_append]
                have HZ := hide h1
                have HAL := hide hal
                have HB := hide hbw
                have HX := hide hxw
                have kx := (blk (unhide HX)).1
                have zx := lt_of_heap (unhide HX)
                clear h1 hal hbw hxw
                cases suf with
                | cons c suf =>
                  rw [List.length_cons] at l1
                  have hlt : decide (pre.length < t.cols.length) = true := by simp; omega
                  obtain ⟨b1, o1, rfl, z1, c1⟩ := (unhide HCC) (by omega)
                  have k1 : wr.cell? ⟨b1, o1 + pre.length, none⟩ = some (.string c) := by
                    rw [(unhide HB).cell (p := ⟨b1, o1 + pre.length, none⟩) z1, c1 _ (by omega), unhide HZ]
                    simp
                  have HZ2 : Hid (t.cols = (pre ++ [c]) ++ suf) := by unfold Hid; rw [unhide HZ]; simp
                  clear c1
                  have hpl : decide (Lib.idxOfS t.cols c < (pre.length : Int)) = Lib.containsS pre c := by rw [unhide HZ]; exact place_lt
                  have HCW : Hid (RowAt wr.drew (.slice (some ⟨b1, o1, none⟩) t.cols.length capc) (textsV t.cols)) := by
                    have h := (unhide HC).keep ((unhide HB).drew)
                    rw [List.length_map] at h
                    exact h
                  cases hcc : Lib.containsS pre c with
                  | true =>
                    rw [hcc] at hpl
                    have HCC2 := hide hcc
                    clear hcc
                    have HE7 : Hid (p6 t ahead = 7) := by
                      unfold Hid
                      rw [unhide HE, if_pos]
                      rw [unhide HAL, dupF, unhide HCC2]
                      simp
                    go_wp2_with fail
                    go_region_with (go_at_call 85; refine (place_any _ t.cols c _ (by exact unhide HCW)).mono ?_; rintro e w2 ⟨rfl, hw2⟩; obtain rfl := hw2.symm)
                    all_goals
                      go_wp2
                      go_ret
                      exact ⟨by rw [unhide HE7]; rfl, (unhide HB).drew⟩
                  | false =>
                    rw [hcc] at hpl
                    have HCC2 := hide hcc
                    clear hcc
                    go_wp2_with fail
                    go_region_with (go_at_call 85; refine (place_any _ t.cols c _ (by exact unhide HCW)).mono ?_; rintro e w2 ⟨rfl, hw2⟩; obtain rfl := hw2.symm)
                    all_goals
                      go_wp2
                      go_roundg suf.length
                      case measure => simp
                      case rel =>
                        refine ⟨pre ++ [c], suf, unhide HZ2, rfl, ?_, ?_, (unhide HB).drew, unhide HX⟩
                        · rw [List.length_append]; go_num
                        · rw [unhide HAL, dupF, unhide HCC2]; rfl
                | nil =>
                  have hlt : decide (pre.length < t.cols.length) = false := by simp at l1 ⊢; omega
                  have HAL4 : Hid (dupF [] t.cols = false) := unhide HAL
                  clear HZ HAL l1
                  go_wp2_with fail
                  clear kx zx hlt
                  go_loopg [9] t.rows.length (fun f i W => ∃ pre suf, t.rows = pre ++ suf ∧ f = suf.length ∧ i = .int .i64 (pre.length : Nat) ∧ pre.any (fun r => decide (r.length ≠ t.cols.length)) = false ∧ Below w.heap.size w W ∧ W.heap[w.heap.size]? = some (.cells #[.string t.name, .slice adc t.cols.length capc, .slice adr t.rows.length capr] 204 (0, 0)))
                  case atStart => exact ⟨[], t.rows, rfl, rfl, rfl, rfl, unhide HB, unhide HX⟩
                  case round =>
                    clear HB HX
                    obtain ⟨pre, suf, h1, rfl, rfl, hal, hbw, hxw⟩ := hrel
                    have l1 : pre.length + suf.length = t.rows.length := by rw [h1, List.length_append]
                    have HZ := hide h1
                    have HAL := hide hal
                    have HB := hide hbw
                    have HX := hide hxw
                    have kx := (blk (unhide HX)).1
                    have zx := lt_of_heap (unhide HX)
                    clear h1 hal hbw hxw
                    cases suf with
                    | cons r suf =>
                      rw [List.length_cons] at l1
                      have hlt : decide (pre.length < t.rows.length) = true := by simp; omega
                      obtain ⟨b1, o1, rfl, z1, c1⟩ := (unhide HCR) (by omega)
                      obtain ⟨u, hu⟩ : ∃ u, vs[pre.length]? = some u := ⟨vs[pre.length]'(by omega), List.getElem?_eq_getElem _⟩
                      have k1 : wr.cell? ⟨b1, o1 + pre.length, none⟩ = some u := by
                        rw [(unhide HB).cell (p := ⟨b1, o1 + pre.length, none⟩) z1, c1 _ (by omega), hu]
                      obtain ⟨adu, capu, rfl, mu, _⟩ := (unhide HRR) pre.length r u (by rw [unhide HZ]; simp) hu
                      rw [List.length_map] at k1 mu
                      unfold maxLen at mu
                      have HZ2 : Hid (t.rows = (pre ++ [r]) ++ suf) := by unfold Hid; rw [unhide HZ]; simp
                      clear c1 hu
                      by_cases hrl : r.length = t.cols.length
                      · have hd : ((r.length : Int) != (t.cols.length : Int)) = false := by rw [hrl]; simp
                        have HRL := hide hrl
                        clear hrl
                        go_wp2
                        go_region
                        go_wp2
                        go_roundg suf.length
                        case measure => simp
                        case rel =>
                          refine ⟨pre ++ [r], suf, unhide HZ2, rfl, ?_, ?_, (unhide HB).drew, unhide HX⟩
                          · rw [List.length_append]; go_num
                          · rw [List.any_append, unhide HAL, List.any_cons, unhide HRL]; simp
                      · have hd : ((r.length : Int) != (t.cols.length : Int)) = true := by
                          rw [bne_iff_ne]
                          intro e
                          exact hrl (by exact_mod_cast e)
                        have HRL := hide hrl
                        clear hrl
                        go_wp2
                        go_region
                        go_wp2
                        go_ret
                        refine ⟨?_, (unhide HB).drew⟩
                        have e : p6 t ahead = 10 := by
                          rw [unhide HE, unhide HAL3, unhide HAL4, if_neg (by simp), if_pos]
                          rw [unhide HZ, List.any_append, List.any_cons, decide_eq_true (unhide HRL)]
                          simp
                        rw [e]
                        rfl
                    | nil =>
                      have hlt : decide (pre.length < t.rows.length) = false := by simp at l1 ⊢; omega
                      have HAL5 : Hid (t.rows.any (fun r => decide (r.length ≠ t.cols.length)) = false) := by unfold Hid; rw [unhide HZ, List.append_nil]; exact unhide HAL
                      clear HZ HAL l1
                      go_wp2
                      go_ret
                      refine ⟨?_, unhide HB⟩
                      have e : p6 t ahead = 0 := by
                        rw [unhide HE, unhide HAL3, unhide HAL4, if_neg (by simp), unhide HAL5]
                        rfl
                      rw [e]
                      rfl
end Go.Proofs.YtfkeddkfegaeiaaGreatDoor
namespace Go.Proofs.YtfkeddkfegaeiaaGreatDoor
open Go.RowKit

/-- what a New answers, by the document. -/
def rNewV (l : List Tb) (g : Nat) : Value := if p6all l = 0 then .tuple #[.pointer (some ⟨g, 0, none⟩), .agg #[.int .i64 0, .int .i64 0]] else .tuple #[.pointer none, .agg #[.int .i64 (p6all l), .int .i64 (-1)]]

set_option maxRecDepth 100000 in
set_option maxHeartbeats 4000000 in
theorem rNew_any (lv : Value) (l : List Tb) (w : World) (hl : TabsAt w lv l) :
    Calls Tryz.prog 47 #[lv] w fun e w' => ∃ g, e = .returned (rNewV l g) ∧ w.heap.size ≤ g ∧ (p6all l = 0 → w'.heap[g]? = some (.cells #[lv, .slice none 0 0] 159 (0, 0))) ∧ Below w.heap.size w w' := by
  have HL := hide hl
  obtain ⟨adl, capl, rfl, ml, mcap, cl⟩ := hl
  unfold maxLen at ml
  have HCL := hide cl
  clear cl
  by_cases h4 : 4 < l.length
  · have hd : decide ((4 : Int) < (l.length : Int)) = true := by simp; omega
    have HE : Hid (p6all l = 9) := by unfold Hid p6all; rw [if_pos h4]
    go_enter Tryz.func47, Tryz.ntmps47
    go_wp2
    refine bodyPost_ret (v := .tuple #[.pointer none, .agg #[.int .i64 9, .int .i64 (-1)]]) (by simp [results, Tryz.results47, go_sem]) rfl ⟨w.heap.size, ?_, Nat.le_refl _, fun h => ?_, ?_⟩
    · unfold rNewV; rw [unhide HE]; rfl
    · rw [unhide HE] at h; cases h
    · exact (Below.refl _ _).alloc (Nat.le_refl _) _
  · have hd : decide ((4 : Int) < (l.length : Int)) = false := by simp; omega
    have HE : Hid (p6all l = p6from [] l) := by unfold Hid p6all; rw [if_neg h4]
    go_enter Tryz.func47, Tryz.ntmps47
    go_wp2_with fail
    clear hd
    go_loopg [4] l.length (fun f i W => ∃ pre suf, l = pre ++ suf ∧ f = suf.length ∧ i = .int .i64 (pre.length : Nat) ∧ p6all l = p6from pre suf ∧ Below w.heap.size w W ∧ W.heap[w.heap.size]? = some (.cells #[.int .i64 0, .int .i64 0] 27 (0, 0)))
    case atStart => exact ⟨[], l, rfl, rfl, rfl, unhide HE, (Below.refl _ _).alloc (Nat.le_refl _) _, heap_last rfl⟩
    case round =>
      clear HE
      obtain ⟨pre, suf, h1, rfl, rfl, hal, hbw, hxw⟩ := hrel
      have l1 : pre.length + suf.length = l.length := by rw [h1, List.length_append]
      have HZ := hide h1
      have HAL := hide hal
      have HB := hide hbw
      have HX := hide hxw
      have zx := lt_of_heap (unhide HX)
      obtain ⟨kx, fx⟩ := blk (unhide HX)
      clear h1 hal hbw hxw
      cases suf with
      | nil =>
        have hlt : decide (pre.length < l.length) = false := by simp at l1 ⊢; omega
        go_wp2
        have HF : Hid ((((wr.setCell ⟨w.heap.size, 0, none⟩ (.int .i64 0)).setCell ⟨w.heap.size, 1, none⟩ (.int .i64 0)).alloc (.cells #[.slice adl l.length capl, .slice none 0 0] 159)).heap[w.heap.size]? = some (.cells #[.int .i64 0, .int .i64 0] 27 (0, 0))) := heap_prev (heap_set (heap_set (unhide HX) _) _)
        have j := (blk (unhide HF)).1
        refine bodyPost_ret (v := .tuple #[.pointer (some ⟨wr.heap.size, 0, none⟩), .agg #[.int .i64 0, .int .i64 0]]) (by simp [results, Tryz.results47, go_sem, j]) rfl ⟨wr.heap.size, ?_, (unhide HB).size, fun h => ?_, ?_⟩
        · unfold rNewV; rw [unhide HAL]; rfl
        · exact heap_last (by simp)
        · exact (((unhide HB).setCell (Nat.le_refl _) _).setCell (Nat.le_refl _) _).alloc (by have := (unhide HB).size; simpa using this) _
      | cons t suf =>
        rw [List.length_cons] at l1
        have hlt : decide (pre.length < l.length) = true := by simp; omega
        obtain ⟨b1, o1, rfl, z1, c1⟩ := (unhide HCL) (by omega)
        obtain ⟨cv, rv, htb, k1, k2, k3⟩ := c1 pre.length t (by rw [unhide HZ]; simp)
        rw [← (unhide HB).cell (p := ⟨b1, o1 + pre.length * 3, none⟩) z1] at k1
        rw [← (unhide HB).cell (p := ⟨b1, o1 + pre.length * 3 + 1, none⟩) z1] at k2
        rw [← (unhide HB).cell (p := ⟨b1, o1 + pre.length * 3 + 2, none⟩) z1] at k3
        have HTB := hide (htb.keep (unhide HB))
        have HZ2 : Hid (l = (pre ++ [t]) ++ suf) := by unfold Hid; rw [unhide HZ]; simp
        clear c1 htb
        have HAH : Hid (TabsAt wr (.slice (some ⟨b1, o1, none⟩) pre.length capl) pre) := by
          have h := (unhide HL).keep (unhide HB)
          rw [unhide HZ] at h
          exact h.ahead
        obtain ⟨cv', rv', e', htc, _, htr⟩ := unhide HTB
        injection e' with _ e'
        injection e' with e1 e'
        injection e' with e2 _
        subst e1 e2
        have HTC := hide htc
        have HTR := hide htr
        clear htc htr HTB
        have hpc : pre.length ≤ capl := by omega
        go_wp2_with fail
        go_region_with (go_at_call 75; refine (rtable_any t _ _ _ pre _ (by exact unhide HTC) (by exact unhide HTR) (by exact unhide HAH)).mono ?_; rintro e w2 ⟨rfl, hb2⟩; have HB2 : Hid (Below w.heap.size w w2) := (unhide HB).drew.trans (hb2.mono (by have := (unhide HB).size; simpa using this)); have HX2 : Hid (w2.heap[w.heap.size]? = some (.cells #[.int .i64 0, .int .i64 0] 27 (0, 0))) := (hb2.block _ (by exact zx)).trans (unhide HX); have zx2 := lt_of_heap (unhide HX2); obtain ⟨kx2, fx2⟩ := blk (unhide HX2); clear hb2)
        clear kx fx
        by_cases h0 : p6 t pre = 0
        · have hd : (p6 t pre != 0) = false := by rw [h0]; rfl
          have HNX : Hid (p6all l = p6from (pre ++ [t]) suf) := by unfold Hid; rw [unhide HAL, p6from, if_pos h0]
          go_wp2
          go_roundg suf.length
          case measure => simp
          case rel =>
            refine ⟨pre ++ [t], suf, unhide HZ2, rfl, ?_, unhide HNX, unhide HB2, unhide HX2⟩
            rw [List.length_append]; go_num
        · have hd : (p6 t pre != 0) = true := by simpa using h0
          have HNX : Hid (p6all l = p6 t pre) := by unfold Hid; rw [unhide HAL, p6from, if_neg h0]
          have H0 := hide h0
          clear h0
          go_wp2
          have HF : Hid (((w2.setCell ⟨w.heap.size, 0, none⟩ (.int .i64 (p6 t pre))).setCell ⟨w.heap.size, 1, none⟩ (.int .i64 (-1))).heap[w.heap.size]? = some (.cells #[.int .i64 (p6 t pre), .int .i64 (-1)] 27 (0, 0))) := heap_set (heap_set (unhide HX2) _) _
          have j := (blk (unhide HF)).1
          refine bodyPost_ret (v := .tuple #[.pointer none, .agg #[.int .i64 (p6 t pre), .int .i64 (-1)]]) (by simp [results, Tryz.results47, go_sem, j]) rfl ⟨w.heap.size, ?_, Nat.le_refl _, fun h => ?_, ?_⟩
          · unfold rNewV; rw [unhide HNX, if_neg (unhide H0)]
          · rw [unhide HNX] at h; exact absurd h (unhide H0)
          · exact ((unhide HB2).setCell (Nat.le_refl _) _).setCell (Nat.le_refl _) _
end Go.Proofs.YtfkeddkfegaeiaaGreatDoor
