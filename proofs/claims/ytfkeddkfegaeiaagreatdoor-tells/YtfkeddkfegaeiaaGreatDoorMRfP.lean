/-
  Part 41.
-/
import Derived.Test.YtfkeddkfegaeiaaGreatDoorMRfN
namespace Go.Proofs.YtfkeddkfegaeiaaGreatDoor
open Go.RowKit

/-- a chain in the making: so far the nodes l. -/
structure ChR (c : Cf) (w : World) (st0 : St) (I0 : Nat) (ms0 : List Nat) (mv0 ev0 : Value) (en0 : Nat) (fac : St → Rx) (xs : List ByteArray) (pl : Nat) (X : Rx) (f : Nat) (W : World) (l : List Nd) (st : St) (I : Nat) (ms : List Nat) (mv ev : Value) (en : Nat) : Prop where
  rf : RF c W st I ms mv ev en
  fr : Fr c w mv0 ev0 W mv ev
  le : I0 ≤ I
  few : en + I0 ≤ en0 + I
  fewm : ms.length + I0 ≤ ms0.length + I
  eq : X = chainLoop c.ts fac xs pl f l st
  fuel : c.ts.length ≤ f + st.nx
  dp : st.dp = st0.dp
  ok : st.er = none → WfE l ∧ Lin c.ts st0 st (tkE l) ∧ ms = ms0 ++ idx st0.nx (tkE l)

set_option maxRecDepth 100000 in
set_option maxHeartbeats 1000000 in
theorem rterm_any (c : Cf) (hw : Lw c.ts) (d : Nat) (fac : St → Rx) (ho : OnwF c.ts fac) (hx : LinX c.ts fac) (hF : RSp c 278 d fac) : RSp c 222 d (termOf c.ts fac) := by
  intro w st I ms mv ev en h hd
  obtain ⟨Y, HY⟩ : ∃ Y, Hid (Y = fac st) := ⟨_, rfl⟩
  obtain ⟨X, HX⟩ : ∃ X, Hid (X = termOf c.ts fac st) := ⟨_, rfl⟩
  rw [← unhide HX]
  have HF := hide hF
  have HO := hide ho
  have HLX := hide hx
  have HH := hide h
  have hnx := h.nx
  have HS := hide (hF w st I ms mv ev en h hd)
  rw [← unhide HY] at HS
  have hltY : Y.2.nx < c.ts.length := by rw [unhide HY]; exact (ho st hnx).lt
  have hdY : Y.2.dp = st.dp := by rw [unhide HY]; exact (ho st hnx).dp
  have HYK : Hid (Y.2.er = none → WfE Y.1 ∧ Lin c.ts st Y.2 (tkE Y.1)) := fun e => by rw [unhide HY] at e ⊢; exact hx st hnx e
  clear hF ho hx h
  go_enter Tryz.func222, Tryz.ntmps222
  go_wp2_with fail
  refine (unhide HS).mono ?_
  rintro e w1 ⟨n1, I1, ms1, mv1, ev1, en1, rfl, hr1, hf1, hI1, hen1, hms1, hx1⟩
  have HREL : Hid (ChR c w st I ms mv ev en fac xMul (tkAt c.ts st.nx).place X c.ts.length w1 Y.1 Y.2 I1 ms1 mv1 ev1 en1) :=
    ⟨hr1, hf1, hI1, hen1, hms1, by rw [unhide HX, unhide HY]; rfl, by omega, hdY, fun e => ⟨((unhide HYK) e).1, ((unhide HYK) e).2, hx1 e⟩⟩
  clear hr1 hf1 hI1 hen1 hms1 hx1 HS
  go_wp2_with fail
  go_loopg [3] c.ts.length (fun f v wr => ∃ n l st' I' ms' mv' ev' en', v = .int .i64 n ∧ ChR c w st I ms mv ev en fac xMul (tkAt c.ts st.nx).place X f wr l st' I' ms' mv' ev' en')
  case atStart => exact ⟨_, _, _, _, _, _, _, _, rfl, unhide HREL⟩
  case round =>
    obtain ⟨nv, l, st', I', ms', mv', ev', en', rfl, hrel⟩ := hrel
    have HRL := hide hrel
    clear hrel HREL
    match gk, HRL with
    | 0, HRL => exact absurd (unhide HRL).fuel (by have := (unhide HRL).rf.nx; omega)
    | gk + 1, HRL =>
      cases hh : hitP c.ts st' xMul with
      | false =>
        have hh1 : hitP c.ts st' [⟨#[42]⟩] = false := hh
        have HXE : Hid (X = (l, st')) := by
          have := (unhide HRL).eq
          unfold chainLoop at this
          rw [hh] at this
          exact this
        have HHF := hide hh1
        clear hh hh1
        go_wp2_with fail
        refine (rmay_any c _ st' I' ⟨#[42]⟩ ms' mv' ev' en' (by exact (unhide HRL).rf)).mono ?_
        rintro e w2 ⟨rfl, ⟨I2, hI2, hr2⟩, hk2⟩
        unfold takeS at hr2
        rw [unhide HHF] at hr2 ⊢
        simp only [Bool.false_eq_true, if_false] at hr2
        have HR2 := hide hr2
        have HK2 := hide hk2
        clear hr2 hk2
        go_wp2
        go_ret
        rw [unhide HXE]
        have hle := (unhide HRL).le
        have hfew := (unhide HRL).few
        have hfewm := (unhide HRL).fewm
        exact ⟨nv, I2, ms', mv', ev', en', rfl, unhide HR2, (unhide HRL).fr.trans (Fr.ofKp _ _ (unhide HK2)), by omega, by omega, by omega, fun e => ((unhide HRL).ok e).2.2⟩
      | true =>
        have hh1 : hitP c.ts st' [⟨#[42]⟩] = true := hh
        have hst := (unhide HRL).rf.okHit hh
        have hIe := (unhide HRL).rf.cor hst
        have hlt1 := onw_adv hw.last (unhide HRL).rf.nx (hit_kind hh)
        obtain ⟨Z, HZ⟩ : ∃ Z, Hid (Z = fac (adv st')) := ⟨_, rfl⟩
        have hZo : Onw c.ts (adv st') Z.2 := by rw [unhide HZ]; exact (unhide HO) _ hlt1.lt
        have HZO := hide hZo
        have HZK : Hid (Z.2.er = none → WfE Z.1 ∧ Lin c.ts (adv st') Z.2 (tkE Z.1)) := fun e => by rw [unhide HZ] at e ⊢; exact (unhide HLX) _ hlt1.lt e
        have htx : (tkAt c.ts st'.nx).text = ⟨#[42]⟩ := hit_one hh1
        have HXE : Hid (X = chainLoop c.ts fac xMul (tkAt c.ts st.nx).place gk (ndPair (tkAt c.ts st.nx).place (tkAt c.ts st'.nx).text :: (l ++ Z.1)) Z.2) := by
          have := (unhide HRL).eq
          unfold chainLoop at this
          rw [if_pos hh, ← unhide HZ] at this
          exact this
        have HLH := hide (lin_hit (unhide HRL).rf.nx hh1 false)
        have HHF := hide hh1
        have HTX := hide htx
        have hdpe := (unhide HRL).dp
        have hstnx := (unhide HRL).rf.nx
        clear hh hh1 htx hZo
        go_wp2_with fail
        refine (rmay_any c _ st' I' ⟨#[42]⟩ ms' mv' ev' en' (by exact (unhide HRL).rf)).mono ?_
        rintro e w2 ⟨rfl, ⟨I2, hI2, hr2⟩, hk2⟩
        unfold takeS at hr2
        rw [unhide HHF] at hr2 ⊢
        simp only [if_true] at hr2
        have hI2e : I2 = st'.nx + 1 := hr2.cor hst
        have HR2 := hide hr2
        have HK2 := hide ((unhide HRL).fr.trans (Fr.ofKp _ _ hk2))
        have HSZ := hide ((unhide HF) w2 (adv st') I2 ms' mv' ev' en' hr2 (by show st'.dp = d; rw [hdpe]; exact hd))
        rw [← unhide HZ] at HSZ
        clear hr2 hk2
        go_wp2_with fail
        refine (unhide HSZ).mono ?_
        rintro e w3 ⟨nb, I3, ms3, mv3, ev3, en3, rfl, hr3, hf3, hI3, hen3, hms3, hx3⟩
        have HR3 := hide hr3
        have HF3 := hide ((unhide HK2).trans hf3)
        have HX3 := hide hx3
        clear hr3 hf3 hx3 HSZ
        have hle := (unhide HRL).le
        have hfew := (unhide HRL).few
        have hfewm := (unhide HRL).fewm
        have hfw0 := (unhide HRL).rf.few
        go_wp2_with fail
        refine (radd_any c _ Z.2 I3 ms3 mv3 ev3 en3 (by exact unhide HR3) (by omega) _ _ _ _ _ _ _ _ _ _).mono ?_
        rintro e w4 ⟨nv4, ev4, rfl, hr4, hf4⟩
        have HR4 := hide hr4
        have HF4 := hide ((unhide HF3).trans hf4)
        clear hr4 hf4
        go_wp2
        go_roundg gk
        case measure => simp
        case rel =>
          refine ⟨nv4, _, Z.2, I3, ms3, mv3, ev4, en3 + 1, rfl, ⟨unhide HR4, unhide HF4, by omega, by omega, by omega, unhide HXE, ?_, ?_, fun e => ?_⟩⟩
          · have h1 := (unhide HRL).fuel
            have h2 := (unhide HZO).nx
            have h3 : (adv st').nx = st'.nx + 1 := rfl
            omega
          · exact ((unhide HZO).dp.trans rfl).trans hdpe
          · have hz := (unhide HZK) e
            have hl := (unhide HRL).ok hst
            have hp := wf_pair hl.1 hz.1 (tkAt c.ts st.nx).place (tkAt c.ts st'.nx).text
            have hlin := (hl.2.1.trans (unhide HLH)).trans hz.2
            refine ⟨hp.1, ?_, ?_⟩
            · rw [hp.2, unhide HTX]
              exact hlin.cast (by simp [tx])
            · rw [(unhide HX3) e, hl.2.2, hp.2, idx_append, idx, if_neg (by simp [tx])]
              have hln := lin_length hl.2.1 (Nat.le_of_lt hstnx)
              have hle2 := hl.2.1.le
              rw [show st.nx + (tkE l).length = st'.nx from by omega]
              rw [List.append_assoc]
              rfl
end Go.Proofs.YtfkeddkfegaeiaaGreatDoor
namespace Go.Proofs.YtfkeddkfegaeiaaGreatDoor
open Go.RowKit

theorem add_or (ts : List Tk) (st : St) : hitP ts st xAdd = (hitP ts st [⟨#[43]⟩] || hitP ts st [⟨#[45]⟩]) := by
  have e : Lib.containsS xAdd (tkAt ts st.nx).text = (Lib.containsS [⟨#[43]⟩] (tkAt ts st.nx).text || Lib.containsS [⟨#[45]⟩] (tkAt ts st.nx).text) := by
    rw [Bool.eq_iff_iff, Bool.or_eq_true, Lib.containsS_iff, Lib.containsS_iff, Lib.containsS_iff]
    unfold xAdd
    simp only [List.mem_cons, List.mem_nil_iff, or_false]
  unfold hitP
  rw [e]
  cases (tkAt ts st.nx).kind == 1 <;> simp
theorem add_one {x : ByteArray} (h : x ∈ xAdd) : One x false := by
  unfold xAdd at h
  simp only [List.mem_cons, List.mem_nil_iff, or_false] at h
  rcases h with rfl | rfl <;> decide

set_option maxRecDepth 100000 in
set_option maxHeartbeats 1000000 in
theorem rsum_any (c : Cf) (hw : Lw c.ts) (d : Nat) (fac : St → Rx) (ho : OnwF c.ts fac) (hx : LinX c.ts fac) (hF : RSp c 222 d fac) : RSp c 169 d (chainP c.ts fac xAdd) := by
  intro w st I ms mv ev en h hd
  obtain ⟨Y, HY⟩ : ∃ Y, Hid (Y = fac st) := ⟨_, rfl⟩
  obtain ⟨X, HX⟩ : ∃ X, Hid (X = chainP c.ts fac xAdd st) := ⟨_, rfl⟩
  rw [← unhide HX]
  have HF := hide hF
  have HO := hide ho
  have HLX := hide hx
  have HH := hide h
  have hnx := h.nx
  have HS := hide (hF w st I ms mv ev en h hd)
  rw [← unhide HY] at HS
  have hltY : Y.2.nx < c.ts.length := by rw [unhide HY]; exact (ho st hnx).lt
  have hdY : Y.2.dp = st.dp := by rw [unhide HY]; exact (ho st hnx).dp
  have HYK : Hid (Y.2.er = none → WfE Y.1 ∧ Lin c.ts st Y.2 (tkE Y.1)) := fun e => by rw [unhide HY] at e ⊢; exact hx st hnx e
  clear hF ho hx h
  go_enter Tryz.func169, Tryz.ntmps169
  go_wp2_with fail
  refine (unhide HS).mono ?_
  rintro e w1 ⟨n1, I1, ms1, mv1, ev1, en1, rfl, hr1, hf1, hI1, hen1, hms1, hx1⟩
  have HREL : Hid (ChR c w st I ms mv ev en fac xAdd (tkAt c.ts st.nx).place X c.ts.length w1 Y.1 Y.2 I1 ms1 mv1 ev1 en1) :=
    ⟨hr1, hf1, hI1, hen1, hms1, by rw [unhide HX, unhide HY]; rfl, by omega, hdY, fun e => ⟨((unhide HYK) e).1, ((unhide HYK) e).2, hx1 e⟩⟩
  clear hr1 hf1 hI1 hen1 hms1 hx1 HS
  go_wp2_with fail
  go_loopg [3] c.ts.length (fun f v wr => ∃ n l st' I' ms' mv' ev' en', v = .int .i64 n ∧ ChR c w st I ms mv ev en fac xAdd (tkAt c.ts st.nx).place X f wr l st' I' ms' mv' ev' en')
  case atStart => exact ⟨_, _, _, _, _, _, _, _, rfl, unhide HREL⟩
  case round =>
    obtain ⟨nv, l, st', I', ms', mv', ev', en', rfl, hrel⟩ := hrel
    have HRL := hide hrel
    clear hrel HREL
    match gk, HRL with
    | 0, HRL => exact absurd (unhide HRL).fuel (by have := (unhide HRL).rf.nx; omega)
    | gk + 1, HRL =>
      cases hh : hitP c.ts st' xAdd with
      | false =>
        have hor := add_or c.ts st'
        rw [hh] at hor
        have hp1 : hitP c.ts st' [⟨#[43]⟩] = false := (Bool.or_eq_false_iff.1 hor.symm).1
        have hp2 : hitP c.ts st' [⟨#[45]⟩] = false := (Bool.or_eq_false_iff.1 hor.symm).2
        have HXE : Hid (X = (l, st')) := by
          have := (unhide HRL).eq
          unfold chainLoop at this
          rw [hh] at this
          exact this
        have HP1 := hide hp1
        have HP2 := hide hp2
        clear hh hp1 hp2 hor
        go_wp2_with fail
        refine (rsee_any c _ st' I' ⟨#[43]⟩ ms' mv' ev' en' (by exact (unhide HRL).rf)).mono ?_
        rintro e w2 ⟨rfl, hb2⟩
        rw [unhide HP1]
        have HB2 := hide hb2
        clear hb2
        go_wp2_with fail
        refine (rsee_any c _ st' I' ⟨#[45]⟩ ms' mv' ev' en' (by exact (unhide HRL).rf.keep (unhide HB2))).mono ?_
        rintro e w3 ⟨rfl, hb3⟩
        rw [unhide HP2]
        have HB3 := hide ((unhide HB2).trans (hb3.mono (unhide HB2).size))
        clear hb3
        go_wp2
        go_ret
        rw [unhide HXE]
        have hle := (unhide HRL).le
        have hfew := (unhide HRL).few
        have hfewm := (unhide HRL).fewm
        exact ⟨nv, I', ms', mv', ev', en', rfl, (unhide HRL).rf.keep (unhide HB3), (unhide HRL).fr.trans (Fr.ofKp _ _ (Kp.ofBelow (unhide HB3))), by omega, by omega, by omega, fun e => ((unhide HRL).ok e).2.2⟩
      | true =>
        have hor := add_or c.ts st'
        rw [hh] at hor
        have hst := (unhide HRL).rf.okHit hh
        have hIe := (unhide HRL).rf.cor hst
        have hlt1 := onw_adv hw.last (unhide HRL).rf.nx (hit_kind hh)
        obtain ⟨Z, HZ⟩ : ∃ Z, Hid (Z = fac (adv st')) := ⟨_, rfl⟩
        have hZo : Onw c.ts (adv st') Z.2 := by rw [unhide HZ]; exact (unhide HO) _ hlt1.lt
        have HZO := hide hZo
        have HZK : Hid (Z.2.er = none → WfE Z.1 ∧ Lin c.ts (adv st') Z.2 (tkE Z.1)) := fun e => by rw [unhide HZ] at e ⊢; exact (unhide HLX) _ hlt1.lt e
        have HXE : Hid (X = chainLoop c.ts fac xAdd (tkAt c.ts st.nx).place gk (ndPair (tkAt c.ts st.nx).place (tkAt c.ts st'.nx).text :: (l ++ Z.1)) Z.2) := by
          have := (unhide HRL).eq
          unfold chainLoop at this
          rw [if_pos hh, ← unhide HZ] at this
          exact this
        have HLH := hide (lin_adv (unhide HRL).rf.nx false (add_one (hit_mem hh)))
        have HK0 := hide (hit_kind hh)
        have hdpe := (unhide HRL).dp
        have hstnx := (unhide HRL).rf.nx
        clear hh hZo
        cases hp1 : hitP c.ts st' [⟨#[43]⟩] <;> cases hp2 : hitP c.ts st' [⟨#[45]⟩]
        · rw [hp1, hp2] at hor; cases hor
        all_goals
          have HP1 := hide hp1
          have HP2 := hide hp2
          clear hp1 hp2 hor
          go_wp2_with fail
          refine (rsee_any c _ st' I' ⟨#[43]⟩ ms' mv' ev' en' (by exact (unhide HRL).rf)).mono ?_
          rintro e w2 ⟨rfl, hb2⟩
          rw [unhide HP1]
          have HB2 := hide hb2
          clear hb2
          go_wp2_with fail
          refine (rsee_any c _ st' I' ⟨#[45]⟩ ms' mv' ev' en' (by exact (unhide HRL).rf.keep (unhide HB2))).mono ?_
          rintro e w3 ⟨rfl, hb3⟩
          rw [unhide HP2]
          have HB3 := hide ((unhide HB2).trans (hb3.mono (unhide HB2).size))
          clear hb3
          go_wp2_with fail
          refine (rstep_any c _ st' I' ms' mv' ev' en' (by exact (unhide HRL).rf.keep (unhide HB3)) hst (unhide HK0)).mono ?_
          rintro e w4 ⟨rfl, hr2, hk2⟩
          have HR2 := hide (hr2.keep ((Below.refl w4.heap.size w4).alloc (Nat.le_refl _) (.cells #[.int .i64 (rkT (tkAt c.ts st'.nx)), .int .i64 (tkAt c.ts st'.nx).place, .string (tkAt c.ts st'.nx).text] 100)))
          have HK2 := hide ((unhide HRL).fr.trans (Fr.ofKp mv' ev' (((Kp.ofBelow (unhide HB3)).trans hk2).alloc (.cells #[.int .i64 (rkT (tkAt c.ts st'.nx)), .int .i64 (tkAt c.ts st'.nx).place, .string (tkAt c.ts st'.nx).text] 100))))
          have HSZ := hide ((unhide HF) _ (adv st') (I' + 1) ms' mv' ev' en' (unhide HR2) (by show st'.dp = d; rw [hdpe]; exact hd))
          rw [← unhide HZ] at HSZ
          have hqb : c.qb < w4.heap.size := by obtain ⟨cs0, xs0, hq0, _⟩ := hr2.query; exact lt_of_heap hq0
          have hrb : c.rb < w4.heap.size := lt_of_heap hr2.reader
          have hmvlt : ∀ k, mv'.ownBlock = some k → k < w4.heap.size := by obtain ⟨cs0, xs0, _, _, _, _, _, hv0, _⟩ := hr2.query; exact fun k e => (hv0.lt k e).2
          have hevlt : ∀ k, ev'.ownBlock = some k → k < w4.heap.size := by obtain ⟨cs0, xs0, _, _, _, _, _, _, hu0⟩ := hr2.query; exact fun k e => (hu0.lt k e).2
          clear hr2 hk2
          go_wp2_with fail
          refine (unhide HSZ).mono ?_
          rintro e w5 ⟨nb, I3, ms3, mv3, ev3, en3, rfl, hr3, hf3, hI3, hen3, hms3, hx3⟩
          have KT := hide ((hf3.block w4.heap.size (by simp) (by omega) (by omega) (fun e' => by have := hmvlt _ e'.symm; omega) (fun e' => by have := hevlt _ e'.symm; omega)).trans (heap_last rfl))
          obtain ⟨kt, ft⟩ := blk (unhide KT)
          have zt := lt_of_heap (unhide KT)
          have HR3 := hide hr3
          have HF3 := hide ((unhide HK2).trans hf3)
          have HX3 := hide hx3
          clear hr3 hf3 hx3 HSZ
          have hle := (unhide HRL).le
          have hfew := (unhide HRL).few
          have hfewm := (unhide HRL).fewm
          have hfw0 := (unhide HRL).rf.few
          go_wp2_with fail
          refine (radd_any c _ Z.2 I3 ms3 mv3 ev3 en3 (by exact unhide HR3) (by omega) _ _ _ _ _ _ _ _ _ _).mono ?_
          rintro e w6 ⟨nv4, ev4, rfl, hr4, hf4⟩
          have HR4 := hide hr4
          have HF4 := hide ((unhide HF3).trans hf4)
          clear hr4 hf4
          go_wp2
          go_roundg gk
          case measure => simp
          case rel =>
            refine ⟨nv4, _, Z.2, I3, ms3, mv3, ev4, en3 + 1, rfl, ⟨unhide HR4, unhide HF4, by omega, by omega, by omega, unhide HXE, ?_, ?_, fun e => ?_⟩⟩
            · have h1 := (unhide HRL).fuel
              have h2 := (unhide HZO).nx
              have h3 : (adv st').nx = st'.nx + 1 := rfl
              omega
            · exact ((unhide HZO).dp.trans rfl).trans hdpe
            · have hz := (unhide HZK) e
              have hl := (unhide HRL).ok hst
              have hp := wf_pair hl.1 hz.1 (tkAt c.ts st.nx).place (tkAt c.ts st'.nx).text
              have hlin := (hl.2.1.trans (unhide HLH)).trans hz.2
              refine ⟨hp.1, ?_, ?_⟩
              · rw [hp.2]
                exact hlin.cast (by simp [tx])
              · rw [(unhide HX3) e, hl.2.2, hp.2, idx_append, idx, if_neg (by simp [tx])]
                have hln := lin_length hl.2.1 (Nat.le_of_lt hstnx)
                have hle2 := hl.2.1.le
                rw [show st.nx + (tkE l).length = st'.nx from by omega]
                rw [List.append_assoc]
                rfl

/-- factor and sum, so deep. -/
theorem rdeep_all (c : Cf) (hw : Lw c.ts) (hN : NumOk c.ts) : ∀ (n d : Nat), n + d = 17 → RSp c 278 d (factorP c.ts n) ∧ RSp c 169 d (exprOf c.ts (factorP c.ts n))
  | n, d, hnd => by
    have hF : RSp c 278 d (factorP c.ts n) := by
      match n, hnd with
      | 0, hnd => exact rfactor_any c hw hN 0 d hnd (fun m e => by omega) (fun m e => by omega)
      | m + 1, hnd =>
        have ih := rdeep_all c hw hN m (d + 1) (by omega)
        exact rfactor_any c hw hN (m + 1) d hnd (fun k e => by cases e; exact ih.1) (fun k e => by cases e; exact ih.2)
    have hT := rterm_any c hw d (factorP c.ts n) (onw_factor hw.last n) (lin_factor hw n) hF
    exact ⟨hF, rsum_any c hw d (termOf c.ts (factorP c.ts n)) (onw_chain hw.last (onw_factor hw.last n) _) (lin_chain hw (onw_factor hw.last n) (lin_factor hw n) _ (by decide)) hT⟩
theorem rsum_top (c : Cf) (hw : Lw c.ts) (hN : NumOk c.ts) : RSp c 169 0 (exprP c.ts) := (rdeep_all c hw hN 17 0 rfl).2
end Go.Proofs.YtfkeddkfegaeiaaGreatDoor
