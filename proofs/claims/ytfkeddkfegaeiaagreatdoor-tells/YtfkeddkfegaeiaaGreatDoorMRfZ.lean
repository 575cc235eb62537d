/-
  Part 45.
-/
import Derived.Test.YtfkeddkfegaeiaaGreatDoorMRfW
namespace Go.Proofs.YtfkeddkfegaeiaaGreatDoor
open Go.RowKit

structure L4 (c : Cf) (w : World) (x0 : Xs) (st0 : St) (s0 : List Nat) (X : List Tk × St) (f : Nat) (W : World) (v : Value) (l : List Tk) (st : St) (x : Xs) (more : Bool) : Prop where
  ls : LsR c w x0 st0 s0 (nameP c.ts) (many c.ts 6) ⟨#[44]⟩ tkName X f W l st x more
  qc : QC c W v
  own : Own c w 100 3 W x v l.length
  cnt : l.length + f = c.ts.length

theorem with_ml {ts : List Tk} (hw : Lw ts) {st : St} {p : Nat} (h : st.nx < ts.length) {s s1 s2 s3 s4 : List Nat}
    (M1 : (wtCols ts st).2.er = none → Ml (wantP ts (wkP ts st 2) [⟨#[40]⟩]) (wtCols ts st).2 (joinT (tx ⟨#[44]⟩) ((wtCols ts st).1.map tkName)) s s1)
    (M2 : (wtA ts st).2.er = none → Ml (wtOpen ts (wtCols ts st).2) (wtA ts st).2 (tkSel (wtA ts st).1) s1 s2)
    (M3 : (wtB ts (wtA ts st).2).2.er = none → Ml (wantP ts (wtA ts st).2 [⟨#[117, 110, 105, 111, 110]⟩]) (wtB ts (wtA ts st).2).2 (tkSel (wtB ts (wtA ts st).2).1) s2 s3) (e4 : s4 = s3) :
    (withP ts st p).2.er = none → ∃ m, Ml st (withP ts st p).2 m s s4 ∧ tkWith (withP ts st p).1 = tx ⟨#[119, 105, 116, 104]⟩ :: m := by
  intro he
  subst e4
  have h1 := onw_wk hw.last h (k := 2) (by decide)
  have h2 := onw_want hw.last h1.lt [⟨#[40]⟩]
  have h3 : Onw ts _ (wtCols ts st).2 := onw_list hw.last (onw_name hw.last) 6 _ h2.lt
  have h4 := onw_want hw.last h3.lt [⟨#[41]⟩]
  have h5 := onw_want hw.last h4.lt [⟨#[97, 115]⟩]
  have h6 : Onw ts _ (wtOpen ts (wtCols ts st).2) := onw_want hw.last h5.lt [⟨#[40]⟩]
  have h7 : Onw ts _ (wtA ts st).2 := onw_sel hw.last h6.lt
  have h8 := onw_want hw.last h7.lt [⟨#[117, 110, 105, 111, 110]⟩]
  have h9 : Onw ts _ (wtB ts (wtA ts st).2).2 := onw_sel hw.last h8.lt
  have h10 := onw_want hw.last h9.lt [⟨#[41]⟩]
  have e9 := h10.er he
  have e8 := h9.er e9
  have e7 := h8.er e8
  have e6 := h7.er e7
  have e5 := h6.er e6
  have e4 := h5.er e5
  have e3 := h4.er e4
  have e2 := h3.er e3
  have e1 := h2.er e2
  have k3 := M1 e3
  rw [joinT_commas] at k3
  refine ⟨_, ((((((((ml_wk e1).trans (ml_want e2)).trans k3).trans (((ml_want e4).trans (ml_want e5)).trans (ml_want e6))).trans (M2 e7)).trans (ml_want e8)).trans (M3 e9)).trans (ml_want he)), ?_⟩
  simp only [tkWith, withP]
  simp [wtCols, wtA, wtB]

set_option maxRecDepth 100000 in
set_option maxHeartbeats 8000000 in
theorem rwith_x (c : Cf) (hw : Lw c.ts) (hN : NumOk c.ts) (hC : CmpOk c.ts) (w : World) (st : St) (x : Xs) (p : Nat) (h : RX c w st x) (hd : st.dp = 0) (hq : QC c w (.slice none 0 0)) :
    Calls Tryz.prog 68 #[.pointer (some ⟨c.rb, 0, none⟩)] w fun e w' => ∃ x' : Xs, e = .returned (.tuple #[]) ∧ RX c w' (withP c.ts st p).2 x' ∧ GX c w x w' x' ∧ ((withP c.ts st p).2.er = none → ∃ m, Ml st (withP c.ts st p).2 m x.ms x'.ms ∧ tkWith (withP c.ts st p).1 = tx ⟨#[119, 105, 116, 104]⟩ :: m) := by
  obtain ⟨i2, hi, hinf⟩ := Option.map_eq_some_iff.1 infoRt
  simp only [Prod.mk.injEq] at hinf
  obtain ⟨hz0, hz1, hz2⟩ := hinf
  have HI2 := hide hi
  have HZ02 := hide hz0
  have HZ12 := hide hz1
  have HZ22 := hide hz2
  clear hi hz0 hz1 hz2
  have hlen := RF.len h
  have hne := RF.ne h
  have HH := hide h
  have HL := hide hw.last
  have HW := hide hw
  have HN := hide hN
  have HC := hide hC
  have HQ := hide hq
  have hnx := RF.nx h
  obtain ⟨⟨r0, r1, r2, r3, r4⟩, hfr, q23, ⟨t0, t1, t2⟩, zr, zq, zt⟩ := RF.facts h
  obtain ⟨q3, qf, _⟩ := hq.facts
  clear h hw hN hC hq r1 r2 r3 r4 q23 t0 t1 t2 zt
  go_enter Tryz.func68, Tryz.ntmps68
  go_upto_region 0 with (fail)
  go_cut [] (fun W => ∃ x1, RX c W (wkP c.ts st 2) x1 ∧ GX c w x W x1 ∧ x1.ms = x.ms ∧ QC c W (.slice none 0 0))
  case first =>
    go_region_with (first
      | (go_at_call 111; refine (rkind_k c _ st x 2 (by first | exact unhide HH | exact (unhide HH).keep (Below.refl _ _).drew) (Or.inl rfl)).mono ?_; rintro e w1 ⟨ka, kbb, x1, rfl, hr, hg, hm, hkp⟩; obtain ⟨⟨r10, _, _, _, _⟩, _, _, _, zr1, zq1, _⟩ := RF.facts hr; have qf1 := hr.qfro; obtain ⟨v10, e10⟩ := hr.qcell 0 (by decide); obtain ⟨v11, e11⟩ := hr.qcell 1 (by decide); obtain ⟨v12, e12⟩ := hr.qcell 2 (by decide); have HR1 := hide hr; have HG1 := hide hg; have HM1 := hide hm; have HK1 := hide hkp; clear hr hg hm hkp)
      | fail)
    all_goals
      go_wp2_with fail
      go_meet
      case rel =>
        refine ⟨x1, ?_, ?_, unhide HM1, ?_⟩
        · repeat (first | exact unhide HR1 | refine RX.setQ ?_ (by decide) | refine RX.drew ?_)
        · repeat (first | exact unhide HG1 | exact GX.drew0 (unhide HG1) | refine GX.setQ ?_ | refine GX.drew ?_)
        · repeat (first | exact (unhide HQ).kp (unhide HK1) hne.1 | exact (unhide HQ).drew.kp (unhide HK1) hne.1 | refine QC.set ?_ (by decide) | refine QC.drew ?_)
  case rest =>
    obtain ⟨x1, hr, hg, hm, hq⟩ := hcut
    have HR1 := hide hr
    have HG1 := hide hg
    have HM1 := hide hm
    have HQ1 := hide hq
    have hO1 := onw_wk (unhide HL) hnx (k := 2) (by decide)
    have HO1 := hide hO1
    clear hr hg hm hq HQ r0 hfr zr zq q3 qf hO1
    go_wp2_with fail
    refine (rmust_k c _ (wkP c.ts st 2) x1 ⟨#[40]⟩ (by exact unhide HR1)).mono ?_
    rintro e w2 ⟨x2, rfl, hr, hg, hm, hkp⟩
    have HR2 := hide hr
    have HG2 := hide ((unhide HG1).trans hg)
    have HM2 : Hid (x2.ms = x.ms) := hm.trans (unhide HM1)
    have HQ2 := hide ((unhide HQ1).kp hkp hne.1)
    have hO2 := onw_want (unhide HL) (unhide HO1).lt [⟨#[40]⟩]
    have hd2 : (wantP c.ts (wkP c.ts st 2) [⟨#[40]⟩]).dp = 0 := (hO2.dp.trans (unhide HO1).dp).trans hd
    have HO2 := hide hO2
    clear hr hg hm hkp HR1 HG1 HQ1 hO2
    generalize hS2 : wantP c.ts (wkP c.ts st 2) [⟨#[40]⟩] = S2 at *
    have HS2 := hide hS2
    clear hS2
    obtain ⟨X2, HX2⟩ : ∃ X, Hid (X = listP c.ts (nameP c.ts) 6 S2) := ⟨_, rfl⟩
    have HF2 := hide (LsR.first (nameP c.ts) (many c.ts 6) ⟨#[44]⟩ tkName (unhide HR2) (unhide HG2) hd2 (many_ne (by decide)))
    rw [show gLoop c.ts (nameP c.ts) (many c.ts 6) ⟨#[44]⟩ c.ts.length [(nameP c.ts S2).1] (nameP c.ts S2).2 = X2 by rw [unhide HX2]; unfold listP; rw [gLoop_list]] at HF2
    have HLR : Hid (L4 c w x S2 x2.ms X2 c.ts.length w2 (.slice none 0 0) [] S2 x2 true) := ⟨unhide HF2, unhide HQ2, Own.nil _ _ _ _ _ _, by simp⟩
    clear HF2 HR2 HG2 HQ2
    go_wp2_with fail
    go_loopg [2] c.ts.length (fun f m wr => ∃ v l st' x' more, m = .bool more ∧ L4 c w x S2 x2.ms X2 f wr v l st' x' more)
    case atStart => exact ⟨_, _, _, _, _, rfl, unhide HLR⟩
    case round =>
      obtain ⟨v, l, st', xp, more, rfl, hrel⟩ := hrel
      have HRL := hide hrel
      clear HLR
      cases more with
      | true =>
        obtain ⟨gk, rfl⟩ := hrel.ls.pos
        have hcn : l.length ≤ 1000 := gk_le hrel.cnt hlen
        obtain ⟨ys, hrow⟩ := hrel.own.row
        obtain ⟨ad, cp, hv⟩ := row_slice hrow
        subst hv
        obtain ⟨⟨r0, r1, r2, r3, r4⟩, hfr, q23, ⟨t0, t1, t2⟩, zr, zq, zt⟩ := RF.facts hrel.ls.rx
        obtain ⟨q3, qf, _⟩ := hrel.qc.facts
        have hnx' := RF.nx hrel.ls.rx
        have hdp' := hrel.ls.dp
        clear hrel hrow ys r1 r2 r3 r4 q23 t0 t1 t2 zt
        obtain ⟨S, HS⟩ : ∃ S, Hid (S = many c.ts 6 l.length st') := ⟨_, rfl⟩
        have hSn : S.nx < c.ts.length := by rw [unhide HS]; exact (onw_many hnx' 6 l.length).lt
        go_upto_if 23 with (fail)
        go_cut [] (fun W => ∃ x3, RX c W S x3 ∧ GX c w x W x3 ∧ QC c W (.slice ad l.length cp) ∧ Own c w 100 3 W x3 (.slice ad l.length cp) l.length ∧ x3.ms = xp.ms)
        case first =>
          by_cases h6 : l.length = 6
          · have hb6 : ((l.length : Int) == 6) = true := by rw [h6]; rfl
            have HS' : Hid (S = failP c.ts st' eMany) := by unfold Hid; rw [unhide HS]; unfold many; rw [if_pos h6]
            go_wp2_with fail
            refine (rfailm_k c _ st' xp (by exact (unhide HRL).ls.rx)).mono ?_
            rintro e w3 ⟨x3, rfl, hr, hg, hm, hkp⟩
            have HR3 := hide hr
            have HG3 := hide ((unhide HRL).ls.gx.trans hg)
            have HO3 := hide ((unhide HRL).own.step hg)
            have HQ3 := hide ((unhide HRL).qc.kp hkp hne.1)
            clear hr hg hkp
            go_wp2_with fail
            go_meet
            case rel =>
              rw [unhide HS']
              exact ⟨x3, unhide HR3, unhide HG3, unhide HQ3, unhide HO3, hm⟩
          · have hb6 : ((l.length : Int) == 6) = false := by simp only [beq_eq_false_iff_ne, ne_eq]; omega
            have HS' : Hid (S = st') := by unfold Hid; rw [unhide HS]; exact many_ne h6
            go_wp2_with fail
            go_meet
            case rel =>
              rw [unhide HS']
              exact ⟨xp, (unhide HRL).ls.rx, (unhide HRL).ls.gx, (unhide HRL).qc, (unhide HRL).own, rfl⟩
        case rest =>
          obtain ⟨x3, hr, hg, hq, hown, hm3⟩ := hcut
          have HR3 := hide hr
          have HG3 := hide hg
          have HQ3 := hide hq
          have HO3 := hide hown
          have HM3 := hide hm3
          clear hr hg hq hown hm3 r0 hfr zr zq q3 qf
          go_wp2_with fail
          refine (rkind_k c _ S x3 2 (by exact unhide HR3) (Or.inl rfl)).mono ?_
          rintro e w4 ⟨ka, kbb, x4, rfl, hr, hg, hm4, hkp⟩
          have HR4 := hide hr
          have HG4 := hide ((unhide HG3).trans hg)
          have HQ4 := hide ((unhide HQ3).kp hkp hne.1)
          have HO4 := hide ((unhide HO3).step hg)
          have HM4 := hide hm4
          obtain ⟨⟨r0, r1, r2, r3, r4⟩, hfr, q23, ⟨t0, t1, t2⟩, zr, zq, zt⟩ := RF.facts hr
          have hgs := (unhide HG3).size
          have hks := hg.size
          clear hr hg hm4 hkp HR3 HG3 HQ3 HO3 r1 r2 r3 r4 q23 t0 t1 t2 zt
          generalize hTX : (wkT c.ts S 2).text = TX at *
          have HTX := hide hTX
          clear hTX
          obtain ⟨q3, qf, _⟩ := (unhide HQ4).facts
          obtain ⟨ys, hrow⟩ := (unhide HO4).row
          have HU := hide hrow
          clear hrow
          obtain ⟨cs, hcs, hcz, hc3⟩ := unhide HQ4
          have HCS := hide hcs
          have HRD := hide (RF.reader (unhide HR4))
          have HOF := hide (unhide HO4).off
          clear hcs hcz
          go_upto_region 7 with (fail)
          go_cut [] (fun W => ∃ v5, RX c W (wkP c.ts S 2) x4 ∧ GX c w x W x4 ∧ QC c W v5 ∧ Own c w 100 3 W x4 v5 (l.length + 1))
          case first =>
            go_region_law (first
              | (refine step_append_lies _ rfl (.tmp 38) (.tmp 40) 101 rfl (w.heap.size + 2) 100 i2 (.agg #[.int .i64 0, .int .i64 0, .string ⟨#[]⟩]) 3 32 Tryz.underlying101 (unhide HI2) (unhide HZ02) (unhide HZ12) (unhide HZ22) rfl (by decide) (.slice ad l.length cp) l.length ys (by simp [Act.eval]) (((unhide HU).alloc _).alloc _) ⟨w4.heap.size + 1, 0, none⟩ 1 1 [.int .i64 ka, .int .i64 kbb, .string TX] (by simp [Act.eval]) rfl (cell_new (by first | rfl | simp)) (one3 _ _ _) (by decide) (by unfold maxLen; omega) (by omega) (by simp; omega) _ rfl ?_; intro gt ct w11 ho hg hat _; have K11 := hide ((hg.block c.qb (by simp; omega) (fun e' => ((unhide HOF) _ e'.symm).qb rfl)).trans (heap_prev (heap_prev (unhide HCS)))); obtain ⟨k11, f11⟩ := blk (unhide K11); have z11 := lt_of_heap (unhide K11); have KR11 := hide ((hg.block c.rb (by simp; omega) (fun e' => ((unhide HOF) _ e'.symm).rb rfl)).trans (heap_prev (heap_prev (unhide HRD)))); obtain ⟨k12, f12⟩ := blk (unhide KR11); have z12 := lt_of_heap (unhide KR11); have HO11 := hide ho; have HG11 := hide hg; have HAT11 := hide hat; clear ho hg hat)
              | fail)
            all_goals
              go_wp2_with fail
              go_meet
              case rel =>
                exact ⟨_, col_put (unhide HR4) (unhide HG4) (unhide HQ4) (unhide HO4) (by repeat (first | exact Below.refl _ _ | apply Below.drew | refine Below.alloc ?_ (by first | exact Nat.le_refl _ | (simp; done) | (simp; omega)) _)) (unhide HG11) (unhide HO11) ((unhide HAT11).imp id (fun e => by rw [e]; first | exact Nat.le_refl _ | (simp; done) | (simp; omega)))⟩
          case rest =>
            obtain ⟨v5, hr, hg, hq, hown⟩ := hcut
            have HR5 := hide hr
            have HG5 := hide hg
            have HQ5 := hide hq
            have HO5 := hide hown
            clear hr hg hq hown r0 hfr zr zq q3 qf HR4 HG4 HQ4 HO4 HU HCS HRD HOF
            go_wp2_with fail
            refine (rmay_k c _ (wkP c.ts S 2) x4 ⟨#[44]⟩ (by exact unhide HR5)).mono ?_
            rintro e w7 ⟨x7, rfl, hr7, hg7, hm7, hkp7⟩
            have HR7 := hide hr7
            have HG7 := hide ((unhide HG5).trans hg7)
            have HQ7 := hide ((unhide HQ5).kp hkp7 hne.1)
            have HO7 := hide ((unhide HO5).step hg7)
            have HM7 := hide hm7
            clear hr7 hg7 hm7 hkp7 HR5 HG5 HQ5 HO5
            go_wp2
            go_roundg gk
            case measure => simp
            case rel =>
              refine ⟨_, l ++ [(nameP c.ts S).1], takeS c.ts (nameP c.ts S).2 [⟨#[44]⟩], x7, hitP c.ts (nameP c.ts S).2 [⟨#[44]⟩], rfl, ⟨?_, unhide HQ7, by rw [List.length_append]; exact unhide HO7, by rw [List.length_append]; have := (unhide HRL).cnt; simp; omega⟩⟩
              refine (unhide HRL).ls.round (unhide HS) ?_ ?_ ?_ (onw_name (unhide HL) S hSn) (unhide HG7) (unhide HR7) (fun e => ?_)
              · rw [unhide HS]; exact many_or
              · rw [unhide HS]; exact many_dp
              · rw [unhide HS]; exact many_nx hnx'
              · rw [unhide HM7, unhide HM4, unhide HM3]
                exact ml_wk e
      | false =>
        have hdn := hrel.ls.done
        have HML2 := hide hdn.2
        have HR8 : Hid (RX c wr X2.2 xp) := by unfold Hid; rw [hdn.1]; exact hrel.ls.rx
        have hdX : X2.2.dp = 0 := by rw [hdn.1]; exact hrel.ls.dp
        have HG8 := hide hrel.ls.gx
        clear hdn hrel HRL
        have HO8 := hide (onw_want (unhide HL) (RF.nx (unhide HR8)) [⟨#[41]⟩])
        go_wp2_with fail
        refine (rmust_x c _ X2.2 xp ⟨#[41]⟩ (by exact unhide HR8)).mono ?_
        rintro e w9 ⟨x9, rfl, hr, hg, hm⟩
        have HR9 := hide hr
        have HG9 := hide ((unhide HG8).trans hg)
        have HM9 : Hid (x9.ms = xp.ms) := hm
        clear hr hg hm HR8 HG8
        have HO9 := hide (onw_want (unhide HL) (unhide HO8).lt [⟨#[97, 115]⟩])
        go_wp2_with fail
        refine (rmust_x c _ _ x9 ⟨#[97, 115]⟩ (by exact unhide HR9)).mono ?_
        rintro e w10 ⟨x10, rfl, hr, hg, hm⟩
        have HR10 := hide hr
        have HG10 := hide ((unhide HG9).trans hg)
        have HM10 : Hid (x10.ms = xp.ms) := hm.trans (unhide HM9)
        clear hr hg hm HR9 HG9
        have HO10 := hide (onw_want (unhide HL) (unhide HO9).lt [⟨#[40]⟩])
        go_wp2_with fail
        refine (rmust_x c _ _ x10 ⟨#[40]⟩ (by exact unhide HR10)).mono ?_
        rintro e w11 ⟨x11, rfl, hr, hg, hm⟩
        have HR11 : Hid (RX c w11 (wtOpen c.ts X2.2) x11) := hr
        have HG11 := hide ((unhide HG10).trans hg)
        have HM11 : Hid (x11.ms = xp.ms) := hm.trans (unhide HM10)
        have hd11 : (wtOpen c.ts X2.2).dp = 0 := (((unhide HO10).dp.trans (unhide HO9).dp).trans (unhide HO8).dp).trans hdX
        clear hr hg hm HR10 HG10 HO8 HO9 HO10
        generalize hS3 : wtOpen c.ts X2.2 = S3 at *
        have HS3 := hide hS3
        clear hS3
        obtain ⟨X3, HX3⟩ : ∃ X, Hid (X = selP c.ts S3) := ⟨_, rfl⟩
        have HC3 := hide (rselects_x c (unhide HW) (unhide HN) (unhide HC) w11 S3 x11 (unhide HR11) hd11)
        rw [← unhide HX3] at HC3
        have HC3D := hide (rselects_x c (unhide HW) (unhide HN) (unhide HC) w11.drew S3 x11 (unhide HR11).drew hd11)
        rw [← unhide HX3] at HC3D
        have HN3 := hide (onw_sel (unhide HL) (RF.nx (unhide HR11)))
        rw [← unhide HX3] at HN3
        obtain ⟨⟨r0, r1, r2, r3, r4⟩, hfr, q23, ⟨t0, t1, t2⟩, zr, zq, zt⟩ := RF.facts (unhide HR11)
        clear r1 r2 r3 r4 q23 t0 t1 t2 zt
        go_upto_region 12 with (fail)
        go_cut [] (fun W => ∃ x12, RX c W X3.2 x12 ∧ GX c w x W x12 ∧ (X3.2.er = none → Ml S3 X3.2 (tkSel X3.1) xp.ms x12.ms))
        case first =>
          go_region_with (first
            | (go_at_call 69; first | refine (unhide HC3).mono ?_ | refine (unhide HC3D).mono ?_; rintro e w12 ⟨b1, b2, b3, b4, l1, c1, l2, c2, l3, c3, l4, c4, x12, rfl, hr, hg, hm⟩; obtain ⟨⟨r10, _, _, _, _⟩, _, _, _, zr1, zq1, _⟩ := RF.facts hr; have qf1 := hr.qfro; obtain ⟨v14, e14⟩ := hr.qcell 4 (by decide); obtain ⟨v15, e15⟩ := hr.qcell 5 (by decide); obtain ⟨v16, e16⟩ := hr.qcell 6 (by decide); obtain ⟨v17, e17⟩ := hr.qcell 7 (by decide); obtain ⟨v18, e18⟩ := hr.qcell 8 (by decide); have HR12 := hide hr; have HG12 := hide hg; have HM12 := hide hm; clear hr hg hm)
            | fail)
          all_goals
            go_wp2_with fail
            go_meet
            case rel =>
              refine ⟨x12, ?_, ?_, ?_⟩
              · repeat (first | exact unhide HR12 | refine RX.setQ ?_ (by decide) | refine RX.drew ?_)
              · repeat (first | exact (unhide HG11).trans (unhide HG12) | exact (unhide HG11).trans (GX.drew0 (unhide HG12)) | refine GX.setQ ?_ | refine GX.drew ?_)
              · rw [← unhide HM11]; exact unhide HM12
        case rest =>
          obtain ⟨x12, hr, hg, hm12⟩ := hcut
          have HR12 := hide hr
          have HG12 := hide hg
          have HM12 := hide hm12
          clear hr hg hm12 r0 hfr zr zq HR11 HG11 HC3 HC3D
          obtain ⟨⟨r0, r1, r2, r3, r4⟩, hfr, q23, ⟨t0, t1, t2⟩, zr, zq, zt⟩ := RF.facts (unhide HR12)
          have hinx13 := RF.inx (unhide HR12)
          have qf13 := (unhide HR12).qfro
          obtain ⟨vq13, eq13⟩ := (unhide HR12).qcell 19 (by decide)
          generalize hTK : (tkAt c.ts x12.I).place = pl13 at *
          clear hTK
          clear r2 r3 r4 t0 t2
          go_upto_region 13 with (fail)
          go_cut [] (fun W => RX c W X3.2 x12 ∧ GX c w x W x12)
          case first =>
            go_region
            all_goals
              go_wp2_with fail
              go_meet
              case rel =>
                refine ⟨?_, ?_⟩
                · repeat (first | exact unhide HR12 | refine RX.setQ ?_ (by decide) | refine RX.drew ?_)
                · repeat (first | exact unhide HG12 | refine GX.setQ ?_ | refine GX.drew ?_)
          case rest =>
            obtain ⟨hr, hg⟩ := hcut
            have HR13 := hide hr
            have HG13 := hide hg
            clear hr hg r0 r1 hfr q23 t1 zr zq zt hinx13 qf13 eq13 HR12 HG12
            have HO13 := hide (onw_want (unhide HL) (unhide HN3).lt [⟨#[117, 110, 105, 111, 110]⟩])
            go_wp2_with fail
            refine (rmust_x c _ X3.2 x12 ⟨#[117, 110, 105, 111, 110]⟩ (by exact unhide HR13)).mono ?_
            rintro e w14 ⟨x14, rfl, hr, hg, hm14⟩
            have HR14 := hide hr
            have HG14 := hide ((unhide HG13).trans hg)
            have HM14 := hide hm14
            have hd14 : (wantP c.ts X3.2 [⟨#[117, 110, 105, 111, 110]⟩]).dp = 0 := ((unhide HO13).dp.trans (unhide HN3).dp).trans hd11
            clear hr hg hm14 HR13 HG13
            generalize hS4 : wantP c.ts X3.2 [⟨#[117, 110, 105, 111, 110]⟩] = S4 at *
            have HS4 := hide hS4
            clear hS4
            obtain ⟨X4, HX4⟩ : ∃ X, Hid (X = selP c.ts S4) := ⟨_, rfl⟩
            have HC4 := hide (rselects_x c (unhide HW) (unhide HN) (unhide HC) w14 S4 x14 (unhide HR14) hd14)
            rw [← unhide HX4] at HC4
            have HC4D := hide (rselects_x c (unhide HW) (unhide HN) (unhide HC) w14.drew S4 x14 (unhide HR14).drew hd14)
            rw [← unhide HX4] at HC4D
            obtain ⟨⟨r0, r1, r2, r3, r4⟩, hfr, q23, ⟨t0, t1, t2⟩, zr, zq, zt⟩ := RF.facts (unhide HR14)
            clear r1 r2 r3 r4 q23 t0 t1 t2 zt
            go_upto_region 15 with (fail)
            go_cut [] (fun W => ∃ x15, RX c W X4.2 x15 ∧ GX c w x W x15 ∧ (X4.2.er = none → Ml S4 X4.2 (tkSel X4.1) x12.ms x15.ms))
            case first =>
              go_region_with (first
                | (go_at_call 69; first | refine (unhide HC4).mono ?_ | refine (unhide HC4D).mono ?_; rintro e w15 ⟨b1, b2, b3, b4, l1, c1, l2, c2, l3, c3, l4, c4, x15, rfl, hr, hg, hm⟩; obtain ⟨⟨r10, _, _, _, _⟩, _, _, _, zr1, zq1, _⟩ := RF.facts hr; have qf1 := hr.qfro; obtain ⟨v14, e14⟩ := hr.qcell 9 (by decide); obtain ⟨v15, e15⟩ := hr.qcell 10 (by decide); obtain ⟨v16, e16⟩ := hr.qcell 11 (by decide); obtain ⟨v17, e17⟩ := hr.qcell 12 (by decide); obtain ⟨v18, e18⟩ := hr.qcell 13 (by decide); have HR15 := hide hr; have HG15 := hide hg; have HM15 := hide hm; clear hr hg hm)
                | fail)
              all_goals
                go_wp2_with fail
                go_meet
                case rel =>
                  refine ⟨x15, ?_, ?_, ?_⟩
                  · repeat (first | exact unhide HR15 | refine RX.setQ ?_ (by decide) | refine RX.drew ?_)
                  · repeat (first | exact (unhide HG14).trans (unhide HG15) | exact (unhide HG14).trans (GX.drew0 (unhide HG15)) | refine GX.setQ ?_ | refine GX.drew ?_)
                  · rw [← unhide HM14]; exact unhide HM15
            case rest =>
              obtain ⟨x15, hr, hg, hm15⟩ := hcut
              have HR15 := hide hr
              have HG15 := hide hg
              have HM15 := hide hm15
              clear hr hg hm15 r0 hfr zr zq HR14 HG14 HC4 HC4D
              obtain ⟨⟨r0, r1, r2, r3, r4⟩, hfr, q23, ⟨t0, t1, t2⟩, zr, zq, zt⟩ := RF.facts (unhide HR15)
              have hinx16 := RF.inx (unhide HR15)
              have qf16 := (unhide HR15).qfro
              obtain ⟨vq16, eq16⟩ := (unhide HR15).qcell 20 (by decide)
              generalize hTK : (tkAt c.ts x15.I).place = pl16 at *
              clear hTK
              clear r2 r3 r4 t0 t2
              go_upto_region 16 with (fail)
              go_cut [] (fun W => RX c W X4.2 x15 ∧ GX c w x W x15)
              case first =>
                go_region
                all_goals
                  go_wp2_with fail
                  go_meet
                  case rel =>
                    refine ⟨?_, ?_⟩
                    · repeat (first | exact unhide HR15 | refine RX.setQ ?_ (by decide) | refine RX.drew ?_)
                    · repeat (first | exact unhide HG15 | refine GX.setQ ?_ | refine GX.drew ?_)
              case rest =>
                obtain ⟨hr, hg⟩ := hcut
                have HR16 := hide hr
                have HG16 := hide hg
                clear hr hg r0 r1 hfr q23 t1 zr zq zt hinx16 qf16 eq16 HR15 HG15
                go_wp2_with fail
                refine (rmust_x c _ X4.2 x15 ⟨#[41]⟩ (by exact unhide HR16)).mono ?_
                rintro e w17 ⟨x17, rfl, hr, hg, hm17⟩
                have HR17 := hide hr
                have HG17 := hide ((unhide HG16).trans hg)
                have HM17 := hide hm17
                clear hr hg hm17
                go_wp2
                go_end0
                have e2 : X2 = wtCols c.ts st := by rw [unhide HX2, ← unhide HS2]; rfl
                have e3 : X3 = wtA c.ts st := by rw [unhide HX3, ← unhide HS3, e2]; rfl
                have e4 : X4 = wtB c.ts (wtA c.ts st).2 := by rw [unhide HX4, ← unhide HS4, e3]; rfl
                refine ⟨x17, rfl, ?_, unhide HG17, ?_⟩
                · show RX c w17 (wantP c.ts (wtB c.ts (wtA c.ts st).2).2 [⟨#[41]⟩]) x17
                  rw [← e4]
                  exact unhide HR17
                · refine with_ml (unhide HW) hnx (s1 := xp.ms) (s2 := x12.ms) (s3 := x15.ms) ?_ ?_ ?_ (unhide HM17)
                  · rw [← e2, unhide HS2, ← unhide HM2]; exact unhide HML2
                  · rw [← e3, ← e2, unhide HS3]; exact unhide HM12
                  · rw [← e4, ← e3, unhide HS4]; exact unhide HM15
end Go.Proofs.YtfkeddkfegaeiaaGreatDoor
