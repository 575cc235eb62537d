/-
  Part 40.
-/
import Derived.Test.YtfkeddkfegaeiaaGreatDoorMRfM
namespace Go.Proofs.YtfkeddkfegaeiaaGreatDoor
open Go.RowKit

theorem plain_br {ts : List Tk} {st : St} (hm : hitP ts st xMin = false) (hh : hitP ts st xOpen = true) (n : Nat) : factorP ts (n + 1) st = (ndBr (tkAt ts st.nx).place :: (deepP (exprOf ts (factorP ts n)) (adv st)).1, wantP ts (deepP (exprOf ts (factorP ts n)) (adv st)).2 xClose) := by
  unfold factorP
  rw [hm, if_neg (by decide), if_pos hh]
theorem want_dp (ts : List Tk) (st : St) (d : Nat) (xs : List ByteArray) : wantP ts { st with dp := d } xs = { wantP ts st xs with dp := d } := by
  unfold wantP
  rw [show hitP ts { st with dp := d } xs = hitP ts st xs from rfl]
  split <;> rfl
theorem want_keeps_dp (ts : List Tk) (st : St) (xs : List ByteArray) : (wantP ts st xs).dp = st.dp := by
  unfold wantP
  split <;> rfl

set_option maxRecDepth 100000 in
set_option maxHeartbeats 1000000 in
theorem rfactor_br (c : Cf) (w : World) (st : St) (I : Nat) (ms : List Nat) (mv ev : Value) (en n : Nat) (h : RF c w st I ms mv ev en) (hw : Lw c.ts) (hd : st.dp ≤ 16) (hm : hitP c.ts st xMin = false) (hh : hitP c.ts st xOpen = true) (hS : RSp c 169 (st.dp + 1) (exprOf c.ts (factorP c.ts n))) :
    Calls Tryz.prog 278 #[.pointer (some ⟨c.rb, 0, none⟩)] w fun e w' => ExF c w I ms mv ev en st.nx (factorP c.ts (n + 1) st) e w' := by
  have he := h.okHit hh
  have hI := h.cor he
  subst hI
  obtain ⟨⟨r0, r1, r2, r3, r4⟩, hfr, q23, ⟨t0, t1, t2⟩, zr, zq, zt⟩ := h.facts
  have r3' : w.cell? ⟨c.rb, 3, none⟩ = some (.int .i64 0) := by rw [r3, he]; rfl
  have hdd : decide (16 < (st.dp : Int)) = false := by simp; omega
  have hk1 : (tkAt c.ts st.nx).kind = 1 := by
    unfold hitP at hh
    rw [Bool.and_eq_true] at hh
    simpa using hh.1
  have htx := hit_one hh
  have hrk : rkT (tkAt c.ts st.nx) = 4 := by unfold rkT; rw [if_pos hk1, htx]; rfl
  have hlen := h.len
  have hnx := h.nx
  have hfew := h.few
  have HH := hide h
  have HE := hide he
  have HHIT := hide hh
  have HMIN := hide hm
  have HS := hide hS
  rw [hrk] at t0
  clear h r3 he hh hS hk1 htx hrk hm
  rw [plain_br (unhide HMIN) (unhide HHIT)]
  go_enter Tryz.func278, Tryz.ntmps278
  go_wp2
  go_region
  go_wp2_with fail
  have HRD : Hid (RF c (w.setCell ⟨c.rb, 2, none⟩ (.int .i64 ((st.dp : Int) + 1))).drew { st with dp := st.dp + 1 } st.nx ms mv ev en) := ((unhide HH).deeper (st.dp + 1) (by omega)).keep (Below.refl _ _).drew
  refine (rmay_any c _ { st with dp := st.dp + 1 } st.nx ⟨#[45]⟩ ms mv ev en (by exact unhide HRD)).mono ?_
  rintro e w1 ⟨rfl, ⟨I1, hI1, hr⟩, hk⟩
  have hh1 : hitP c.ts { st with dp := st.dp + 1 } [⟨#[45]⟩] = false := unhide HMIN
  unfold takeS at hr
  rw [hh1] at hr ⊢
  simp only [Bool.false_eq_true, if_false] at hr
  have hI2 : I1 = st.nx := hr.cor (unhide HE)
  subst hI2
  have HR := hide hr
  have HK : Hid (Kp c.rb w w1) := (((Kp.refl c.rb w).setCell _ _).drew).trans hk
  clear r0 r1 r2 r3' r4 hfr q23 t0 t1 t2 zr zq zt hk hh1 HRD hI1 hr
  go_wp2_with fail
  refine (rmust_any c _ { st with dp := st.dp + 1 } st.nx ⟨#[40]⟩ ms mv ev en (by exact unhide HR)).mono ?_
  rintro e w2 ⟨rfl, ⟨I2, hI2, hr⟩, hk⟩
  have hh2 : wantP c.ts { st with dp := st.dp + 1 } [⟨#[40]⟩] = adv { st with dp := st.dp + 1 } := by unfold wantP; rw [if_pos (show hitP c.ts { st with dp := st.dp + 1 } [⟨#[40]⟩] = true from unhide HHIT)]
  rw [hh2] at hr
  have hI3 : I2 = st.nx + 1 := hr.cor (unhide HE)
  subst hI3
  have HR2 := hide hr
  have HF2 := hide (Fr.ofKp mv ev ((unhide HK).trans hk))
  have hltN := hr.nx
  clear hr hk hh2 hI2
  obtain ⟨X, HX⟩ : ∃ X, Hid (X = exprOf c.ts (factorP c.ts n) (adv { st with dp := st.dp + 1 })) := ⟨_, rfl⟩
  have HSX := hide ((unhide HS) w2 (adv { st with dp := st.dp + 1 }) (st.nx + 1) ms mv ev en (unhide HR2) rfl)
  rw [← unhide HX] at HSX
  have hdX : X.2.dp = st.dp + 1 := by rw [unhide HX]; exact (onw_expr hw.last (onw_factor hw.last n) _ hltN).dp
  have hltX : X.2.nx < c.ts.length := by rw [unhide HX]; exact (onw_expr hw.last (onw_factor hw.last n) _ hltN).lt
  have HWF : Hid (X.2.er = none → WfE X.1 ∧ Lin c.ts (adv { st with dp := st.dp + 1 }) X.2 (tkE X.1)) := fun e => by
    rw [unhide HX] at e ⊢
    exact lin_exprOf hw (onw_factor hw.last n) (lin_factor hw n) _ hltN e
  go_wp2_with fail
  refine (unhide HSX).mono ?_
  rintro e w3 ⟨na, I3, ms3, mv3, ev3, en3, rfl, hr3, hf3, hI3, hen3, hms3, hx3⟩
  have HR3 := hide hr3
  have HF3 := hide ((unhide HF2).trans hf3)
  have HX3 := hide hx3
  clear hr3 hf3 hx3 HSX
  go_wp2_with fail
  refine (rmust_any c _ X.2 I3 ⟨#[41]⟩ ms3 mv3 ev3 en3 (by exact unhide HR3)).mono ?_
  rintro e w4 ⟨rfl, ⟨I4, hI4, hr4⟩, hk4⟩
  have HF4 := hide ((unhide HF3).trans (Fr.ofKp mv3 ev3 hk4))
  obtain ⟨⟨r0, r1, r2, r3, r4⟩, hfr, q23, ⟨t0, t1, t2⟩, zr, zq, zt⟩ := hr4.facts
  have HD : Hid (RF c (w4.setCell ⟨c.rb, 2, none⟩ (.int .i64 (st.dp : Int))) { wantP c.ts X.2 [⟨#[41]⟩] with dp := st.dp } I4 ms3 mv3 ev3 en3) := hr4.deeper st.dp (by omega)
  clear hr4 hk4
  rw [want_keeps_dp, hdX] at r2
  go_wp2
  go_ret
  have hdeep : deepP (exprOf c.ts (factorP c.ts n)) (adv st) = (X.1, { X.2 with dp := st.dp }) := by
    unfold deepP
    rw [show ({ adv st with dp := (adv st).dp + 1 } : St) = adv { st with dp := st.dp + 1 } from rfl, ← unhide HX, hdX]
    rfl
  rw [hdeep]
  refine ⟨na, I4, ms3, mv3, ev3, en3, rfl, ?_, (unhide HF4).trans (Fr.ofKp _ _ ((Kp.refl _ _).setCell _ _)), by omega, by omega, by omega, fun e => ?_⟩
  · show RF c _ (wantP c.ts { X.2 with dp := st.dp } xClose) _ _ _ _ _
    rw [want_dp]
    exact unhide HD
  · have e1 : (wantP c.ts X.2 [⟨#[41]⟩]).er = none := by
      have e' : (wantP c.ts { X.2 with dp := st.dp } xClose).er = none := e
      rw [want_dp] at e'
      exact e'
    have e2 : X.2.er = none := (onw_want hw.last hltX _).er e1
    have hwf := (unhide HWF) e2
    show ms3 = ms ++ idx st.nx (tkE (ndBr _ :: X.1))
    rw [(unhide HX3) e2, (wf_br hwf.1 _).2, idx, if_neg (by decide), idx_append, idx_tx [tx ⟨#[41]⟩] _ (fun t ht => by simp only [List.mem_singleton] at ht; rw [ht]; rfl), List.append_nil]
    rfl
end Go.Proofs.YtfkeddkfegaeiaaGreatDoor
namespace Go.Proofs.YtfkeddkfegaeiaaGreatDoor
open Go.RowKit

theorem plain_none {ts : List Tk} (hl : Lst ts) {st : St} (h0 : st.nx < ts.length) (hm : hitP ts st xMin = false) (hh : hitP ts st xOpen = false) (h2 : (tkAt ts st.nx).kind ≠ 2) (h3 : (tkAt ts st.nx).kind ≠ 3) (n : Nat) : (factorP ts (n + 1) st).2 = failP ts st eSyntax := by
  have e1 : wkP ts st 2 = failP ts st eSyntax := by unfold wkP; rw [if_neg h2]
  have hs : Stopped ts (failP ts st eSyntax) := ⟨fun e => fail_nn e, by show ts.length - 1 + 1 = ts.length; omega⟩
  unfold factorP
  rw [hm, hh]
  simp only [Bool.false_eq_true, if_false]
  rw [if_neg h3]
  show colP ts st = _
  unfold colP
  rw [e1, want_stopped hl hs, wk_stopped hl hs (by decide)]

set_option maxRecDepth 100000 in
set_option maxHeartbeats 1000000 in
theorem rfactor_none (c : Cf) (w : World) (st : St) (I : Nat) (ms : List Nat) (mv ev : Value) (en n : Nat) (h : RF c w st I ms mv ev en) (he : st.er = none) (hd : st.dp ≤ 16) (hm : hitP c.ts st xMin = false) (hh : hitP c.ts st xOpen = false) (h2 : (tkAt c.ts st.nx).kind ≠ 2) (h3 : (tkAt c.ts st.nx).kind ≠ 3) (hS : RSp c 169 (st.dp + 1) (exprOf c.ts (factorP c.ts n))) :
    Calls Tryz.prog 278 #[.pointer (some ⟨c.rb, 0, none⟩)] w fun e w' => ExF c w I ms mv ev en st.nx (factorP c.ts (n + 1) st) e w' := by
  have hpl := plain_none h.last h.nx hm hh h2 h3 n
  have hI := h.cor he
  subst hI
  obtain ⟨⟨r0, r1, r2, r3, r4⟩, hfr, q23, ⟨t0, t1, t2⟩, zr, zq, zt⟩ := h.facts
  have r3' : w.cell? ⟨c.rb, 3, none⟩ = some (.int .i64 0) := by rw [r3, he]; rfl
  have hdd : decide (16 < (st.dp : Int)) = false := by simp; omega
  have hk3 := h.kinds st.nx
  have hrk : ((rkT (tkAt c.ts st.nx) : Nat) : Int) ≠ 3 ∧ ((rkT (tkAt c.ts st.nx) : Nat) : Int) ≠ 2 := by
    unfold rkT
    split
    · split <;> decide
    · split
      · decide
      · omega
  have hb3 : (((rkT (tkAt c.ts st.nx) : Nat) : Int) == 3) = false := by simpa using hrk.1
  have hb2 : (((rkT (tkAt c.ts st.nx) : Nat) : Int) == 2) = false := by simpa using hrk.2
  have hlen := h.len
  have hnx := h.nx
  have hfew := h.few
  have HLAST := hide h.last
  have HH := hide h
  have HE := hide he
  have HHIT := hide hh
  have HMIN := hide hm
  have HS := hide hS
  have HPL := hide hpl
  clear h r3 he hh hS hm hpl h2 h3 hk3 hrk
  generalize ((rkT (tkAt c.ts st.nx) : Nat) : Int) = rk at *
  go_enter Tryz.func278, Tryz.ntmps278
  go_wp2
  go_region
  go_wp2_with fail
  have HRD : Hid (RF c (w.setCell ⟨c.rb, 2, none⟩ (.int .i64 ((st.dp : Int) + 1))).drew { st with dp := st.dp + 1 } st.nx ms mv ev en) := ((unhide HH).deeper (st.dp + 1) (by omega)).keep (Below.refl _ _).drew
  refine (rmay_any c _ { st with dp := st.dp + 1 } st.nx ⟨#[45]⟩ ms mv ev en (by exact unhide HRD)).mono ?_
  rintro e w1 ⟨rfl, ⟨I1, hI1, hr⟩, hk⟩
  have hh1 : hitP c.ts { st with dp := st.dp + 1 } [⟨#[45]⟩] = false := unhide HMIN
  unfold takeS at hr
  rw [hh1] at hr ⊢
  simp only [Bool.false_eq_true, if_false] at hr
  have HR := hide hr
  have HK : Hid (Kp c.rb w w1) := (((Kp.refl c.rb w).setCell _ _).drew).trans hk
  clear r0 r1 r2 r3' r4 hfr q23 t0 t1 t2 zr zq zt hk hh1 HRD hr
  go_wp2_with fail
  refine (rmust_any c _ { st with dp := st.dp + 1 } I1 ⟨#[40]⟩ ms mv ev en (by exact unhide HR)).mono ?_
  rintro e w2 ⟨rfl, ⟨I2, hI2, hr⟩, hk⟩
  have hh2 : wantP c.ts { st with dp := st.dp + 1 } [⟨#[40]⟩] = failP c.ts { st with dp := st.dp + 1 } eSyntax := by unfold wantP; rw [if_neg (by rw [show hitP c.ts { st with dp := st.dp + 1 } [⟨#[40]⟩] = false from unhide HHIT]; decide)]
  rw [hh2] at hr
  obtain ⟨F, HFF⟩ : ∃ F, Hid (F = failP c.ts { st with dp := st.dp + 1 } eSyntax) := ⟨_, rfl⟩
  rw [← unhide HFF] at hr
  have hst : Stopped c.ts F := by rw [unhide HFF]; exact ⟨fun e => fail_nn e, by show c.ts.length - 1 + 1 = c.ts.length; omega⟩
  have hdF : F.dp = st.dp + 1 := by rw [unhide HFF]; rfl
  have HST := hide hst
  have HR2 := hide hr
  have HF2 := hide (Fr.ofKp mv ev ((unhide HK).trans hk))
  have hXe := expr_stopped (unhide HLAST) hst n
  have HSX := hide ((unhide HS) w2 F I2 ms mv ev en (unhide HR2) hdF)
  clear hr hk hh2 hst
  go_wp2_with fail
  refine (unhide HSX).mono ?_
  rintro e w3 ⟨na, I3, ms3, mv3, ev3, en3, rfl, hr3, hf3, hI3, hen3, hms3, hx3⟩
  rw [hXe] at hr3
  have HR3 := hide hr3
  have HF3 := hide ((unhide HF2).trans hf3)
  clear hr3 hf3 hx3 HSX hXe
  go_wp2_with fail
  refine (rmust_any c _ F I3 ⟨#[41]⟩ ms3 mv3 ev3 en3 (by exact unhide HR3)).mono ?_
  rintro e w4 ⟨rfl, ⟨I4, hI4, hr4⟩, hk4⟩
  rw [want_stopped (unhide HLAST) (unhide HST)] at hr4
  have HF4 := hide ((unhide HF3).trans (Fr.ofKp mv3 ev3 hk4))
  obtain ⟨⟨r0, r1, r2, r3, r4⟩, hfr, q23, ⟨t0, t1, t2⟩, zr, zq, zt⟩ := hr4.facts
  have HD : Hid (RF c (w4.setCell ⟨c.rb, 2, none⟩ (.int .i64 (st.dp : Int))) { F with dp := st.dp } I4 ms3 mv3 ev3 en3) := hr4.deeper st.dp (by omega)
  clear hr4 hk4
  rw [hdF] at r2
  go_wp2
  go_ret
  refine ⟨na, I4, ms3, mv3, ev3, en3, rfl, ?_, (unhide HF4).trans (Fr.ofKp _ _ ((Kp.refl _ _).setCell _ _)), by omega, by omega, by omega, fun e => ?_⟩
  · rw [unhide HPL]
    have e : failP c.ts st eSyntax = { F with dp := st.dp } := by rw [unhide HFF]; rfl
    rw [e]
    exact unhide HD
  · rw [unhide HPL] at e
    exact (fail_nn e).elim

/-- factor, whatever stands there; n: how much deeper it may go. -/
theorem rfactor_any (c : Cf) (hw : Lw c.ts) (hN : NumOk c.ts) (n d : Nat) (hnd : n + d = 17) (hF : ∀ m, n = m + 1 → RSp c 278 (d + 1) (factorP c.ts m)) (hS : ∀ m, n = m + 1 → RSp c 169 (d + 1) (exprOf c.ts (factorP c.ts m))) : RSp c 278 d (factorP c.ts n) := by
  intro w st I ms mv ev en h hd
  by_cases he : st.er = none
  · match n, hnd, hF, hS with
    | 0, hnd, _, _ => exact rfactor_deep c w st I ms mv ev en h he (by omega)
    | m + 1, hnd, hF, hS =>
      have hF' := hF m rfl
      have hS' := hS m rfl
      rw [← hd] at hF' hS'
      cases hm : hitP c.ts st xMin with
      | true => exact rfactor_minus c w st I ms mv ev en m h hw (by omega) hm hF'
      | false =>
        cases hh : hitP c.ts st xOpen with
        | true => exact rfactor_br c w st I ms mv ev en m h hw (by omega) hm hh hS'
        | false =>
          by_cases h3 : (tkAt c.ts st.nx).kind = 3
          · exact rfactor_num c w st I ms mv ev en m h hN he (by omega) h3
          · by_cases h2 : (tkAt c.ts st.nx).kind = 2
            · exact rfactor_col c w st I ms mv ev en m h he (by omega) h2
            · exact rfactor_none c w st I ms mv ev en m h he (by omega) hm hh h2 h3 hS'
  · exact rfactor_stop c w st I ms mv ev en n h he
end Go.Proofs.YtfkeddkfegaeiaaGreatDoor
