/-
  Part 39.
-/
import Derived.Test.YtfkeddkfegaeiaaGreatDoorMRfI
namespace Go.Proofs.YtfkeddkfegaeiaaGreatDoor
open Go.RowKit

theorem plain_minus {ts : List Tk} {st : St} (hh : hitP ts st xMin = true) (n : Nat) : factorP ts (n + 1) st = (ndMinus (tkAt ts st.nx).place :: (deepP (factorP ts n) (adv st)).1, (deepP (factorP ts n) (adv st)).2) := by
  unfold factorP
  rw [if_pos hh]

theorem one1 (a : Int) : ∀ u ∈ [Value.int .i64 a], u.oneCell' = true := by
  intro u hu
  simp only [List.mem_singleton] at hu
  subst hu
  rfl
set_option maxRecDepth 100000 in
set_option maxHeartbeats 1000000 in
theorem rfactor_minus (c : Cf) (w : World) (st : St) (I : Nat) (ms : List Nat) (mv ev : Value) (en n : Nat) (h : RF c w st I ms mv ev en) (hw : Lw c.ts) (hd : st.dp ≤ 16) (hh : hitP c.ts st xMin = true) (hS : RSp c 278 (st.dp + 1) (factorP c.ts n)) :
    Calls Tryz.prog 278 #[.pointer (some ⟨c.rb, 0, none⟩)] w fun e w' => ExF c w I ms mv ev en st.nx (factorP c.ts (n + 1) st) e w' := by
  obtain ⟨i0, hi, hinf⟩ := Option.map_eq_some_iff.1 infoIn
  simp only [Prod.mk.injEq] at hinf
  obtain ⟨hz0, hz1, hz2⟩ := hinf
  have HI := hide hi
  have HZ0 := hide hz0
  have HZ1 := hide hz1
  have HZ2 := hide hz2
  clear hi hz0 hz1 hz2
  have he := h.okHit hh
  have hI := h.cor he
  subst hI
  obtain ⟨⟨r0, r1, r2, r3, r4⟩, hfr, q23, ⟨t0, t1, t2⟩, zr, zq, zt⟩ := h.facts
  have r3' : w.cell? ⟨c.rb, 3, none⟩ = some (.int .i64 0) := by rw [r3, he]; rfl
  have hdd : decide (16 < (st.dp : Int)) = false := by simp; omega
  have hk1 : (tkAt c.ts st.nx).kind = 1 := by
    unfold hitP at hh
    rw [Bool.and_eq_true] at hh
    simpa using hh.1
  have htx := hit_one hh
  have hrk : rkT (tkAt c.ts st.nx) = 4 := by unfold rkT; rw [if_pos hk1, htx]; rfl
  have hlen := h.len
  have hnx := h.nx
  have HH := hide h
  have HE := hide he
  have HHIT := hide hh
  have HS := hide hS
  rw [hrk] at t0
  clear h r3 he hh hS hk1 htx hrk
  rw [plain_minus (unhide HHIT)]
  go_enter Tryz.func278, Tryz.ntmps278
  go_wp2
  go_region
  go_wp2_with fail
  have HRD : Hid (RF c (w.setCell ⟨c.rb, 2, none⟩ (.int .i64 ((st.dp : Int) + 1))).drew { st with dp := st.dp + 1 } st.nx ms mv ev en) := ((unhide HH).deeper (st.dp + 1) (by omega)).keep (Below.refl _ _).drew
  refine (rmay_any c _ { st with dp := st.dp + 1 } st.nx ⟨#[45]⟩ ms mv ev en (by exact unhide HRD)).mono ?_
  rintro e w1 ⟨rfl, ⟨I1, hI1, hr⟩, hk⟩
  have hh1 : hitP c.ts { st with dp := st.dp + 1 } [⟨#[45]⟩] = true := unhide HHIT
  unfold takeS at hr
  rw [hh1] at hr ⊢
  simp only [if_true] at hr
  have hI2 : I1 = st.nx + 1 := hr.cor (unhide HE)
  subst hI2
  have HR := hide hr
  have HK : Hid (Kp c.rb w w1) := (((Kp.refl c.rb w).setCell _ _).drew).trans hk
  clear r0 r1 r2 r3' r4 hfr q23 t0 t1 t2 zr zq zt hk hh1 HRD hI1
  obtain ⟨⟨r0, r1, r2, r3, r4⟩, hfr, q23, ⟨t0, t1, t2⟩, zr, zq, zt⟩ := hr.facts
  obtain ⟨cs, xs, hq, hz, h23, h22, h21, hv, hu⟩ := hr.query
  obtain ⟨kq, fq⟩ := blk hq
  obtain ⟨ae, ce, hev⟩ := row_slice hv
  have hlo := hr.top
  have hlw := hr.low
  have hfew := (unhide HH).few
  have HQ := hide hq
  have HU := hide hv
  have q22 : w1.cell? ⟨c.qb, 22, none⟩ = some (.slice ae ms.length ce) := by rw [kq, h22, hev]
  subst hev
  clear hr hq hu hv kq
  go_upto_region 19 with (fail)
  go_cut [] from 74 to 89 (fun W => ∃ mv', RF c W (adv { st with dp := st.dp + 1 }) (st.nx + 1) (ms ++ [st.nx]) mv' ev en ∧ Fr c w1 (.slice ae ms.length ce) ev W mv' ev)
  case first =>
    go_region_law (first
      | (refine step_append_lies _ rfl (.tmp 84) (.tmp 86) 32 rfl c.lo 3 i0 (.int .i64 0) 1 8 Tryz.underlying32 (unhide HI) (unhide HZ0) (unhide HZ1) (unhide HZ2) rfl (by decide) (.slice ae ms.length ce) ms.length (intCells ms) (by simp [Act.eval]) ((unhide HU).alloc _) ⟨w1.heap.size, 0, none⟩ 1 1 [.int .i64 (st.nx : Int)] (by simp [Act.eval]) rfl (cell_new (by first | rfl | simp)) (one1 _) (by decide) (by unfold maxLen; omega) (by omega) (by simp; omega) _ rfl ?_; intro gt ct w11 ho hg hat _; have K11 := hide ((hg.block c.qb (by simp; omega) (fun e' => by have := ((unhide HU).lt _ e'.symm).1; omega)).trans (heap_prev (unhide HQ))); obtain ⟨k11, f11⟩ := blk (unhide K11); have z11 := lt_of_heap (unhide K11); have KR11 := hide ((hg.block c.rb (by simp; omega) (fun e' => by have := ((unhide HU).lt _ e'.symm).1; omega)).trans (heap_prev (unhide HR).reader)); obtain ⟨k12, f12⟩ := blk (unhide KR11); have z12 := lt_of_heap (unhide KR11); have HO11 := hide ho; have HG11 := hide hg; have HAT11 := hide hat; clear ho hg hat)
      | fail)
    all_goals
      go_wp2_with fail
      go_meet
      case rel =>
        exact ⟨_, (unhide HR).addedM st.nx (by show ms.length + 1 ≤ st.nx + 1; omega) (by repeat (first | exact Below.refl _ _ | apply Below.drew | refine Below.alloc ?_ (by first | exact Nat.le_refl _ | (simp; done) | (simp; omega)) _)) (unhide HO11) (unhide HG11) ((unhide HAT11).imp id (fun e => by rw [e]; first | exact Nat.le_refl _ | (simp; done) | (simp; omega)))⟩
  case rest =>
    obtain ⟨mv', hr, hf⟩ := hcut
    have HR2 := hide hr
    have HF2 := hide ((Fr.ofKp (.slice ae ms.length ce) ev (unhide HK)).trans hf)
    have hltN := hr.nx
    clear hr hf r0 r1 r2 r3 r4 hfr q23 t0 t1 t2 zr zq zt q22
    obtain ⟨X, HX⟩ : ∃ X, Hid (X = factorP c.ts n (adv { st with dp := st.dp + 1 })) := ⟨_, rfl⟩
    have HSX := hide ((unhide HS) wc (adv { st with dp := st.dp + 1 }) (st.nx + 1) (ms ++ [st.nx]) mv' ev en (unhide HR2) rfl)
    rw [← unhide HX] at HSX
    have hdX : X.2.dp = st.dp + 1 := by rw [unhide HX]; exact (onw_factor hw.last n _ hltN).dp
    have HWF : Hid (X.2.er = none → WfE X.1) := fun e => by
      rw [unhide HX] at e ⊢
      exact (lin_factor hw n _ hltN e).1
    go_wp2_with fail
    refine (unhide HSX).mono ?_
    rintro e w3 ⟨na, I3, ms3, mv3, ev3, en3, rfl, hr3, hf3, hI3, hen3, hms3, hx3⟩
    have HR3 := hide hr3
    have HF3 := hide ((unhide HF2).trans hf3)
    have HX3 := hide hx3
    rw [List.length_append] at hms3
    clear hr3 hf3 hx3 HSX
    go_wp2_with fail
    refine (radd_any c _ X.2 I3 ms3 mv3 ev3 en3 (by exact unhide HR3) (by omega) _ _ _ _ _ _ _ _ _ _).mono ?_
    rintro e w4 ⟨nv, ev4, rfl, hr4, hf4⟩
    have HR4 := hide hr4
    have HF4 := hide ((unhide HF3).trans hf4)
    obtain ⟨⟨r0, r1, r2, r3, r4⟩, hfr, q23, ⟨t0, t1, t2⟩, zr, zq, zt⟩ := hr4.facts
    have HD : Hid (RF c (w4.setCell ⟨c.rb, 2, none⟩ (.int .i64 (st.dp : Int))) { X.2 with dp := st.dp } I3 ms3 mv3 ev4 (en3 + 1)) := hr4.deeper st.dp (by omega)
    clear hr4 hf4
    rw [hdX] at r2
    go_wp2
    go_ret
    have hdeep : deepP (factorP c.ts n) (adv st) = (X.1, { X.2 with dp := st.dp }) := by
      unfold deepP
      rw [show ({ adv st with dp := (adv st).dp + 1 } : St) = adv { st with dp := st.dp + 1 } from rfl, ← unhide HX, hdX]
      rfl
    rw [hdeep]
    refine ⟨nv, I3, ms3, mv3, ev4, en3 + 1, rfl, unhide HD, (unhide HF4).trans (Fr.ofKp _ _ ((Kp.refl _ _).setCell _ _)), by omega, by omega, by simp only [List.length_singleton] at hms3; omega, fun e => ?_⟩
    have e2 : X.2.er = none := e
    rw [(unhide HX3) e2, (wf_minus ((unhide HWF) e2) _).2, idx, if_pos rfl, List.append_assoc]
    rfl
end Go.Proofs.YtfkeddkfegaeiaaGreatDoor
