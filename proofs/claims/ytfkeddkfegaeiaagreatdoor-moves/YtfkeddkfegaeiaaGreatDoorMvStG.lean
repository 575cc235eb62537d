/-
  Part 31.
-/
import Derived.Test.YtfkeddkfegaeiaaGreatDoorMvStD
namespace Go.Proofs.YtfkeddkfegaeiaaGreatDoor
open Go.RowKit
set_option maxRecDepth 100000 in
set_option maxHeartbeats 1000000 in
theorem symMerge_last (T : Seat → Seat → Prop) (O : Ordr ltS T) (g n cap : Nat) (hn : n ≤ 4000) (a m : Nat) (ha : a + 1 < m) (hb : m + 1 ≤ n) (W : World) (d : Nat → Seat) (h : Sts2 W g n d) (hs : Srt' T d a m) (hbf : Bef ltS T d a m (m + 1)) :
    Calls Tryz.prog 340 #[.slice (some ⟨g, 0, none⟩) n cap, .int .i64 (a : Nat), .int .i64 (m : Nat), .int .i64 ((m + 1 : Nat) : Int), cmpV] W fun e W' => Mrgd T g n a (m + 1) W d e W' := by
  have HD := hide h
  have HSR := hide hs
  have HBF := hide hbf
  have HO := hide O
  clear h hs hbf
  obtain ⟨b, hbm⟩ : ∃ b, b = m + 1 := ⟨_, rfl⟩
  rw [← hbm]
  have hb1 : m < b := by omega
  have hb2 : b ≤ m + 1 := by omega
  have w1 : IntKind.i64.wrap ((m : Int) - (a : Int)) = ((m - a : Nat) : Int) := by unfold IntKind.wrap; simp [IntKind.bits, IntKind.signed]; omega
  have w2 : (((m - a : Nat) : Int) == 1) = false := by rw [beq_eq_false_iff_ne]; omega
  have w3 : IntKind.i64.wrap ((b : Int) - (m : Int)) = 1 := by unfold IntKind.wrap; simp [IntKind.bits, IntKind.signed]; omega
  have HBM := hide hbm
  clear hbm
  go_enter Tryz.func340, Tryz.ntmps340
  go_wp2_with fail
  go_loopg [14, 15] (m - a) (fun f iv jv W' => ∃ i j, iv = .int .i64 (i : Nat) ∧ jv = .int .i64 (j : Nat) ∧ f = j - i ∧ a ≤ i ∧ i ≤ j ∧ j ≤ m ∧ (i = a ∨ ltS (d m) (d (i - 1)) = false) ∧ (j = m ∨ ltS (d m) (d j) = true) ∧ Sts2 W' g n d ∧ Kp g W W')
  case atStart => exact ⟨a, m, rfl, rfl, rfl, Nat.le_refl _, by omega, Nat.le_refl _, Or.inl rfl, Or.inl rfl, unhide HD, Kp.refl _ _⟩
  case round =>
    obtain ⟨i, j, rfl, rfl, rfl, hi1, hij, hjb, hi2, hj2, hs, hk⟩ := hrel
    have HI2 := hide hi2
    have HJ2 := hide hj2
    have HS := hide hs
    have HK := hide hk
    by_cases hlt : i < j
    · have hd : decide ((i : Int) < (j : Int)) = true := by simp; omega
      clear hi2 hj2 hk
      obtain ⟨h, hh⟩ : ∃ h : Nat, ((i : Int) + (j : Int)) / 2 = (h : Int) := ⟨(i + j) / 2, by omega⟩
      have hh1 : i ≤ h := by omega
      have hh2 : h < j := by omega
      obtain ⟨zg, x0, x1, x2⟩ := hs.lie.at (k := m) (by omega)
      obtain ⟨-, y0, y1, y2⟩ := hs.lie.at (k := h) (by omega)
      have HSA := hide (hs.ok m (by omega))
      have HSB := hide (hs.ok h (by omega))
      obtain ⟨sa, hsa⟩ : ∃ s, d m = s := ⟨_, rfl⟩
      obtain ⟨sb, hsb⟩ : ∃ s, d h = s := ⟨_, rfl⟩
      rw [hsa] at x0 x1 x2 HSA
      rw [hsb] at y0 y1 y2 HSB
      have q1 : (0 : Int) ≤ (m : Int) := by omega
      have q2 : (m : Int) < (n : Int) := by omega
      have q3 : (0 : Int) ≤ (h : Int) := by omega
      have q4 : (h : Int) < (n : Int) := by omega
      have HLT : Hid (ltS (d m) (d h) = decide (cmpS sa sb < 0)) := by show ltS _ _ = _; rw [hsa, hsb]; rfl
      have HCM : Hid (∀ W', SeatAt g W' sa → SeatAt g W' sb → Calls Tryz.prog 332 #[.agg #[.int .i64 (sa.row : Nat), .slice sa.pa sa.pl sa.pc, .slice sa.oa sa.ol sa.oc], .agg #[.int .i64 (sb.row : Nat), .slice sb.pa sb.pl sb.pc, .slice sb.oa sb.ol sb.oc]] W' fun e w' => e = .returned (.int .i64 (cmpS sa sb)) ∧ Below W'.heap.size W' w') := fun W' h1 h2 => scmp_any g W' sa sb h1 h2
      clear hs hsa hsb
      generalize cmpS sa sb = C at *
      go_wp2_with fail
      go_region_held3 (fun w' => w'.cell? ⟨g, m * 3, none⟩ = some (.int .i64 (sa.row : Nat)) ∧ w'.cell? ⟨g, m * 3 + 1, none⟩ = some (.slice sa.pa sa.pl sa.pc) ∧ w'.cell? ⟨g, m * 3 + 2, none⟩ = some (.slice sa.oa sa.ol sa.oc) ∧ w'.cell? ⟨g, h * 3, none⟩ = some (.int .i64 (sb.row : Nat)) ∧ w'.cell? ⟨g, h * 3 + 1, none⟩ = some (.slice sb.pa sb.pl sb.pc) ∧ w'.cell? ⟨g, h * 3 + 2, none⟩ = some (.slice sb.oa sb.ol sb.oc)) (go_keep) (first
        | (go_at_call 332; refine ((unhide HCM) _ (by exact (unhide HSA).keep (Kp.refl _ _).drew) (by exact (unhide HSB).keep (Kp.refl _ _).drew)).mono ?_; rintro e w2 ⟨rfl, hb2⟩; have c1 := (hb2.cell (p := ⟨g, m * 3, none⟩) zg).trans x0; have c2 := (hb2.cell (p := ⟨g, m * 3 + 1, none⟩) zg).trans x1; have c3 := (hb2.cell (p := ⟨g, m * 3 + 2, none⟩) zg).trans x2; have c4 := (hb2.cell (p := ⟨g, h * 3, none⟩) zg).trans y0; have c5 := (hb2.cell (p := ⟨g, h * 3 + 1, none⟩) zg).trans y1; have c6 := (hb2.cell (p := ⟨g, h * 3 + 2, none⟩) zg).trans y2; have HB2 : Hid (Below wr.heap.size wr w2) := (Below.refl _ _).drew.trans hb2; clear hb2))
      clear x0 x1 x2 y0 y1 y2 c1 c2 c3 c4 c5 c6 HSA HSB HCM
      have HS3 := hide ((unhide HS).below (unhide HB2))
      have HK3 := hide ((unhide HK).trans (Kp.ofBelow (unhide HB2)))
      generalize hBB : (!decide (C < 0)) = B at *
      have HBB := hide hBB
      clear hBB
      cases B with
      | false =>
        have HL : Hid (ltS (d m) (d h) = true) := by
          show _ = _
          rw [unhide HLT]
          simpa using unhide HBB
        go_wp2
        go_roundg (h - i)
        case measure => omega
        case rel => exact ⟨i, h, rfl, rfl, rfl, hi1, by omega, by omega, unhide HI2, Or.inr (unhide HL), unhide HS3, unhide HK3⟩
      | true =>
        have HL : Hid (ltS (d m) (d h) = false) := by
          show _ = _
          rw [unhide HLT]
          simpa using unhide HBB
        go_wp2
        go_roundg (j - (h + 1))
        case measure => omega
        case rel => exact ⟨h + 1, j, rfl, rfl, rfl, by omega, by omega, hjb, Or.inr (unhide HL), unhide HJ2, unhide HS3, unhide HK3⟩
    · have hd : decide ((i : Int) < (j : Int)) = false := by simp; omega
      obtain rfl : i = j := by omega
      have HMV : Hid (Inc a b d (mvL d i m) ∧ Srt' T (mvL d i m) a b) := by
        have hm := unhide HBM
        rw [hm]
        exact mvL_srt (unhide HO) hi1 hjb (unhide HSR) (unhide HBF) hi2 hj2
      clear hi2 hj2 hk hs
      go_wp2_with fail
      generalize wr = Wk at *
      go_loopg [17] (m - i) (fun f kv W' => ∃ k, kv = .int .i64 (k : Nat) ∧ f = k - i ∧ i ≤ k ∧ k ≤ m ∧ Sts2 W' g n (mvL d k m) ∧ Kp g W W')
      case atStart => exact ⟨m, rfl, rfl, hjb, Nat.le_refl _, by rw [mvL_start]; exact unhide HS, unhide HK⟩
      case round =>
        obtain ⟨k, rfl, rfl, hk1, hk2, hs, hk⟩ := hrel
        have HSk := hide hs
        have HKk := hide hk
        by_cases hlt2 : i < k
        · have hd2 : decide ((i : Int) < (k : Int)) = true := by simp; omega
          obtain ⟨k1, hk11⟩ : ∃ k1, k = k1 + 1 := ⟨k - 1, by omega⟩
          have e1 : IntKind.i64.wrap ((k : Int) - 1) = (k1 : Int) := by unfold IntKind.wrap; simp [IntKind.bits, IntKind.signed]; omega
          obtain ⟨zg, x0, x1, x2⟩ := hs.lie.at (k := k) (by omega)
          obtain ⟨-, y0, y1, y2⟩ := hs.lie.at (k := k1) (by omega)
          have fr := hs.lie.free
          obtain ⟨sa, hsa⟩ : ∃ s, mvL d k m k = s := ⟨_, rfl⟩
          obtain ⟨sb, hsb⟩ : ∃ s, mvL d k m k1 = s := ⟨_, rfl⟩
          rw [hsa] at x0 x1 x2
          rw [hsb] at y0 y1 y2
          have q1 : (0 : Int) ≤ (k : Int) := by omega
          have q2 : (k : Int) < (n : Int) := by omega
          have q3 : (0 : Int) ≤ (k1 : Int) := by omega
          have q4 : (k1 : Int) < (n : Int) := by omega
          have hne : k ≠ k1 := by omega
          have HSW : Hid (Sts2 (swpW wr g k k1 sa sb) g n (mvL d k1 m) ∧ Kp g W (swpW wr g k k1 sa sb)) := by
            have h1 : Sts (swpW wr g k k1 sa sb) g n (swp (mvL d k m) k k1) := Sts.swap (i := k) (j := k1) hs.lie (by omega) (by omega) hsa hsb
            have h2 : swp (mvL d k m) k k1 = mvL d k1 m := by rw [hk11]; exact mvL_step d (by omega)
            have h3 : Inc 0 n (mvL d k m) (swp (mvL d k m) k k1) := swp_inc _ (by omega) (by omega) (by omega) (by omega)
            rw [← h2]
            exact ⟨hs.next (swpW_kp (Kp.refl _ _)) h1 h3, swpW_kp hk⟩
          have hk12 : k1 < k := by omega
          have hk13 : k ≤ k1 + 1 := by omega
          clear hs hk hsa hsb hk11
          go_wp2_with fail
          go_region
          go_wp2
          go_roundg (k1 - i)
          case measure => omega
          case rel => exact ⟨k1, rfl, rfl, by omega, by omega, (unhide HSW).1, (unhide HSW).2⟩
        · have hd2 : decide ((i : Int) < (k : Int)) = false := by simp; omega
          obtain rfl : k = i := by omega
          clear hs hk
          go_wp2
          go_end0
          exact ⟨mvL d k m, rfl, unhide HSk, unhide HKk, (unhide HMV).1, (unhide HMV).2⟩
end Go.Proofs.YtfkeddkfegaeiaaGreatDoor
namespace Go.Proofs.YtfkeddkfegaeiaaGreatDoor
open Go.RowKit
/-- the contract of a merge. -/
def MrgOk (T : Seat → Seat → Prop) (g n cap a m b : Nat) : Prop := ∀ (W : World) (d : Nat → Seat), Sts2 W g n d → Srt' T d a m → Srt' T d m b → Bef ltS T d a m b → Calls Tryz.prog 340 #[.slice (some ⟨g, 0, none⟩) n cap, .int .i64 (a : Nat), .int .i64 (m : Nat), .int .i64 (b : Nat), cmpV] W fun e W' => Mrgd T g n a b W d e W'
set_option maxRecDepth 100000 in
set_option maxHeartbeats 2000000 in
theorem symMerge_mid (T : Seat → Seat → Prop) (O : Ordr ltS T) (g n cap : Nat) (hn : n ≤ 4000) (a m b : Nat) (ha : a + 1 < m) (hm : m + 1 < b) (hb : b ≤ n) (hrec : ∀ a' m' b', a' < m' → m' < b' → b' ≤ n → b' - a' < b - a → MrgOk T g n cap a' m' b') : MrgOk T g n cap a m b := by
  intro W d h hs1 hs2 hbf
  have HD := hide h
  have HS1 := hide hs1
  have HS2 := hide hs2
  have HBF := hide hbf
  have HO := hide O
  have HREC := hide hrec
  have HROT : Hid (∀ (s e : Nat) (W : World) (d : Nat → Seat), s < m → m < e → e ≤ n → Sts W g n d → Calls Tryz.prog 345 #[.slice (some ⟨g, 0, none⟩) n cap, .int .i64 (s : Nat), .int .i64 (m : Nat), .int .i64 (e : Nat), cmpV] W fun e' W' => e' = .returned (.tuple #[]) ∧ Sts W' g n (rot d s m e) ∧ Kp g W W') := fun s e W d h1 h2 h3 h4 => rotate_any g n cap hn s m e h1 h2 h3 cmpV W d h4
  clear h hs1 hs2 hbf hrec
  have w1 : IntKind.i64.wrap ((m : Int) - (a : Int)) = ((m - a : Nat) : Int) := by unfold IntKind.wrap; simp [IntKind.bits, IntKind.signed]; omega
  have w2 : (((m - a : Nat) : Int) == 1) = false := by rw [beq_eq_false_iff_ne]; omega
  have w3 : IntKind.i64.wrap ((b : Int) - (m : Int)) = ((b - m : Nat) : Int) := by unfold IntKind.wrap; simp [IntKind.bits, IntKind.signed]; omega
  have w4 : (((b - m : Nat) : Int) == 1) = false := by rw [beq_eq_false_iff_ne]; omega
  obtain ⟨mid, hmid⟩ : ∃ mid : Nat, ((a : Int) + (b : Int)) / 2 = (mid : Int) := ⟨(a + b) / 2, by omega⟩
  have hmid1 : 2 * mid ≤ a + b := by omega
  have hmid2 : a + b ≤ 2 * mid + 1 := by omega
  obtain ⟨nn, hnn⟩ : ∃ nn : Nat, nn = mid + m := ⟨_, rfl⟩
  have w5 : IntKind.i64.wrap ((mid : Int) + (m : Int)) = (nn : Int) := by unfold IntKind.wrap; simp [IntKind.bits, IntKind.signed]; omega
  have w6 : IntKind.i64.wrap ((nn : Int) - (b : Int)) = IntKind.i64.wrap ((nn : Int) - (b : Int)) := rfl
  have w7 : IntKind.i64.wrap ((nn : Int) - 1) = ((nn - 1 : Nat) : Int) := by unfold IntKind.wrap; simp [IntKind.bits, IntKind.signed]; omega
  have hn1 : mid + m ≤ nn := by omega
  have hn2 : nn ≤ mid + m := by omega
  clear hnn w6
  go_enter Tryz.func340, Tryz.ntmps340
  go_upto_if 140 with (fail)
  go_cut [20, 21] from 141 to 146 (fun sv rv W' => ∃ s0 r0 : Nat, sv = .int .i64 (s0 : Nat) ∧ rv = .int .i64 (r0 : Nat) ∧ a ≤ s0 ∧ r0 ≤ m ∧ r0 ≤ mid ∧ s0 ≤ r0 ∧ nn ≤ s0 + b ∧ (s0 = a ∨ s0 + b ≤ nn) ∧ (r0 = m ∨ mid ≤ r0) ∧ W' = W)
  case first =>
    by_cases hc : mid < m
    · have hd : decide ((mid : Int) < (m : Int)) = true := by simp; omega
      have w6 : IntKind.i64.wrap ((nn : Int) - (b : Int)) = ((nn - b : Nat) : Int) := by unfold IntKind.wrap; simp [IntKind.bits, IntKind.signed]; omega
      go_wp2_with fail
      go_meet
      case rel => exact ⟨nn - b, mid, rfl, rfl, by omega, by omega, by omega, by omega, by omega, Or.inr (by omega), Or.inr (Nat.le_refl _), rfl⟩
    · have hd : decide ((mid : Int) < (m : Int)) = false := by simp; omega
      go_wp2_with fail
      go_meet
      case rel => exact ⟨a, m, rfl, rfl, Nat.le_refl _, Nat.le_refl _, by omega, by omega, by omega, Or.inl rfl, Or.inl rfl, rfl⟩
  case rest =>
    obtain ⟨s0, r0, rfl, rfl, v1, v2, v3, v4, v5, v6, v7, hWc⟩ := hcut
    obtain rfl := hWc.symm
    have HV6 := hide v6
    have HV7 := hide v7
    clear v6 v7
    go_wp2_with fail
    go_loopg [20, 21] (r0 - s0) (fun f sv rv W' => ∃ st r, sv = .int .i64 (st : Nat) ∧ rv = .int .i64 (r : Nat) ∧ f = r - st ∧ s0 ≤ st ∧ st ≤ r ∧ r ≤ r0 ∧ (st = s0 ∨ ltS (d (nn - st)) (d (st - 1)) = false) ∧ (r = r0 ∨ ltS (d (nn - 1 - r)) (d r) = true) ∧ Sts2 W' g n d ∧ Kp g W W')
    case atStart => exact ⟨s0, r0, rfl, rfl, rfl, Nat.le_refl _, v4, Nat.le_refl _, Or.inl rfl, Or.inl rfl, unhide HD, Kp.refl _ _⟩
    case round =>
      obtain ⟨st, r, rfl, rfl, rfl, hi1, hij, hjb, hi2, hj2, hs, hk⟩ := hrel
      have HI2 := hide hi2
      have HJ2 := hide hj2
      have HS := hide hs
      have HK := hide hk
      by_cases hlt : st < r
      · have hd : decide ((st : Int) < (r : Int)) = true := by simp; omega
        clear hi2 hj2 hk
        obtain ⟨c, hh⟩ : ∃ c : Nat, ((st : Int) + (r : Int)) / 2 = (c : Int) := ⟨(st + r) / 2, by omega⟩
        have hh1 : st ≤ c := by omega
        have hh2 : c < r := by omega
        obtain ⟨pc, hpc⟩ : ∃ pc, pc = nn - 1 - c := ⟨_, rfl⟩
        have w8 : IntKind.i64.wrap (((nn - 1 : Nat) : Int) - (c : Int)) = (pc : Int) := by unfold IntKind.wrap; simp [IntKind.bits, IntKind.signed]; omega
        have hpc1 : pc < n := by omega
        have HPC := hide hpc
        clear hpc
        obtain ⟨zg, x0, x1, x2⟩ := hs.lie.at (k := pc) (by omega)
        obtain ⟨-, y0, y1, y2⟩ := hs.lie.at (k := c) (by omega)
        have HSA := hide (hs.ok pc (by omega))
        have HSB := hide (hs.ok c (by omega))
        obtain ⟨sa, hsa⟩ : ∃ s, d pc = s := ⟨_, rfl⟩
        obtain ⟨sb, hsb⟩ : ∃ s, d c = s := ⟨_, rfl⟩
        rw [hsa] at x0 x1 x2 HSA
        rw [hsb] at y0 y1 y2 HSB
        have q1 : (0 : Int) ≤ (pc : Int) := by omega
        have q2 : (pc : Int) < (n : Int) := by omega
        have q3 : (0 : Int) ≤ (c : Int) := by omega
        have q4 : (c : Int) < (n : Int) := by omega
        have HLT : Hid (ltS (d pc) (d c) = decide (cmpS sa sb < 0)) := by show ltS _ _ = _; rw [hsa, hsb]; rfl
        have HCM : Hid (∀ W', SeatAt g W' sa → SeatAt g W' sb → Calls Tryz.prog 332 #[.agg #[.int .i64 (sa.row : Nat), .slice sa.pa sa.pl sa.pc, .slice sa.oa sa.ol sa.oc], .agg #[.int .i64 (sb.row : Nat), .slice sb.pa sb.pl sb.pc, .slice sb.oa sb.ol sb.oc]] W' fun e w' => e = .returned (.int .i64 (cmpS sa sb)) ∧ Below W'.heap.size W' w') := fun W' h1 h2 => scmp_any g W' sa sb h1 h2
        clear hs hsa hsb
        generalize cmpS sa sb = C at *
        go_wp2_with fail
        go_region_held3 (fun w' => w'.cell? ⟨g, pc * 3, none⟩ = some (.int .i64 (sa.row : Nat)) ∧ w'.cell? ⟨g, pc * 3 + 1, none⟩ = some (.slice sa.pa sa.pl sa.pc) ∧ w'.cell? ⟨g, pc * 3 + 2, none⟩ = some (.slice sa.oa sa.ol sa.oc) ∧ w'.cell? ⟨g, c * 3, none⟩ = some (.int .i64 (sb.row : Nat)) ∧ w'.cell? ⟨g, c * 3 + 1, none⟩ = some (.slice sb.pa sb.pl sb.pc) ∧ w'.cell? ⟨g, c * 3 + 2, none⟩ = some (.slice sb.oa sb.ol sb.oc)) (go_keep) (first
          | (go_at_call 332; refine ((unhide HCM) _ (by exact (unhide HSA).keep (Kp.refl _ _).drew) (by exact (unhide HSB).keep (Kp.refl _ _).drew)).mono ?_; rintro e w2 ⟨rfl, hb2⟩; have c1 := (hb2.cell (p := ⟨g, pc * 3, none⟩) zg).trans x0; have c2 := (hb2.cell (p := ⟨g, pc * 3 + 1, none⟩) zg).trans x1; have c3 := (hb2.cell (p := ⟨g, pc * 3 + 2, none⟩) zg).trans x2; have c4 := (hb2.cell (p := ⟨g, c * 3, none⟩) zg).trans y0; have c5 := (hb2.cell (p := ⟨g, c * 3 + 1, none⟩) zg).trans y1; have c6 := (hb2.cell (p := ⟨g, c * 3 + 2, none⟩) zg).trans y2; have HB2 : Hid (Below wr.heap.size wr w2) := (Below.refl _ _).drew.trans hb2; clear hb2))
        clear x0 x1 x2 y0 y1 y2 c1 c2 c3 c4 c5 c6 HSA HSB HCM
        have HS3 := hide ((unhide HS).below (unhide HB2))
        have HK3 := hide ((unhide HK).trans (Kp.ofBelow (unhide HB2)))
        generalize hBB : (!decide (C < 0)) = B at *
        have HBB := hide hBB
        clear hBB
        cases B with
        | false =>
          have HL : Hid (ltS (d (nn - 1 - c)) (d c) = true) := by
            show _ = _
            rw [← unhide HPC, unhide HLT]
            simpa using unhide HBB
          go_wp2
          go_roundg (c - st)
          case measure => omega
          case rel => exact ⟨st, c, rfl, rfl, rfl, hi1, by omega, by omega, unhide HI2, Or.inr (unhide HL), unhide HS3, unhide HK3⟩
        | true =>
          have HL : Hid (ltS (d (nn - (c + 1))) (d (c + 1 - 1)) = false) := by
            show _ = _
            rw [show nn - (c + 1) = nn - 1 - c by omega, show c + 1 - 1 = c by omega, ← unhide HPC, unhide HLT]
            simpa using unhide HBB
          go_wp2
          go_roundg (r - (c + 1))
          case measure => omega
          case rel => exact ⟨c + 1, r, rfl, rfl, rfl, by omega, by omega, hjb, Or.inr (unhide HL), unhide HJ2, unhide HS3, unhide HK3⟩
      · have hd : decide ((st : Int) < (r : Int)) = false := by simp; omega
        obtain rfl : st = r := by omega
        have HMID : Hid (Mid ltS T d a m b mid st) := by
          have en : mid + m - st = nn - st := by omega
          refine ⟨by omega, ⟨by omega, by omega, by omega, by omega, by omega⟩, ?_, ?_⟩
          · rw [en]
            rcases hi2 with q | q
            · rcases unhide HV6 with q2 | q2
              · exact Or.inl (by omega)
              · exact Or.inr (Or.inl (by omega))
            · exact Or.inr (Or.inr q)
          · rw [show mid + m - st - 1 = nn - 1 - st by omega]
            rcases hj2 with q | q
            · rcases unhide HV7 with q2 | q2
              · exact Or.inl (by omega)
              · exact Or.inr (Or.inl (by omega))
            · exact Or.inr (Or.inr q)
        clear hi2 hj2 hk hs
        obtain ⟨en, hen⟩ : ∃ en, mid + m - st = en := ⟨_, rfl⟩
        have w9 : IntKind.i64.wrap ((nn : Int) - (st : Int)) = (en : Int) := by unfold IntKind.wrap; simp [IntKind.bits, IntKind.signed]; omega
        have hst := (unhide HMID).st
        have hset := (unhide HMID).settles (unhide HO) (unhide HS1) (unhide HS2) (unhide HBF)
        rw [hen] at hset hst
        obtain ⟨s1, s2, s3, s4, s5⟩ := hst
        obtain ⟨D, hD⟩ : ∃ D, rot d st m en = D := ⟨_, rfl⟩
        rw [hD] at hset
        have HSET := hide hset
        have HIN0 : Hid (Inc a b d D) := by
          show Inc a b d D
          rw [← hD]
          exact (rot_inc d s2 s4).mono s1 s5
        have HDD := hide hD
        have hen1 : st + en ≤ nn := by omega
        have hen2 : nn ≤ st + en := by omega
        clear hset hD hen
        obtain ⟨B1, hB1⟩ : ∃ B1 : Bool, B1 = decide (st < m ∧ m < en) := ⟨_, rfl⟩
        have HB1 := hide hB1
        clear hB1
        go_upto_region 39 with (fail)
        go_cut [185] from 178 to 184 (fun cv W' => cv = .bool B1 ∧ W' = wr)
        case first =>
          by_cases c1 : st < m
          · have d1 : decide ((st : Int) < (m : Int)) = true := by simp; omega
            by_cases c2 : m < en
            · have d2 : decide ((m : Int) < (en : Int)) = true := by simp; omega
              have HE : Hid (B1 = true) := by show B1 = true; rw [unhide HB1]; simp; omega
              go_wp2
              go_meet
              case rel => exact ⟨by rw [unhide HE], rfl⟩
            · have d2 : decide ((m : Int) < (en : Int)) = false := by simp; omega
              have HE : Hid (B1 = false) := by show B1 = false; rw [unhide HB1]; simp; omega
              go_wp2
              go_meet
              case rel => exact ⟨by rw [unhide HE], rfl⟩
          · have d1 : decide ((st : Int) < (m : Int)) = false := by simp; omega
            have HE : Hid (B1 = false) := by show B1 = false; rw [unhide HB1]; simp; omega
            go_wp2
            go_meet
            case rel => exact ⟨by rw [unhide HE], rfl⟩
        case rest =>
          obtain ⟨rfl, hWr⟩ := hcut
          obtain rfl := hWr.symm
          go_upto_if 185 with (fail)
          go_cut [] from 186 to 191 (fun W' => Sts2 W' g n D ∧ Kp g W W')
          case first =>
            cases B1 with
            | true =>
              have c12 : st < m ∧ m < en := by simpa using (unhide HB1).symm
              go_wp2_with fail
              refine ((unhide HROT) st en _ d c12.1 c12.2 (by omega) (by exact (unhide HS).lie)).mono ?_
              rintro e W2 ⟨rfl, hs2, hk2⟩
              have HS5 : Hid (Sts2 W2 g n D) := by
                show Sts2 W2 g n D
                rw [← unhide HDD]
                exact (unhide HS).next hk2 hs2 ((rot_inc d s2 s4).mono (Nat.zero_le _) (by omega))
              have HK5 := hide ((unhide HK).trans hk2)
              clear hs2 hk2
              go_wp2
              go_meet
              case rel => exact ⟨unhide HS5, unhide HK5⟩
            | false =>
              have c12 : ¬ (st < m ∧ m < en) := by simpa using (unhide HB1).symm
              have HS5 : Hid (Sts2 wr g n D) := by
                show Sts2 wr g n D
                rw [← unhide HDD, rot_none m (by omega) s2 s4]
                exact unhide HS
              go_wp2
              go_meet
              case rel => exact ⟨unhide HS5, unhide HK⟩
          case rest =>
            obtain ⟨hsD, hkD⟩ := hcut
            have HSD := hide hsD
            have HKD := hide hkD
            clear hsD hkD HDD HMID HI2 HJ2 HS HK
            generalize wc = WD at *
            obtain ⟨B2, hB2⟩ : ∃ B2 : Bool, B2 = decide (a < st ∧ st < mid) := ⟨_, rfl⟩
            have HB2 := hide hB2
            clear hB2
            go_upto_region 41 with (fail)
            go_cut [199] from 192 to 198 (fun cv W' => cv = .bool B2 ∧ W' = WD)
            case first =>
              by_cases c1 : a < st
              · have d1 : decide ((a : Int) < (st : Int)) = true := by simp; omega
                by_cases c2 : st < mid
                · have d2 : decide ((st : Int) < (mid : Int)) = true := by simp; omega
                  have HE : Hid (B2 = true) := by show B2 = true; rw [unhide HB2]; simp; omega
                  go_wp2
                  go_meet
                  case rel => exact ⟨by rw [unhide HE], rfl⟩
                · have d2 : decide ((st : Int) < (mid : Int)) = false := by simp; omega
                  have HE : Hid (B2 = false) := by show B2 = false; rw [unhide HB2]; simp; omega
                  go_wp2
                  go_meet
                  case rel => exact ⟨by rw [unhide HE], rfl⟩
              · have d1 : decide ((a : Int) < (st : Int)) = false := by simp; omega
                have HE : Hid (B2 = false) := by show B2 = false; rw [unhide HB2]; simp; omega
                go_wp2
                go_meet
                case rel => exact ⟨by rw [unhide HE], rfl⟩
            case rest =>
              obtain ⟨rfl, hWr⟩ := hcut
              obtain rfl := hWr.symm
              go_upto_if 199 with (fail)
              go_cut [] from 200 to 205 (fun W' => ∃ D1, Sts2 W' g n D1 ∧ Kp g W W' ∧ Inc a mid D D1 ∧ Srt' T D1 a mid)
              case first =>
                cases B2 with
                | true =>
                  have c12 : a < st ∧ st < mid := by simpa using (unhide HB2).symm
                  go_wp2_with fail
                  refine ((unhide HREC) a st mid c12.1 c12.2 (by omega) (by omega) _ D (by exact unhide HSD) (unhide HSET).1 (unhide HSET).2.1 (unhide HSET).2.2.2.2.1).mono ?_
                  rintro e W2 ⟨D1, rfl, hs2, hk2, hi2, hr2⟩
                  have HS5 := hide hs2
                  have HK5 := hide ((unhide HKD).trans hk2)
                  have HI5 := hide hi2
                  have HR5 := hide hr2
                  clear hs2 hk2 hi2 hr2
                  go_wp2
                  go_meet
                  case rel => exact ⟨D1, unhide HS5, unhide HK5, unhide HI5, unhide HR5⟩
                | false =>
                  have c12 : ¬ (a < st ∧ st < mid) := by simpa using (unhide HB2).symm
                  have HR5 : Hid (Srt' T D a mid) := by
                    show Srt' T D a mid
                    by_cases c1 : a < st
                    · exact (unhide HSET).1.mono (Nat.le_refl _) (by omega)
                    · exact (unhide HSET).2.1.mono (by omega) (Nat.le_refl _)
                  go_wp2
                  go_meet
                  case rel => exact ⟨D, unhide HSD, unhide HKD, Inc.refl _ _ _, unhide HR5⟩
              case rest =>
                obtain ⟨D1, hsD1, hkD1, hi1', hr1⟩ := hcut
                have HS5 := hide hsD1
                have HK5 := hide hkD1
                have HI5 := hide hi1'
                have HR5 := hide hr1
                have HFIN : Hid (∀ W' D2, Sts2 W' g n D2 → Kp g W W' → Inc mid b D1 D2 → Srt' T D2 mid b → Mrgd T g n a b W d (.returned (.tuple #[])) W') := fun W' D2 q1 q2 q3 q4 => by
                  have hall := (unhide HSET).2.2.2.2.2.2
                  have e1 : Inc a b D D1 := (unhide HI5).mono (Nat.le_refl _) (by omega)
                  have e2 : Inc a b D1 D2 := q3.mono (by omega) (Nat.le_refl _)
                  refine ⟨D2, rfl, q1, q2, ((unhide HIN0).trans e1).trans e2, ?_⟩
                  refine Srt'.join (m := mid) ((unhide HR5).congr fun k _ hk => q3.1 k (Or.inl hk)) q4 ?_
                  exact pair_right (pair_left hall (unhide HI5)) q3
                have HB5 : Hid (Srt' T D1 mid en ∧ Srt' T D1 en b ∧ Bef ltS T D1 mid en b) := by
                  have e : ∀ k, mid ≤ k → D1 k = D k := fun k hk => (unhide HI5).1 k (Or.inr hk)
                  refine ⟨(unhide HSET).2.2.1.congr fun k k1 _ => e k k1, (unhide HSET).2.2.2.1.congr fun k k1 _ => e k (by omega), fun x y x1 x2 y1 y2 => ?_⟩
                  rw [e x x1, e y (by omega)]
                  exact (unhide HSET).2.2.2.2.2.1 x y x1 x2 y1 y2
                clear hsD1 hkD1 hi1' hr1 HSD HKD
                by_cases c1 : mid < en
                · have d1 : decide ((mid : Int) < (en : Int)) = true := by simp; omega
                  by_cases c2 : en < b
                  · have d2 : decide ((en : Int) < (b : Int)) = true := by simp; omega
                    go_wp2_with fail
                    refine ((unhide HREC) mid en b c1 c2 hb (by omega) _ D1 (by exact unhide HS5) (unhide HB5).1 (unhide HB5).2.1 (unhide HB5).2.2).mono ?_
                    rintro e W2 ⟨D2, rfl, hs2, hk2, hi2, hr2⟩
                    have HE2 := hide ((unhide HFIN) W2 D2 hs2 ((unhide HK5).trans hk2) hi2 hr2)
                    clear hs2 hk2 hi2 hr2
                    go_wp2
                    go_end0
                    exact unhide HE2
                  · have d2 : decide ((en : Int) < (b : Int)) = false := by simp; omega
                    have HE2 := hide ((unhide HFIN) _ D1 (unhide HS5) (unhide HK5) (Inc.refl _ _ _) ((unhide HB5).1.mono (Nat.le_refl _) (by omega)))
                    go_wp2
                    go_end0
                    exact unhide HE2
                · have d1 : decide ((mid : Int) < (en : Int)) = false := by simp; omega
                  have HE2 := hide ((unhide HFIN) _ D1 (unhide HS5) (unhide HK5) (Inc.refl _ _ _) ((unhide HB5).2.1.mono (by omega) (Nat.le_refl _)))
                  go_wp2
                  go_end0
                  exact unhide HE2
end Go.Proofs.YtfkeddkfegaeiaaGreatDoor
