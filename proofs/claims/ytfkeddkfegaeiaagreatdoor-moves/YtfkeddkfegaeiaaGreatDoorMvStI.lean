/-
  Part 32.
-/
import Derived.Test.YtfkeddkfegaeiaaGreatDoorMvStG
import Derived.Test.YtfkeddkfegaeiaaGreatDoorMvPlK
namespace Go.Proofs.YtfkeddkfegaeiaaGreatDoor
open Go.RowKit
theorem symMerge_any (T : Seat → Seat → Prop) (O : Ordr ltS T) (g n cap : Nat) (hn : n ≤ 4000) : ∀ (k a m b : Nat), b - a ≤ k → a < m → m < b → b ≤ n → MrgOk T g n cap a m b := by
  intro k
  induction k with
  | zero => intro a m b h h1 h2; omega
  | succ k ih =>
    intro a m b h h1 h2 h3
    by_cases e1 : m = a + 1
    · subst e1
      intro W d hd hs1 hs2 hbf
      exact symMerge_first T O g n cap hn a b h2 h3 W d hd hs2 hbf
    · by_cases e2 : b = m + 1
      · subst e2
        intro W d hd hs1 hs2 hbf
        exact symMerge_last T O g n cap hn a m (by omega) h3 W d hd hs1 hbf
      · exact symMerge_mid T O g n cap hn a m b (by omega) (by omega) h3 fun a' m' b' q1 q2 q3 q4 => ih a' m' b' (by omega) q1 q2 q3
section
variable {α : Type} {lt : α → α → Bool} {T : α → α → Prop}
/-- no boundary of blocks is crossed in the wrong way. -/
def Cut (lt : α → α → Bool) (T : α → α → Prop) (d : Nat → α) (lo c n : Nat) : Prop := ∀ i j, lo ≤ i → i < c → c ≤ j → j < n → Bfr lt T (d i) (d j)
theorem Cut.inc {d d' : Nat → α} {lo c n a b : Nat} (h : Cut lt T d lo c n) (hi : Inc a b d d') (hlo : lo ≤ a) (hb : b ≤ n) (hc : c ≤ a ∨ b ≤ c) : Cut lt T d' lo c n := fun i j h1 h2 h3 h4 => by
  have ei : ∃ i', lo ≤ i' ∧ i' < c ∧ d' i = d i' := by
    by_cases q : i < a ∨ b ≤ i
    · exact ⟨i, h1, h2, hi.1 i q⟩
    · obtain ⟨i', q1, q2, q3⟩ := hi.2 i (by omega) (by omega)
      exact ⟨i', by omega, by omega, q3⟩
  have ej : ∃ j', c ≤ j' ∧ j' < n ∧ d' j = d j' := by
    by_cases q : j < a ∨ b ≤ j
    · exact ⟨j, h3, h4, hi.1 j q⟩
    · obtain ⟨j', q1, q2, q3⟩ := hi.2 j (by omega) (by omega)
      exact ⟨j', by omega, by omega, q3⟩
  obtain ⟨i', i1, i2, i3⟩ := ei
  obtain ⟨j', j1, j2, j3⟩ := ej
  rw [i3, j3]
  exact h i' j' i1 i2 j1 j2
theorem Cut.out {d d' : Nat → α} {lo c n a b : Nat} (h : Cut lt T d lo c n) (hi : Inc a b d d') (hb : b ≤ lo) : Cut lt T d' lo c n := fun i j h1 h2 h3 h4 => by
  rw [hi.1 i (Or.inr (by omega)), hi.1 j (Or.inr (by omega))]
  exact h i j h1 h2 h3 h4
/-- blocks of bs, the first q pairs of them merged. -/
structure Phs (lt : α → α → Bool) (T : α → α → Prop) (d : Nat → α) (n bs q : Nat) : Prop where
  big : ∀ p, p < q → Srt' T d (p * (2 * bs)) (p * (2 * bs) + 2 * bs)
  sml : ∀ p, 2 * q ≤ p → Srt' T d (p * bs) (min (p * bs + bs) n)
  cut2 : ∀ p, Cut lt T d 0 (p * (2 * bs)) n
  cut1 : ∀ p, Cut lt T d (q * (2 * bs)) (p * bs) n
/-- blocks of bs. -/
structure Bks (lt : α → α → Bool) (T : α → α → Prop) (d : Nat → α) (n bs : Nat) : Prop where
  srt : ∀ p, Srt' T d (p * bs) (min (p * bs + bs) n)
  cut : ∀ p, Cut lt T d 0 (p * bs) n
theorem Bks.phs {d : Nat → α} {n bs : Nat} (h : Bks lt T d n bs) : Phs lt T d n bs 0 := ⟨fun p hp => by omega, fun p _ => h.srt p, fun p => by rw [show p * (2 * bs) = (p * 2) * bs by rw [Nat.mul_assoc]]; exact h.cut (p * 2), fun p => by rw [Nat.zero_mul]; exact h.cut p⟩
theorem dbl (q bs : Nat) : q * (2 * bs) = (2 * q) * bs := by rw [← Nat.mul_assoc, Nat.mul_comm q 2]
theorem dbl1 (q bs : Nat) : q * (2 * bs) + bs = (2 * q + 1) * bs := by rw [dbl, Nat.add_mul, Nat.one_mul]
theorem dbl2 (q bs : Nat) : q * (2 * bs) + 2 * bs = (q + 1) * (2 * bs) := by rw [Nat.add_mul, Nat.one_mul]
/-- what a merge of the next pair wants. -/
theorem Phs.wants {d : Nat → α} {n bs q b : Nat} (h : Phs lt T d n bs q) (hb : b ≤ n) (h1 : q * (2 * bs) + bs ≤ b) (h2 : b ≤ q * (2 * bs) + 2 * bs) : Srt' T d (q * (2 * bs)) (q * (2 * bs) + bs) ∧ Srt' T d (q * (2 * bs) + bs) b ∧ Bef lt T d (q * (2 * bs)) (q * (2 * bs) + bs) b := by
  refine ⟨?_, ?_, fun i j i1 i2 j1 j2 => ?_⟩
  · have := h.sml (2 * q) (Nat.le_refl _)
    rw [← dbl] at this
    exact this.mono (Nat.le_refl _) (by omega)
  · have := h.sml (2 * q + 1) (by omega)
    rw [← dbl1] at this
    exact this.mono (Nat.le_refl _) (by omega)
  · have := h.cut1 (2 * q + 1)
    rw [← dbl1] at this
    exact this i j i1 i2 j1 (by omega)
theorem mul_step {p q k : Nat} (h : p < q) : p * k + k ≤ q * k := by
  have := Nat.mul_le_mul_right k (show p + 1 ≤ q from h)
  rwa [Nat.add_mul, Nat.one_mul] at this
theorem Phs.next {d d' : Nat → α} {n bs q : Nat} (h : Phs lt T d n bs q) (hb : q * (2 * bs) + 2 * bs ≤ n) (hi : Inc (q * (2 * bs)) (q * (2 * bs) + 2 * bs) d d') (hs : Srt' T d' (q * (2 * bs)) (q * (2 * bs) + 2 * bs)) : Phs lt T d' n bs (q + 1) := by
  refine ⟨fun p hp => ?_, fun p hp => ?_, fun p => ?_, fun p => ?_⟩
  · by_cases e : p = q
    · rw [e]; exact hs
    · have := mul_step (k := 2 * bs) (show p < q by omega)
      exact (h.big p (by omega)).congr fun k _ k2 => hi.1 k (Or.inl (by omega))
  · have h1 : (q + 1) * (2 * bs) ≤ p * bs := by
      rw [dbl]
      exact Nat.mul_le_mul_right bs hp
    rw [← dbl2] at h1
    exact (h.sml p (by omega)).congr fun k k1 _ => hi.1 k (Or.inr (by omega))
  · refine (h.cut2 p).inc hi (Nat.zero_le _) hb ?_
    by_cases e : p ≤ q
    · exact Or.inl (Nat.mul_le_mul_right _ e)
    · exact Or.inr (by have := mul_step (k := 2 * bs) (show q < p by omega); omega)
  · rw [← dbl2]
    refine Cut.out (fun i j h1 h2 h3 h4 => h.cut1 p i j (by omega) h2 h3 h4) hi (Nat.le_refl _)
theorem Phs.last {d d' : Nat → α} {n bs q : Nat} (h : Phs lt T d n bs q) (_hq : q * (2 * bs) ≤ n) (hn : n < q * (2 * bs) + 2 * bs) (hi : Inc (q * (2 * bs)) n d d') (hs : Srt' T d' (q * (2 * bs)) n) : Bks lt T d' n (2 * bs) := by
  refine ⟨fun p => ?_, fun p => ?_⟩
  · by_cases e : p < q
    · have := mul_step (k := 2 * bs) e
      exact ((h.big p e).congr fun k _ k2 => hi.1 k (Or.inl (by omega))).mono (Nat.le_refl _) (by omega)
    · by_cases e2 : p = q
      · rw [e2]; exact hs.mono (Nat.le_refl _) (by omega)
      · have := mul_step (k := 2 * bs) (show q < p by omega)
        intro i j i1 i2 i3
        omega
  · refine (h.cut2 p).inc hi (Nat.zero_le _) (Nat.le_refl _) ?_
    by_cases e : p ≤ q
    · exact Or.inl (Nat.mul_le_mul_right _ e)
    · exact Or.inr (by have := mul_step (k := 2 * bs) (show q < p by omega); omega)
/-- the rest is one block. -/
theorem Phs.rest {d : Nat → α} {n bs q : Nat} (h : Phs lt T d n bs q) (hn : n ≤ q * (2 * bs) + bs) : Srt' T d (q * (2 * bs)) n := by
  have := h.sml (2 * q) (Nat.le_refl _)
  rw [← dbl] at this
  exact this.mono (Nat.le_refl _) (by omega)
theorem Bks.whole {d : Nat → α} {n bs : Nat} (h : Bks lt T d n bs) (hn : n ≤ bs) : Srt' T d 0 n := by
  have := h.srt 0
  rw [Nat.zero_mul] at this
  exact this.mono (Nat.le_refl _) (by omega)
/-- blocks of 20, the first q of them sorted. -/
structure Ini (lt : α → α → Bool) (T : α → α → Prop) (d0 d : Nat → α) (n q : Nat) : Prop where
  srt : ∀ p, p < q → Srt' T d (p * 20) (p * 20 + 20)
  rest : ∀ k, q * 20 ≤ k → d k = d0 k
  cut : ∀ p, Cut lt T d 0 (p * 20) n
  inc : Inc 0 n d0 d
theorem Ini.start {d : Nat → α} {n : Nat} (h : ∀ i j, i < j → j < n → Bfr lt T (d i) (d j)) : Ini lt T d d n 0 := ⟨fun p hp => by omega, fun _ _ => rfl, fun p i j _ h2 h3 h4 => h i j (by omega) h4, Inc.refl _ _ _⟩
theorem Ini.next {d0 d d' : Nat → α} {n q : Nat} (h : Ini lt T d0 d n q) (hb : q * 20 + 20 ≤ n) (hi : Inc (q * 20) (q * 20 + 20) d d') (hs : Srt' T d' (q * 20) (q * 20 + 20)) : Ini lt T d0 d' n (q + 1) := by
  refine ⟨fun p hp => ?_, fun k hk => ?_, fun p => ?_, h.inc.trans (hi.mono (Nat.zero_le _) hb)⟩
  · by_cases e : p = q
    · rw [e]; exact hs
    · exact (h.srt p (by omega)).congr fun k _ k2 => hi.1 k (Or.inl (by omega))
  · rw [hi.1 k (Or.inr (by omega))]; exact h.rest k (by omega)
  · exact (h.cut p).inc hi (Nat.zero_le _) hb (by omega)
theorem Ini.last {d0 d d' : Nat → α} {n q : Nat} (h : Ini lt T d0 d n q) (hq : q * 20 ≤ n) (hn : n < q * 20 + 20) (hi : Inc (q * 20) n d d') (hs : Srt' T d' (q * 20) n) : Bks lt T d' n 20 ∧ Inc 0 n d0 d' := by
  refine ⟨⟨fun p => ?_, fun p => ?_⟩, h.inc.trans (hi.mono (Nat.zero_le _) (Nat.le_refl _))⟩
  · by_cases e : p < q
    · exact ((h.srt p e).congr fun k _ k2 => hi.1 k (Or.inl (by omega))).mono (Nat.le_refl _) (by omega)
    · by_cases e2 : p = q
      · rw [e2]; exact hs.mono (Nat.le_refl _) (by omega)
      · intro i j i1 i2 i3
        omega
  · exact (h.cut p).inc hi (Nat.zero_le _) (Nat.le_refl _) (by omega)
end
end Go.Proofs.YtfkeddkfegaeiaaGreatDoor
namespace Go.Proofs.YtfkeddkfegaeiaaGreatDoor
open Go.RowKit
/-- what a sort leaves. -/
def Srtd (T : Seat → Seat → Prop) (g n : Nat) (W : World) (d : Nat → Seat) (e : Ending) (W' : World) : Prop := ∃ d', e = .returned (.tuple #[]) ∧ Sts2 W' g n d' ∧ Kp g W W' ∧ Inc 0 n d d' ∧ Srt' T d' 0 n
set_option maxRecDepth 100000 in
set_option maxHeartbeats 1000000 in
theorem stable_any (T : Seat → Seat → Prop) (O : Ordr ltS T) (g n cap : Nat) (hn : n ≤ 4000) (W : World) (d : Nat → Seat) (h : Sts2 W g n d) (hbf : ∀ i j, i < j → j < n → Bfr ltS T (d i) (d j)) :
    Calls Tryz.prog 337 #[.slice (some ⟨g, 0, none⟩) n cap, .int .i64 (n : Nat), cmpV] W fun e W' => Srtd T g n W d e W' := by
  have HD := hide h
  have HBF := hide hbf
  have HINS : Hid (∀ (a b : Nat) (W : World) (d : Nat → Seat), a ≤ n → b ≤ n → Sts2 W g n d → (∀ i j, a ≤ i → i < j → j < b → Bfr ltS T (d i) (d j)) → Calls Tryz.prog 339 #[.slice (some ⟨g, 0, none⟩) n cap, .int .i64 (a : Nat), .int .i64 (b : Nat), cmpV] W fun e W' => ∃ d', e = .returned (.tuple #[]) ∧ Sts2 W' g n d' ∧ Kp g W W' ∧ Inc a b d d' ∧ Srt' T d' a b) := fun a b W d h1 h2 h3 h4 => insertion_any T O g n cap hn a b h1 h2 W d h3 h4
  have HMRG : Hid (∀ a m b, a < m → m < b → b ≤ n → MrgOk T g n cap a m b) := fun a m b h1 h2 h3 => symMerge_any T O g n cap hn (b - a) a m b (Nat.le_refl _) h1 h2 h3
  clear h hbf
  go_enter Tryz.func337, Tryz.ntmps337
  go_wp2_with fail
  go_loopg [7, 8] n (fun f av bv W' => ∃ q a b d', av = .int .i64 (a : Nat) ∧ bv = .int .i64 (b : Nat) ∧ f = n + 20 - b ∧ a ≤ q * 20 ∧ q * 20 ≤ a ∧ b ≤ a + 20 ∧ a + 20 ≤ b ∧ a ≤ n ∧ Sts2 W' g n d' ∧ Kp g W W' ∧ Ini ltS T d d' n q)
  case atStart => exact ⟨0, 0, 20, d, rfl, rfl, by omega, by omega, by omega, by omega, by omega, Nat.zero_le _, unhide HD, Kp.refl _ _, Ini.start (unhide HBF)⟩
  case round =>
    obtain ⟨q, a, b, d', rfl, rfl, rfl, ha1, ha2, hb1, hb2, han, hs, hk, hini⟩ := hrel
    have HS := hide hs
    have HK := hide hk
    have HI := hide hini
    clear hs hk hini
    by_cases hbn : b ≤ n
    · have hd : decide ((b : Int) ≤ (n : Int)) = true := by simp; omega
      obtain ⟨b2, hb2e⟩ : ∃ b2, b2 = b + 20 := ⟨_, rfl⟩
      have w1 : IntKind.i64.wrap ((b : Int) + 20) = (b2 : Int) := by unfold IntKind.wrap; simp [IntKind.bits, IntKind.signed]; omega
      have hb3 : b2 ≤ b + 20 := by omega
      have hb4 : b + 20 ≤ b2 := by omega
      clear hb2e
      go_wp2_with fail
      refine ((unhide HINS) a b _ d' han hbn (by exact unhide HS) (fun i j h1 h2 h3 => ?_)).mono ?_
      · rw [(unhide HI).rest i (by omega), (unhide HI).rest j (by omega)]
        exact (unhide HBF) i j h2 (by omega)
      rintro e W2 ⟨d2, rfl, hs2, hk2, hi2, hr2⟩
      have HS2 := hide hs2
      have HK2 := hide ((unhide HK).trans hk2)
      have HI2 : Hid (Ini ltS T d d2 n (q + 1)) := by
        have e1 : a = q * 20 := by omega
        have e2 : b = q * 20 + 20 := by omega
        rw [e1, e2] at hi2 hr2
        exact (unhide HI).next (by omega) hi2 hr2
      clear hs2 hk2 hi2 hr2
      go_wp2
      go_roundg (n + 20 - b2)
      case measure => omega
      case rel => exact ⟨q + 1, b, b2, d2, rfl, rfl, rfl, by omega, by omega, hb3, hb4, hbn, unhide HS2, unhide HK2, unhide HI2⟩
    · have hd : decide ((b : Int) ≤ (n : Int)) = false := by simp; omega
      go_wp2_with fail
      refine ((unhide HINS) a n _ d' han (Nat.le_refl _) (by exact unhide HS) (fun i j h1 h2 h3 => ?_)).mono ?_
      · rw [(unhide HI).rest i (by omega), (unhide HI).rest j (by omega)]
        exact (unhide HBF) i j h2 h3
      rintro e W2 ⟨d2, rfl, hs2, hk2, hi2, hr2⟩
      have HS2 := hide hs2
      have HK2 := hide ((unhide HK).trans hk2)
      have HI2 : Hid (Bks ltS T d2 n 20 ∧ Inc 0 n d d2) := by
        have e1 : a = q * 20 := by omega
        rw [e1] at hi2 hr2
        exact (unhide HI).last (by omega) (by omega) hi2 hr2
      clear hs2 hk2 hi2 hr2
      go_wp2_with fail
      go_loopg [6] (n - 20) (fun f bv W' => ∃ bs d', bv = .int .i64 (bs : Nat) ∧ f = n - bs ∧ 20 ≤ bs ∧ bs ≤ 8000 ∧ Sts2 W' g n d' ∧ Kp g W W' ∧ Inc 0 n d d' ∧ Bks ltS T d' n bs)
      case atStart => exact ⟨20, d2, rfl, rfl, Nat.le_refl _, by omega, unhide HS2, unhide HK2, (unhide HI2).2, (unhide HI2).1⟩
      case round =>
        obtain ⟨bs, d3, rfl, rfl, hbs1, hbs2, hs, hk, hinc, hbk⟩ := hrel
        have HS3 := hide hs
        have HK3 := hide hk
        have HI3 := hide hinc
        have HB3 := hide hbk
        clear hs hk hinc hbk
        by_cases hbn2 : bs < n
        · have hd3 : decide ((bs : Int) < (n : Int)) = true := by simp; omega
          obtain ⟨k2, hk2e⟩ : ∃ k2, k2 = 2 * bs := ⟨_, rfl⟩
          have HK2E := hide hk2e
          have hk21 : k2 ≤ 2 * bs := by omega
          have hk22 : 2 * bs ≤ k2 := by omega
          have w2 : IntKind.i64.wrap (2 * (bs : Int)) = (k2 : Int) := by unfold IntKind.wrap; simp [IntKind.bits, IntKind.signed]; omega
          have w3 : IntKind.i64.wrap ((bs : Int) * 2) = (k2 : Int) := by unfold IntKind.wrap; simp [IntKind.bits, IntKind.signed]; omega
          clear hk2e
          go_wp2_with fail
          go_loopg [7, 8] n (fun f av bv W' => ∃ q a b d', av = .int .i64 (a : Nat) ∧ bv = .int .i64 (b : Nat) ∧ f = n + k2 - b ∧ Hid (a = q * (2 * bs)) ∧ b ≤ a + k2 ∧ a + k2 ≤ b ∧ a ≤ n ∧ Sts2 W' g n d' ∧ Kp g W W' ∧ Inc 0 n d d' ∧ Phs ltS T d' n bs q)
          case atStart => exact ⟨0, 0, k2, d3, rfl, rfl, by omega, (by show 0 = 0 * (2 * bs); omega), by omega, by omega, Nat.zero_le _, unhide HS3, unhide HK3, unhide HI3, (unhide HB3).phs⟩
          case round =>
            obtain ⟨q, a, b, d4, rfl, rfl, rfl, HA, hb1, hb2, han, hs, hk, hinc, hph⟩ := hrel
            have HS4 := hide hs
            have HK4 := hide hk
            have HI4 := hide hinc
            have HP4 := hide hph
            clear hs hk hinc hph
            obtain ⟨m, hme⟩ : ∃ m, m = a + bs := ⟨_, rfl⟩
            have w4 : IntKind.i64.wrap ((a : Int) + (bs : Int)) = (m : Int) := by unfold IntKind.wrap; simp [IntKind.bits, IntKind.signed]; omega
            have HME := hide hme
            have hm1 : m ≤ a + bs := by omega
            have hm2 : a + bs ≤ m := by omega
            clear hme
            by_cases hbn3 : b ≤ n
            · have hd4 : decide ((b : Int) ≤ (n : Int)) = true := by simp; omega
              obtain ⟨b2, hb2e⟩ : ∃ b2, b2 = b + k2 := ⟨_, rfl⟩
              have w5 : IntKind.i64.wrap ((b : Int) + (k2 : Int)) = (b2 : Int) := by unfold IntKind.wrap; simp [IntKind.bits, IntKind.signed]; omega
              have hb3 : b2 ≤ b + k2 := by omega
              have hb4 : b + k2 ≤ b2 := by omega
              clear hb2e
              have HW : Hid (Srt' T d4 a m ∧ Srt' T d4 m b ∧ Bef ltS T d4 a m b) := by
                have e1 := unhide HA
                have e2 := unhide HME
                have e3 : b = q * (2 * bs) + 2 * bs := by rw [← e1]; omega
                have := (unhide HP4).wants (b := b) hbn3 (by rw [← e1]; omega) (by omega)
                rw [← e1, ← e2] at this
                exact this
              go_wp2_with fail
              refine ((unhide HMRG) a m b (by omega) (by omega) hbn3 _ d4 (by exact unhide HS4) (unhide HW).1 (unhide HW).2.1 (unhide HW).2.2).mono ?_
              rintro e W5 ⟨d5, rfl, hs5, hk5, hi5, hr5⟩
              have HS5 := hide hs5
              have HK5 := hide ((unhide HK4).trans hk5)
              have HI5 := hide ((unhide HI4).trans (hi5.mono (Nat.zero_le _) hbn3))
              have HP5 : Hid (Phs ltS T d5 n bs (q + 1)) := by
                have e1 := unhide HA
                have e3 : b = q * (2 * bs) + 2 * bs := by rw [← e1]; omega
                rw [e1, e3] at hi5 hr5
                exact (unhide HP4).next (by rw [← e3]; exact hbn3) hi5 hr5
              have HA5 : Hid (b = (q + 1) * (2 * bs)) := by
                show b = _
                have e1 := unhide HA
                rw [← dbl2, ← e1]
                omega
              clear hs5 hk5 hi5 hr5
              go_wp2
              go_roundg (n + k2 - b2)
              case measure => omega
              case rel => exact ⟨q + 1, b, b2, d5, rfl, rfl, rfl, HA5, hb3, hb4, hbn3, unhide HS5, unhide HK5, unhide HI5, unhide HP5⟩
            · have hd4 : decide ((b : Int) ≤ (n : Int)) = false := by simp; omega
              have HFIN : Hid (∀ W' d5, Sts2 W' g n d5 → Kp g W W' → Inc a n d4 d5 → Srt' T d5 a n → ∃ bs' d', (.int .i64 (k2 : Nat) : Value) = .int .i64 (bs' : Nat) ∧ n - k2 = n - bs' ∧ 20 ≤ bs' ∧ bs' ≤ 8000 ∧ Sts2 W' g n d' ∧ Kp g W W' ∧ Inc 0 n d d' ∧ Bks ltS T d' n bs') := fun W' d5 q1 q2 q3 q4 => by
                have e1 := unhide HA
                refine ⟨k2, d5, rfl, rfl, by omega, by omega, q1, q2, (unhide HI4).trans (q3.mono (Nat.zero_le _) (Nat.le_refl _)), ?_⟩
                have e2 := unhide HK2E
                rw [e2]
                rw [e1] at q3 q4
                exact (unhide HP4).last (by rw [← e1]; exact han) (by rw [← e1]; omega) q3 q4
              by_cases hmn : m < n
              · have hd5 : decide ((m : Int) < (n : Int)) = true := by simp; omega
                have HW : Hid (Srt' T d4 a m ∧ Srt' T d4 m n ∧ Bef ltS T d4 a m n) := by
                  have e1 := unhide HA
                  have e2 := unhide HME
                  have := (unhide HP4).wants (b := n) (Nat.le_refl _) (by rw [← e1]; omega) (by rw [← e1]; omega)
                  rw [← e1, ← e2] at this
                  exact this
                go_wp2_with fail
                refine ((unhide HMRG) a m n (by omega) hmn (Nat.le_refl _) _ d4 (by exact unhide HS4) (unhide HW).1 (unhide HW).2.1 (unhide HW).2.2).mono ?_
                rintro e W5 ⟨d5, rfl, hs5, hk5, hi5, hr5⟩
                have HE5 := hide ((unhide HFIN) W5 d5 hs5 ((unhide HK4).trans hk5) hi5 hr5)
                clear hs5 hk5 hi5 hr5
                go_wp2
                go_roundg (n - k2)
                case measure => omega
                case rel => exact unhide HE5
              · have hd5 : decide ((m : Int) < (n : Int)) = false := by simp; omega
                have HE5 := hide ((unhide HFIN) wr d4 (unhide HS4) (unhide HK4) (Inc.refl _ _ _) (by have e1 := unhide HA; rw [e1]; exact (unhide HP4).rest (by rw [← e1]; omega)))
                go_wp2
                go_roundg (n - k2)
                case measure => omega
                case rel => exact unhide HE5
        · have hd3 : decide ((bs : Int) < (n : Int)) = false := by simp; omega
          go_wp2
          go_end0
          exact ⟨d3, rfl, unhide HS3, unhide HK3, unhide HI3, (unhide HB3).whole (by omega)⟩
set_option maxRecDepth 100000 in
set_option maxHeartbeats 1000000 in
theorem sortStable_any (T : Seat → Seat → Prop) (O : Ordr ltS T) (g n cap : Nat) (hn : n ≤ 4000) (W : World) (d : Nat → Seat) (h : Sts2 W g n d) (hbf : ∀ i j, i < j → j < n → Bfr ltS T (d i) (d j)) :
    Calls Tryz.prog 331 #[.slice (some ⟨g, 0, none⟩) n cap, cmpV] W fun e W' => Srtd T g n W d e W' := by
  have HS := hide (stable_any T O g n cap hn W d h hbf)
  clear h hbf
  go_enter Tryz.func331, Tryz.ntmps331
  go_wp2_with fail
  refine (unhide HS).mono ?_
  rintro e W' ⟨d', rfl, h1, h2, h3, h4⟩
  have HE : Hid (Srtd T g n W d (.returned (.tuple #[])) W') := ⟨d', rfl, h1, h2, h3, h4⟩
  clear h1 h2 h3 h4
  go_wp2
  go_end0
  exact unhide HE
end Go.Proofs.YtfkeddkfegaeiaaGreatDoor
namespace Go.Proofs.YtfkeddkfegaeiaaGreatDoor
open Go.RowKit
/-- by part, then by order, then as they came. -/
def SeatT (s t : Seat) : Prop := cmpL s.part t.part < 0 ∨ (s.part = t.part ∧ (cmpL s.ord t.ord < 0 ∨ (s.ord = t.ord ∧ s.row < t.row)))
theorem cmpS_lt {s t : Seat} (h : cmpS s t < 0) : cmpL s.part t.part < 0 ∨ (s.part = t.part ∧ cmpL s.ord t.ord < 0) := by
  unfold cmpS orI at h
  split at h
  · rename_i e
    exact Or.inr ⟨cmpL_zero e, h⟩
  · exact Or.inl h
theorem SeatT.ordr : Ordr ltS SeatT := by
  refine ⟨fun {x y z} h1 h2 => ?_, fun {x y} h => ?_⟩
  · rcases h1 with h1 | ⟨e1, h1⟩
    · rcases h2 with h2 | ⟨e2, -⟩
      · exact Or.inl (cmpL_lt _ _ _ h1 h2)
      · exact Or.inl (by rw [← e2]; exact h1)
    · rcases h2 with h2 | ⟨e2, h2⟩
      · exact Or.inl (by rw [e1]; exact h2)
      · refine Or.inr ⟨e1.trans e2, ?_⟩
        rcases h1 with h1 | ⟨q1, h1⟩
        · rcases h2 with h2 | ⟨q2, -⟩
          · exact Or.inl (cmpL_lt _ _ _ h1 h2)
          · exact Or.inl (by rw [← q2]; exact h1)
        · rcases h2 with h2 | ⟨q2, h2⟩
          · exact Or.inl (by rw [q1]; exact h2)
          · exact Or.inr ⟨q1.trans q2, by omega⟩
  · unfold ltS at h
    rcases cmpS_lt (of_decide_eq_true h) with h | ⟨e, h⟩
    · exact Or.inl h
    · exact Or.inr ⟨e, Or.inl h⟩
theorem SeatT.bfr {s t : Seat} (h : s.row < t.row) : Bfr ltS SeatT s t := fun hl => by
  unfold ltS at hl
  have hl' := of_decide_eq_false hl
  unfold cmpS orI at hl'
  rw [cmpL_swap s.part t.part, cmpL_swap s.ord t.ord] at hl'
  by_cases e : cmpL s.part t.part = 0
  · rw [if_pos (by omega)] at hl'
    refine Or.inr ⟨cmpL_zero e, ?_⟩
    by_cases e2 : cmpL s.ord t.ord = 0
    · exact Or.inr ⟨cmpL_zero e2, h⟩
    · exact Or.inl (by omega)
  · rw [if_neg (by omega)] at hl'
    exact Or.inl (by omega)
theorem SeatT.irr {s : Seat} (h : SeatT s s) : False := by
  rcases h with h | ⟨-, h | ⟨-, h⟩⟩
  · rw [cmpL_self] at h; omega
  · rw [cmpL_self] at h; omega
  · omega
/-- numbers of a row, by functions. -/
def eachN (fs : List (List Int → Int)) (row : List Int) : List Int := fs.map fun f => f row
/-- function values that lie in a row, and what they give. -/
structure Fns (w0 : World) (G : Fx) (wd : Nat) (v : Value) (fs : List (List Int → Int)) (W : World) : Prop where
  row : ∃ vs, RowAt W v vs ∧ vs.length = fs.length ∧ ∀ (i : Nat) u f, vs[i]? = some u → fs[i]? = some f → ∃ g cb, u = .func (.func g) #[] cb ∧ FnG w0 G wd g cb f
set_option maxRecDepth 100000 in
set_option maxHeartbeats 1000000 in
theorem each_any (w0 : World) (G : Fx) (wd : Nat) (v rv : Value) (fs : List (List Int → Int)) (hfs : fs.length ≤ 100) (row : List Int) (hl : row.length = wd) (W : World) (hW : Fits w0 G W) (hv : Fns w0 G wd v fs W) (hr : RowAt W rv (intsV row)) :
    Calls Tryz.prog 330 #[v, rv] W fun e W' => ∃ g, e = .returned (.slice (some ⟨g, 0, none⟩) fs.length fs.length) ∧ W.heap.size ≤ g ∧ W'.heap[g]? = some (.cells (intsV (eachN fs row)).toArray 3 (0, 0)) ∧ Below W.heap.size W W' := by
  obtain ⟨i0, hi, hinf⟩ := Option.map_eq_some_iff.1 infoInt
  simp only [Prod.mk.injEq] at hinf
  obtain ⟨hz0, hz1, hz2⟩ := hinf
  have HI := hide hi
  have HZ0 := hide hz0
  have HZ1 := hide hz1
  have HZ2 := hide hz2
  clear hi hz0 hz1 hz2
  obtain ⟨vs, hrow, hvl, hfn⟩ := hv.row
  have HFN := hide hfn
  have HW := hide hW
  have HR := hide hr
  have HL := hide hl
  have HVL := hide hvl
  obtain ⟨ad, cap, rfl, hmx, hcc⟩ := hrow
  obtain ⟨adr, capr, rfl, -, -⟩ := hr
  rw [List.length_map] at HR ⊢
  rw [hvl] at hmx hcc ⊢
  have HCR := hide hcc
  clear hfn hW hl hv hvl hcc hmx
  go_enter Tryz.func330, Tryz.ntmps330
  go_wp2_with (at_make; refine wpList_make_full _ rfl _ _ 32 rfl W.heap.size 3 i0 (.int .i64 0) 1 Tryz.underlying32 (unhide HI) (unhide HZ0) (unhide HZ1) .i64 .i64 _ _ fs.length rfl rfl ?c1 ?c2 ?c3 ?c4 ?c5 ?_)
  case c1 => simp
  case c2 => simp
  case c3 => rw [unhide HZ2]; omega
  case c4 => unfold maxLen; omega
  case c5 => exact Nat.le_refl _
  intro w1 ho hg
  rcases ho.2 with ⟨hv, _⟩ | ⟨g1, cap', cur, hv, hge, hh, c1, c2, c3, c4⟩
  · cases hv
  injection hv with hv1 hv2 hv3
  injection hv1 with hv1
  injection hv1 with hv1
  subst hv1
  have hcl : cur.toList.length = fs.length := by rw [Array.length_toList, c3]; omega
  have HH1 : Hid (w1.heap[W.heap.size]? = some (.cells cur.toList.toArray 3 (0, 0))) := by unfold Hid; rw [hh]
  have HB1 : Hid (Below W.heap.size W w1) := (Below.refl _ _).grown hg (Nat.le_refl _) (fun k e => by cases e)
  clear ho hg hh c1 c2 c3 c4 hv2 hv3 hge
  generalize cur.toList = L at *
  go_wp2_with fail
  go_loopg [13] fs.length (fun q i W' => ∃ pre suf, fs = pre ++ suf ∧ q = suf.length ∧ i = .int .i64 (pre.length : Nat) ∧ W'.heap[W.heap.size]? = some (.cells (intsV (eachN pre row) ++ L.drop pre.length).toArray 3 (0, 0)) ∧ Below W.heap.size W W')
  case atStart => exact ⟨[], fs, rfl, rfl, rfl, by simpa [eachN] using unhide HH1, unhide HB1⟩
  case round =>
    obtain ⟨pre, suf, h1, rfl, rfl, hh, hbw⟩ := hrel
    have l1 : pre.length + suf.length = fs.length := by rw [h1, List.length_append]
    have HZ := hide h1
    have HHW := hide hh
    have HBW := hide hbw
    have zw := lt_of_heap hh
    obtain ⟨kc, kf⟩ := blk hh
    clear h1 hh hbw
    cases suf with
    | nil =>
      have hlt : decide (pre.length < fs.length) = false := by simp at l1 ⊢; omega
      go_wp2
      go_ret
      have e : pre = fs := by rw [unhide HZ]; simp
      have h9 := unhide HHW
      rw [List.drop_eq_nil_of_le (by simp at l1; omega), List.append_nil, e] at h9
      exact ⟨W.heap.size, rfl, Nat.le_refl _, h9, unhide HBW⟩
    | cons f suf =>
      rw [List.length_cons] at l1
      have hlt : decide (pre.length < fs.length) = true := by simp; omega
      have HZ2 : Hid (fs = (pre ++ [f]) ++ suf) := by unfold Hid; rw [unhide HZ]; simp
      obtain ⟨b1, o1, rfl, z1, cc1⟩ := (unhide HCR) (by omega)
      obtain ⟨u, hu⟩ : ∃ u, vs[pre.length]? = some u := ⟨vs[pre.length]'(by rw [unhide HVL]; omega), List.getElem?_eq_getElem _⟩
      obtain ⟨gf, cb, rfl, hfg⟩ := (unhide HFN) pre.length u f hu (by rw [unhide HZ]; simp)
      have k1 : wr.cell? ⟨b1, o1 + pre.length, none⟩ = some (.func (.func gf) #[] cb) := by
        rw [(unhide HBW).cell (p := ⟨b1, _, none⟩) z1, cc1 _ (by omega), hu]
      have eg := hfg.1
      have HF := hide hfg.2
      clear hu cc1 kc hfg
      go_wp2_with fail
      refine ((unhide HF) _ _ row (by exact (unhide HW).below (unhide HBW)) (unhide HL) (by exact (unhide HR).keep (unhide HBW))).mono ?_
      rintro e w2 ⟨rfl, hb2⟩
      have hh2 := (hb2.block _ zw).trans (unhide HHW)
      have HH2 := hide hh2
      have HB2 : Hid (Below W.heap.size W w2) := (unhide HBW).trans (hb2.mono (unhide HBW).size)
      have zw2 := lt_of_heap hh2
      obtain ⟨kc, kf2⟩ := blk hh2
      have hlp : (intsV (eachN pre row)).length = pre.length := by simp [eachN]
      obtain ⟨t, L', hL⟩ : ∃ t L', L.drop pre.length = t :: L' := by
        cases e : L.drop pre.length with
        | nil => exfalso; have := congrArg List.length e; rw [List.length_drop] at this; simp at this; omega
        | cons t L' => exact ⟨t, L', rfl⟩
      have k2 : w2.cell? ⟨W.heap.size, pre.length, none⟩ = some t := by
        rw [kc, hL, List.getElem?_toArray, List.getElem?_append_right (by omega), hlp, Nat.sub_self]
        rfl
      have HNX : Hid ((intsV (eachN pre row) ++ L.drop pre.length).toArray.setIfInBounds pre.length (.int .i64 (f row)) = (intsV (eachN (pre ++ [f]) row) ++ L.drop (pre.length + 1)).toArray) := by
        unfold Hid
        have hd1 : L.drop (pre.length + 1) = L' := by rw [← List.drop_drop, hL]; rfl
        rw [hL, hd1, List.setIfInBounds_toArray, List.set_append_right _ _ (by omega), hlp, Nat.sub_self, List.set_cons_zero]
        simp [eachN]
      clear hb2 hh2 kc hL k1
      go_wp2
      go_roundg suf.length
      case measure => simp
      case rel =>
        refine ⟨pre ++ [f], suf, unhide HZ2, rfl, ?_, ?_, (unhide HB2).setCell (by exact Nat.le_refl _) _⟩
        · rw [List.length_append]; go_num
        · rw [heap_set (unhide HH2), unhide HNX, List.length_append]; rfl
end Go.Proofs.YtfkeddkfegaeiaaGreatDoor
