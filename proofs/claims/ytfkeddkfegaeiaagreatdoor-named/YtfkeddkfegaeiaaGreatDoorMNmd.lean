/-
  Part 33.
-/
import Derived.Test.YtfkeddkfegaeiaaGreatDoorJ29
import Derived.Test.YtfkeddkfegaeiaaGreatDoorJ28
namespace Go.Proofs.YtfkeddkfegaeiaaGreatDoor
open Go.RowKit

theorem is_at (a : Nat → Addr) (B : Nat) (w : World) (h : EnvX a B w) (b p k j : Nat) (hk : tw k = true) (hj : tw j = true) (hat : AtBlk w b p (errV a k)) :
    Calls Tryz.prog 18 #[.iface 110 (.pointer (some ⟨b, 0, none⟩)), errV a j] w fun e w' => e = .returned (.bool (decide (k = j))) ∧ w' = w := by
  have h1 : w.cell? ⟨b, 1, none⟩ = some (errV a k) := by rw [(blk hat).1]; rfl
  by_cases e : k = j
  · subst e
    rw [decide_eq_true rfl]
    exact is_wrap_same b (a k) w h1
  · rw [decide_eq_false e]
    obtain ⟨c, t, hr⟩ := h.row k hk
    obtain ⟨c', t', hr'⟩ := h.row j hj
    exact is_wrap_other b (a j) (a k) c c' t t' w h1 (h.ne k j hk hj e) hr hr'
theorem is_bare (a : Nat → Addr) (B : Nat) (w : World) (h : EnvX a B w) (k j : Nat) (hk : tw k = true) (hj : tw j = true) :
    Calls Tryz.prog 18 #[errV a k, errV a j] w fun e w' => e = .returned (.bool (decide (k = j))) ∧ w' = w := by
  by_cases e : k = j
  · subst e
    rw [decide_eq_true rfl]
    exact is_same (a k) w
  · rw [decide_eq_false e]
    obtain ⟨c, t, hr⟩ := h.row k hk
    obtain ⟨c', t', hr'⟩ := h.row j hj
    exact is_other (a k) (a j) c c' t t' w (h.ne k j hk hj e) hr hr'

def fives : List Nat := [eLong, eByte, eNumber, eSyntax, eMany]
def five (j : Nat) : Nat := fives.getD j 0
def cnt (k j : Nat) : Nat := ((fives.take j).filter (fun x => decide (k = x))).length
theorem cnt_next (k j : Nat) (hj : j < 5) : cnt k (j + 1) = cnt k j + (if k = five j then 1 else 0) := by
  match j, hj with
  | 0, _ | 1, _ | 2, _ | 3, _ | 4, _ => simp only [cnt, fives, five, List.take, List.filter, List.getD_cons_zero, List.getD_cons_succ]; (repeat' split) <;> simp_all
theorem cnt_all (k : Nat) (hk : Five k) : cnt k 5 = 1 := by
  rcases hk with rfl | rfl | rfl | rfl | rfl <;> rfl
theorem five_lt (j : Nat) : tw (five j) = true := by
  match j with
  | 0 | 1 | 2 | 3 | 4 => decide
  | n + 5 =>
    rw [show five (n + 5) = 0 from by simp [five, fives]]
    decide
def fiveV (a : Nat → Addr) : Array Value := #[errV a eLong, errV a eByte, errV a eNumber, errV a eSyntax, errV a eMany]
theorem fiveV_at (a : Nat → Addr) (j : Nat) (hj : j < 5) : (fiveV a)[j]? = some (errV a (five j)) := by
  match j, hj with
  | 0, _ | 1, _ | 2, _ | 3, _ | 4, _ => rfl

set_option maxRecDepth 100000 in
set_option maxHeartbeats 1000000 in
theorem named_ok (s : ByteArray) (a : Nat → Addr) (B : Nat) (w : World) (h : EnvX a B w) (hs : s.size ≤ 1000) (l : List UInt8) (hl : tellP s = .ok l) :
    Calls Tryz.prog 5 #[.string s] w fun e w' => e = .returned (.bool true) ∧ Below w.heap.size w w' := by
  have HE := hide h
  have HA := hide (able_any a B w h.env)
  have hd : decide ((s.size : Int) ≤ 1000) = true := by simp; omega
  clear h
  go_enter Tryz.func5, Tryz.ntmps5
  go_wp2_with fail
  refine (unhide HA).mono ?_
  rintro e w1 ⟨rfl, h1⟩
  have HE1 := hide ((unhide HE).keep (h1.mono (unhide HE).env.size))
  have H1 := hide h1
  clear h1 HE HA
  obtain ⟨R, HR⟩ : ∃ R, Hid (R = tellP s) := ⟨_, rfl⟩
  have HC := hide (tell_any s a B w1 (unhide HE1).env hs)
  rw [← unhide HR] at HC
  go_wp2_with fail
  refine (unhide HC).mono ?_
  rintro e w2 h2
  obtain ⟨rfl, h3⟩ := h2.ok ((unhide HR).trans hl)
  have H3 := hide ((unhide H1).trans (h3.mono (unhide H1).size))
  clear h2 h3 HC
  go_wp2
  go_ret
  exact ⟨rfl, unhide H3⟩

set_option maxRecDepth 100000 in
set_option maxHeartbeats 2000000 in
theorem named_err (s : ByteArray) (a : Nat → Addr) (B : Nat) (w : World) (h : EnvX a B w) (hs : s.size ≤ 1000) (p k : Nat) (hl : tellP s = .error (p, k)) :
    Calls Tryz.prog 5 #[.string s] w fun e w' => e = .returned (.bool true) ∧ Below w.heap.size w w' := by
  have hpk := tellP_err hl
  have hk5 : Five k := by unfold Five; rcases hpk.2 with h | h | h | h <;> simp [h]
  have hp := hpk.1
  have hk12 : tw k = true := by rcases hk5 with h | h | h | h | h <;> rw [h] <;> decide
  clear hpk
  have HE := hide h
  have HA := hide (able_any a B w h.env)
  have hd : decide (1000 < (s.size : Int)) = false := by simp; omega
  clear h
  go_enter Tryz.func5, Tryz.ntmps5
  go_wp2_with fail
  refine (unhide HA).mono ?_
  rintro e w1 ⟨rfl, h1⟩
  have HE1 := hide ((unhide HE).keep (h1.mono (unhide HE).env.size))
  have H1 := hide h1
  clear h1 HE HA
  obtain ⟨R, HR⟩ : ∃ R, Hid (R = tellP s) := ⟨_, rfl⟩
  have HC := hide (tell_any s a B w1 (unhide HE1).env hs)
  rw [← unhide HR] at HC
  go_wp2_with fail
  refine (unhide HC).mono ?_
  rintro e w2 h2
  obtain ⟨b, rfl, hat, h3⟩ := h2.err ((unhide HR).trans hl)
  have H3 := hide ((unhide H1).trans (h3.mono (unhide H1).size))
  have HE2 := hide ((unhide HE1).keep (h3.mono (unhide HE1).env.size))
  have HAT := hide hat
  have zb := lt_of_heap hat
  clear h2 h3 HC hat HE1 H1 HR
  have g0 := (unhide HE2).cell eLong (by decide)
  have g1 := (unhide HE2).cell eByte (by decide)
  have g2 := (unhide HE2).cell eNumber (by decide)
  have g3 := (unhide HE2).cell eSyntax (by decide)
  have g4 := (unhide HE2).cell eMany (by decide)
  go_wp2_with fail
  have hcell : ∀ j, j < 5 → (w2.alloc (.cells (fiveV a) 23)).cell? ⟨w2.heap.size, j, none⟩ = some (errV a (five j)) := fun j hj => by
    rw [(blk (heap_last (w := w2) (o := .cells (fiveV a) 23) rfl)).1]
    exact fiveV_at a j hj
  have HEW : Hid (EnvX a B (w2.alloc (.cells (fiveV a) 23))) := (unhide HE2).alloc _
  have HAW : Hid (AtBlk (w2.alloc (.cells (fiveV a) 23)) b p (errV a k)) := (unhide HAT).alloc _
  have HBW : Hid (Below w.heap.size w (w2.alloc (.cells (fiveV a) 23))) := (unhide H3).alloc (unhide H3).size _
  have zW : b < (w2.alloc (.cells (fiveV a) 23)).heap.size := lt_of_heap (unhide HAW)
  unfold fiveV at hcell HEW HAW HBW zW
  have zl : w2.heap.size < (w2.alloc (.cells #[errV a eLong, errV a eByte, errV a eNumber, errV a eSyntax, errV a eMany] 23)).heap.size := by simp
  clear g0 g1 g2 g3 g4 HE2 HAT H3
  generalize w2.alloc (.cells #[errV a eLong, errV a eByte, errV a eNumber, errV a eSyntax, errV a eMany] 23) = W at *
  generalize w2.heap.size = bl at *
  go_loop [7, 8] (fun n i => ∃ j : Nat, j ≤ 5 ∧ n = .int .i64 (cnt k j) ∧ i = .int .i64 j) (fun _ i => 5 - (intOf i).toNat)
  case atStart => exact ⟨0, by omega, rfl, rfl⟩
  case round =>
    obtain ⟨j, hj, rfl, rfl⟩ := hrel
    by_cases hlt : j < 5
    · have hc := hcell j hlt
      have hdj : decide ((j : Int) < 5) = true := by simp; omega
      have hcn := cnt_next k j hlt
      have hcb : cnt k j ≤ 5 := by unfold cnt; exact Nat.le_trans (List.length_filter_le _ _) (by simp [fives]; omega)
      have HF := hide (five_lt j)
      clear hcell
      generalize five j = fj at *
      go_wp2_with fail
      refine (is_at a B _ (by exact unhide HEW) b p k fj hk12 (unhide HF) (by exact unhide HAW)).mono ?_
      rintro e w' ⟨rfl, rfl⟩
      by_cases hkf : k = fj
      · have hq : decide (k = fj) = true := decide_eq_true hkf
        rw [if_pos hkf] at hcn
        rw [hq]
        clear hkf hq
        go_wp2
        go_round
        case rel => exact ⟨j + 1, by omega, by rw [hcn]; go_num, by go_num⟩
        case measure => simp [intOf]; omega
      · have hq : decide (k = fj) = false := decide_eq_false hkf
        rw [if_neg hkf] at hcn
        rw [hq]
        clear hkf hq
        go_wp2
        go_round
        case rel => exact ⟨j + 1, by omega, by rw [hcn]; rfl, by go_num⟩
        case measure => simp [intOf]; omega
    · have h5 : j = 5 := by omega
      subst h5
      have hc1 := cnt_all k hk5
      rw [hc1]
      clear hcell
      go_wp2_with fail
      refine (wrong_at a B _ (by exact unhide HEW) b p k hk5 (by exact unhide HAW)).mono ?_
      rintro e w' ⟨rfl, hbw⟩
      have HB3 := hide ((unhide HBW).trans (hbw.mono (unhide HBW).size))
      have hp0 : decide (0 ≤ (p : Int)) = true := by simp
      have hp1 : decide ((p : Int) ≤ (s.size : Int)) = true := by simp; omega
      clear hbw hk5 hl HEW HAW HBW
      generalize numN k = nk at *
      go_wp2
      go_ret
      exact ⟨rfl, (unhide HB3).alloc (unhide HB3).size _⟩
set_option maxRecDepth 100000 in
set_option maxHeartbeats 2000000 in
theorem named_long (s : ByteArray) (a : Nat → Addr) (B : Nat) (w : World) (h : EnvX a B w) (hs : 1000 < s.size) :
    Calls Tryz.prog 5 #[.string s] w fun e w' => e = .returned (.bool true) ∧ Below w.heap.size w w' := by
  have HE := hide h
  have HA := hide (able_any a B w h.env)
  have hd : decide (1000 < (s.size : Int)) = true := by simp; omega
  clear h
  go_enter Tryz.func5, Tryz.ntmps5
  go_wp2_with fail
  refine (unhide HA).mono ?_
  rintro e w1 ⟨rfl, h1⟩
  have HE1 := hide ((unhide HE).keep (h1.mono (unhide HE).env.size))
  have H1 := hide h1
  clear h1 HE HA
  go_wp2_with fail
  refine (tell_long s a B _ (by exact (unhide HE1).env) hs).mono ?_
  rintro e w2 ⟨rfl, h3⟩
  have H3 := hide ((unhide H1).trans (h3.mono (unhide H1).size))
  have HE2 := hide ((unhide HE1).keep (h3.mono (unhide HE1).env.size))
  clear h3 HE1 H1
  have g0 := (unhide HE2).cell eLong (by decide)
  have g1 := (unhide HE2).cell eByte (by decide)
  have g2 := (unhide HE2).cell eNumber (by decide)
  have g3 := (unhide HE2).cell eSyntax (by decide)
  have g4 := (unhide HE2).cell eMany (by decide)
  go_wp2_with fail
  have hcell : ∀ j, j < 5 → (w2.alloc (.cells (fiveV a) 23)).cell? ⟨w2.heap.size, j, none⟩ = some (errV a (five j)) := fun j hj => by
    rw [(blk (heap_last (w := w2) (o := .cells (fiveV a) 23) rfl)).1]
    exact fiveV_at a j hj
  have HEW : Hid (EnvX a B (w2.alloc (.cells (fiveV a) 23))) := (unhide HE2).alloc _
  have HBW : Hid (Below w.heap.size w (w2.alloc (.cells (fiveV a) 23))) := (unhide H3).alloc (unhide H3).size _
  unfold fiveV at hcell HEW HBW
  have zl : w2.heap.size < (w2.alloc (.cells #[errV a eLong, errV a eByte, errV a eNumber, errV a eSyntax, errV a eMany] 23)).heap.size := by simp
  clear g0 g1 g2 g3 g4 HE2 H3
  generalize w2.alloc (.cells #[errV a eLong, errV a eByte, errV a eNumber, errV a eSyntax, errV a eMany] 23) = W at *
  generalize w2.heap.size = bl at *
  go_loop [7, 8] (fun n i => ∃ j : Nat, j ≤ 5 ∧ n = .int .i64 (cnt eLong j) ∧ i = .int .i64 j) (fun _ i => 5 - (intOf i).toNat)
  case atStart => exact ⟨0, by omega, rfl, rfl⟩
  case round =>
    obtain ⟨j, hj, rfl, rfl⟩ := hrel
    by_cases hlt : j < 5
    · have hc := hcell j hlt
      have hdj : decide ((j : Int) < 5) = true := by simp; omega
      have hcn := cnt_next eLong j hlt
      have hcb : cnt eLong j ≤ 5 := by unfold cnt; exact Nat.le_trans (List.length_filter_le _ _) (by simp [fives]; omega)
      have HF := hide (five_lt j)
      clear hcell
      generalize five j = fj at *
      go_wp2_with fail
      refine (is_bare a B _ (by exact unhide HEW) eLong fj (by decide) (unhide HF)).mono ?_
      rintro e w' ⟨rfl, rfl⟩
      by_cases hkf : eLong = fj
      · have hq : decide (eLong = fj) = true := decide_eq_true hkf
        rw [if_pos hkf] at hcn
        rw [hq]
        clear hkf hq
        go_wp2
        go_round
        case rel => exact ⟨j + 1, by omega, by rw [hcn]; go_num, by go_num⟩
        case measure => simp [intOf]; omega
      · have hq : decide (eLong = fj) = false := decide_eq_false hkf
        rw [if_neg hkf] at hcn
        rw [hq]
        clear hkf hq
        go_wp2
        go_round
        case rel => exact ⟨j + 1, by omega, by rw [hcn]; rfl, by go_num⟩
        case measure => simp [intOf]; omega
    · have h5 : j = 5 := by omega
      subst h5
      have hc1 := cnt_all eLong (Or.inl rfl)
      rw [hc1]
      clear hcell
      go_wp2_with fail
      refine (wrong_long a B _ (by exact unhide HEW)).mono ?_
      rintro e w' ⟨rfl, hbw⟩
      have HB3 := hide ((unhide HBW).trans (hbw.mono (unhide HBW).size))
      have HE3 := hide ((unhide HEW).keep (hbw.mono (unhide HEW).env.size))
      have g0 := (unhide HE3).cell eLong (by decide)
      have z0 : eLong < w'.heap.size := Nat.lt_of_lt_of_le (Nat.lt_of_lt_of_le (by decide) (unhide HE3).env.low) (unhide HE3).env.size
      have hsame := fun W => err_same a W eLong
      clear hbw HEW HBW
      go_wp2
      go_ret
      exact ⟨rfl, (unhide HB3).alloc (unhide HB3).size _⟩

theorem named_any (s : ByteArray) (a : Nat → Addr) (B : Nat) (w : World) (h : EnvX a B w) :
    Calls Tryz.prog 5 #[.string s] w fun e w' => e = .returned (.bool true) ∧ Below w.heap.size w w' := by
  rcases Nat.lt_or_ge 1000 s.size with hs | hs
  · exact named_long s a B w h hs
  · cases ht : tellP s with
    | ok l => exact named_ok s a B w h hs l ht
    | error e =>
      obtain ⟨p, k⟩ := e
      exact named_err s a B w h hs p k ht
end Go.Proofs.YtfkeddkfegaeiaaGreatDoor
