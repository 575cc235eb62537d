/-
  Part 38.
-/
import Derived.Test.YtfkeddkfegaeiaaGreatDoorMRfH
namespace Go.Proofs.YtfkeddkfegaeiaaGreatDoor

def Stopped (ts : List Tk) (st : St) : Prop := st.er ≠ none ∧ st.nx + 1 = ts.length
theorem fail_stopped {ts : List Tk} {st : St} (h : Stopped ts st) (k : Nat) : failP ts st k = st := by
  obtain ⟨nx, dp, er⟩ := st
  obtain ⟨h1, h2⟩ := h
  simp only at h1 h2
  unfold failP
  cases er with
  | none => exact (h1 rfl).elim
  | some x =>
    simp only [St.mk.injEq, and_true]
    omega
theorem kind_stopped {ts : List Tk} (hl : Lst ts) {st : St} (h : Stopped ts st) : (tkAt ts st.nx).kind = 0 := by
  by_cases hk : (tkAt ts st.nx).kind = 0
  · exact hk
  · have h2 := h.2
    have := hl st.nx (by omega) hk
    omega
theorem hit_stopped {ts : List Tk} (hl : Lst ts) {st : St} (h : Stopped ts st) (xs : List ByteArray) : hitP ts st xs = false := by
  unfold hitP
  rw [kind_stopped hl h]
  rfl
theorem want_stopped {ts : List Tk} (hl : Lst ts) {st : St} (h : Stopped ts st) (xs : List ByteArray) : wantP ts st xs = st := by
  unfold wantP
  rw [hit_stopped hl h]
  exact fail_stopped h _
theorem wk_stopped {ts : List Tk} (hl : Lst ts) {st : St} (h : Stopped ts st) {k : Nat} (hk : k ≠ 0) : wkP ts st k = st := by
  unfold wkP
  rw [kind_stopped hl h, if_neg (Ne.symm hk)]
  exact fail_stopped h _
theorem col_stopped {ts : List Tk} (hl : Lst ts) {st : St} (h : Stopped ts st) : colP ts st = st := by
  unfold colP
  rw [wk_stopped hl h (by decide), want_stopped hl h, wk_stopped hl h (by decide)]
theorem factor_stopped {ts : List Tk} (hl : Lst ts) {st : St} (h : Stopped ts st) : ∀ n, (factorP ts n st).2 = st
  | 0 => fail_stopped h _
  | n + 1 => by
    unfold factorP
    rw [hit_stopped hl h, hit_stopped hl h, kind_stopped hl h]
    exact col_stopped hl h
theorem loop_stopped {ts : List Tk} (hl : Lst ts) {st : St} (h : Stopped ts st) (one : St → Rx) (xs : List ByteArray) (p : Nat) (l : List Nd) : ∀ n, (chainLoop ts one xs p n l st).2 = st
  | 0 => rfl
  | n + 1 => by
    unfold chainLoop
    rw [hit_stopped hl h]
    rfl
theorem chain_stopped {ts : List Tk} (hl : Lst ts) {st : St} (h : Stopped ts st) {one : St → Rx} (ho : (one st).2 = st) (xs : List ByteArray) : (chainP ts one xs st).2 = st := by
  unfold chainP
  rw [ho]
  exact loop_stopped hl h _ _ _ _ _
theorem term_stopped {ts : List Tk} (hl : Lst ts) {st : St} (h : Stopped ts st) (n : Nat) : (termOf ts (factorP ts n) st).2 = st := chain_stopped hl h (factor_stopped hl h n) _
theorem expr_stopped {ts : List Tk} (hl : Lst ts) {st : St} (h : Stopped ts st) (n : Nat) : (exprOf ts (factorP ts n) st).2 = st := chain_stopped hl h (term_stopped hl h n) _
theorem RF.stopped {c : Cf} {w : Go.World} {st : St} {I : Nat} {ms : List Nat} {mv ev : Go.Value} {en : Nat} (h : RF c w st I ms mv ev en) (he : st.er ≠ none) : Stopped c.ts st := ⟨he, h.stop he⟩

/-- the numbers of the tokens that are tight of themselves (minuses), from n on. -/
def idx : Nat → List TT → List Nat
  | _, [] => []
  | n, a :: r => if a.2 then n :: idx (n + 1) r else idx (n + 1) r
theorem idx_append : ∀ (a b : List TT) (n : Nat), idx n (a ++ b) = idx n a ++ idx (n + a.length) b
  | [], b, n => by simp [idx]
  | x :: a, b, n => by
    rw [List.cons_append, idx, idx, idx_append a b (n + 1), List.length_cons, show n + 1 + a.length = n + (a.length + 1) from by omega]
    split <;> simp
theorem idx_len : ∀ (m : List TT) (n : Nat), (idx n m).length ≤ m.length
  | [], _ => Nat.le_refl _
  | a :: m, n => by
    rw [idx, List.length_cons]
    have := idx_len m (n + 1)
    split
    · rw [List.length_cons]; omega
    · omega
theorem idx_tx : ∀ (m : List TT) (n : Nat), (∀ t, t ∈ m → t.2 = false) → idx n m = []
  | [], _, _ => rfl
  | a :: m, n, h => by
    rw [idx, h a List.mem_cons_self]
    exact idx_tx m (n + 1) (fun t ht => h t (List.mem_cons_of_mem _ ht))
theorem idx_mem : ∀ (m : List TT) (n i : Nat), i ∈ idx n m ↔ ∃ j t, m[j]? = some t ∧ t.2 = true ∧ i = n + j
  | [], n, i => by simp [idx]
  | a :: m, n, i => by
    rw [idx]
    have ih := idx_mem m (n + 1) i
    constructor
    · intro h
      by_cases ha : a.2 = true
      · rw [if_pos ha] at h
        rcases List.mem_cons.1 h with h | h
        · exact ⟨0, a, rfl, ha, by omega⟩
        · obtain ⟨j, t, h1, h2, h3⟩ := ih.1 h
          exact ⟨j + 1, t, by simpa using h1, h2, by omega⟩
      · rw [if_neg ha] at h
        obtain ⟨j, t, h1, h2, h3⟩ := ih.1 h
        exact ⟨j + 1, t, by simpa using h1, h2, by omega⟩
    · rintro ⟨j, t, h1, h2, h3⟩
      match j, h1, h3 with
      | 0, h1, h3 =>
        have e : a = t := by simpa using h1
        subst e
        rw [if_pos h2]
        exact List.mem_cons.2 (Or.inl (by omega))
      | j + 1, h1, h3 =>
        have hm := ih.2 ⟨j, t, by simpa using h1, h2, by omega⟩
        split
        · exact List.mem_cons_of_mem _ hm
        · exact hm
theorem lin_length {ts : List Tk} {st st' : St} {m : List TT} (h : Lin ts st st' m) (h1 : st'.nx ≤ ts.length) : m.length = st'.nx - st.nx := by
  have e := congrArg List.length h.eq
  rw [List.length_map] at e
  rw [e]
  unfold seg
  rw [List.length_take, List.length_drop, List.length_map]
  have := h.le
  omega
end Go.Proofs.YtfkeddkfegaeiaaGreatDoor
namespace Go.Proofs.YtfkeddkfegaeiaaGreatDoor
open Go.RowKit

/-- behind a call that reads an expr. -/
def ExF (c : Cf) (w : World) (I : Nat) (ms : List Nat) (mv ev : Value) (en : Nat) (nx : Nat) (r : Rx) (e : Ending) (w' : World) : Prop :=
  ∃ (n : Int) (I' : Nat) (ms' : List Nat) (mv' ev' : Value) (en' : Nat), e = .returned (.int .i64 n) ∧ RF c w' r.2 I' ms' mv' ev' en' ∧ Fr c w mv ev w' mv' ev' ∧ I ≤ I' ∧ en' + I ≤ en + I' ∧ ms'.length + I ≤ ms.length + I' ∧ (r.2.er = none → ms' = ms ++ idx nx (tkE r.1))

set_option maxRecDepth 100000 in
set_option maxHeartbeats 1000000 in
theorem rfactor_stop (c : Cf) (w : World) (st : St) (I : Nat) (ms : List Nat) (mv ev : Value) (en n : Nat) (h : RF c w st I ms mv ev en) (he : st.er ≠ none) :
    Calls Tryz.prog 278 #[.pointer (some ⟨c.rb, 0, none⟩)] w fun e w' => ExF c w I ms mv ev en st.nx (factorP c.ts n st) e w' := by
  have hst := factor_stopped h.last (h.stopped he) n
  obtain ⟨⟨r0, r1, r2, r3, r4⟩, hfr, q23, ⟨t0, t1, t2⟩, zr, zq, zt⟩ := h.facts
  have hne : (erN st.er != 0) = true := by simp only [bne_iff_ne, ne_eq]; exact erN_ne he
  have HST := hide hst
  have HH := hide h
  have HE := hide he
  have HFM := hide (fail_stopped (h.stopped he) eMany)
  have hdp := h.dp
  clear h hst he
  by_cases hd : 16 < st.dp
  · have hdd : decide (16 < (st.dp : Int)) = true := by simp; omega
    go_enter Tryz.func278, Tryz.ntmps278
    go_wp2_with fail
    refine (rfail_many c _ st I ms mv ev en (by exact unhide HH)).mono ?_
    rintro e w1 ⟨rfl, hr, hk⟩
    rw [unhide HFM] at hr
    have HR := hide hr
    have HK := hide hk
    clear r0 r1 r2 r3 r4 hfr q23 t0 t1 t2 zr zq zt
    obtain ⟨⟨r0, r1, r2, r3, r4⟩, hfr, q23, ⟨t0, t1, t2⟩, zr, zq, zt⟩ := hr.facts
    clear hr hk
    generalize erN st.er = eN at *
    go_wp2
    go_ret
    exact ⟨0, I, ms, mv, ev, en, rfl, by rw [unhide HST]; exact unhide HR, Fr.ofKp _ _ (unhide HK), Nat.le_refl _, Nat.le_refl _, Nat.le_refl _, fun e => (unhide HE (by rw [← unhide HST]; exact e)).elim⟩
  · have hdd : decide (16 < (st.dp : Int)) = false := by simp; omega
    generalize erN st.er = eN at *
    go_enter Tryz.func278, Tryz.ntmps278
    go_wp2
    go_ret
    exact ⟨0, I, ms, mv, ev, en, rfl, by rw [unhide HST]; exact unhide HH, Fr.ofKp _ _ (Kp.refl _ _), Nat.le_refl _, Nat.le_refl _, Nat.le_refl _, fun e => (unhide HE (by rw [← unhide HST]; exact e)).elim⟩

set_option maxRecDepth 100000 in
set_option maxHeartbeats 1000000 in
theorem rfactor_deep (c : Cf) (w : World) (st : St) (I : Nat) (ms : List Nat) (mv ev : Value) (en : Nat) (h : RF c w st I ms mv ev en) (_he : st.er = none) (hd : st.dp = 17) :
    Calls Tryz.prog 278 #[.pointer (some ⟨c.rb, 0, none⟩)] w fun e w' => ExF c w I ms mv ev en st.nx (factorP c.ts 0 st) e w' := by
  obtain ⟨⟨r0, r1, r2, r3, r4⟩, hfr, q23, ⟨t0, t1, t2⟩, zr, zq, zt⟩ := h.facts
  have HH := hide h
  rw [hd] at r2
  have hne : (erN (failP c.ts st eMany).er != 0) = true := by
    simp only [bne_iff_ne, ne_eq]
    exact erN_ne (fun e => fail_nn e)
  clear h _he
  go_enter Tryz.func278, Tryz.ntmps278
  go_wp2_with fail
  refine (rfail_many c _ st I ms mv ev en (by exact unhide HH)).mono ?_
  rintro e w1 ⟨rfl, hr, hk⟩
  have HR := hide hr
  have HK := hide hk
  clear r0 r1 r2 r3 r4 hfr q23 t0 t1 t2 zr zq zt
  obtain ⟨⟨r0, r1, r2, r3, r4⟩, hfr, q23, ⟨t0, t1, t2⟩, zr, zq, zt⟩ := hr.facts
  clear hr hk
  generalize erN (failP c.ts st eMany).er = eN at *
  go_wp2
  go_ret
  exact ⟨0, I, ms, mv, ev, en, rfl, unhide HR, Fr.ofKp _ _ (unhide HK), Nat.le_refl _, Nat.le_refl _, Nat.le_refl _, fun e => (fail_nn e).elim⟩

/-- what holds of the numbers among the tokens. -/
def NumOk (ts : List Tk) : Prop := ∀ i, (tkAt ts i).kind = 3 → (∀ c, c ∈ (tkAt ts i).text.data.toList → digitI c.toNat = true) ∧ (tkAt ts i).text.size ≤ 1000
theorem hit_not {ts : List Tk} {st : St} {k : Nat} (hk : (tkAt ts st.nx).kind = k) (h1 : k ≠ 1) (xs : List ByteArray) : hitP ts st xs = false := by
  unfold hitP
  rw [hk]
  have : (k == 1) = false := by simpa using h1
  rw [this]
  rfl
theorem plain_num {ts : List Tk} {st : St} (hk : (tkAt ts st.nx).kind = 3) (n : Nat) : factorP ts (n + 1) st = ([ndNum (tkAt ts st.nx)], adv st) := by
  unfold factorP
  rw [hit_not hk (by decide), hit_not hk (by decide)]
  simp only [Bool.false_eq_true, if_false]
  rw [if_pos hk]
  unfold wkT wkP
  rw [if_pos hk, if_pos hk]

set_option maxRecDepth 100000 in
set_option maxHeartbeats 1000000 in
theorem rfactor_num (c : Cf) (w : World) (st : St) (I : Nat) (ms : List Nat) (mv ev : Value) (en n : Nat) (h : RF c w st I ms mv ev en) (hN : NumOk c.ts) (he : st.er = none) (hd : st.dp ≤ 16) (hk : (tkAt c.ts st.nx).kind = 3) :
    Calls Tryz.prog 278 #[.pointer (some ⟨c.rb, 0, none⟩)] w fun e w' => ExF c w I ms mv ev en st.nx (factorP c.ts (n + 1) st) e w' := by
  rw [plain_num hk]
  have hI := h.cor he
  subst hI
  obtain ⟨⟨r0, r1, r2, r3, r4⟩, hfr, q23, ⟨t0, t1, t2⟩, zr, zq, zt⟩ := h.facts
  have r3' : w.cell? ⟨c.rb, 3, none⟩ = some (.int .i64 0) := by rw [r3, he]; rfl
  have hdd : decide (16 < (st.dp : Int)) = false := by simp; omega
  have hnn := hN st.nx hk
  have HD := hide hnn.1
  have hz := hnn.2
  have hrk : rkT (tkAt c.ts st.nx) = 3 := by unfold rkT; rw [hk]; rfl
  have hlen := h.len
  have hnx := h.nx
  have HH := hide h
  have HE := hide he
  have HK0 : Hid ((tkAt c.ts st.nx).kind ≠ 0) := by unfold Hid; rw [hk]; decide
  have HT1 : Hid (tkE [ndNum (tkAt c.ts st.nx)] = [tx (tkAt c.ts st.nx).text]) := (wf_num _).2
  rw [hrk] at t0
  clear h r3 he hN hnn hk
  generalize hT : tkAt c.ts st.nx = t at *
  have HT := hide hT
  clear hT
  go_enter Tryz.func278, Tryz.ntmps278
  go_wp2
  go_region
  go_wp2_with fail
  refine (rstep_any c _ st st.nx ms mv ev en (by exact (unhide HH).keep (Below.refl _ _).drew) (unhide HE) (by rw [unhide HT]; exact unhide HK0)).mono ?_
  rintro e w1 ⟨rfl, hr, hkp⟩
  rw [unhide HT]
  have HR := hide hr
  have HKP : Hid (Kp c.rb w w1) := ((Kp.refl c.rb w).drew).trans hkp
  have z1 := lt_of_heap hr.reader
  clear hr hkp
  go_wp2_with fail
  refine (worth_any t.text _ hz (unhide HD)).mono ?_
  rintro e w' ⟨rfl, rfl⟩
  generalize worthV (worthL 0 t.text.data.toList) = wv at *
  go_wp2_with fail
  have hfew := (unhide HH).few
  have HRA := hide ((unhide HR).keep ((Below.refl w1.heap.size w1).alloc (Nat.le_refl _) (.cells #[.int .i64 3, .int .i64 t.place, .string t.text] 100)))
  refine (radd_any c _ (adv st) (st.nx + 1) ms mv ev en (by exact unhide HRA) (by omega) _ _ _ _ _ _ _ _ _ _).mono ?_
  rintro e w2 ⟨nv, ev', rfl, hr2, hf2⟩
  have HR2 := hide hr2
  have HF2 := hide ((Fr.ofKp mv ev ((unhide HKP).alloc _)).trans hf2)
  clear hr2 hf2
  go_wp2
  go_ret
  exact ⟨nv, st.nx + 1, ms, mv, ev', en + 1, rfl, unhide HR2, unhide HF2, Nat.le_succ _, by omega, by omega, fun _ => by rw [unhide HT1, idx_tx _ _ (fun t ht => by simp only [List.mem_singleton] at ht; rw [ht]; rfl), List.append_nil]⟩
end Go.Proofs.YtfkeddkfegaeiaaGreatDoor
namespace Go.Proofs.YtfkeddkfegaeiaaGreatDoor
open Go.RowKit

theorem plain_col {ts : List Tk} {st : St} (hk : (tkAt ts st.nx).kind = 2) (n : Nat) : factorP ts (n + 1) st = ([ndCol (tkAt ts st.nx) (wkT ts (wantP ts (adv st) [⟨#[46]⟩]) 2)], wkP ts (wantP ts (adv st) [⟨#[46]⟩]) 2) := by
  have e1 : wkP ts st 2 = adv st := by unfold wkP; rw [if_pos hk]
  have e2 : wkT ts st 2 = tkAt ts st.nx := by unfold wkT; rw [if_pos hk]
  unfold factorP
  rw [hit_not hk (by decide), hit_not hk (by decide)]
  simp only [Bool.false_eq_true, if_false]
  rw [if_neg (by rw [hk]; decide)]
  unfold colP
  rw [e1, e2]

set_option maxRecDepth 100000 in
set_option maxHeartbeats 1000000 in
theorem rfactor_col (c : Cf) (w : World) (st : St) (I : Nat) (ms : List Nat) (mv ev : Value) (en n : Nat) (h : RF c w st I ms mv ev en) (he : st.er = none) (hd : st.dp ≤ 16) (hk : (tkAt c.ts st.nx).kind = 2) :
    Calls Tryz.prog 278 #[.pointer (some ⟨c.rb, 0, none⟩)] w fun e w' => ExF c w I ms mv ev en st.nx (factorP c.ts (n + 1) st) e w' := by
  rw [plain_col hk]
  have hI := h.cor he
  subst hI
  obtain ⟨⟨r0, r1, r2, r3, r4⟩, hfr, q23, ⟨t0, t1, t2⟩, zr, zq, zt⟩ := h.facts
  have r3' : w.cell? ⟨c.rb, 3, none⟩ = some (.int .i64 0) := by rw [r3, he]; rfl
  have hdd : decide (16 < (st.dp : Int)) = false := by simp; omega
  have hrk : rkT (tkAt c.ts st.nx) = 2 := by unfold rkT; rw [hk]; rfl
  have hlen := h.len
  have hnx := h.nx
  have HH := hide h
  have HE := hide he
  have HK0 : Hid ((tkAt c.ts st.nx).kind ≠ 0) := by unfold Hid; rw [hk]; decide
  have HT1 : Hid (∀ u, tkE [ndCol (tkAt c.ts st.nx) u] = [tx (tkAt c.ts st.nx).text, tx ⟨#[46]⟩, tx u.text]) := fun u => (wf_col _ u).2
  rw [hrk] at t0
  clear h r3 he hk
  generalize hT : tkAt c.ts st.nx = t at *
  have HT := hide hT
  clear hT
  go_enter Tryz.func278, Tryz.ntmps278
  go_wp2
  go_region
  go_wp2_with fail
  refine (rstep_any c _ st st.nx ms mv ev en (by exact (unhide HH).keep (Below.refl _ _).drew) (unhide HE) (by rw [unhide HT]; exact unhide HK0)).mono ?_
  rintro e w1 ⟨rfl, hr, hkp⟩
  rw [unhide HT]
  have HR := hide hr
  have HKP : Hid (Kp c.rb w w1) := ((Kp.refl c.rb w).drew).trans hkp
  have z1 := lt_of_heap hr.reader
  clear hr hkp
  go_wp2_with fail
  have HRA := hide ((unhide HR).keep ((Below.refl w1.heap.size w1).alloc (Nat.le_refl _) (.cells #[.int .i64 2, .int .i64 t.place, .string t.text] 100)))
  refine (rmust_any c _ (adv st) (st.nx + 1) ⟨#[46]⟩ ms mv ev en (by exact unhide HRA)).mono ?_
  rintro e w2 ⟨rfl, ⟨I2, hI2, hr2⟩, hk2⟩
  have K2 := hide ((hk2.block w1.heap.size (by simp) (by omega)).trans (heap_last rfl))
  have HR2 := hide hr2
  have HKP2 := hide (((unhide HKP).alloc _).trans hk2)
  clear hr2 hk2
  go_wp2_with fail
  refine (rkind_any c _ (wantP c.ts (adv st) [⟨#[46]⟩]) I2 2 ms mv ev en (by exact unhide HR2) (Or.inl rfl)).mono ?_
  rintro e w3 ⟨⟨ka, kb, rfl⟩, ⟨I3, hI3, hr3⟩, hk3⟩
  have z2 := lt_of_heap (unhide K2)
  have K3 := hide ((hk3.block w1.heap.size z2 (by omega)).trans (unhide K2))
  obtain ⟨k3, f3⟩ := blk (unhide K3)
  have z3 := lt_of_heap (unhide K3)
  have HR3 := hide hr3
  have HKP3 := hide ((unhide HKP2).trans hk3)
  clear hr3 hk3
  have hfew := (unhide HH).few
  generalize hu : wkT c.ts (wantP c.ts (adv st) [⟨#[46]⟩]) 2 = u at *
  clear hu
  go_wp2_with fail
  have HRB := hide ((unhide HR3).keep ((Below.refl w3.heap.size w3).alloc (Nat.le_refl _) (.cells #[.int .i64 ka, .int .i64 kb, .string u.text] 100)))
  refine (radd_any c _ _ I3 ms mv ev en (by exact unhide HRB) (by omega) _ _ _ _ _ _ _ _ _ _).mono ?_
  rintro e w4 ⟨nv, ev', rfl, hr4, hf4⟩
  have HR4 := hide hr4
  have HF4 := hide ((Fr.ofKp mv ev ((unhide HKP3).alloc _)).trans hf4)
  clear hr4 hf4
  go_wp2
  go_ret
  refine ⟨nv, I3, ms, mv, ev', en + 1, rfl, unhide HR4, unhide HF4, by omega, by omega, by omega, fun _ => ?_⟩
  rw [unhide HT1, idx_tx _ _ (fun t ht => by simp only [List.mem_cons, List.mem_nil_iff, or_false] at ht; rcases ht with rfl | rfl | rfl <;> rfl), List.append_nil]
end Go.Proofs.YtfkeddkfegaeiaaGreatDoor
namespace Go.Proofs.YtfkeddkfegaeiaaGreatDoor
open Go.RowKit

theorem RF.addedM {c : Cf} {w W w11 : World} {st : St} {I g cap : Nat} {ms : List Nat} {mv ev : Value} {en : Nat} (m : Nat) (h : RF c w st I ms mv ev en) (hen : ms.length + 1 ≤ I) (hW : Below w.heap.size w W) (ho : w11.ownsRow c.lo 3 1 (.slice (some ⟨g, 0, none⟩) (ms.length + 1) cap) (ms.length + 1) (intCells ms ++ [.int .i64 m])) (hg : W.grownBy w11 mv.ownBlock) (hat : mv.ownBlock = some g ∨ w.heap.size ≤ g) :
    RF c (w11.setCell ⟨c.qb, 22, none⟩ (.slice (some ⟨g, 0, none⟩) (ms.length + 1) cap)) st I (ms ++ [m]) (.slice (some ⟨g, 0, none⟩) (ms.length + 1) cap) ev en ∧ Fr c w mv ev (w11.setCell ⟨c.qb, 22, none⟩ (.slice (some ⟨g, 0, none⟩) (ms.length + 1) cap)) (.slice (some ⟨g, 0, none⟩) (ms.length + 1) cap) ev := by
  obtain ⟨cs, xs, hq, hz, h23, h22, h21, hv, hu⟩ := h.query
  obtain ⟨cur, ht1, ht2⟩ := h.tokens
  have hlow := h.low
  have hne := h.ne
  have evlo : ∀ k, some k = mv.ownBlock → c.lo ≤ k := fun k e => (hv.lt k e.symm).1
  have b11 : ∀ k, k < w.heap.size → some k ≠ mv.ownBlock → w11.heap[k]? = w.heap[k]? := fun k hk hn => (hg.block k (Nat.lt_of_lt_of_le hk hW.size) hn).trans (hW.block k hk)
  have hq11 := (b11 c.qb (lt_of_heap hq) (fun e => by have := evlo _ e; omega)).trans hq
  have hsz : w.heap.size ≤ w11.heap.size := Nat.le_trans hW.size hg.size
  have hmv : w11.ownsRow c.lo 374 10 ev en xs := by
    refine ⟨hu.1, hu.2.imp id ?_⟩
    rintro ⟨g', cap', cur', hv', hg', hh, r⟩
    refine ⟨g', cap', cur', hv', hg', (b11 g' (lt_of_heap hh) (fun e => ?_)).trans hh, r⟩
    rcases hv.2 with ⟨rfl, _⟩ | ⟨g2, cap2, cur2, rfl, _, hh2, _⟩
    · cases e
    · have e2 : g' = g2 := by simpa [Value.ownBlock] using e
      subst e2
      rw [hh] at hh2
      simp only [Option.some.injEq, Obj.cells.injEq] at hh2
      exact absurd hh2.2.1 (by decide)
  refine ⟨⟨h.len, h.last, h.kinds, h.nx, h.inx, h.cor, h.stop, h.dp, h.ne, h.low, ?_, ?_, ⟨h.few.1, by rw [List.length_append]; exact hen⟩, ⟨cs.setIfInBounds 22 (.slice (some ⟨g, 0, none⟩) (ms.length + 1) cap), xs, ?_, by simp [hz], ?_, ?_, ?_, ?_, row_off hmv hlow.2.1⟩, ⟨cur, ?_, ht2⟩⟩, ?_⟩
  · show c.lo ≤ (w11.setCell ⟨c.qb, 22, none⟩ _).heap.size
    have := h.top
    simp
    omega
  · exact (Below.heap_setCell _ _ _ _ (by show c.rb ≠ c.qb; exact hne.1)).trans ((b11 c.rb (lt_of_heap h.reader) (fun e => by have := evlo _ e; omega)).trans h.reader)
  · exact heap_set hq11 _
  · rw [Array.getElem?_setIfInBounds_ne (by decide)]; exact h23
  · rw [Array.getElem?_setIfInBounds_self_of_lt (by omega)]
  · rw [Array.getElem?_setIfInBounds_ne (by decide)]; exact h21
  · have e : intCells (ms ++ [m]) = intCells ms ++ [.int .i64 m] := by simp [intCells]
    rw [e, List.length_append]
    exact row_off ho hlow.2.1
  · exact (Below.heap_setCell _ _ _ _ (by show c.tb ≠ c.qb; exact hne.2.2)).trans ((b11 c.tb (lt_of_heap ht1) (fun e => by have := evlo _ e; omega)).trans ht1)
  · refine ⟨hg.os.trans hW.os, hg.tape.trans hW.tape, hg.output.trans hW.output, by simp; omega, fun k hk h1 h2 h3 h4 => ?_, fun b e => ?_, fun _ e => Or.inl e⟩
    · exact (Below.heap_setCell _ _ _ _ (by show k ≠ c.qb; exact h2)).trans (b11 k hk h3)
    · have e2 : g = b := by simpa [Value.ownBlock] using e
      subst e2
      exact hat

theorem infoIn : (Tryz.prog.info? 3).map (fun i => (i.zero, i.size, i.bytes)) = some (some (.int .i64 0), 1, 8) := by kernel_rfl
/-- function K reads an expr by fn, at depth d. -/
def RSp (c : Cf) (K d : Nat) (fn : St → Rx) : Prop := ∀ (w : World) (st : St) (I : Nat) (ms : List Nat) (mv ev : Value) (en : Nat), RF c w st I ms mv ev en → st.dp = d → Calls Tryz.prog K #[.pointer (some ⟨c.rb, 0, none⟩)] w fun e w' => ExF c w I ms mv ev en st.nx (fn st) e w'
theorem RF.deeper {c : Cf} {w : World} {st : St} {I : Nat} {ms : List Nat} {mv ev : Value} {en : Nat} (h : RF c w st I ms mv ev en) (d : Nat) (hd : d ≤ 17) : RF c (w.setCell ⟨c.rb, 2, none⟩ (.int .i64 d)) { st with dp := d } I ms mv ev en :=
  h.turn (st' := { st with dp := d }) ((Kp.refl _ _).setCell _ _) ((heap_set h.reader _).trans rfl) (Nat.le_refl _) h.nx h.inx h.cor h.stop hd
end Go.Proofs.YtfkeddkfegaeiaaGreatDoor
