/-
  Part 36.
-/
import Derived.Test.YtfkeddkfegaeiaaGreatDoorMRfC
namespace Go.Proofs.YtfkeddkfegaeiaaGreatDoor
open Go.RowKit

structure Cf where
  rb : Nat
  qb : Nat
  tb : Nat
  cap : Nat
  lo : Nat
  ts : List Tk
def erN : Option (Nat × Nat) → Int
  | none => 0
  | some (_, k) => numN k
def erP : Option (Nat × Nat) → Int
  | none => 0
  | some (p, _) => p
theorem numN_ne {k : Nat} : numN k ≠ 0 := by
  unfold numN
  split
  · decide
  · split
    · decide
    · split
      · decide
      · split <;> decide
def intCells (ms : List Nat) : List Value := ms.map fun (m : Nat) => Value.int .i64 (m : Int)

/-- the reader stands as the plain reading does; behind an error it may stand anywhere. -/
structure RF (c : Cf) (w : World) (st : St) (I : Nat) (ms : List Nat) (mv ev : Value) (en : Nat) : Prop where
  len : c.ts.length ≤ 1001
  last : Lst c.ts
  kinds : ∀ i, (tkAt c.ts i).kind ≤ 3
  nx : st.nx < c.ts.length
  inx : I < c.ts.length
  cor : st.er = none → I = st.nx
  stop : st.er ≠ none → st.nx + 1 = c.ts.length
  dp : st.dp ≤ 17
  ne : c.rb ≠ c.qb ∧ c.tb ≠ c.rb ∧ c.tb ≠ c.qb
  low : c.rb < c.lo ∧ c.qb < c.lo ∧ c.tb < c.lo
  top : c.lo ≤ w.heap.size
  reader : w.heap[c.rb]? = some (.cells #[.pointer (some ⟨c.qb, 0, none⟩), .int .i64 I, .int .i64 st.dp, .int .i64 (erN st.er), .int .i64 (erP st.er)] 188 (0, 0))
  few : en ≤ I ∧ ms.length ≤ I
  query : ∃ cs xs, w.heap[c.qb]? = some (.cells cs 108 (0, 0)) ∧ cs.size = 24 ∧ cs[23]? = some (.slice (some ⟨c.tb, 0, none⟩) c.ts.length c.cap) ∧ cs[22]? = some mv ∧ cs[21]? = some ev ∧
    w.ownsRow c.lo 3 1 mv ms.length (intCells ms) ∧ w.ownsRow c.lo 374 10 ev en xs
  tokens : ∃ cur : Array Value, w.heap[c.tb]? = some (.cells cur 100 (0, 0)) ∧ cur.toList.take (c.ts.length * 3) = rtCells c.ts

theorem rtCells_at (ts : List Tk) (i : Nat) (hi : i < ts.length) : (rtCells ts)[i * 3]? = some (.int .i64 (rkT (tkAt ts i))) ∧ (rtCells ts)[i * 3 + 1]? = some (.int .i64 (tkAt ts i).place) ∧ (rtCells ts)[i * 3 + 2]? = some (.string (tkAt ts i).text) := by
  induction ts generalizing i with
  | nil => simp at hi
  | cons t r ih =>
    have e : rtCells (t :: r) = [Value.int .i64 (rkT t), .int .i64 t.place, .string t.text] ++ rtCells r := rfl
    match i with
    | 0 => rw [e]; exact ⟨rfl, rfl, rfl⟩
    | i + 1 =>
      have := ih i (by simpa using hi)
      have e3 : (i + 1) * 3 = i * 3 + 3 := by omega
      have et : tkAt (t :: r) (i + 1) = tkAt r i := rfl
      rw [et, e, e3]
      refine ⟨?_, ?_, ?_⟩
      · rw [List.getElem?_append_right (by simp)]; simpa using this.1
      · rw [List.getElem?_append_right (by simp)]; simpa [show i * 3 + 3 + 1 - 3 = i * 3 + 1 from by omega] using this.2.1
      · rw [List.getElem?_append_right (by simp)]; simpa [show i * 3 + 3 + 2 - 3 = i * 3 + 2 from by omega] using this.2.2

/-- the facts on cells that a walk wants. -/
theorem RF.facts {c : Cf} {w : World} {st : St} {I : Nat} {ms : List Nat} {mv ev : Value} {en : Nat} (h : RF c w st I ms mv ev en) :
    (w.cell? ⟨c.rb, 0, none⟩ = some (.pointer (some ⟨c.qb, 0, none⟩)) ∧ w.cell? ⟨c.rb, 1, none⟩ = some (.int .i64 I) ∧ w.cell? ⟨c.rb, 2, none⟩ = some (.int .i64 st.dp) ∧ w.cell? ⟨c.rb, 3, none⟩ = some (.int .i64 (erN st.er)) ∧ w.cell? ⟨c.rb, 4, none⟩ = some (.int .i64 (erP st.er))) ∧ (∀ o, w.frozen? ⟨c.rb, o, none⟩ = false) ∧
    w.cell? ⟨c.qb, 23, none⟩ = some (.slice (some ⟨c.tb, 0, none⟩) c.ts.length c.cap) ∧
    (w.cell? ⟨c.tb, I * 3, none⟩ = some (.int .i64 (rkT (tkAt c.ts I))) ∧ w.cell? ⟨c.tb, I * 3 + 1, none⟩ = some (.int .i64 (tkAt c.ts I).place) ∧ w.cell? ⟨c.tb, I * 3 + 2, none⟩ = some (.string (tkAt c.ts I).text)) ∧
    c.rb < w.heap.size ∧ c.qb < w.heap.size ∧ c.tb < w.heap.size := by
  obtain ⟨hr, hf⟩ := blk h.reader
  obtain ⟨cs, xs, hq, hz, h23, _⟩ := h.query
  obtain ⟨cur, ht1, ht2⟩ := h.tokens
  obtain ⟨hq', _⟩ := blk hq
  obtain ⟨ht', _⟩ := blk ht1
  have hk := rtCells_at c.ts I h.inx
  rw [← ht2] at hk
  have up : ∀ j u, (cur.toList.take (c.ts.length * 3))[j]? = some u → cur[j]? = some u := fun j u hu => by
    rw [List.getElem?_take] at hu
    split at hu
    · simpa using hu
    · cases hu
  refine ⟨⟨by rw [hr]; rfl, by rw [hr]; rfl, by rw [hr]; rfl, by rw [hr]; rfl, by rw [hr]; rfl⟩, hf, by rw [hq']; exact h23, ⟨?_, ?_, ?_⟩, lt_of_heap h.reader, lt_of_heap hq, lt_of_heap ht1⟩
  · rw [ht']; exact up _ _ hk.1
  · rw [ht']; exact up _ _ hk.2.1
  · rw [ht']; exact up _ _ hk.2.2
/-- a turn of the reader's own block. -/
theorem RF.turn {c : Cf} {w w' : World} {st st' : St} {I I' : Nat} {ms : List Nat} {mv ev : Value} {en : Nat} (h : RF c w st I ms mv ev en) (hk : Kp c.rb w w') (hr : w'.heap[c.rb]? = some (.cells #[.pointer (some ⟨c.qb, 0, none⟩), .int .i64 I', .int .i64 st'.dp, .int .i64 (erN st'.er), .int .i64 (erP st'.er)] 188 (0, 0)))
    (hII : I ≤ I') (hn : st'.nx < c.ts.length) (hi : I' < c.ts.length) (hc : st'.er = none → I' = st'.nx) (hs : st'.er ≠ none → st'.nx + 1 = c.ts.length) (hd : st'.dp ≤ 17) : RF c w' st' I' ms mv ev en := by
  obtain ⟨cs, xs, hq, hz, h23, h22, h21, hv, hu⟩ := h.query
  obtain ⟨cur, ht1, ht2⟩ := h.tokens
  refine ⟨h.len, h.last, h.kinds, hn, hi, hc, hs, hd, h.ne, h.low, Nat.le_trans h.top hk.size, hr, ⟨Nat.le_trans h.few.1 hII, Nat.le_trans h.few.2 hII⟩, ⟨cs, xs, (hk.block _ (lt_of_heap hq) (Ne.symm h.ne.1)).trans hq, hz, h23, h22, h21, ownsRow_kp hv hk h.low.1, ownsRow_kp hu hk h.low.1⟩, ⟨cur, (hk.block _ (lt_of_heap ht1) h.ne.2.1).trans ht1, ht2⟩⟩
theorem RF.keep {c : Cf} {w w' : World} {st : St} {I : Nat} {ms : List Nat} {mv ev : Value} {en : Nat} (h : RF c w st I ms mv ev en) (hb : Below w.heap.size w w') : RF c w' st I ms mv ev en :=
  h.turn (Kp.ofBelow hb) ((hb.block _ (lt_of_heap h.reader)).trans h.reader) (Nat.le_refl _) h.nx h.inx h.cor h.stop h.dp

set_option maxRecDepth 100000 in
set_option maxHeartbeats 1000000 in
theorem rstep_any (c : Cf) (w : World) (st : St) (I : Nat) (ms : List Nat) (mv ev : Value) (en : Nat) (h : RF c w st I ms mv ev en) (he : st.er = none) (hk : (tkAt c.ts st.nx).kind ≠ 0) :
    Calls Tryz.prog 110 #[.pointer (some ⟨c.rb, 0, none⟩)] w fun e w' => e = .returned (rtok (tkAt c.ts st.nx)) ∧ RF c w' (adv st) (I + 1) ms mv ev en ∧ Kp c.rb w w' := by
  have hI := h.cor he
  subst hI
  obtain ⟨⟨r0, r1, r2, r3, r4⟩, hfr, q23, ⟨t0, t1, t2⟩, zr, zq, zt⟩ := h.facts
  have hl := h.last st.nx h.nx hk
  have hlen := h.len
  have hd : decide ((st.nx : Int) + 1 < (c.ts.length : Int)) = true := by simp; omega
  have HH := hide h
  clear h
  generalize hT : tkAt c.ts st.nx = t at *
  clear hT
  go_enter Tryz.func110, Tryz.ntmps110
  go_wp2
  go_region
  go_wp2
  go_region
  go_wp2
  refine bodyPost_ret (v := .agg #[.int .i64 (rkT t), .int .i64 t.place, .string t.text]) (by simp [results, Tryz.results110, go_sem]) rfl ⟨rfl, ?_, ?_⟩
  · refine (unhide HH).turn (st' := adv st) (I' := st.nx + 1) ?_ ?_ (Nat.le_succ _) hl hl (fun _ => rfl) (fun e => (e he).elim) (unhide HH).dp
    · exact ((((Kp.refl _ _).setCell _ _).alloc _).alloc _).drew.drew
    · exact heap_prev (heap_prev ((heap_set (unhide HH).reader _).trans rfl))
  · exact ((((Kp.refl _ _).setCell _ _).alloc _).alloc _).drew.drew

set_option maxRecDepth 100000 in
set_option maxHeartbeats 1000000 in
theorem rfail_new (c : Cf) (w : World) (st : St) (I k : Nat) (ms : List Nat) (mv ev : Value) (en : Nat) (h : RF c w st I ms mv ev en) (he : st.er = none) :
    Calls Tryz.prog 70 #[.pointer (some ⟨c.rb, 0, none⟩), .int .i64 (numN k)] w fun e w' => e = .returned (.tuple #[]) ∧ RF c w' (failP c.ts st k) I ms mv ev en ∧ Kp c.rb w w' := by
  have hI := h.cor he
  subst hI
  obtain ⟨⟨r0, r1, r2, r3, r4⟩, hfr, q23, ⟨t0, t1, t2⟩, zr, zq, zt⟩ := h.facts
  rw [he] at r3 r4
  have r3' : w.cell? ⟨c.rb, 3, none⟩ = some (.int .i64 0) := r3
  have hlen := h.len
  have hnx := h.nx
  have HH := hide h
  clear h r3
  generalize hT : tkAt c.ts st.nx = t at *
  have HT := hide hT
  generalize hN : numN k = nk at *
  have HN := hide hN
  clear hT hN
  go_enter Tryz.func70, Tryz.ntmps70
  go_wp2
  go_region
  go_wp2
  go_end0
  have hf : failP c.ts st k = ⟨c.ts.length - 1, st.dp, some (t.place, k)⟩ := by unfold failP; rw [he, unhide HT]
  refine ⟨rfl, ?_, ?_⟩
  · rw [hf]
    refine (unhide HH).turn (st' := ⟨c.ts.length - 1, st.dp, some (t.place, k)⟩) (I' := st.nx) ?_ ?_ (Nat.le_refl _) (by show c.ts.length - 1 < _; omega) hnx (fun e => by cases e) (fun _ => by show c.ts.length - 1 + 1 = _; omega) (unhide HH).dp
    · exact (((Kp.refl _ _).setCell _ _).setCell _ _).drew
    · refine (heap_set ((heap_set (unhide HH).reader _).trans rfl) _).trans ?_
      show _ = some (Obj.cells #[_, _, _, .int .i64 (numN k), _] _ _)
      rw [unhide HN]
      rfl
  · exact (((Kp.refl _ _).setCell _ _).setCell _ _).drew
theorem rfail_any (c : Cf) (w : World) (st : St) (I k : Nat) (ms : List Nat) (mv ev : Value) (en : Nat) (h : RF c w st I ms mv ev en) :
    Calls Tryz.prog 70 #[.pointer (some ⟨c.rb, 0, none⟩), .int .i64 (numN k)] w fun e w' => e = .returned (.tuple #[]) ∧ RF c w' (failP c.ts st k) I ms mv ev en ∧ Kp c.rb w w' := by
  cases he : st.er with
  | none => exact rfail_new c w st I k ms mv ev en h he
  | some x =>
    obtain ⟨⟨r0, r1, r2, r3, r4⟩, hfr, q23, ⟨t0, t1, t2⟩, zr, zq, zt⟩ := h.facts
    have hne : (erN st.er == 0) = false := by
      rw [he]
      obtain ⟨p, k'⟩ := x
      simp only [erN, beq_eq_false_iff_ne, ne_eq]
      exact numN_ne
    have hf : failP c.ts st k = st := by
      have hs := h.stop (by rw [he]; simp)
      obtain ⟨nx, dp, er⟩ := st
      simp only at he hs
      subst he
      unfold failP
      simp only [St.mk.injEq, and_true]
      omega
    have HH := hide h
    rw [hf]
    clear h hf he
    generalize erN st.er = eN at *
    go_enter Tryz.func70, Tryz.ntmps70
    go_wp2
    go_end0
    exact ⟨rfl, unhide HH, Kp.refl _ _⟩

theorem RF.atEnd {c : Cf} {w : World} {st : St} {I : Nat} {ms : List Nat} {mv ev : Value} {en : Nat} (h : RF c w st I ms mv ev en) (he : st.er ≠ none) : (tkAt c.ts st.nx).kind = 0 := by
  have h1 := h.stop he
  by_cases hk : (tkAt c.ts st.nx).kind = 0
  · exact hk
  · have := h.last st.nx h.nx hk
    omega
theorem erN_ne {er : Option (Nat × Nat)} (he : er ≠ none) : erN er ≠ 0 := by
  match er, he with
  | none, he => exact (he rfl).elim
  | some (p, k), _ => exact numN_ne
theorem rk_word {t : Tk} (h3 : t.kind ≤ 3) : (((rkT t : Nat) : Int) == 1 || ((rkT t : Nat) : Int) == 4) = (t.kind == 1) := by
  unfold rkT
  by_cases h1 : t.kind = 1
  · rw [if_pos h1, h1]
    split <;> rfl
  · rw [if_neg h1]
    have hb : (t.kind == 1) = false := by simpa using h1
    rw [hb]
    by_cases h0 : t.kind = 0
    · rw [if_pos h0]; rfl
    · rw [if_neg h0]
      simp only [Bool.or_eq_false_iff, beq_eq_false_iff_ne, ne_eq]
      omega
theorem bytes_eqB (a b : ByteArray) : (a.toList == b.toList) = Lib.containsS [b] a := by
  rw [Bool.eq_iff_iff, Lib.containsS_iff, beq_iff_eq, List.mem_singleton]
  constructor
  · intro e
    rw [ByteArray.toList_eq, ByteArray.toList_eq] at e
    exact Go.WideShapes.bytes_inj e
  · rintro rfl
    rfl

set_option maxRecDepth 100000 in
set_option maxHeartbeats 1000000 in
theorem rsee_any (c : Cf) (w : World) (st : St) (I : Nat) (x : ByteArray) (ms : List Nat) (mv ev : Value) (en : Nat) (h : RF c w st I ms mv ev en) :
    Calls Tryz.prog 109 #[.pointer (some ⟨c.rb, 0, none⟩), .string x] w fun e w' => e = .returned (.bool (hitP c.ts st [x])) ∧ Below w.heap.size w w' := by
  obtain ⟨⟨r0, r1, r2, r3, r4⟩, hfr, q23, ⟨t0, t1, t2⟩, zr, zq, zt⟩ := h.facts
  have hlen := h.len
  have hinx := h.inx
  by_cases he : st.er = none
  · have hI := h.cor he
    subst hI
    rw [he] at r3
    have r3' : w.cell? ⟨c.rb, 3, none⟩ = some (.int .i64 0) := r3
    have hk := rk_word (h.kinds st.nx)
    have hP : hitP c.ts st [x] = ((tkAt c.ts st.nx).kind == 1 && ((tkAt c.ts st.nx).text.toList == x.toList)) := by unfold hitP; rw [bytes_eqB]
    rw [← hk] at hP
    have HP := hide hP
    clear h r3 hk hP
    generalize tkAt c.ts st.nx = t at *
    cases ht : (t.text.toList == x.toList) with
    | false =>
      rw [ht, Bool.and_false] at HP
      go_enter Tryz.func109, Tryz.ntmps109
      go_wp2
      go_region
      go_wp2
      go_ret
      rw [unhide HP]
      exact ⟨rfl, ((Below.refl _ _).alloc (Nat.le_refl _) _).drew⟩
    | true =>
      rw [ht, Bool.and_true] at HP
      cases hk1 : (((rkT t : Nat) : Int) == 1) with
      | true =>
        rw [hk1, Bool.true_or] at HP
        go_enter Tryz.func109, Tryz.ntmps109
        go_wp2
        go_region
        go_wp2
        go_ret
        rw [unhide HP]
        exact ⟨rfl, ((Below.refl _ _).alloc (Nat.le_refl _) _).drew⟩
      | false =>
        rw [hk1, Bool.false_or] at HP
        cases hk4 : (((rkT t : Nat) : Int) == 4) <;>
          (rw [hk4] at HP
           go_enter Tryz.func109, Tryz.ntmps109
           go_wp2
           go_region
           go_wp2
           go_ret
           rw [unhide HP]
           exact ⟨rfl, ((Below.refl _ _).alloc (Nat.le_refl _) _).drew⟩)
  · have hne : (erN st.er == 0) = false := by simp only [beq_eq_false_iff_ne, ne_eq]; exact erN_ne he
    have HP : Hid (hitP c.ts st [x] = false) := by unfold Hid hitP; rw [h.atEnd he]; rfl
    clear h he
    generalize erN st.er = eN at *
    generalize tkAt c.ts I = t at *
    go_enter Tryz.func109, Tryz.ntmps109
    go_wp2
    go_region
    go_wp2
    go_ret
    rw [unhide HP]
    exact ⟨rfl, ((Below.refl _ _).alloc (Nat.le_refl _) _).drew⟩
end Go.Proofs.YtfkeddkfegaeiaaGreatDoor
namespace Go.Proofs.YtfkeddkfegaeiaaGreatDoor
open Go.RowKit

theorem numN_syntax : numN eSyntax = 4 := rfl
theorem numN_many : numN eMany = 9 := rfl
theorem rfail_syntax (c : Cf) (w : World) (st : St) (I : Nat) (ms : List Nat) (mv ev : Value) (en : Nat) (h : RF c w st I ms mv ev en) :
    Calls Tryz.prog 70 #[.pointer (some ⟨c.rb, 0, none⟩), .int .i64 4] w fun e w' => e = .returned (.tuple #[]) ∧ RF c w' (failP c.ts st eSyntax) I ms mv ev en ∧ Kp c.rb w w' := by
  have := rfail_any c w st I eSyntax ms mv ev en h
  rwa [numN_syntax] at this
theorem rfail_many (c : Cf) (w : World) (st : St) (I : Nat) (ms : List Nat) (mv ev : Value) (en : Nat) (h : RF c w st I ms mv ev en) :
    Calls Tryz.prog 70 #[.pointer (some ⟨c.rb, 0, none⟩), .int .i64 9] w fun e w' => e = .returned (.tuple #[]) ∧ RF c w' (failP c.ts st eMany) I ms mv ev en ∧ Kp c.rb w w' := by
  have := rfail_any c w st I eMany ms mv ev en h
  rwa [numN_many] at this
/-- behind a call that may have moved the other reader. -/
def AftF (c : Cf) (w : World) (I : Nat) (st' : St) (ms : List Nat) (mv ev : Value) (en : Nat) (w' : World) : Prop := (∃ I', I ≤ I' ∧ RF c w' st' I' ms mv ev en) ∧ Kp c.rb w w'
theorem RF.okHit {c : Cf} {w : World} {st : St} {I : Nat} {ms : List Nat} {mv ev : Value} {en : Nat} (h : RF c w st I ms mv ev en) {xs : List ByteArray} (hh : hitP c.ts st xs = true) : st.er = none := by
  cases he : st.er with
  | none => rfl
  | some x => exact (hit_kind hh (h.atEnd (by rw [he]; simp))).elim

set_option maxRecDepth 100000 in
set_option maxHeartbeats 1000000 in
theorem rmay_any (c : Cf) (w : World) (st : St) (I : Nat) (x : ByteArray) (ms : List Nat) (mv ev : Value) (en : Nat) (h : RF c w st I ms mv ev en) :
    Calls Tryz.prog 67 #[.pointer (some ⟨c.rb, 0, none⟩), .string x] w fun e w' => e = .returned (.bool (hitP c.ts st [x])) ∧ AftF c w I (takeS c.ts st [x]) ms mv ev en w' := by
  have HH := hide h
  clear h
  unfold takeS
  cases hh : hitP c.ts st [x] with
  | false =>
    have HX := hide hh
    clear hh
    go_enter Tryz.func67, Tryz.ntmps67
    go_wp2_with fail
    refine (rsee_any c _ st I x ms mv ev en (by exact unhide HH)).mono ?_
    rintro e w1 ⟨rfl, hb⟩
    rw [unhide HX]
    go_wp2
    go_ret
    exact ⟨rfl, ⟨I, Nat.le_refl _, (unhide HH).keep hb⟩, Kp.ofBelow hb⟩
  | true =>
    have HX := hide hh
    have HE := hide ((unhide HH).okHit hh)
    have HK := hide (hit_kind hh)
    clear hh
    go_enter Tryz.func67, Tryz.ntmps67
    go_wp2_with fail
    refine (rsee_any c _ st I x ms mv ev en (by exact unhide HH)).mono ?_
    rintro e w1 ⟨rfl, hb⟩
    rw [unhide HX]
    have HB := hide hb
    clear hb
    go_wp2_with fail
    refine (rstep_any c _ st I ms mv ev en (by exact (unhide HH).keep (unhide HB)) (unhide HE) (unhide HK)).mono ?_
    rintro e w2 ⟨rfl, hr, hk⟩
    have HR := hide hr
    have HKK := hide ((Kp.ofBelow (unhide HB)).trans hk)
    clear hr hk
    go_wp2
    go_ret
    exact ⟨rfl, ⟨I + 1, Nat.le_succ _, unhide HR⟩, unhide HKK⟩

set_option maxRecDepth 100000 in
set_option maxHeartbeats 1000000 in
theorem rmust_any (c : Cf) (w : World) (st : St) (I : Nat) (x : ByteArray) (ms : List Nat) (mv ev : Value) (en : Nat) (h : RF c w st I ms mv ev en) :
    Calls Tryz.prog 112 #[.pointer (some ⟨c.rb, 0, none⟩), .string x] w fun e w' => e = .returned (.tuple #[]) ∧ AftF c w I (wantP c.ts st [x]) ms mv ev en w' := by
  have HH := hide h
  clear h
  unfold wantP
  cases hh : hitP c.ts st [x] with
  | true =>
    have HX := hide hh
    clear hh
    go_enter Tryz.func112, Tryz.ntmps112
    go_wp2_with fail
    refine (rmay_any c _ st I x ms mv ev en (by exact unhide HH)).mono ?_
    rintro e w1 ⟨rfl, ha⟩
    have HA := hide ha
    clear ha
    unfold takeS at HA
    rw [unhide HX] at HA ⊢
    go_wp2
    go_end0
    exact ⟨rfl, unhide HA⟩
  | false =>
    have HX := hide hh
    clear hh
    go_enter Tryz.func112, Tryz.ntmps112
    go_wp2_with fail
    refine (rmay_any c _ st I x ms mv ev en (by exact unhide HH)).mono ?_
    rintro e w1 ⟨rfl, ⟨I1, hI1, hr⟩, hk⟩
    unfold takeS at hr
    have HR := hide hr
    have HK := hide hk
    clear hr hk
    rw [unhide HX] at HR ⊢
    go_wp2_with fail
    refine (rfail_syntax c _ st I1 ms mv ev en (by exact unhide HR)).mono ?_
    rintro e w2 ⟨rfl, hr2, hk2⟩
    have HR2 := hide hr2
    have HK2 := hide ((unhide HK).trans hk2)
    clear hr2 hk2
    go_wp2
    go_end0
    exact ⟨rfl, ⟨I1, hI1, unhide HR2⟩, unhide HK2⟩

theorem row_other {w w' : World} {base b : Nat} {e T : TypeId} {size : Nat} {v : Value} {n : Nat} {xs : List Value} {cs : Array Value} (h : w.ownsRow base e size v n xs) (hk : Kp b w w') (hb : w.heap[b]? = some (.cells cs T (0, 0))) (hT : T ≠ e) : w'.ownsRow base e size v n xs := by
  refine ⟨h.1, h.2.imp id ?_⟩
  rintro ⟨g, cap, cur, hv, hg, hh, r⟩
  refine ⟨g, cap, cur, hv, hg, (hk.block g (lt_of_heap hh) (fun e' => ?_)).trans hh, r⟩
  subst e'
  rw [hb] at hh
  simp only [Option.some.injEq, Obj.cells.injEq] at hh
  exact hT hh.2.1
/-- a turn of a call's own box. -/
theorem RF.box {c : Cf} {w w' : World} {st : St} {I b : Nat} {ms : List Nat} {mv ev : Value} {en : Nat} {cs : Array Value} {T : TypeId} (h : RF c w st I ms mv ev en) (hk : Kp b w w') (hb : w.heap[b]? = some (.cells cs T (0, 0))) (h1 : b ≠ c.rb) (h2 : b ≠ c.qb) (h3 : b ≠ c.tb) (hT : T ≠ 3 ∧ T ≠ 374) : RF c w' st I ms mv ev en := by
  obtain ⟨cs', xs, hq, hz, h23, h22, h21, hv, hu⟩ := h.query
  obtain ⟨cur, ht1, ht2⟩ := h.tokens
  exact ⟨h.len, h.last, h.kinds, h.nx, h.inx, h.cor, h.stop, h.dp, h.ne, h.low, Nat.le_trans h.top hk.size, (hk.block _ (lt_of_heap h.reader) (Ne.symm h1)).trans h.reader, h.few, ⟨cs', xs, (hk.block _ (lt_of_heap hq) (Ne.symm h2)).trans hq, hz, h23, h22, h21, row_other hv hk hb hT.1, row_other hu hk hb hT.2⟩, ⟨cur, (hk.block _ (lt_of_heap ht1) (Ne.symm h3)).trans ht1, ht2⟩⟩

theorem rk_is {t : Tk} {k : Nat} (hk : k = 2 ∨ k = 3) : (((rkT t : Nat) : Int) != (k : Int)) = !(t.kind == k) := by
  unfold rkT
  by_cases h1 : t.kind = 1
  · rw [if_pos h1, h1]
    rcases hk with rfl | rfl <;> split <;> rfl
  · rw [if_neg h1]
    by_cases h0 : t.kind = 0
    · rw [if_pos h0, h0]
      rcases hk with rfl | rfl <;> rfl
    · rw [if_neg h0]
      by_cases e : t.kind = k
      · rw [e]; simp
      · have : (t.kind == k) = false := by simpa using e
        rw [this]
        simp only [bne_iff_ne, ne_eq, Bool.not_false]
        omega

set_option maxRecDepth 100000 in
set_option maxHeartbeats 1000000 in
theorem rkind_any (c : Cf) (w : World) (st : St) (I k : Nat) (ms : List Nat) (mv ev : Value) (en : Nat) (h : RF c w st I ms mv ev en) (hk : k = 2 ∨ k = 3) :
    Calls Tryz.prog 111 #[.pointer (some ⟨c.rb, 0, none⟩), .int .i64 k] w fun e w' => (∃ a b : Int, e = .returned (.agg #[.int .i64 a, .int .i64 b, .string (wkT c.ts st k).text])) ∧ AftF c w I (wkP c.ts st k) ms mv ev en w' := by
  obtain ⟨⟨r0, r1, r2, r3, r4⟩, hfr, q23, ⟨t0, t1, t2⟩, zr, zq, zt⟩ := h.facts
  have hlen := h.len
  have hinx := h.inx
  have HH := hide h
  by_cases he : st.er = none
  · have hI := h.cor he
    subst hI
    rw [he] at r3
    have r3' : w.cell? ⟨c.rb, 3, none⟩ = some (.int .i64 0) := r3
    have hkk := rk_is (t := tkAt c.ts st.nx) hk
    have HE := hide he
    clear h r3 he
    unfold wkP wkT
    by_cases hq : (tkAt c.ts st.nx).kind = k
    · rw [if_pos hq, if_pos hq]
      have hkq : (((rkT (tkAt c.ts st.nx) : Nat) : Int) != (k : Int)) = false := by rw [hkk, hq]; simp
      have HK0 : Hid ((tkAt c.ts st.nx).kind ≠ 0) := by unfold Hid; rw [hq]; rcases hk with rfl | rfl <;> decide
      clear hkk hq
      generalize hT : tkAt c.ts st.nx = t at *
      have HT := hide hT
      clear hT
      go_enter Tryz.func111, Tryz.ntmps111
      go_wp2
      go_region
      go_wp2_with fail
      refine (rstep_any c _ st st.nx ms mv ev en (by exact ((unhide HH).keep (((Below.refl _ _).alloc (Nat.le_refl _) _).drew))) (unhide HE) (by rw [unhide HT]; exact unhide HK0)).mono ?_
      rintro e w2 ⟨rfl, hr, hkp⟩
      rw [unhide HT]
      have K2 := hide ((hkp.block w.heap.size (by simp) (by have := zr; omega)).trans (heap_last rfl))
      obtain ⟨k2, f2⟩ := blk (unhide K2)
      have z2 := lt_of_heap (unhide K2)
      have HR := hide hr
      have HKP := hide (((Kp.refl c.rb w).alloc _).drew.trans hkp)
      clear hr hkp
      go_wp2
      refine bodyPost_ret (v := .agg #[.int .i64 (rkT t), .int .i64 t.place, .string t.text]) (by simp [results, Tryz.results111, go_sem, k2]) rfl ⟨⟨_, _, rfl⟩, ⟨_, by first | exact Nat.le_refl _ | exact Nat.le_succ _, (unhide HR).box ?_ (unhide K2) (by have := zr; omega) (by have := zq; omega) (by have := zt; omega) ⟨by decide, by decide⟩⟩, ?_⟩
      · exact (((Kp.refl _ _).setCell _ _).setCell _ _).setCell _ _
      · exact (((unhide HKP).setNew (Nat.le_refl _) _).setNew (Nat.le_refl _) _).setNew (Nat.le_refl _) _
    · rw [if_neg hq, if_neg hq]
      have hkq : (((rkT (tkAt c.ts st.nx) : Nat) : Int) != (k : Int)) = true := by rw [hkk]; simpa using hq
      clear hkk hq
      generalize hT : tkAt c.ts st.nx = t at *
      have HT := hide hT
      clear hT
      go_enter Tryz.func111, Tryz.ntmps111
      go_wp2
      go_region
      go_wp2_with fail
      refine (rfail_syntax c _ st st.nx ms mv ev en (by exact ((unhide HH).keep (((Below.refl _ _).alloc (Nat.le_refl _) _).drew)))).mono ?_
      rintro e w2 ⟨rfl, hr, hkp⟩
      have K2 := hide ((hkp.block w.heap.size (by simp) (by have := zr; omega)).trans (heap_last rfl))
      obtain ⟨k2, f2⟩ := blk (unhide K2)
      have z2 := lt_of_heap (unhide K2)
      have HR := hide hr
      have HKP := hide (((Kp.refl c.rb w).alloc _).drew.trans hkp)
      clear hr hkp
      go_wp2
      refine bodyPost_ret (v := .agg #[.int .i64 0, .int .i64 0, .string ⟨#[]⟩]) (by simp [results, Tryz.results111, go_sem, k2]) rfl ⟨⟨_, _, rfl⟩, ⟨_, by first | exact Nat.le_refl _ | exact Nat.le_succ _, (unhide HR).box ?_ (unhide K2) (by have := zr; omega) (by have := zq; omega) (by have := zt; omega) ⟨by decide, by decide⟩⟩, ?_⟩
      · exact (((Kp.refl _ _).setCell _ _).setCell _ _).setCell _ _
      · exact (((unhide HKP).setNew (Nat.le_refl _) _).setNew (Nat.le_refl _) _).setNew (Nat.le_refl _) _
  · have hne : (erN st.er != 0) = true := by simp only [bne_iff_ne, ne_eq]; exact erN_ne he
    have HP : Hid (¬ (tkAt c.ts st.nx).kind = k) := by unfold Hid; rw [h.atEnd he]; rcases hk with rfl | rfl <;> decide
    unfold wkP wkT
    rw [if_neg (unhide HP), if_neg (unhide HP)]
    clear h he
    generalize erN st.er = eN at *
    generalize tkAt c.ts I = t at *
    go_enter Tryz.func111, Tryz.ntmps111
    go_wp2
    go_region
    go_wp2_with fail
    refine (rfail_syntax c _ st I ms mv ev en (by exact ((unhide HH).keep (((Below.refl _ _).alloc (Nat.le_refl _) _).drew)))).mono ?_
    rintro e w2 ⟨rfl, hr, hkp⟩
    have K2 := hide ((hkp.block w.heap.size (by simp) (by have := zr; omega)).trans (heap_last rfl))
    obtain ⟨k2, f2⟩ := blk (unhide K2)
    have z2 := lt_of_heap (unhide K2)
    have HR := hide hr
    have HKP := hide (((Kp.refl c.rb w).alloc _).drew.trans hkp)
    clear hr hkp
    go_wp2
    refine bodyPost_ret (v := .agg #[.int .i64 0, .int .i64 0, .string ⟨#[]⟩]) (by simp [results, Tryz.results111, go_sem, k2]) rfl ⟨⟨_, _, rfl⟩, ⟨_, by first | exact Nat.le_refl _ | exact Nat.le_succ _, (unhide HR).box ?_ (unhide K2) (by have := zr; omega) (by have := zq; omega) (by have := zt; omega) ⟨by decide, by decide⟩⟩, ?_⟩
    · exact (((Kp.refl _ _).setCell _ _).setCell _ _).setCell _ _
    · exact (((unhide HKP).setNew (Nat.le_refl _) _).setNew (Nat.le_refl _) _).setNew (Nat.le_refl _) _
end Go.Proofs.YtfkeddkfegaeiaaGreatDoor
