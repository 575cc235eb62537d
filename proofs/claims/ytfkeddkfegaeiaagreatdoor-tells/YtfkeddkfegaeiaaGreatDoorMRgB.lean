/-
  Part 47.
-/
import Derived.Test.YtfkeddkfegaeiaaGreatDoorMRgA
import Derived.Deep.DeepCutAuto
import Derived.Laws.StructEq
namespace Go.Proofs.YtfkeddkfegaeiaaGreatDoor
open Go.RowKit

def spB (a b : ByteArray) (call minus : Bool) : Bool := !(b.toList == [41]) && !(b.toList == [44]) && !(b.toList == [46]) && !(a.toList == [40]) && !(a.toList == [46]) && (!(b.toList == [40]) || !call) && !minus
theorem good_at : ∀ (p : List TT) {a b : TT} {r : List TT}, Good (p ++ a :: b :: r) → isCallB a.1 = true → b.1.data.toList = [40]
  | [], _, _, _, h, hc => h.1 hc
  | [_], a, b, r, h, hc => good_at [] (a := a) (b := b) (r := r) h.2.2 hc
  | _ :: y :: p, a, b, r, h, hc => good_at (y :: p) (a := a) (b := b) (r := r) h.2.2 hc
theorem calls_eq (a : ByteArray) : Lib.containsS xCalls a = isCallB a := by
  rw [Bool.eq_iff_iff, Lib.containsS_iff]
  unfold isCallB
  rw [List.any_eq_true]
  constructor
  · intro h
    exact ⟨a, h, by simp⟩
  · rintro ⟨y, hy, e⟩
    rw [beq_iff_eq] at e
    rw [← Go.WideShapes.bytes_inj e]
    exact hy
theorem tightB_eq (a : ByteArray) : tightB a = (a.toList == [40] || a.toList == [46] || Lib.containsS xCalls a) := by
  have e : Lib.containsS xCalls a = (a.toList == [114, 111, 119, 95, 110, 117, 109, 98, 101, 114] || a.toList == [99, 111, 117, 110, 116] || a.toList == [115, 117, 109] || a.toList == [109, 105, 110] || a.toList == [109, 97, 120]) := by
    rw [calls_eq]
    unfold isCallB xCalls
    simp only [List.any_cons, List.any_nil, Bool.or_false, ByteArray.toList_eq]
    rw [Bool.eq_iff_iff]
    simp only [Bool.or_eq_true, beq_iff_eq]
    constructor
    · rintro (h | h | h | h | h) <;> simp [← h]
    · rintro ((((h | h) | h) | h) | h) <;> simp [h]
  rw [e]
  unfold tightB
  simp only [Bool.or_assoc]
theorem lay_flag (o : Out) (p : List TT) (a : TT) : (layAll o (p ++ [a])).2 = (a.2 || tightB a.1) := by
  rw [layAll_append]
  rfl
theorem lay_pos (o : Out) (p : List TT) (a : TT) (h : 0 < a.1.size) : 0 < (layAll o (p ++ [a])).1.length := by
  rw [layAll_append]
  show 0 < ((layAll o p).1 ++ _ ++ a.1.data.toList).length
  rw [List.length_append]
  have : a.1.data.toList.length = a.1.size := by rw [Array.length_toList]; rfl
  omega
theorem minus_at (p : List TT) (a : TT) (r : List TT) : (idx 0 (p ++ a :: r)).any (fun k => k == p.length) = a.2 := by
  rw [Bool.eq_iff_iff, List.any_eq_true]
  constructor
  · rintro ⟨k, hk, e⟩
    rw [beq_iff_eq] at e
    subst e
    obtain ⟨j, t, h1, h2, h3⟩ := (idx_mem _ _ _).1 hk
    have e : j = p.length := by omega
    subst e
    rw [List.getElem?_append_right (Nat.le_refl _), Nat.sub_self] at h1
    have e2 : a = t := by simpa using h1
    rw [e2]; exact h2
  · intro h
    refine ⟨p.length, (idx_mem _ _ _).2 ⟨p.length, a, ?_, h, by omega⟩, by simp⟩
    rw [List.getElem?_append_right (Nat.le_refl _), Nat.sub_self]
    rfl
theorem gap_eq (p : List TT) (a b : TT) (r : List TT) (hg : Good (p ++ a :: b :: r)) (ha : 0 < a.1.size) : gapped (layAll ([], false) (p ++ [a])) b.1 = spB a.1 b.1 (Lib.containsS xCalls a.1) ((idx 0 (p ++ a :: b :: r)).any (fun k => k == p.length)) := by
  rw [minus_at]
  unfold gapped spB
  rw [lay_flag, decide_eq_true (lay_pos _ p a ha), tightB_eq]
  unfold tightA
  have hc := good_at p hg
  rw [← calls_eq] at hc
  cases hk : Lib.containsS xCalls a.1 with
  | false =>
    cases a.2 <;> cases (a.1.toList == [40]) <;> cases (a.1.toList == [46]) <;> cases (b.1.toList == [41]) <;> cases (b.1.toList == [44]) <;> cases (b.1.toList == [46]) <;> cases (b.1.toList == [40]) <;> rfl
  | true =>
    have hb : (b.1.toList == [40]) = true := by rw [ByteArray.toList_eq, hc hk]; rfl
    rw [hb]
    cases a.2 <;> cases (a.1.toList == [40]) <;> cases (a.1.toList == [46]) <;> cases (b.1.toList == [41]) <;> cases (b.1.toList == [44]) <;> cases (b.1.toList == [46]) <;> rfl
/-- the texts of the tokens, wherever the reader stands. -/
theorem RX.textAt {c : Cf} {w : World} {st : St} {x : Xs} (h : RX c w st x) (i : Nat) (hi : i < c.ts.length) : w.cell? ⟨c.tb, i * 3 + 2, none⟩ = some (.string (tkAt c.ts i).text) := by
  obtain ⟨cur, ht1, ht2⟩ := RF.tokens h
  have hk := (rtCells_at c.ts i hi).2.2
  rw [← ht2, List.getElem?_take] at hk
  rw [(blk ht1).1]
  split at hk
  · simpa using hk
  · cases hk
theorem RX.minusAt {c : Cf} {w : World} {st : St} {x : Xs} (h : RX c w st x) : ∃ ad cp, w.cell? ⟨c.qb, 22, none⟩ = some (.slice ad x.ms.length cp) ∧ (0 < x.ms.length → ∃ g, ad = some ⟨g, 0, none⟩ ∧ g < w.heap.size ∧ ∀ k, k < x.ms.length → w.cell? ⟨g, k, none⟩ = some (.int .i64 ((x.ms.getD k 0 : Nat) : Int))) := by
  obtain ⟨cs, xs, hq, hz, h23, h22, h21, hv, hu⟩ := RF.query h
  obtain ⟨ad, cp, hm⟩ := row_slice hv
  have e22 : w.cell? ⟨c.qb, 22, none⟩ = some (.slice ad x.ms.length cp) := by rw [(blk hq).1, h22, hm]
  refine ⟨ad, cp, e22, fun hp => ?_⟩
  rcases hv.2 with ⟨_, h0⟩ | ⟨g, cap, cur, hv', _, hh, _, _, _, ht⟩
  · omega
  · rw [hm] at hv'
    injection hv' with hv1 hv2 hv3
    refine ⟨g, hv1, lt_of_heap hh, fun k hk => ?_⟩
    rw [(blk hh).1]
    have hg : (intCells x.ms)[k]? = some (.int .i64 ((x.ms.getD k 0 : Nat) : Int)) := by
      unfold intCells
      rw [List.getElem?_map, List.getElem?_eq_getElem hk]
      simp [List.getD_eq_getElem?_getD, List.getElem?_eq_getElem hk]
    rw [← ht, List.getElem?_take] at hg
    split at hg
    · simpa using hg
    · cases hg
theorem tok_text {s : ByteArray} {i : Nat} {ts l : List Tk} (h : Scd s i ts l) {m pre suf : List TT} {b : TT} (hm : m.map (·.1) = l.map (·.text)) (e : m = pre ++ b :: suf) : (tkAt ts pre.length).text = b.1 ∧ 0 < b.1.size := by
  have e1 : (m.map (·.1))[pre.length]? = some b.1 := by rw [e]; simp
  rw [hm, List.getElem?_map] at e1
  obtain ⟨t, ht, hb⟩ := Option.map_eq_some_iff.1 e1
  have hmem : t ∈ l := List.mem_of_getElem? ht
  have hlt : pre.length < l.length := by
    rcases Nat.lt_or_ge pre.length l.length with q | q
    · exact q
    · rw [List.getElem?_eq_none q] at ht; cases ht
  have et : tkAt ts pre.length = t := by
    rw [h.eq]
    unfold tkAt
    rw [List.getD_eq_getElem?_getD, List.getElem?_append_left hlt, ht]
    rfl
  rw [et]
  exact ⟨hb, by rw [← hb]; exact (h.all t hmem).2.1⟩
theorem any_snoc (ms : List Nat) (k j : Nat) (hk : k < ms.length) : (ms.take (k + 1)).any (fun x => x == j) = ((ms.take k).any (fun x => x == j) || ms.getD k 0 == j) := by
  rw [List.take_add_one, List.any_append, List.getElem?_eq_getElem hk]
  simp [List.getD_eq_getElem?_getD, List.getElem?_eq_getElem hk]
end Go.Proofs.YtfkeddkfegaeiaaGreatDoor
namespace Go.Proofs.YtfkeddkfegaeiaaGreatDoor
open Go.RowKit

def RTell (w : World) (R : Except (Nat × Nat) (List UInt8)) (e : Ending) (w' : World) : Prop := Below w.heap.size w w' ∧ match R with
  | .error (p, k) => e = .returned (.tuple #[.string ⟨#[]⟩, .agg #[.int .i64 (numN k), .int .i64 p]])
  | .ok o => ∃ O : ByteArray, O.data.toList = o ∧ e = .returned (.tuple #[.string O, .agg #[.int .i64 0, .int .i64 0]])

set_option maxRecDepth 100000 in
set_option maxHeartbeats 1000000 in
theorem rtell_long (s : ByteArray) (w : World) (hs : 1000 < s.size) :
    Calls Tryz.prog 14 #[.string s] w fun e w' => e = .returned (.tuple #[.string ⟨#[]⟩, .agg #[.int .i64 1, .int .i64 (-1)]]) ∧ Below w.heap.size w w' := by
  go_enter Tryz.func14, Tryz.ntmps14
  go_wp2_with fail
  refine (parse_long s _ hs).mono ?_
  rintro e w1 ⟨rfl, hb⟩
  have KB := hide ((hb.block w.heap.size (by simp)).trans (heap_last rfl))
  obtain ⟨kb, fb⟩ := blk (unhide KB)
  have zb := lt_of_heap (unhide KB)
  have HB : Hid (Below w.heap.size w w1) := ((Below.refl _ _).alloc (Nat.le_refl _) _).trans (hb.mono (by simp))
  have hbs := (unhide HB).size
  clear hb
  go_wp2
  go_region
  go_wp2
  refine bodyPost_ret (v := .tuple #[.string ⟨#[]⟩, .agg #[.int .i64 1, .int .i64 (-1)]]) (by simp [results, Tryz.results14, go_sem, kb, zb]) rfl ⟨rfl, ?_⟩
  repeat (first | exact unhide HB | apply Below.drew | refine Below.setCell ?_ (by exact Nat.le_refl _) _ | refine Below.alloc ?_ (by first | exact hbs | (simp; omega)) _)

set_option maxRecDepth 100000 in
set_option maxHeartbeats 1000000 in
theorem rtell_err (s : ByteArray) (w : World) (hs : s.size ≤ 1000) (p k : Nat) (h : readP s = .error (p, k)) :
    Calls Tryz.prog 14 #[.string s] w fun e w' => RTell w (.error (p, k)) e w' := by
  have hnk : (numN k != 0) = true := by simp only [bne_iff_ne, ne_eq]; exact numN_ne
  have HP := hide (parse_any s (w.alloc (.cells #[.int .i64 0, .int .i64 0] 27)) hs)
  rw [h] at HP
  go_enter Tryz.func14, Tryz.ntmps14
  go_wp2_with fail
  refine (unhide HP).mono ?_
  rintro e w1 ⟨hb, rfl⟩
  have KB := hide ((hb.block w.heap.size (by simp)).trans (heap_last rfl))
  obtain ⟨kb, fb⟩ := blk (unhide KB)
  have zb := lt_of_heap (unhide KB)
  have HB : Hid (Below w.heap.size w w1) := ((Below.refl _ _).alloc (Nat.le_refl _) _).trans (hb.mono (by simp))
  have hbs := (unhide HB).size
  clear hb HP
  generalize hNK : numN k = nk at *
  have HNK := hide hNK
  clear hNK
  go_wp2
  go_region
  go_wp2
  refine bodyPost_ret (v := .tuple #[.string ⟨#[]⟩, .agg #[.int .i64 nk, .int .i64 p]]) (by simp [results, Tryz.results14, go_sem, kb, zb]) rfl ⟨?_, by show Ending.returned _ = Ending.returned (.tuple #[.string ⟨#[]⟩, .agg #[.int .i64 (numN k), .int .i64 p]]); rw [unhide HNK]⟩
  repeat (first | exact unhide HB | apply Below.drew | refine Below.setCell ?_ (by exact Nat.le_refl _) _ | refine Below.alloc ?_ (by first | exact hbs | (simp; omega)) _)

set_option maxRecDepth 100000 in
set_option maxHeartbeats 4000000 in
theorem rtell_ok (s : ByteArray) (w : World) (hs : s.size ≤ 1000) (x : QueryX) (h : readP s = .ok x) :
    Calls Tryz.prog 14 #[.string s] w fun e w' => RTell w (.ok (tellQ x)) e w' := by
  have HP := hide (parse_any s (w.alloc (.cells #[.int .i64 0, .int .i64 0] 27)) hs)
  rw [h] at HP
  go_enter Tryz.func14, Tryz.ntmps14
  go_wp2_with fail
  refine (unhide HP).mono ?_
  rintro e w1 ⟨hb, c, st, y, rfl, hrx, hms, hsc⟩
  have KB := hide ((hb.block w.heap.size (by simp)).trans (heap_last rfl))
  have HB : Hid (Below w.heap.size w w1) := ((Below.refl _ _).alloc (Nat.le_refl _) _).trans (hb.mono (by simp))
  have hbs := (unhide HB).size
  obtain ⟨l, hl⟩ := scanP_shape hsc
  have hrd : readT c.ts = .ok x := by have := h; unfold readP at this; rw [hsc] at this; exact this
  obtain ⟨_, _, _, _, hmt, hgood⟩ := readT_ok hl hrd
  obtain ⟨m, HMQ⟩ : ∃ m, Hid (m = tkQuery x) := ⟨_, rfl⟩
  rw [← unhide HMQ] at hms hmt hgood
  have hml : m.length = l.length := by have := congrArg List.length hmt; simpa using this
  have hll := hl.len
  have hcost : cost m ≤ 3000 := by rw [cost_of m l hmt]; have := hl.sum; omega
  have HTX : Hid (∀ (pre : List TT) (b : TT) (suf : List TT), m = pre ++ b :: suf → (tkAt c.ts pre.length).text = b.1 ∧ 0 < b.1.size) := fun pre b suf e => tok_text hl hmt e
  have HGOOD := hide hgood
  have hmc : c.ts.length = m.length + 1 := by omega
  have HMC := hide hmc
  have hm1 : m.length ≤ 1000 := by omega
  have HRX := hide hrx
  have HMS := hide hms
  have zz : w.heap.size < w1.heap.size := lt_of_heap (unhide KB)
  obtain ⟨⟨r0, r1, r2, r3, r4⟩, hfr, q23, ⟨t0, t1, t2⟩, zr, zq, zt⟩ := RF.facts hrx
  obtain ⟨ad, cp, q22, hmin⟩ := hrx.minusAt
  have HMIN := hide hmin
  have HTXC := hide hrx.textAt
  rw [hmc] at q23
  have HQ : Hid (tellQ x = (layAll ([], false) m).1) := by unfold Hid tellQ; rw [unhide HMQ]
  clear hb hrx hms hsc hl hrd hmt hgood hml hll HP h r0 r1 r2 r3 r4 hfr t0 t1 t2 zr hmin hmc hs
  go_wp2_with fail
  go_loopg [6, 7] m.length (fun f o i wr => ∃ (pre suf : List TT) (O : ByteArray), m = pre ++ suf ∧ f = suf.length ∧ i = .int .i64 pre.length ∧ o = .string O ∧ O.data.toList = (layAll ([], false) pre).1 ∧ Below w1.heap.size w1 wr)
  case atStart => exact ⟨[], m, ⟨#[]⟩, rfl, rfl, rfl, rfl, rfl, (Below.refl _ _).alloc (Nat.le_refl _) _⟩
  case round =>
    obtain ⟨pre, suf, O, hsplit, rfl, rfl, rfl, hO, hbl⟩ := hrel
    have hrx := (unhide HRX).keep hbl
    have HRW := hide hrx
    have HBL := hide hbl
    have HO := hide hO
    have HSP := hide hsplit
    have hos : O.size ≤ 3000 := by
      have h1 := layAll_len ([], false) pre
      have h2 : cost m = cost pre + cost suf := by rw [hsplit, cost_append]
      have h3 : O.size = O.data.toList.length := by rw [Array.length_toList]; rfl
      rw [h3, hO]
      have h4 : (([] : List UInt8), false).1.length = 0 := rfl
      omega
    have hpl : pre.length + suf.length = m.length := by rw [hsplit, List.length_append]
    clear q23 q22 zq zt
    obtain ⟨⟨r0, r1, r2, r3, r4⟩, hfr, q23, ⟨t0, t1, t2⟩, zr, zq, zt⟩ := RF.facts hrx
    rw [unhide HMC] at q23
    have HTW := hide hrx.textAt
    have zwr : w1.heap.size ≤ wr.heap.size := hbl.size
    clear hrx hbl hO hsplit r0 r1 r2 r3 r4 hfr t0 t1 t2 zr
    cases suf with
    | nil =>
      have hd : decide (pre.length < m.length) = false := by simp at hpl ⊢; omega
      have KW := hide (((unhide HBL).block w.heap.size zz).trans (unhide KB))
      obtain ⟨kb, fb⟩ := blk (unhide KW)
      have zb := lt_of_heap (unhide KW)
      have HBW : Hid (Below w.heap.size w wr) := (unhide HB).trans ((unhide HBL).mono hbs)
      go_wp2
      refine bodyPost_ret (v := .tuple #[.string O, .agg #[.int .i64 0, .int .i64 0]]) (by simp [results, Tryz.results14, go_sem, kb]) rfl ⟨?_, O, ?_, rfl⟩
      · repeat (first | exact unhide HBW | apply Below.drew | refine Below.setCell ?_ (by exact Nat.le_refl _) _)
      · rw [unhide HQ, unhide HO, unhide HSP, List.append_nil]
    | cons b suf =>
      rw [List.length_cons] at hpl
      have hd : decide (pre.length < m.length) = true := by simp; omega
      have hB := (unhide HTX) pre b suf (unhide HSP)
      have tB : wr.cell? ⟨c.tb, pre.length * 3 + 2, none⟩ = some (.string b.1) := by rw [← hB.1]; exact (unhide HTW) pre.length (by rw [unhide HMC]; omega)
      have hbz : b.1.size ≤ 3000 := by
        have h2 : cost m = cost pre + (b.1.size + 1 + cost suf) := by rw [unhide HSP, cost_append, cost_cons]
        omega
      have hbp := hB.2
      have zt2 : c.tb < wr.heap.size := zt
      clear hB
      go_upto_if 35 with (fail)
      go_cut [8, 9, 10, 11, 12, 13] (fun s8 _ _ _ _ _ W => s8 = .bool (gapped (layAll ([], false) pre) b.1) ∧ Below w1.heap.size w1 W)
      case first =>
        rcases List.eq_nil_or_concat pre with hpre | ⟨p, a, hpre⟩
        · have hp0 : decide (0 < pre.length) = false := by rw [hpre]; rfl
          have HGP : Hid (gapped (layAll ([], false) pre) b.1 = false) := by unfold Hid; rw [hpre]; rfl
          clear hpre
          rw [hp0]
          go_wp2_with fail
          go_meet
          case rel => exact ⟨by rw [unhide HGP], unhide HBL⟩
        · rw [List.concat_eq_append] at hpre
          have hp0 : decide (0 < pre.length) = true := by rw [hpre]; simp
          have hpn : pre.length = p.length + 1 := by rw [hpre]; simp
          have hspl : m = p ++ a :: b :: suf := by rw [unhide HSP, hpre]; simp
          have hA := (unhide HTX) p a (b :: suf) hspl
          have tA : wr.cell? ⟨c.tb, (pre.length - 1) * 3 + 2, none⟩ = some (.string a.1) := by
            rw [show pre.length - 1 = p.length from by omega, ← hA.1]
            exact (unhide HTW) p.length (by rw [unhide HMC]; omega)
          have HGP : Hid (gapped (layAll ([], false) pre) b.1 = spB a.1 b.1 (Lib.containsS xCalls a.1) (y.ms.any (fun k => k == pre.length - 1))) := by
            unfold Hid
            rw [unhide HMS, hspl, hpre, gap_eq p a b suf (by rw [← hspl]; exact unhide HGOOD) hA.2]
            congr 2
            simp
          have hq1 : 1 ≤ pre.length := by omega
          have hq2 : pre.length ≤ 1000 := by omega
          clear hpre hspl hA hpn
          generalize gapped (layAll ([], false) pre) b.1 = gp at *
          generalize pre.length = n at *
          rw [hp0]
          go_wp2_with fail
          refine (in_any _ _ _ xCalls (by exact texts_calls (by first | rfl | simp)) (by decide)).mono ?_
          rintro e w4 ⟨rfl, rfl⟩
          generalize hcb : Lib.containsS xCalls a.1 = cb at *
          clear hcb
          have HBL5 : Hid (Below w1.heap.size w1 (wr.alloc (.cells #[.string ⟨#[114, 111, 119, 95, 110, 117, 109, 98, 101, 114]⟩, .string ⟨#[99, 111, 117, 110, 116]⟩, .string ⟨#[115, 117, 109]⟩, .string ⟨#[109, 105, 110]⟩, .string ⟨#[109, 97, 120]⟩] 9))) := (unhide HBL).alloc zwr _
          obtain ⟨ad5, cp5, q22, hmin⟩ := ((unhide HRX).keep (unhide HBL5)).minusAt
          have HMIN5 := hide hmin
          have zq5 : c.qb < (wr.alloc (.cells #[.string ⟨#[114, 111, 119, 95, 110, 117, 109, 98, 101, 114]⟩, .string ⟨#[99, 111, 117, 110, 116]⟩, .string ⟨#[115, 117, 109]⟩, .string ⟨#[109, 105, 110]⟩, .string ⟨#[109, 97, 120]⟩] 9)).heap.size := by simp; omega
          clear hmin tA tB q23 zt zt2 zq HRW HTW
          have hmsl : y.ms.length ≤ 1001 := by have := (RF.few (unhide HRX)).2; have := RF.inx (unhide HRX); have := RF.len (unhide HRX); omega
          generalize wr.alloc (.cells #[.string ⟨#[114, 111, 119, 95, 110, 117, 109, 98, 101, 114]⟩, .string ⟨#[99, 111, 117, 110, 116]⟩, .string ⟨#[115, 117, 109]⟩, .string ⟨#[109, 105, 110]⟩, .string ⟨#[109, 97, 120]⟩] 9) = w5 at *
          go_wp2_with fail
          go_loopg [12, 13] y.ms.length (fun f mi k W => ∃ j, j + f = y.ms.length ∧ k = .int .i64 (j : Nat) ∧ mi = .bool ((y.ms.take j).any (fun z => z == n - 1)) ∧ W = w5)
          case atStart => exact ⟨0, by simp, rfl, rfl, rfl⟩
          case round =>
            obtain ⟨j, hj, rfl, rfl, rfl⟩ := hrel
            by_cases hlt : j < y.ms.length
            · have hd5 : decide (j < y.ms.length) = true := by simpa using hlt
              obtain ⟨g5, had, hg5, hcell⟩ := (unhide HMIN5) (by omega)
              subst had
              have kc := hcell j hlt
              have hsn := any_snoc y.ms j (n - 1) hlt
              have heq : (((y.ms.getD j 0 : Nat) : Int) == (n : Int) - 1) = (y.ms.getD j 0 == n - 1) := by
                rw [Bool.eq_iff_iff, beq_iff_eq, beq_iff_eq]
                omega
              clear hcell
              generalize y.ms.getD j 0 = mj at *
              generalize hmb : (List.take j y.ms).any (fun z => z == n - 1) = mb at *
              have HSN := hide hsn
              clear hsn
              cases mb with
              | true =>
                go_wp2
                go_roundg (y.ms.length - (j + 1))
                case measure => omega
                case rel => exact ⟨j + 1, by omega, by go_num, by rw [unhide HSN]; rfl, rfl⟩
              | false =>
                go_wp2
                go_roundg (y.ms.length - (j + 1))
                case measure => omega
                case rel => exact ⟨j + 1, by omega, by go_num, by rw [unhide HSN, Bool.false_or, ← heq], rfl⟩
            · have hje : j = y.ms.length := by omega
              have hd5 : decide (j < y.ms.length) = false := by simpa using hlt
              have hall : (List.take j y.ms).any (fun z => z == n - 1) = y.ms.any (fun z => z == n - 1) := by rw [hje, List.take_length]
              rw [hall]
              generalize y.ms.any (fun z => z == n - 1) = mb at *
              clear hje hall hlt hj
              cases h0 : (b.1.toList == [41]) with
              | true =>
                go_wp2_with fail
                go_meet
                case rel => exact ⟨congrArg Value.bool (by rw [unhide HGP]; unfold spB; rw [h0]; rfl), unhide HBL5⟩
              | false =>
                cases h1 : (b.1.toList == [44]) with
                | true =>
                  go_wp2_with fail
                  go_meet
                  case rel => exact ⟨congrArg Value.bool (by rw [unhide HGP]; unfold spB; rw [h0, h1]; rfl), unhide HBL5⟩
                | false =>
                  cases h2 : (b.1.toList == [46]) with
                  | true =>
                    go_wp2_with fail
                    go_meet
                    case rel => exact ⟨congrArg Value.bool (by rw [unhide HGP]; unfold spB; rw [h0, h1, h2]; rfl), unhide HBL5⟩
                  | false =>
                    cases h3 : (a.1.toList == [40]) with
                    | true =>
                      go_wp2_with fail
                      go_meet
                      case rel => exact ⟨congrArg Value.bool (by rw [unhide HGP]; unfold spB; rw [h0, h1, h2, h3]; rfl), unhide HBL5⟩
                    | false =>
                      cases h4 : (a.1.toList == [46]) with
                      | true =>
                        go_wp2_with fail
                        go_meet
                        case rel => exact ⟨congrArg Value.bool (by rw [unhide HGP]; unfold spB; rw [h0, h1, h2, h3, h4]; rfl), unhide HBL5⟩
                      | false =>
                        cases h5 : (b.1.toList == [40]) with
                        | false =>
                          cases mb with
                          | true =>
                            go_wp2_with fail
                            go_meet
                            case rel => exact ⟨congrArg Value.bool (by rw [unhide HGP]; unfold spB; rw [h0, h1, h2, h3, h4, h5]; rfl), unhide HBL5⟩
                          | false =>
                            go_wp2_with fail
                            go_meet
                            case rel => exact ⟨congrArg Value.bool (by rw [unhide HGP]; unfold spB; rw [h0, h1, h2, h3, h4, h5]; rfl), unhide HBL5⟩
                        | true =>
                          cases cb with
                          | true =>
                            go_wp2_with fail
                            go_meet
                            case rel => exact ⟨congrArg Value.bool (by rw [unhide HGP]; unfold spB; rw [h0, h1, h2, h3, h4, h5]; rfl), unhide HBL5⟩
                          | false =>
                            cases mb with
                            | true =>
                              go_wp2_with fail
                              go_meet
                              case rel => exact ⟨congrArg Value.bool (by rw [unhide HGP]; unfold spB; rw [h0, h1, h2, h3, h4, h5]; rfl), unhide HBL5⟩
                            | false =>
                              go_wp2_with fail
                              go_meet
                              case rel => exact ⟨congrArg Value.bool (by rw [unhide HGP]; unfold spB; rw [h0, h1, h2, h3, h4, h5]; rfl), unhide HBL5⟩
      case rest =>
        obtain ⟨rfl, hbc⟩ := hcut
        have HBC := hide hbc
        have hrx := (unhide HRX).keep hbc
        have tB2 := hrx.textAt pre.length (by rw [unhide HMC]; omega)
        obtain ⟨⟨r0, r1, r2, r3, r4⟩, hfr, q23c, ⟨t0, t1, t2⟩, zrc, zqc, ztc⟩ := RF.facts hrx
        rw [unhide HMC] at q23c
        rw [((unhide HTX) pre b suf (unhide HSP)).1] at tB2
        clear hrx hbc r0 r1 r2 r3 r4 hfr t0 t1 t2 zrc tB q23 zt zt2 zq HRW HTW HBL zwr
        have HNX : Hid (layAll ([], false) (pre ++ [b]) = lay (layAll ([], false) pre) b) := layAll_append _ _ _
        cases hgp : gapped (layAll ([], false) pre) b.1 with
        | false =>
          have HGP := hide hgp
          clear hgp
          go_wp2
          go_roundg suf.length
          case measure => simp
          case rel =>
            refine ⟨pre ++ [b], suf, O ++ b.1, by rw [unhide HSP]; simp, rfl, by rw [List.length_append]; go_num, rfl, ?_, unhide HBC⟩
            rw [unhide HNX]
            unfold lay
            rw [unhide HGP]
            show _ = (layAll ([], false) pre).1 ++ [] ++ b.1.data.toList
            rw [← unhide HO, List.append_nil, ByteArray.data_append, Array.toList_append]
        | true =>
          have HGP := hide hgp
          clear hgp
          go_wp2
          go_roundg suf.length
          case measure => simp
          case rel =>
            refine ⟨pre ++ [b], suf, O ++ ⟨#[32]⟩ ++ b.1, by rw [unhide HSP]; simp, rfl, by rw [List.length_append]; go_num, rfl, ?_, unhide HBC⟩
            rw [unhide HNX]
            unfold lay
            rw [unhide HGP]
            show _ = (layAll ([], false) pre).1 ++ [32] ++ b.1.data.toList
            rw [← unhide HO, ByteArray.data_append, Array.toList_append, ByteArray.data_append, Array.toList_append]
theorem rtell_any (s : ByteArray) (w : World) (hs : s.size ≤ 1000) : Calls Tryz.prog 14 #[.string s] w fun e w' => RTell w (tellP s) e w' := by
  unfold tellP
  cases h : readP s with
  | error pk =>
    obtain ⟨p, k⟩ := pk
    exact rtell_err s w hs p k h
  | ok x => exact rtell_ok s w hs x h
end Go.Proofs.YtfkeddkfegaeiaaGreatDoor
namespace Go.Proofs.YtfkeddkfegaeiaaGreatDoor
open Go.RowKit

set_option maxRecDepth 100000 in
set_option maxHeartbeats 1000000 in
theorem wrong_nil (w : World) :
    Calls Tryz.prog 15 #[.nilIface] w fun e w' => e = .returned (.agg #[.int .i64 0, .int .i64 0]) ∧ Below w.heap.size w w' := by
  go_enter Tryz.func15, Tryz.ntmps15
  go_wp2
  refine bodyPost_ret (v := .agg #[.int .i64 0, .int .i64 0]) (by simp [results, Tryz.results15, go_sem]) rfl ⟨rfl, ?_⟩
  exact (Below.refl _ _).alloc (Nat.le_refl _) _

theorem guard_wrong : Tryz.prog.eqGuardType Tryz.prog.depth 27 = false := by kernel_rfl
theorem eql_wrong (n p : Int) (w : World) : (Op.equalIn 10000 27 (.agg #[.int .i64 n, .int .i64 p]) (.agg #[.int .i64 n, .int .i64 p])).run Tryz.prog w = .ok true w := by
  have u3 := Tryz.underlying3
  have a3 := Tryz.isAgg3
  have z3 := Tryz.sizeOf3
  have hS : Tryz.prog.underlying 27 = some (.struct (Tryz.prog.fieldsOf 27)) := by kernel_rfl
  have hp : Tryz.prog.stoodInHeld 27 = false := by kernel_rfl
  rw [show (10000 : Nat) = 9999 + 1 from rfl, run_equalIn_agg w 9999 27 _ _ hS hp]
  simp only [Program.fieldsOf, Tryz.underlying27]
  go_simp

set_option maxRecDepth 100000 in
set_option maxHeartbeats 1000000 in
theorem tells_long (s : ByteArray) (a : Nat → Addr) (B : Nat) (w : World) (hE : EnvX a B w) (hs : 1000 < s.size) :
    Calls Tryz.prog 3 #[.string s] w fun e w' => e = .returned (.bool true) ∧ Below w.heap.size w w' := by
  have HE := hide hE
  have hgd := guard_wrong
  have heq := eql_wrong 1 (-1)
  clear hE
  go_enter Tryz.func3, Tryz.ntmps3
  go_wp2_with fail
  refine (tell_long s a B _ (by exact (unhide HE).env) hs).mono ?_
  rintro e w1 ⟨rfl, hb1⟩
  have HB1 := hide hb1
  clear hb1
  go_wp2_with fail
  refine (rtell_long s _ hs).mono ?_
  rintro e w2 ⟨rfl, hb2⟩
  have HB2 : Hid (Below w.heap.size w w2) := (unhide HB1).trans (hb2.mono (unhide HB1).size)
  have hz2 := (unhide HB2).size
  clear hb2 HB1
  go_wp2_with fail
  refine (wrong_long a B _ (by exact ((unhide HE).keep ((unhide HB2).mono (unhide HE).env.size)).alloc _)).mono ?_
  rintro e w3 ⟨rfl, hb3⟩
  have K3 := hide ((hb3.block w2.heap.size (by simp)).trans (heap_last rfl))
  obtain ⟨k3, f3⟩ := blk (unhide K3)
  have z3 := lt_of_heap (unhide K3)
  have HB3 : Hid (Below w.heap.size w w3) := ((unhide HB2).alloc hz2 _).trans (hb3.mono (by simp; omega))
  have hz3 := (unhide HB3).size
  clear hb3
  go_wp2
  go_ret
  refine ⟨rfl, ?_⟩
  repeat (first | exact unhide HB3 | apply Below.drew | refine Below.alloc ?_ (by first | exact hz3 | (simp; omega)) _)

set_option maxRecDepth 100000 in
set_option maxHeartbeats 1000000 in
theorem tells_err (s : ByteArray) (a : Nat → Addr) (B : Nat) (w : World) (hE : EnvX a B w) (hs : s.size ≤ 1000) (p k : Nat) (h : tellP s = .error (p, k)) :
    Calls Tryz.prog 3 #[.string s] w fun e w' => e = .returned (.bool true) ∧ Below w.heap.size w w' := by
  have hpk := tellP_err h
  have hk5 : Five k := by unfold Five; rcases hpk.2 with h | h | h | h <;> simp [h]
  have HK5 := hide hk5
  have HE := hide hE
  have HT := hide (tell_any s a B w hE.env hs)
  rw [h] at HT
  have HR := hide (fun w => rtell_any s w hs)
  rw [h] at HR
  have hgd := guard_wrong
  have heq := eql_wrong (numN k) p
  clear hE hpk hk5
  go_enter Tryz.func3, Tryz.ntmps3
  go_wp2_with fail
  refine (unhide HT).mono ?_
  rintro e w1 ⟨hb1, b, rfl, hat⟩
  have HB1 := hide hb1
  have HAT := hide hat
  clear hb1 hat
  go_wp2_with fail
  refine ((unhide HR) _).mono ?_
  rintro e w2 ⟨hb2, rfl⟩
  have HB2 : Hid (Below w.heap.size w w2) := (unhide HB1).trans (hb2.mono (unhide HB1).size)
  have HAT2 : Hid (AtBlk w2 b p (errV a k)) := (hb2.block _ (lt_of_heap (unhide HAT))).trans (unhide HAT)
  have hz2 := (unhide HB2).size
  clear hb2 HB1
  go_wp2_with fail
  refine (wrong_at a B _ (by exact ((unhide HE).keep ((unhide HB2).mono (unhide HE).env.size)).alloc _) b p k (unhide HK5) (by exact (unhide HAT2).alloc _)).mono ?_
  rintro e w3 ⟨rfl, hb3⟩
  have K3 := hide ((hb3.block w2.heap.size (by simp)).trans (heap_last rfl))
  obtain ⟨k3, f3⟩ := blk (unhide K3)
  have z3 := lt_of_heap (unhide K3)
  have HB3 : Hid (Below w.heap.size w w3) := ((unhide HB2).alloc hz2 _).trans (hb3.mono (by simp; omega))
  have hz3 := (unhide HB3).size
  clear hb3
  generalize numN k = nk at *
  go_wp2
  go_ret
  refine ⟨rfl, ?_⟩
  repeat (first | exact unhide HB3 | apply Below.drew | refine Below.alloc ?_ (by first | exact hz3 | (simp; omega)) _)

set_option maxRecDepth 100000 in
set_option maxHeartbeats 1000000 in
theorem tells_ok (s : ByteArray) (a : Nat → Addr) (B : Nat) (w : World) (hE : EnvX a B w) (hs : s.size ≤ 1000) (o : List UInt8) (h : tellP s = .ok o) :
    Calls Tryz.prog 3 #[.string s] w fun e w' => e = .returned (.bool true) ∧ Below w.heap.size w w' := by
  have HT := hide (tell_any s a B w hE.env hs)
  rw [h] at HT
  have HR := hide (fun w => rtell_any s w hs)
  rw [h] at HR
  have hgd := guard_wrong
  have heq := eql_wrong 0 0
  clear hE
  go_enter Tryz.func3, Tryz.ntmps3
  go_wp2_with fail
  refine (unhide HT).mono ?_
  rintro e w1 ⟨hb1, rfl⟩
  have HB1 := hide hb1
  clear hb1
  go_wp2_with fail
  refine ((unhide HR) _).mono ?_
  rintro e w2 ⟨hb2, O, hO, rfl⟩
  have hOe : O = ⟨o.toArray⟩ := by
    apply Go.WideShapes.bytes_inj
    rw [hO]
  subst hOe
  clear hO
  have HB2 : Hid (Below w.heap.size w w2) := (unhide HB1).trans (hb2.mono (unhide HB1).size)
  have hz2 := (unhide HB2).size
  clear hb2 HB1
  generalize (⟨o.toArray⟩ : ByteArray) = O at *
  go_wp2_with fail
  refine (wrong_nil _).mono ?_
  rintro e w3 ⟨rfl, hb3⟩
  have K3 := hide ((hb3.block w2.heap.size (by simp)).trans (heap_last rfl))
  obtain ⟨k3, f3⟩ := blk (unhide K3)
  have z3 := lt_of_heap (unhide K3)
  have HB3 : Hid (Below w.heap.size w w3) := ((unhide HB2).alloc hz2 _).trans (hb3.mono (by simp; omega))
  have hz3 := (unhide HB3).size
  clear hb3
  go_wp2
  go_ret
  refine ⟨rfl, ?_⟩
  repeat (first | exact unhide HB3 | apply Below.drew | refine Below.alloc ?_ (by first | exact hz3 | (simp; omega)) _)
theorem tells_any (s : ByteArray) (a : Nat → Addr) (B : Nat) (w : World) (hE : EnvX a B w) :
    Calls Tryz.prog 3 #[.string s] w fun e w' => e = .returned (.bool true) ∧ Below w.heap.size w w' := by
  by_cases hs : s.size ≤ 1000
  · cases h : tellP s with
    | error pk =>
      obtain ⟨p, k⟩ := pk
      exact tells_err s a B w hE hs p k h
    | ok o => exact tells_ok s a B w hE hs o h
  · exact tells_long s a B w hE (by omega)
end Go.Proofs.YtfkeddkfegaeiaaGreatDoor
