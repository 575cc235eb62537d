/-
  Part 43.
-/
import Derived.Test.YtfkeddkfegaeiaaGreatDoorMRfR
import Derived.Deep.DeepCutAuto
namespace Go.Proofs.YtfkeddkfegaeiaaGreatDoor
open Go.RowKit

theorem want_ml {ts : List Tk} (hl : Lst ts) {st0 st : St} {pre : List TT} {s0 s s' : List Nat} {y : ByteArray} (hn : st.nx < ts.length) (M : st.er = none → Ml st0 st pre s0 s) (e : s' = s) : (wantP ts st [y]).er = none → Ml st0 (wantP ts st [y]) (pre ++ [tx y]) s0 s' := fun he => by
  rw [e]
  exact (M ((onw_want hl hn [y]).er he)).trans (ml_want he)
theorem wk_ml {ts : List Tk} (hl : Lst ts) {st0 st : St} {pre : List TT} {s0 s s' : List Nat} {k : Nat} (hk : k = 2 ∨ k = 3) (hn : st.nx < ts.length) (M : st.er = none → Ml st0 st pre s0 s) (e : s' = s) : (wkP ts st k).er = none → Ml st0 (wkP ts st k) (pre ++ [tx (wkT ts st k).text]) s0 s' := fun he => by
  rw [e]
  exact (M ((onw_wk hl hn (by rcases hk with rfl | rfl <;> decide)).er he)).trans (ml_wk he)

/-- item's three boxes: the result's, the token's, the item's. -/
structure IR (c : Cf) (w : World) (x0 : Xs) (T : ByteArray) (rk pl : Int) (W : World) (st : St) (x : Xs) (call : ByteArray) (n : Int) (pv ov : Value) (rw : Int) (asx : ByteArray) : Prop where
  rx : RX c W st x
  gx : GX c w x0 W x
  res : W.heap[w.heap.size]? = some (.cells #[.int .i64 0, .string ⟨#[]⟩, .int .i64 0, .slice none 0 0, .slice none 0 0, .int .i64 0, .string ⟨#[]⟩] 228 (0, 0))
  tok : W.heap[w.heap.size + 1]? = some (.cells #[.int .i64 rk, .int .i64 pl, .string T] 100 (0, 0))
  box : W.heap[w.heap.size + 1 + 1]? = some (.cells #[.int .i64 pl, .string call, .int .i64 n, pv, ov, .int .i64 rw, .string asx] 228 (0, 0))
  off : ∀ k, w.heap.size ≤ k → k ≤ w.heap.size + 2 → Off c x k
theorem IR.step {c : Cf} {w : World} {x0 : Xs} {T : ByteArray} {rk pl : Int} {W W' : World} {st st' : St} {x x' : Xs} {call : ByteArray} {n : Int} {pv ov : Value} {rw : Int} {asx : ByteArray} (h : IR c w x0 T rk pl W st x call n pv ov rw asx) (hr : RX c W' st' x') (hg : GX c W x W' x') : IR c w x0 T rk pl W' st' x' call n pv ov rw asx :=
  ⟨hr, h.gx.trans hg, (hg.block (lt_of_heap h.res) (h.off _ (by omega) (by omega))).trans h.res, (hg.block (lt_of_heap h.tok) (h.off _ (by omega) (by omega))).trans h.tok, (hg.block (lt_of_heap h.box) (h.off _ (by omega) (by omega))).trans h.box, fun k h1 h2 => hg.off (by have := lt_of_heap h.box; omega) (h.off k h1 h2)⟩
theorem IR.keep {c : Cf} {w : World} {x0 : Xs} {T : ByteArray} {rk pl : Int} {W W' : World} {st : St} {x : Xs} {call : ByteArray} {n : Int} {pv ov : Value} {rw : Int} {asx : ByteArray} (h : IR c w x0 T rk pl W st x call n pv ov rw asx) (hb : Below W.heap.size W W') : IR c w x0 T rk pl W' st x call n pv ov rw asx :=
  h.step (h.rx.keep hb) (GX.below (GX.refl _ _ _) hb)
theorem IR.set {c : Cf} {w : World} {x0 : Xs} {T : ByteArray} {rk pl : Int} {W : World} {st : St} {x : Xs} {call call' : ByteArray} {n n' : Int} {pv ov pv' ov' : Value} {rw rw' : Int} {asx asx' : ByteArray} {i : Nat} {u : Value} (h : IR c w x0 T rk pl W st x call n pv ov rw asx)
    (he : #[.int .i64 pl, .string call, .int .i64 n, pv, ov, .int .i64 rw, .string asx].setIfInBounds i u = #[.int .i64 pl, .string call', .int .i64 n', pv', ov', .int .i64 rw', .string asx']) : IR c w x0 T rk pl (W.setCell ⟨w.heap.size + 1 + 1, i, none⟩ u) st x call' n' pv' ov' rw' asx' := by
  have hk : Kp (w.heap.size + 1 + 1) W (W.setCell ⟨w.heap.size + 1 + 1, i, none⟩ u) := (Kp.refl _ _).setCell _ _
  refine ⟨h.rx.kpb hk (h.off _ (by omega) (by omega)), h.gx.kpNew hk (by omega), (hk.block _ (lt_of_heap h.res) (by omega)).trans h.res, (hk.block _ (lt_of_heap h.tok) (by omega)).trans h.tok, ?_, h.off⟩
  rw [heap_set h.box, he]
/-- the cells that a walk wants. -/
theorem IR.facts {c : Cf} {w : World} {x0 : Xs} {T : ByteArray} {rk pl : Int} {W : World} {st : St} {x : Xs} {call : ByteArray} {n : Int} {pv ov : Value} {rw : Int} {asx : ByteArray} (h : IR c w x0 T rk pl W st x call n pv ov rw asx) :
    ((∀ o, W.cell? ⟨w.heap.size, o, none⟩ = (#[.int .i64 0, .string ⟨#[]⟩, .int .i64 0, .slice none 0 0, .slice none 0 0, .int .i64 0, .string ⟨#[]⟩] : Array Value)[o]?) ∧ ∀ o, W.frozen? ⟨w.heap.size, o, none⟩ = false) ∧
    ((∀ o, W.cell? ⟨w.heap.size + 1, o, none⟩ = (#[.int .i64 rk, .int .i64 pl, .string T] : Array Value)[o]?) ∧ ∀ o, W.frozen? ⟨w.heap.size + 1, o, none⟩ = false) ∧
    ((∀ o, W.cell? ⟨w.heap.size + 1 + 1, o, none⟩ = (#[.int .i64 pl, .string call, .int .i64 n, pv, ov, .int .i64 rw, .string asx] : Array Value)[o]?) ∧ ∀ o, W.frozen? ⟨w.heap.size + 1 + 1, o, none⟩ = false) ∧
    w.heap.size + 1 + 1 < W.heap.size :=
  ⟨blk h.res, blk h.tok, blk h.box, lt_of_heap h.box⟩

/-- item's boxes behind a part of a window. -/
def IQ (c : Cf) (w : World) (x0 : Xs) (st0 : St) (T : ByteArray) (rk pl : Int) (W : World) (st : St) (pre : List TT) : Prop := ∃ (x1 : Xs) (call : ByteArray) (n : Int) (a1 a2 : Option Addr) (l1 c1 l2 c2 : Nat) (rw1 : Int), IR c w x0 T rk pl W st x1 call n (.slice a1 l1 c1) (.slice a2 l2 c2) rw1 ⟨#[95]⟩ ∧ (st.er = none → Ml st0 st pre x0.ms x1.ms)
theorem beh_hit {ts : List Tk} {st : St} {y : ByteArray} (hh : hitP ts st [y] = true) : behP ts st y = listP ts (exprP ts) 1000 (wantP ts (adv st) [⟨#[98, 121]⟩]) := by
  unfold behP
  rw [if_pos hh]
theorem beh_not {ts : List Tk} {st : St} {y : ByteArray} (hh : hitP ts st [y] = false) : behP ts st y = ([], st) := by
  unfold behP
  rw [hh]
  rfl
theorem onw_ls {ts : List Tk} (hl : Lst ts) {st : St} (h : st.nx < ts.length) : Onw ts st (listP ts (exprP ts) 1000 st).2 := onw_list hl (onw_exprP hl) 1000 _ h
theorem by_ml {ts : List Tk} (hw : Lw ts) {st0 st : St} {pre : List TT} {y : ByteArray} {s0 s s' : List Nat} (hn : st.nx < ts.length) (hh : hitP ts st [y] = true) (M : st.er = none → Ml st0 st pre s0 s)
    (hx : (listP ts (exprP ts) 1000 (wantP ts (adv st) [⟨#[98, 121]⟩])).2.er = none → Ml (wantP ts (adv st) [⟨#[98, 121]⟩]) (listP ts (exprP ts) 1000 (wantP ts (adv st) [⟨#[98, 121]⟩])).2 (commas ((listP ts (exprP ts) 1000 (wantP ts (adv st) [⟨#[98, 121]⟩])).1.map tkE)) s s') :
    (behP ts st y).2.er = none → Ml st0 (behP ts st y).2 (pre ++ tkBy y (behP ts st y).1) s0 s' := by
  rw [beh_hit hh]
  intro he
  have h1 := onw_adv hw.last hn (hit_kind hh)
  have h2 := onw_want hw.last h1.lt [⟨#[98, 121]⟩]
  have h3 := onw_ls hw.last h2.lt
  have h4 := lin_list hw (onw_exprP hw.last) (lin_x hw) 1000 h2.lt he
  have e2 := h3.er he
  have e1 : st.er = none := h1.er (h2.er e2)
  unfold tkBy
  rw [if_neg h4.1]
  exact ((M e1).trans (((ml_adv y).trans (ml_want e2)).trans (hx he))).cast (by simp)
theorem wk_num {ts : List Tk} (hN : NumOk ts) (st : St) : (∀ ch, ch ∈ (wkT ts st 3).text.data.toList → digitI ch.toNat = true) ∧ (wkT ts st 3).text.size ≤ 1000 := by
  unfold wkT
  split
  · rename_i hk
    exact hN _ hk
  · refine ⟨fun ch h => ?_, by decide⟩
    simp at h
theorem as_ml {ts : List Tk} (hw : Lw ts) {st0 st : St} {pre : List TT} {s0 s s' : List Nat} (h : st.nx < ts.length) (hh : hitP ts st [⟨#[97, 115]⟩] = true) (M : st.er = none → Ml st0 st pre s0 s) (e : s' = s) : (wkP ts (adv st) 2).er = none → Ml st0 (wkP ts (adv st) 2) (pre ++ tkAs (wkT ts (adv st) 2).text) s0 s' := fun he => by
  have h1 := onw_adv hw.last h (hit_kind hh)
  have hk := wk_hit he
  have ht := hw.txt _ h1.lt (by rw [hk]; decide)
  have hn : ((wkT ts (adv st) 2).text.toList == []) = false := by
    unfold wkT
    rw [if_pos hk]
    have := toList_size (tkAt ts (adv st).nx).text
    cases hq : (tkAt ts (adv st).nx).text.toList with
    | nil => rw [hq] at this; simp at this; omega
    | cons a r => rfl
  unfold tkAs
  rw [hn, e]
  have e1 : st.er = none := h1.er ((onw_wk hw.last h1.lt (by decide)).er he)
  exact (M e1).trans ((ml_adv ⟨#[97, 115]⟩).trans (ml_wk he))
theorem rows_ml {ts : List Tk} (hw : Lw ts) {st0 st : St} {pre : List TT} {s0 s s' : List Nat} (h : st.nx < ts.length) (hh : hitP ts st [⟨#[114, 111, 119, 115]⟩] = true) (M : st.er = none → Ml st0 st pre s0 s) (e : s' = s) : (wantP ts (wkP ts (adv st) 3) [⟨#[112, 114, 101, 99, 101, 100, 105, 110, 103]⟩]).er = none → Ml st0 (wantP ts (wkP ts (adv st) 3) [⟨#[112, 114, 101, 99, 101, 100, 105, 110, 103]⟩]) (pre ++ tkRows (some (wkT ts (adv st) 3))) s0 s' := fun he => by
  have h1 := onw_adv hw.last h (hit_kind hh)
  have h2 := onw_wk hw.last h1.lt (k := 3) (by decide)
  have h3 := onw_want hw.last h2.lt [⟨#[112, 114, 101, 99, 101, 100, 105, 110, 103]⟩]
  have e2 := h3.er he
  rw [e]
  exact ((M (h1.er (h2.er e2))).trans (((ml_adv ⟨#[114, 111, 119, 115]⟩).trans (ml_wk e2)).trans (ml_want he))).cast (by simp [tkRows])
theorem call_letter {t : Tk} (h : Lib.containsS xCalls t.text = true) : letterI (t.text.data.toList.headD 0).toNat = true := by
  rw [Lib.containsS_iff] at h
  unfold xCalls at h
  simp only [List.mem_cons, List.mem_nil_iff, or_false] at h
  rcases h with e | e | e | e | e <;> (rw [e]; decide)
theorem rk_call {t : Tk} (hk : (t.kind == 1) = true) (h : Lib.containsS xCalls t.text = true) : rkT t = 1 := by
  unfold rkT
  rw [if_pos (by simpa using hk), if_pos (call_letter h)]
theorem hit_calls {ts : List Tk} {st : St} (h : hitP ts st xCalls = true) : rkT (tkAt ts st.nx) = 1 ∧ Lib.containsS xCalls (tkAt ts st.nx).text = true := by
  unfold hitP at h
  rw [Bool.and_eq_true] at h
  exact ⟨rk_call h.1 h.2, h.2⟩
/-- where it is no call: of three tests one fails. -/
theorem no_call {c : Cf} {w : World} {st : St} {x : Xs} (h : RX c w st x) (hh : hitP c.ts st xCalls = false) : (((rkT (tkAt c.ts x.I) : Nat) : Int) == 1) = false ∨ Lib.containsS xCalls (tkAt c.ts x.I).text = false ∨ (erN st.er == 0) = false := by
  by_cases he : st.er = none
  · have hI : x.I = st.nx := RF.cor h he
    rw [hI]
    unfold hitP at hh
    rw [Bool.and_eq_false_iff] at hh
    rcases hh with q | q
    · left
      have hk := RF.kinds h st.nx
      simp only [beq_eq_false_iff_ne, ne_eq] at q ⊢
      unfold rkT
      rw [if_neg q]
      split <;> omega
    · exact Or.inr (Or.inl q)
  · exact Or.inr (Or.inr (by simp only [beq_eq_false_iff_ne, ne_eq]; exact erN_ne he))
theorem texts_calls {w : World} {b : Nat} (hb : b = w.heap.size) : Texts (w.alloc (.cells #[.string ⟨#[114, 111, 119, 95, 110, 117, 109, 98, 101, 114]⟩, .string ⟨#[99, 111, 117, 110, 116]⟩, .string ⟨#[115, 117, 109]⟩, .string ⟨#[109, 105, 110]⟩, .string ⟨#[109, 97, 120]⟩] 9)) b xCalls :=
  texts_new hb (fun j hj => by match j, hj with | 0, _ | 1, _ | 2, _ | 3, _ | 4, _ => rfl)


set_option maxRecDepth 100000 in
set_option maxHeartbeats 2000000 in
theorem ritem_x (c : Cf) (hw : Lw c.ts) (hN : NumOk c.ts) (w : World) (st : St) (x : Xs) (h : RX c w st x) (hd : st.dp = 0) :
    Calls Tryz.prog 113 #[.pointer (some ⟨c.rb, 0, none⟩)] w fun e w' => ∃ (pl : Int) (call : ByteArray) (n : Int) (a1 a2 : Option Addr) (l1 c1 l2 c2 : Nat) (rw : Int) (asx : ByteArray) (x' : Xs), e = .returned (.agg #[.int .i64 pl, .string call, .int .i64 n, .slice a1 l1 c1, .slice a2 l2 c2, .int .i64 rw, .string asx]) ∧ RX c w' (itemP c.ts st).2 x' ∧ GX c w x w' x' ∧ ((itemP c.ts st).2.er = none → Ml st (itemP c.ts st).2 (tkItem (itemP c.ts st).1) x.ms x'.ms) := by
  obtain ⟨⟨r0, r1, r2, r3, r4⟩, hfr, q23, ⟨t0, t1, t2⟩, zr, zq, zt⟩ := RF.facts h
  have hlen := RF.len h
  have hinx := RF.inx h
  have HH := hide h
  have HL := hide hw.last
  have HW := hide hw
  have HN := hide hN
  have hnx := RF.nx h
  have HNC := hide (no_call h)
  have HCOR := hide (RF.cor h)
  clear h hw hN
  generalize hTK : tkAt c.ts x.I = tk at *
  have HTK := hide hTK
  clear hTK
  generalize hRK : ((rkT tk : Nat) : Int) = rk at *
  have HRK := hide hRK
  clear hRK
  generalize hEN : erN st.er = en at *
  have HEN := hide hEN
  clear hEN
  go_enter Tryz.func113, Tryz.ntmps113
  go_wp2
  go_region
  go_upto_region 3 with (fail)
  have HI0 : Hid (IR c w x tk.text rk tk.place (((w.alloc (.cells #[.int .i64 0, .string ⟨#[]⟩, .int .i64 0, .slice none 0 0, .slice none 0 0, .int .i64 0, .string ⟨#[]⟩] 228)).alloc (.cells #[.int .i64 rk, .int .i64 tk.place, .string tk.text] 100)).alloc (.cells #[.int .i64 tk.place, .string ⟨#[]⟩, .int .i64 (-1), .slice none 0 0, .slice none 0 0, .int .i64 (-1), .string ⟨#[95]⟩] 228)).drew st x ⟨#[]⟩ (-1) (.slice none 0 0) (.slice none 0 0) (-1) ⟨#[95]⟩) := by
    have hb : Below w.heap.size w (((w.alloc (.cells #[.int .i64 0, .string ⟨#[]⟩, .int .i64 0, .slice none 0 0, .slice none 0 0, .int .i64 0, .string ⟨#[]⟩] 228)).alloc (.cells #[.int .i64 rk, .int .i64 tk.place, .string tk.text] 100)).alloc (.cells #[.int .i64 tk.place, .string ⟨#[]⟩, .int .i64 (-1), .slice none 0 0, .slice none 0 0, .int .i64 (-1), .string ⟨#[95]⟩] 228)).drew := ((((Below.refl _ _).alloc (Nat.le_refl _) _).alloc (by simp) _).alloc (by simp; omega) _).drew
    exact ⟨(unhide HH).keep hb, GX.below (GX.refl _ _ _) hb, heap_prev (heap_prev (heap_last rfl)), heap_prev (heap_last (by simp)), heap_last (by simp), fun k h1 _ => (unhide HH).off h1⟩
  go_cut [5] (fun s5 W => s5 = .bool (hitP c.ts st xCalls) ∧ IR c w x tk.text rk tk.place W st x ⟨#[]⟩ (-1) (.slice none 0 0) (.slice none 0 0) (-1) ⟨#[95]⟩)
  case first =>
    have zr1 : c.rb < w.heap.size + 1 := by omega
    have zr2 : c.rb < w.heap.size + 1 + 1 := by omega
    have zr3 : c.rb < w.heap.size + 1 + 1 + 1 := by omega
    cases hh : hitP c.ts st xCalls with
    | true =>
      have he : st.er = none := RF.okHit (unhide HH) hh
      have hIx : x.I = st.nx := (unhide HCOR) he
      have hcl := hit_calls hh
      have htk : tkAt c.ts st.nx = tk := by rw [← unhide HTK, hIx]
      rw [htk] at hcl
      have hrk : (rk == 1) = true := by rw [← unhide HRK, hcl.1]; rfl
      have hen : (en == 0) = true := by rw [← unhide HEN, he]; rfl
      have HCS := hide hcl.2
      have HHT := hide hh
      clear hcl hh he htk hIx
      go_wp2_with fail
      refine (in_any _ _ _ xCalls (by exact texts_calls (by first | rfl | simp)) (by decide)).mono ?_
      rintro e w4 ⟨rfl, rfl⟩
      rw [unhide HCS]
      go_wp2_with fail
      go_meet
      case rel => exact ⟨by rw [unhide HHT], (unhide HI0).keep (by first | exact Below.refl _ _ | exact ⟨rfl, rfl, rfl, by simp, fun k hk => Below.heap_alloc _ _ _ hk⟩ | repeat (first | exact Below.refl _ _ | apply Below.drew | refine Below.alloc ?_ (by first | exact Nat.le_refl _ | (simp; done) | (simp; omega)) _))⟩
    | false =>
      have hno := (unhide HNC) hh
      have HHT := hide hh
      clear hh
      cases hrk : (rk == 1) with
      | false =>
        go_wp2_with fail
        go_meet
        case rel => exact ⟨by rw [unhide HHT], (unhide HI0).keep (by first | exact Below.refl _ _ | exact ⟨rfl, rfl, rfl, by simp, fun k hk => Below.heap_alloc _ _ _ hk⟩ | repeat (first | exact Below.refl _ _ | apply Below.drew | refine Below.alloc ?_ (by first | exact Nat.le_refl _ | (simp; done) | (simp; omega)) _))⟩
      | true =>
        cases hcs : Lib.containsS xCalls tk.text with
        | false =>
          have HCS := hide hcs
          clear hcs hno
          go_wp2_with fail
          refine (in_any _ _ _ xCalls (by exact texts_calls (by first | rfl | simp)) (by decide)).mono ?_
          rintro e w4 ⟨rfl, rfl⟩
          rw [unhide HCS]
          go_wp2_with fail
          go_meet
          case rel => exact ⟨by rw [unhide HHT], (unhide HI0).keep (by first | exact Below.refl _ _ | exact ⟨rfl, rfl, rfl, by simp, fun k hk => Below.heap_alloc _ _ _ hk⟩ | repeat (first | exact Below.refl _ _ | apply Below.drew | refine Below.alloc ?_ (by first | exact Nat.le_refl _ | (simp; done) | (simp; omega)) _))⟩
        | true =>
          have hen : (en == 0) = false := by
            rcases hno with q | q | q
            · rw [hrk] at q; cases q
            · rw [hcs] at q; cases q
            · exact q
          have HCS := hide hcs
          clear hcs hno
          go_wp2_with fail
          refine (in_any _ _ _ xCalls (by exact texts_calls (by first | rfl | simp)) (by decide)).mono ?_
          rintro e w4 ⟨rfl, rfl⟩
          rw [unhide HCS]
          go_wp2_with fail
          go_meet
          case rel => exact ⟨by rw [unhide HHT], (unhide HI0).keep (by first | exact Below.refl _ _ | exact ⟨rfl, rfl, rfl, by simp, fun k hk => Below.heap_alloc _ _ _ hk⟩ | repeat (first | exact Below.refl _ _ | apply Below.drew | refine Below.alloc ?_ (by first | exact Nat.le_refl _ | (simp; done) | (simp; omega)) _))⟩
  case rest =>
    obtain ⟨rfl, hir⟩ := hcut
    have HI1 := hide hir
    clear hir HI0 r0 r1 r2 r3 r4 hfr q23 t0 t1 t2 zr zq zt
    go_upto_if 44 with (fail)
    go_cut [5] (fun _ W => ∃ (x1 : Xs) (call : ByteArray) (n : Int) (a1 a2 : Option Addr) (l1 c1 l2 c2 : Nat) (rw1 : Int), IR c w x tk.text rk tk.place W (itOf c.ts st).2 x1 call n (.slice a1 l1 c1) (.slice a2 l2 c2) rw1 ⟨#[95]⟩ ∧ ((itOf c.ts st).2.er = none → Ml st (itOf c.ts st).2 (tkWhat ⟨0, (itOf c.ts st).1.1, (itOf c.ts st).1.2, 0, ⟨#[]⟩⟩) x.ms x1.ms))
    case first =>
      obtain ⟨⟨kr, fr⟩, ⟨kt, ft⟩, ⟨kb, fb⟩, zz⟩ := (unhide HI1).facts
      cases hh : hitP c.ts st xCalls with
      | false =>
        have HIT : Hid (itOf c.ts st = ((none, (exprP c.ts st).1), (exprP c.ts st).2)) := by unfold Hid itOf; rw [hh]; rfl
        have HHT := hide hh
        clear hh
        go_wp2_with fail
        refine (rexpr_x c (unhide HW) (unhide HN) _ st x (by exact (unhide HI1).rx) hd).mono ?_
        rintro e w2 ⟨n2, x2, rfl, hr, hg, hm⟩
        have HI2 := hide ((unhide HI1).step hr hg)
        have HM2 := hide hm
        clear kr fr kt ft kb fb zz hr hg hm
        obtain ⟨⟨kr, fr⟩, ⟨kt, ft⟩, ⟨kb, fb⟩, zz⟩ := (unhide HI2).facts
        generalize hY : exprP c.ts st = Y at *
        have HY := hide hY
        clear hY
        go_wp2_with fail
        go_meet
        case rel =>
          rw [unhide HIT]
          obtain rfl := unhide HY
          exact ⟨x2, _, n2, _, _, _, _, _, _, _, (unhide HI2).set rfl, fun e => ml_expr (unhide HW) hnx e ((unhide HM2) e)⟩
      | true =>
        have he : st.er = none := RF.okHit (unhide HH) hh
        have hk0 := hit_kind hh
        have htk : tkAt c.ts st.nx = tk := by rw [← unhide HTK, (unhide HCOR) he]
        have hadv := onw_adv (unhide HL) hnx hk0
        have HHT := hide hh
        have HADV := hide hadv
        have HK0 := hide hk0
        have HTK2 := hide htk
        clear hh hk0 htk hadv
        obtain ⟨O, HO⟩ : ∃ O, Hid (O = wOf c.ts (adv st) tk.text) := ⟨_, rfl⟩
        obtain ⟨A, HA⟩ : ∃ A, Hid (A = wPart c.ts (wOpen c.ts O.2)) := ⟨_, rfl⟩
        obtain ⟨D, HD⟩ : ∃ D, Hid (D = wOrd c.ts A.2) := ⟨_, rfl⟩
        obtain ⟨R, HR⟩ : ∃ R, Hid (R = wRows c.ts D.2) := ⟨_, rfl⟩
        have HWIN : Hid (winP c.ts (adv st) tk.place tk.text = (⟨tk.place, tk.text, O.1, A.1, D.1, R.1⟩, wantP c.ts R.2 [⟨#[41]⟩])) := by unfold Hid; rw [unhide HR, unhide HD, unhide HA, unhide HO]; rfl
        have HIT : Hid (itOf c.ts st = ((some ⟨tk.place, tk.text, O.1, A.1, D.1, R.1⟩, []), wantP c.ts R.2 [⟨#[41]⟩])) := by unfold Hid itOf; rw [if_pos (unhide HHT), unhide HTK2, unhide HWIN]
        go_wp2_with fail
        have HI2 : Hid (IR c w x tk.text rk tk.place (wc.setCell ⟨w.heap.size + 1 + 1, 1, none⟩ (.string tk.text)) st x tk.text (-1) (.slice none 0 0) (.slice none 0 0) (-1) ⟨#[95]⟩) := (unhide HI1).set rfl
        refine (rstep_x c _ st x (by exact (unhide HI2).rx) he (unhide HK0)).mono ?_
        rintro e w3 ⟨x3, rfl, hr, hg, hm⟩
        have HI3 := hide ((unhide HI2).step hr hg)
        have HM3 : Hid ((adv st).er = none → Ml st (adv st) [tx tk.text] x.ms x3.ms) := fun _ => by rw [hm]; exact ml_adv _
        clear hr hg hm HI2
        clear kr fr kt ft kb fb zz
        go_wp2_with fail
        refine (rmust_x c _ (adv st) x3 ⟨#[40]⟩ (by exact (unhide HI3).rx)).mono ?_
        rintro e w4 ⟨x4, rfl, hr, hg, hm⟩
        have HI4 := hide ((unhide HI3).step hr hg)
        have HM4 := hide (want_ml (y := ⟨#[40]⟩) (unhide HL) (RF.nx (unhide HI3).rx) (unhide HM3) hm)
        clear hr hg hm HI3 HM3
        obtain ⟨⟨kr, fr⟩, ⟨kt, ft⟩, ⟨kb, fb⟩, zz⟩ := (unhide HI4).facts
        have hd4 : (wantP c.ts (adv st) [⟨#[40]⟩]).dp = 0 := ((onw_want (unhide HL) (unhide HADV).lt _).dp).trans hd
        go_upto_region 9 with (fail)
        go_cut [62] (fun s62 W => W = w4 ∧ s62 = .bool (takesOf tk.text))
        case first =>
          cases hA : (tk.text.toList == [114, 111, 119, 95, 110, 117, 109, 98, 101, 114]) with
          | true =>
            go_wp2_with fail
            go_meet
            case rel => exact ⟨rfl, by unfold takesOf; rw [hA]; rfl⟩
          | false =>
            cases hB : (tk.text.toList == [99, 111, 117, 110, 116]) with
            | true =>
              go_wp2_with fail
              go_meet
              case rel => exact ⟨rfl, by unfold takesOf; rw [hA, hB]; rfl⟩
            | false =>
              go_wp2_with fail
              go_meet
              case rel => exact ⟨rfl, by unfold takesOf; rw [hA, hB]; rfl⟩
        case rest =>
          obtain ⟨rfl, rfl⟩ := hcut
          go_upto_if 62 with (fail)
          go_cut [] (fun W => IQ c w x st tk.text rk tk.place W O.2 ([tx tk.text] ++ [tx ⟨#[40]⟩] ++ tkOf O.1))
          case first =>
            cases ht : takesOf tk.text with
            | false =>
              have HO' : Hid (O = (none, wantP c.ts (adv st) [⟨#[40]⟩])) := by have := unhide HO; unfold wOf at this; rw [ht] at this; exact this
              clear ht
              go_wp2_with fail
              go_meet
              case rel =>
                rw [unhide HO']
                exact ⟨x4, _, _, _, _, _, _, _, _, _, unhide HI4, fun e => ((unhide HM4) e).cast (by simp [tkOf])⟩
            | true =>
              have HO' : Hid (O = (some (exprP c.ts (wantP c.ts (adv st) [⟨#[40]⟩])).1, (exprP c.ts (wantP c.ts (adv st) [⟨#[40]⟩])).2)) := by have := unhide HO; unfold wOf at this; rw [ht] at this; exact this
              clear ht
              go_wp2_with fail
              refine (rexpr_x c (unhide HW) (unhide HN) _ _ x4 (by exact (unhide HI4).rx) hd4).mono ?_
              rintro e w5 ⟨n5, x5, rfl, hr, hg, hm⟩
              have HI5 := hide ((unhide HI4).step hr hg)
              have HM5 := hide hm
              clear kr fr kt ft kb fb zz hr hg hm
              obtain ⟨⟨kr, fr⟩, ⟨kt, ft⟩, ⟨kb, fb⟩, zz⟩ := (unhide HI5).facts
              go_wp2_with fail
              go_meet
              case rel =>
                have hn4 := RF.nx (unhide HI4).rx
                rw [unhide HO']
                refine ⟨x5, _, n5, _, _, _, _, _, _, _, (unhide HI5).set rfl, fun e => ?_⟩
                have e4 := (onw_exprP (unhide HL) _ hn4).er e
                exact (((unhide HM4) e4).trans (ml_expr (unhide HW) hn4 e ((unhide HM5) e))).cast rfl
          case rest =>
            obtain ⟨x6, call6, n6, a16, a26, l16, c16, l26, c26, rw6, hir, hml⟩ := hcut
            have HI6 := hide hir
            have HM6 := hide hml
            clear hir hml HI4 HM4 kr fr kt ft kb fb zz hd4
            have HDO : Hid (O.2.dp = 0) := by
              unfold Hid
              rw [unhide HO]
              exact ((onw_wOf (unhide HL) (unhide HADV).lt _).dp).trans hd
            go_wp2_with fail
            refine (rmust_x c _ O.2 x6 ⟨#[41]⟩ (by exact (unhide HI6).rx)).mono ?_
            rintro e w7 ⟨x7, rfl, hr, hg, hm⟩
            have HI7 := hide ((unhide HI6).step hr hg)
            have HM7 := hide (want_ml (y := ⟨#[41]⟩) (unhide HL) (RF.nx (unhide HI6).rx) (unhide HM6) hm)
            clear hr hg hm HI6 HM6
            go_wp2_with fail
            refine (rmust_x c _ (wantP c.ts O.2 [⟨#[41]⟩]) x7 ⟨#[111, 118, 101, 114]⟩ (by exact (unhide HI7).rx)).mono ?_
            rintro e w8 ⟨x8, rfl, hr, hg, hm⟩
            have HI8 := hide ((unhide HI7).step hr hg)
            have HM8 := hide (want_ml (y := ⟨#[111, 118, 101, 114]⟩) (unhide HL) (RF.nx (unhide HI7).rx) (unhide HM7) hm)
            clear hr hg hm HI7 HM7
            go_wp2_with fail
            refine (rmust_x c _ (wantP c.ts (wantP c.ts O.2 [⟨#[41]⟩]) [⟨#[111, 118, 101, 114]⟩]) x8 ⟨#[40]⟩ (by exact (unhide HI8).rx)).mono ?_
            rintro e w9 ⟨x9, rfl, hr, hg, hm⟩
            have HI9 := hide ((unhide HI8).step hr hg)
            have HM9 := hide (want_ml (y := ⟨#[40]⟩) (unhide HL) (RF.nx (unhide HI8).rx) (unhide HM8) hm)
            clear hr hg hm HI8 HM8
            have HI10 : Hid (IR c w x tk.text rk tk.place w9 (wOpen c.ts O.2) x9 call6 n6 (.slice a16 l16 c16) (.slice a26 l26 c26) rw6 ⟨#[95]⟩) := unhide HI9
            have HM10 : Hid ((wOpen c.ts O.2).er = none → Ml st (wOpen c.ts O.2) ([tx tk.text] ++ [tx ⟨#[40]⟩] ++ tkOf O.1 ++ [tx ⟨#[41]⟩, tx ⟨#[111, 118, 101, 114]⟩, tx ⟨#[40]⟩]) x.ms x9.ms) := fun e => ((unhide HM9) e).cast (by simp)
            have HDS : Hid ((wOpen c.ts O.2).dp = 0) := ((onw_wOpen (unhide HL) (by have := RF.nx (unhide HI10).rx; have hO := onw_wOf (unhide HL) (unhide HADV).lt tk.text; rw [← unhide HO] at hO; exact hO.lt)).dp).trans (unhide HDO)
            clear HI9 HM9
            generalize hS : wOpen c.ts O.2 = S at *
            have HS := hide hS
            clear hS
            have HSX : Hid (S.nx < c.ts.length) := RF.nx (unhide HI10).rx
            go_wp2_with fail
            refine (rmay_x c _ S x9 ⟨#[112, 97, 114, 116, 105, 116, 105, 111, 110]⟩ (by exact (unhide HI10).rx)).mono ?_
            rintro e w11 ⟨x11, rfl, hr, hg, hm⟩
            have HI11 := hide ((unhide HI10).step hr hg)
            have hm11 := hm
            clear hr hg hm
            go_upto_if 74 with (fail)
            go_cut [6] (fun _ W => IQ c w x st tk.text rk tk.place W A.2 ([tx tk.text] ++ [tx ⟨#[40]⟩] ++ tkOf O.1 ++ [tx ⟨#[41]⟩, tx ⟨#[111, 118, 101, 114]⟩, tx ⟨#[40]⟩] ++ tkBy ⟨#[112, 97, 114, 116, 105, 116, 105, 111, 110]⟩ A.1))
            case first =>
              cases hh : hitP c.ts S [⟨#[112, 97, 114, 116, 105, 116, 105, 111, 110]⟩] with
              | false =>
                have HV : Hid (A = ([], S)) := by have := unhide HA; unfold wPart at this; rw [beh_not hh] at this; exact this
                unfold takeS at HI11
                rw [hh] at HI11
                clear hh
                go_wp2_with fail
                go_meet
                case rel =>
                  rw [unhide HV]
                  exact ⟨x11, _, _, _, _, _, _, _, _, _, unhide HI11, fun e => by rw [hm11]; exact ((unhide HM10) e).cast (by simp [tkBy])⟩
              | true =>
                have HV : Hid (A = behP c.ts S ⟨#[112, 97, 114, 116, 105, 116, 105, 111, 110]⟩) := unhide HA
                unfold takeS at HI11
                rw [hh] at HI11
                have HHT2 := hide hh
                have HNX := hide (RF.nx (unhide HI10).rx)
                have HAD := hide (onw_adv (unhide HL) (unhide HNX) (hit_kind hh))
                clear hh
                have HI11' : Hid (IR c w x tk.text rk tk.place w11 (adv S) x11 call6 n6 (.slice a16 l16 c16) (.slice a26 l26 c26) rw6 ⟨#[95]⟩) := unhide HI11
                go_wp2_with fail
                refine (rmust_x c _ (adv S) x11 ⟨#[98, 121]⟩ (by exact (unhide HI11').rx)).mono ?_
                rintro e w12 ⟨x12, rfl, hr, hg, hm12⟩
                have HI12 := hide ((unhide HI11').step hr hg)
                clear hr hg
                go_wp2_with fail
                refine (rexprs_x c (unhide HW) (unhide HN) _ _ x12 (by exact (unhide HI12).rx) (((onw_want (unhide HL) (unhide HAD).lt _).dp).trans (unhide HDS))).mono ?_
                rintro e w13 ⟨ad11, n11, cp11, x13, rfl, hr, hg, hm⟩
                have HI13 := hide ((unhide HI12).step hr hg)
                have HMX := hide hm
                clear hr hg hm
                obtain ⟨⟨kr, fr⟩, ⟨kt, ft⟩, ⟨kb, fb⟩, zz⟩ := (unhide HI13).facts
                go_wp2_with fail
                go_meet
                case rel =>
                  have hir := (unhide HI13).set (i := 3) (u := .slice ad11 n11 cp11) rfl
                  have hml := by_ml (unhide HW) (unhide HNX) (unhide HHT2) (s' := x13.ms) (unhide HM10) (by rw [← hm11, ← hm12]; exact unhide HMX)
                  rw [← unhide HV] at hml
                  rw [← beh_hit (unhide HHT2), ← unhide HV] at hir
                  exact ⟨x13, _, _, _, _, _, _, _, _, _, hir, hml⟩
            case rest =>
              obtain ⟨x14, call14, n14, a114, a214, l114, c114, l214, c214, rw14, hir, hml⟩ := hcut
              have HI14 := hide hir
              have HM14 := hide hml
              clear hir hml HI10 HM10 hm11 HI11
              have HDA : Hid (A.2.dp = 0) := by
                unfold Hid
                rw [unhide HA]
                exact ((onw_beh (unhide HL) (unhide HSX) _).dp).trans (unhide HDS)
              go_wp2_with fail
              refine (rmay_x c _ A.2 x14 ⟨#[111, 114, 100, 101, 114]⟩ (by exact (unhide HI14).rx)).mono ?_
              rintro e w15 ⟨x15, rfl, hr, hg, hm⟩
              have HI15 := hide ((unhide HI14).step hr hg)
              have hm15 := hm
              clear hr hg hm
              go_upto_if 82 with (fail)
              go_cut [6] (fun _ W => IQ c w x st tk.text rk tk.place W D.2 (([tx tk.text] ++ [tx ⟨#[40]⟩] ++ tkOf O.1 ++ [tx ⟨#[41]⟩, tx ⟨#[111, 118, 101, 114]⟩, tx ⟨#[40]⟩] ++ tkBy ⟨#[112, 97, 114, 116, 105, 116, 105, 111, 110]⟩ A.1) ++ tkBy ⟨#[111, 114, 100, 101, 114]⟩ D.1))
              case first =>
                cases hh : hitP c.ts A.2 [⟨#[111, 114, 100, 101, 114]⟩] with
                | false =>
                  have HV : Hid (D = ([], A.2)) := by have := unhide HD; unfold wOrd at this; rw [beh_not hh] at this; exact this
                  unfold takeS at HI15
                  rw [hh] at HI15
                  clear hh
                  go_wp2_with fail
                  go_meet
                  case rel =>
                    rw [unhide HV]
                    exact ⟨x15, _, _, _, _, _, _, _, _, _, unhide HI15, fun e => by rw [hm15]; exact ((unhide HM14) e).cast (by simp [tkBy])⟩
                | true =>
                  have HV : Hid (D = behP c.ts A.2 ⟨#[111, 114, 100, 101, 114]⟩) := unhide HD
                  unfold takeS at HI15
                  rw [hh] at HI15
                  have HHT2 := hide hh
                  have HNX := hide (RF.nx (unhide HI14).rx)
                  have HAD := hide (onw_adv (unhide HL) (unhide HNX) (hit_kind hh))
                  clear hh
                  have HI15' : Hid (IR c w x tk.text rk tk.place w15 (adv A.2) x15 call14 n14 (.slice a114 l114 c114) (.slice a214 l214 c214) rw14 ⟨#[95]⟩) := unhide HI15
                  go_wp2_with fail
                  refine (rmust_x c _ (adv A.2) x15 ⟨#[98, 121]⟩ (by exact (unhide HI15').rx)).mono ?_
                  rintro e w16 ⟨x16, rfl, hr, hg, hm16⟩
                  have HI16 := hide ((unhide HI15').step hr hg)
                  clear hr hg
                  go_wp2_with fail
                  refine (rexprs_x c (unhide HW) (unhide HN) _ _ x16 (by exact (unhide HI16).rx) (((onw_want (unhide HL) (unhide HAD).lt _).dp).trans (unhide HDA))).mono ?_
                  rintro e w17 ⟨ad15, n15, cp15, x17, rfl, hr, hg, hm⟩
                  have HI17 := hide ((unhide HI16).step hr hg)
                  have HMX := hide hm
                  clear hr hg hm
                  obtain ⟨⟨kr, fr⟩, ⟨kt, ft⟩, ⟨kb, fb⟩, zz⟩ := (unhide HI17).facts
                  go_wp2_with fail
                  go_meet
                  case rel =>
                    have hir := (unhide HI17).set (i := 4) (u := .slice ad15 n15 cp15) rfl
                    have hml := by_ml (unhide HW) (unhide HNX) (unhide HHT2) (s' := x17.ms) (unhide HM14) (by rw [← hm15, ← hm16]; exact unhide HMX)
                    rw [← unhide HV] at hml
                    rw [← beh_hit (unhide HHT2), ← unhide HV] at hir
                    exact ⟨x17, _, _, _, _, _, _, _, _, _, hir, hml⟩
              case rest =>
                obtain ⟨x18, call18, n18, a118, a218, l118, c118, l218, c218, rw18, hir, hml⟩ := hcut
                have HI18 := hide hir
                have HM18 := hide hml
                clear hir hml HI14 HM14 hm15 HI15
                go_wp2_with fail
                refine (rmay_x c _ D.2 x18 ⟨#[114, 111, 119, 115]⟩ (by exact (unhide HI18).rx)).mono ?_
                rintro e w19 ⟨x19, rfl, hr, hg, hm⟩
                have HI19 := hide ((unhide HI18).step hr hg)
                have hm19 := hm
                clear hr hg hm
                go_upto_if 90 with (fail)
                go_cut [6] (fun _ W => IQ c w x st tk.text rk tk.place W R.2 ((([tx tk.text] ++ [tx ⟨#[40]⟩] ++ tkOf O.1 ++ [tx ⟨#[41]⟩, tx ⟨#[111, 118, 101, 114]⟩, tx ⟨#[40]⟩] ++ tkBy ⟨#[112, 97, 114, 116, 105, 116, 105, 111, 110]⟩ A.1) ++ tkBy ⟨#[111, 114, 100, 101, 114]⟩ D.1) ++ tkRows R.1))
                case first =>
                  cases hh : hitP c.ts D.2 [⟨#[114, 111, 119, 115]⟩] with
                  | false =>
                    have HV : Hid (R = (none, D.2)) := by have := unhide HR; unfold wRows at this; rw [hh] at this; exact this
                    unfold takeS at HI19
                    rw [hh] at HI19
                    clear hh
                    go_wp2_with fail
                    go_meet
                    case rel =>
                      rw [unhide HV]
                      exact ⟨x19, _, _, _, _, _, _, _, _, _, unhide HI19, fun e => by rw [hm19]; exact ((unhide HM18) e).cast (by simp [tkRows])⟩
                  | true =>
                    have HV : Hid (R = (some (wkT c.ts (adv D.2) 3), wantP c.ts (wkP c.ts (adv D.2) 3) [⟨#[112, 114, 101, 99, 101, 100, 105, 110, 103]⟩])) := by have := unhide HR; unfold wRows at this; rw [hh] at this; exact this
                    unfold takeS at HI19
                    rw [hh] at HI19
                    have HHT2 := hide hh
                    have HNX := hide (RF.nx (unhide HI18).rx)
                    have HAD := hide (onw_adv (unhide HL) (unhide HNX) (hit_kind hh))
                    clear hh
                    have HI19' : Hid (IR c w x tk.text rk tk.place w19 (adv D.2) x19 call18 n18 (.slice a118 l118 c118) (.slice a218 l218 c218) rw18 ⟨#[95]⟩) := unhide HI19
                    have hWK := wk_num (unhide HN) (adv D.2)
                    have HWK := hide hWK
                    have hws : (wkT c.ts (adv D.2) 3).text.size ≤ 1000 := hWK.2
                    clear hWK
                    go_wp2_with fail
                    refine (rkind_x c _ (adv D.2) x19 3 (by exact (unhide HI19').rx) (Or.inr rfl)).mono ?_
                    rintro e w20 ⟨ka, kbb, x20, rfl, hr, hg, hm20⟩
                    have HI20 := hide ((unhide HI19').step hr hg)
                    clear hr hg
                    generalize hTX : (wkT c.ts (adv D.2) 3).text = TX at *
                    have HTX := hide hTX
                    clear hTX
                    go_wp2_with fail
                    refine (worth_any TX _ hws (by exact (unhide HWK).1)).mono ?_
                    rintro e w' ⟨rfl, rfl⟩
                    generalize worthV (worthL 0 TX.data.toList) = wv at *
                    have HI21 := hide ((unhide HI20).keep ((Below.refl w20.heap.size w20).alloc (Nat.le_refl _) (.cells #[.int .i64 ka, .int .i64 kbb, .string TX] 100)))
                    obtain ⟨⟨kr, fr⟩, ⟨kt, ft⟩, ⟨kb, fb⟩, zz⟩ := (unhide HI21).facts
                    go_wp2_with fail
                    have HI22 := hide ((unhide HI21).set (i := 5) (u := .int .i64 wv) rfl)
                    refine (rmust_x c _ (wkP c.ts (adv D.2) 3) x20 ⟨#[112, 114, 101, 99, 101, 100, 105, 110, 103]⟩ (by exact (unhide HI22).rx)).mono ?_
                    rintro e w22 ⟨x22, rfl, hr, hg, hm22⟩
                    have HI24 := hide ((unhide HI22).step hr hg)
                    clear hr hg
                    go_wp2_with fail
                    go_meet
                    case rel =>
                      have hml := rows_ml (unhide HW) (s' := x22.ms) (unhide HNX) (unhide HHT2) (unhide HM18) (by rw [hm22, hm20, hm19])
                      rw [unhide HV]
                      exact ⟨x22, _, _, _, _, _, _, _, _, _, unhide HI24, hml⟩
                case rest =>
                  obtain ⟨x23, call23, n23, a123, a223, l123, c123, l223, c223, rw23, hir, hml⟩ := hcut
                  have HI23 := hide hir
                  have HM23 := hide hml
                  clear hir hml HI18 HM18 hm19 HI19
                  go_wp2_with fail
                  refine (rmust_x c _ R.2 x23 ⟨#[41]⟩ (by exact (unhide HI23).rx)).mono ?_
                  rintro e w24 ⟨x24, rfl, hr, hg, hm⟩
                  have HI24 := hide ((unhide HI23).step hr hg)
                  have HM24 := hide (want_ml (y := ⟨#[41]⟩) (unhide HL) (RF.nx (unhide HI23).rx) (unhide HM23) hm)
                  clear hr hg hm HI23 HM23
                  go_wp2_with fail
                  go_meet
                  case rel =>
                    rw [unhide HIT]
                    exact ⟨x24, _, _, _, _, _, _, _, _, _, unhide HI24, fun e => ((unhide HM24) e).cast (by simp [tkWhat, tkWin])⟩
    case rest =>
      obtain ⟨x1, call, n, a1, a2, l1, c1, l2, c2, rw1, hir, hml⟩ := hcut
      have HI := hide hir
      have HM := hide hml
      clear hir hml HI1
      go_wp2_with fail
      refine (rmay_x c _ (itOf c.ts st).2 x1 ⟨#[97, 115]⟩ (by exact (unhide HI).rx)).mono ?_
      rintro e w5 ⟨x5, rfl, hr, hg, hm5⟩
      have HI5 := hide ((unhide HI).step hr hg)
      have HNX := hide (RF.nx (unhide HI).rx)
      have HM5 := hide hm5
      clear hr hg hm5
      cases hh : hitP c.ts (itOf c.ts st).2 [⟨#[97, 115]⟩] with
      | false =>
        have HP : Hid (itAs c.ts (itOf c.ts st).2 = ((0, ⟨#[]⟩), (itOf c.ts st).2)) := by unfold Hid itAs; rw [hh]; rfl
        unfold takeS at HI5
        rw [hh] at HI5
        have HI6 : Hid (IR c w x tk.text rk tk.place w5 (itOf c.ts st).2 x5 call n (.slice a1 l1 c1) (.slice a2 l2 c2) rw1 ⟨#[95]⟩) := unhide HI5
        clear hh HI5
        obtain ⟨⟨kr, fr⟩, ⟨kt, ft⟩, ⟨kb, fb⟩, zz⟩ := (unhide HI6).facts
        go_wp2
        refine bodyPost_ret (v := .agg #[.int .i64 tk.place, .string call, .int .i64 n, .slice a1 l1 c1, .slice a2 l2 c2, .int .i64 rw1, .string ⟨#[95]⟩]) (by simp [results, Tryz.results113, go_sem, kr]) rfl ⟨_, _, _, _, _, _, _, _, _, _, _, x5, rfl, ?_, ?_, ?_⟩
        · show RX c _ (itAs c.ts (itOf c.ts st).2).2 x5
          rw [unhide HP]
          exact (unhide HI6).rx.kpb ((((((((Kp.refl w.heap.size _).setCell _ _).setCell _ _).setCell _ _).setCell _ _).setCell _ _).setCell _ _).setCell _ _) ((unhide HI6).off _ (Nat.le_refl _) (by omega))
        · exact (unhide HI6).gx.kpNew ((((((((Kp.refl w.heap.size _).setCell _ _).setCell _ _).setCell _ _).setCell _ _).setCell _ _).setCell _ _).setCell _ _) (Nat.le_refl _)
        · show (itAs c.ts (itOf c.ts st).2).2.er = none → Ml st (itAs c.ts (itOf c.ts st).2).2 (tkWhat ⟨0, (itOf c.ts st).1.1, (itOf c.ts st).1.2, 0, ⟨#[]⟩⟩ ++ tkAs (itAs c.ts (itOf c.ts st).2).1.2) x.ms x5.ms
          rw [unhide HP, unhide HM5]
          exact fun e => ((unhide HM) e).cast (by simp [tkAs, ByteArray.toList_eq])
      | true =>
        have HP : Hid (itAs c.ts (itOf c.ts st).2 = (((wkT c.ts (adv (itOf c.ts st).2) 2).place, (wkT c.ts (adv (itOf c.ts st).2) 2).text), wkP c.ts (adv (itOf c.ts st).2) 2)) := by unfold Hid itAs; rw [hh]; rfl
        unfold takeS at HI5
        rw [hh] at HI5
        have HI6 : Hid (IR c w x tk.text rk tk.place w5 (adv (itOf c.ts st).2) x5 call n (.slice a1 l1 c1) (.slice a2 l2 c2) rw1 ⟨#[95]⟩) := unhide HI5
        have HML := hide (as_ml (unhide HW) (s' := x5.ms) (unhide HNX) hh (unhide HM) (unhide HM5))
        clear hh HI5
        go_wp2_with fail
        refine (rkind_x c _ (adv (itOf c.ts st).2) x5 2 (by exact (unhide HI6).rx) (Or.inl rfl)).mono ?_
        rintro e w7 ⟨ka, kbb, x7, rfl, hr, hg, hm7⟩
        have HI7 := hide ((unhide HI6).step hr hg)
        have HM7 := hide hm7
        clear hr hg hm7
        generalize hTX : (wkT c.ts (adv (itOf c.ts st).2) 2).text = TX at *
        have HTX := hide hTX
        clear hTX
        have HI8 := hide ((unhide HI7).keep ((Below.refl w7.heap.size w7).alloc (Nat.le_refl _) (.cells #[.int .i64 ka, .int .i64 kbb, .string TX] 100)))
        obtain ⟨⟨kr, fr⟩, ⟨kt, ft⟩, ⟨kb, fb⟩, zz⟩ := (unhide HI7).facts
        have zz1 : w.heap.size < w7.heap.size := by omega
        have zz2 : w.heap.size + 2 ≤ w7.heap.size := by omega
        have zz3 : w.heap.size ≤ w7.heap.size := by omega
        go_wp2
        have HI9 := hide ((unhide HI7).set (i := 6) (u := .string TX) rfl)
        refine bodyPost_ret (v := .agg #[.int .i64 tk.place, .string call, .int .i64 n, .slice a1 l1 c1, .slice a2 l2 c2, .int .i64 rw1, .string TX]) (by simp [results, Tryz.results113, go_sem, kr, zz1]) rfl ⟨_, _, _, _, _, _, _, _, _, _, _, x7, rfl, ?_, ?_, ?_⟩
        · show RX c _ (itAs c.ts (itOf c.ts st).2).2 x7
          rw [unhide HP]
          exact ((unhide HI9).rx.kpb ((((((((Kp.refl w.heap.size _).setCell _ _).setCell _ _).setCell _ _).setCell _ _).setCell _ _).setCell _ _).setCell _ _) ((unhide HI9).off _ (Nat.le_refl _) (by omega))).keep ((Below.refl _ _).alloc (Nat.le_refl _) _)
        · exact ((unhide HI9).gx.kpNew ((((((((Kp.refl w.heap.size _).setCell _ _).setCell _ _).setCell _ _).setCell _ _).setCell _ _).setCell _ _).setCell _ _) (Nat.le_refl _)).below ((Below.refl _ _).alloc (Nat.le_refl _) _)
        · show (itAs c.ts (itOf c.ts st).2).2.er = none → Ml st (itAs c.ts (itOf c.ts st).2).2 (tkWhat ⟨0, (itOf c.ts st).1.1, (itOf c.ts st).1.2, 0, ⟨#[]⟩⟩ ++ tkAs (itAs c.ts (itOf c.ts st).2).1.2) x.ms x7.ms
          rw [unhide HP, unhide HM7]
          exact unhide HML
end Go.Proofs.YtfkeddkfegaeiaaGreatDoor
