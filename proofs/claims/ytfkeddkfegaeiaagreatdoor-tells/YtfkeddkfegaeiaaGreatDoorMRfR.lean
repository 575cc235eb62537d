/-
  Part 42.
-/
import Derived.Test.YtfkeddkfegaeiaaGreatDoorMRfP
namespace Go.Proofs.YtfkeddkfegaeiaaGreatDoor
open Go.RowKit

set_option maxRecDepth 100000 in
set_option maxHeartbeats 1000000 in
theorem rexpr_any (c : Cf) (hw : Lw c.ts) (hN : NumOk c.ts) : RSp c 114 0 (exprP c.ts) := by
  intro w st I ms mv ev en h hd
  obtain ⟨⟨r0, r1, r2, r3, r4⟩, hfr, q23, ⟨t0, t1, t2⟩, zr, zq, zt⟩ := h.facts
  have hs : ({ st with dp := 0 } : St) = st := by obtain ⟨a, b, e⟩ := st; simp only at hd; rw [hd]
  have hr := h.deeper 0 (by omega)
  rw [hs] at hr
  have HR := hide hr
  have HS := hide (rsum_top c hw hN)
  have HD := hide hd
  clear h hr hd hs
  have HSX := hide ((unhide HS) _ st I ms mv ev en (unhide HR) (unhide HD))
  generalize exprP c.ts st = X at *
  go_enter Tryz.func114, Tryz.ntmps114
  go_wp2_with fail
  refine (unhide HSX).mono ?_
  rintro e w1 ⟨n1, I1, ms1, mv1, ev1, en1, rfl, hr1, hf1, hI1, hen1, hms1, hx1⟩
  have HR1 := hide hr1
  have HF1 := hide ((Fr.ofKp mv ev ((Kp.refl c.rb w).setCell 2 (.int .i64 (0 : Nat)))).trans hf1)
  have HX1 := hide hx1
  clear hr1 hf1 hx1 HSX
  go_wp2
  go_ret
  exact ⟨n1, I1, ms1, mv1, ev1, en1, rfl, unhide HR1, unhide HF1, hI1, hen1, hms1, unhide HX1⟩
end Go.Proofs.YtfkeddkfegaeiaaGreatDoor
namespace Go.Proofs.YtfkeddkfegaeiaaGreatDoor
open Go.RowKit

def Grows (ts : List Tk) (f : St → Rx) : Prop := ∀ st, st.nx < ts.length → (f st).2.er = none → st.nx + 1 ≤ (f st).2.nx
theorem grow_want {ts : List Tk} {st : St} {xs : List ByteArray} (he : (wantP ts st xs).er = none) : (wantP ts st xs).nx = st.nx + 1 := by
  unfold wantP
  rw [if_pos (want_hit he)]
  rfl
theorem grow_wk {ts : List Tk} {st : St} {k : Nat} (he : (wkP ts st k).er = none) : (wkP ts st k).nx = st.nx + 1 := by
  unfold wkP
  rw [if_pos (wk_hit he)]
  rfl
theorem grow_chain {ts : List Tk} (hl : Lst ts) {one : St → Rx} (ho : OnwF ts one) (hg : Grows ts one) (xs : List ByteArray) : Grows ts (chainP ts one xs) := fun st h he => by
  have h1 := ho st h
  have h2 := onw_loop hl ho xs (tkAt ts st.nx).place ts.length (one st).1 _ h1.lt
  exact Nat.le_trans (hg st h (h2.er he)) h2.nx
theorem grow_factor {ts : List Tk} (hl : Lst ts) : ∀ n, Grows ts (factorP ts n)
  | 0 => fun _ _ he => (fail_nn he).elim
  | n + 1 => fun st h he => by
    unfold factorP at he ⊢
    by_cases hm : hitP ts st xMin = true
    · rw [if_pos hm] at he ⊢
      exact (onw_deep (onw_factor hl n) _ (onw_adv hl h (hit_kind hm)).lt).nx
    · rw [if_neg hm] at he ⊢
      by_cases hb : hitP ts st xOpen = true
      · rw [if_pos hb] at he ⊢
        have h1 := onw_adv hl h (hit_kind hb)
        have h2 := onw_deep (onw_expr hl (onw_factor hl n)) _ h1.lt
        exact Nat.le_trans h2.nx (onw_want hl h2.lt _).nx
      · rw [if_neg hb] at he ⊢
        by_cases hk : (tkAt ts st.nx).kind = 3
        · rw [if_pos hk] at he ⊢
          exact Nat.le_of_eq (grow_wk he).symm
        · rw [if_neg hk] at he ⊢
          have h1 := onw_wk hl h (k := 2) (by decide)
          have h2 := onw_want hl h1.lt [⟨#[46]⟩]
          have h3 := onw_wk hl h2.lt (k := 2) (by decide)
          have e1 := h2.er (h3.er he)
          exact Nat.le_trans (Nat.le_of_eq (grow_wk e1).symm) (Nat.le_trans h2.nx h3.nx)
theorem grow_exprP {ts : List Tk} (hl : Lst ts) : Grows ts (exprP ts) := grow_chain hl (onw_chain hl (onw_factor hl 17) _) (grow_chain hl (onw_factor hl 17) (grow_factor hl 17) _) _

/-- behind an append to a row of a caller's own. -/
theorem RF.grownL {c : Cf} {w w' : World} {st : St} {I : Nat} {ms : List Nat} {mv ev v : Value} {en : Nat} (h : RF c w st I ms mv ev en) (hg : w.grownBy w' v.ownBlock) (h1 : ∀ b, v.ownBlock = some b → b ≠ c.rb ∧ b ≠ c.qb ∧ b ≠ c.tb ∧ mv.ownBlock ≠ some b ∧ ev.ownBlock ≠ some b) : RF c w' st I ms mv ev en := by
  obtain ⟨cs, xs, hq, hz, h23, h22, h21, hv, hu⟩ := h.query
  obtain ⟨cur, ht1, ht2⟩ := h.tokens
  have keepB : ∀ k, k < w.heap.size → v.ownBlock ≠ some k → w'.heap[k]? = w.heap[k]? := fun k hk hn => hg.block k hk (fun e => hn e.symm)
  have keepR : ∀ {base : Nat} {e : TypeId} {size : Nat} {u : Value} {n : Nat} {ys : List Value}, w.ownsRow base e size u n ys → (∀ b, v.ownBlock = some b → u.ownBlock ≠ some b) → w'.ownsRow base e size u n ys := fun hr hd => by
    refine ⟨hr.1, hr.2.imp id ?_⟩
    rintro ⟨g, cap, cu, hv', hg', hh, r⟩
    refine ⟨g, cap, cu, hv', hg', (keepB g (lt_of_heap hh) (fun e => ?_)).trans hh, r⟩
    exact hd g e (by rw [hv']; rfl)
  exact ⟨h.len, h.last, h.kinds, h.nx, h.inx, h.cor, h.stop, h.dp, h.ne, h.low, Nat.le_trans h.top hg.size, (keepB _ (lt_of_heap h.reader) (fun e => (h1 _ e).1 rfl)).trans h.reader, h.few,
    ⟨cs, xs, (keepB _ (lt_of_heap hq) (fun e => (h1 _ e).2.1 rfl)).trans hq, hz, h23, h22, h21, keepR hv (fun b e => (h1 b e).2.2.2.1), keepR hu (fun b e => (h1 b e).2.2.2.2)⟩, ⟨cur, (keepB _ (lt_of_heap ht1) (fun e => (h1 _ e).2.2.1 rfl)).trans ht1, ht2⟩⟩
end Go.Proofs.YtfkeddkfegaeiaaGreatDoor
namespace Go.Proofs.YtfkeddkfegaeiaaGreatDoor
open Go.RowKit

structure Xs where
  I : Nat
  ms : List Nat
  mv : Value
  ev : Value
  en : Nat
def RX (c : Cf) (w : World) (st : St) (x : Xs) : Prop := RF c w st x.I x.ms x.mv x.ev x.en
/-- from one world on to another: the reader went on. -/
structure GX (c : Cf) (w : World) (x : Xs) (w' : World) (x' : Xs) : Prop where
  fr : Fr c w x.mv x.ev w' x'.mv x'.ev
  le : x.I ≤ x'.I
  few : x'.en + x.I ≤ x.en + x'.I
  fewm : x'.ms.length + x.I ≤ x.ms.length + x'.I
theorem GX.ofKp {c : Cf} {w w' : World} {x : Xs} {I' : Nat} (h : Kp c.rb w w') (hI : x.I ≤ I') : GX c w x w' { x with I := I' } := ⟨Fr.ofKp _ _ h, hI, by show x.en + x.I ≤ x.en + I'; omega, by show x.ms.length + x.I ≤ x.ms.length + I'; omega⟩
theorem GX.refl (c : Cf) (w : World) (x : Xs) : GX c w x w x := ⟨Fr.ofKp _ _ (Kp.refl _ _), Nat.le_refl _, Nat.le_refl _, Nat.le_refl _⟩
theorem GX.trans {c : Cf} {a b d : World} {x y z : Xs} (h : GX c a x b y) (k : GX c b y d z) : GX c a x d z := by
  have h1 := h.le
  have h2 := h.few
  have h3 := h.fewm
  have k1 := k.le
  have k2 := k.few
  have k3 := k.fewm
  exact ⟨h.fr.trans k.fr, by omega, by omega, by omega⟩
theorem GX.size {c : Cf} {w w' : World} {x x' : Xs} (h : GX c w x w' x') : w.heap.size ≤ w'.heap.size := h.fr.size
/-- block k is none that the reading writes into. -/
structure Off (c : Cf) (x : Xs) (k : Nat) : Prop where
  rb : k ≠ c.rb
  qb : k ≠ c.qb
  tb : k ≠ c.tb
  mv : x.mv.ownBlock ≠ some k
  ev : x.ev.ownBlock ≠ some k
theorem RX.off {c : Cf} {w : World} {st : St} {x : Xs} (h : RX c w st x) {k : Nat} (hk : w.heap.size ≤ k) : Off c x k := by
  obtain ⟨cs, xs, hq, _, _, _, _, hv, hu⟩ := RF.query h
  obtain ⟨cur, ht1, _⟩ := RF.tokens h
  have h1 := lt_of_heap (RF.reader h)
  have h2 := lt_of_heap hq
  have h3 := lt_of_heap ht1
  exact ⟨by omega, by omega, by omega, fun e => by have := (hv.lt k e).2; omega, fun e => by have := (hu.lt k e).2; omega⟩
theorem GX.off {c : Cf} {w w' : World} {x x' : Xs} (h : GX c w x w' x') {k : Nat} (hk : k < w.heap.size) (ho : Off c x k) : Off c x' k :=
  ⟨ho.rb, ho.qb, ho.tb, fun e => (h.fr.mnew k e).elim ho.mv (fun q => by omega), fun e => (h.fr.enew k e).elim ho.ev (fun q => by omega)⟩
theorem GX.block {c : Cf} {w w' : World} {x x' : Xs} (h : GX c w x w' x') {k : Nat} (hk : k < w.heap.size) (ho : Off c x k) : w'.heap[k]? = w.heap[k]? :=
  h.fr.block k hk ho.rb ho.qb (fun e => ho.mv e.symm) (fun e => ho.ev e.symm)
/-- only block k, which is none of the reading's, has turned. -/
theorem RX.kpb {c : Cf} {w w' : World} {st : St} {x : Xs} {k : Nat} (h : RX c w st x) (hk : Kp k w w') (ho : Off c x k) : RX c w' st x :=
  RF.grownL (v := .slice (some ⟨k, 0, none⟩) 0 0) h ⟨hk.os, hk.tape, hk.output, hk.size, fun b hb hne => hk.block b hb (fun e => hne (by rw [e]; rfl))⟩ (fun b e => by
    have e2 : k = b := by simpa [Value.ownBlock] using e
    subst e2
    exact ⟨ho.rb, ho.qb, ho.tb, ho.mv, ho.ev⟩)
theorem RX.keep {c : Cf} {w w' : World} {st : St} {x : Xs} (h : RX c w st x) (hb : Below w.heap.size w w') : RX c w' st x := RF.keep h hb
theorem RX.grown {c : Cf} {w w' : World} {st : St} {x : Xs} {v : Value} (h : RX c w st x) (hg : w.grownBy w' v.ownBlock) (h1 : ∀ b, v.ownBlock = some b → Off c x b) : RX c w' st x :=
  RF.grownL h hg (fun b e => ⟨(h1 b e).rb, (h1 b e).qb, (h1 b e).tb, (h1 b e).mv, (h1 b e).ev⟩)
theorem Fr.kpNew {c : Cf} {w0 w w' : World} {m e m' e' : Value} {k : Nat} (h : Fr c w0 m e w m' e') (hk : Kp k w w') (hn : w0.heap.size ≤ k) : Fr c w0 m e w' m' e' :=
  ⟨hk.os.trans h.os, hk.tape.trans h.tape, hk.output.trans h.output, Nat.le_trans h.size hk.size, fun b hb h1 h2 h3 h4 => (hk.block b (Nat.lt_of_lt_of_le hb h.size) (by omega)).trans (h.block b hb h1 h2 h3 h4), h.mnew, h.enew⟩
theorem GX.kpNew {c : Cf} {w0 w w' : World} {x x' : Xs} {k : Nat} (h : GX c w0 x w x') (hk : Kp k w w') (hn : w0.heap.size ≤ k) : GX c w0 x w' x' := ⟨h.fr.kpNew hk hn, h.le, h.few, h.fewm⟩
theorem GX.below {c : Cf} {w0 w w' : World} {x x' : Xs} (h : GX c w0 x w x') (hb : Below w.heap.size w w') : GX c w0 x w' x' :=
  h.kpNew (k := w.heap.size) (Kp.ofBelow hb) h.size
theorem GX.grown {c : Cf} {w0 w w' : World} {x x' : Xs} {v : Value} (h : GX c w0 x w x') (hg : w.grownBy w' v.ownBlock) (hn : ∀ b, v.ownBlock = some b → w0.heap.size ≤ b) : GX c w0 x w' x' :=
  ⟨⟨hg.os.trans h.fr.os, hg.tape.trans h.fr.tape, hg.output.trans h.fr.output, Nat.le_trans h.fr.size hg.size, fun b hb h1 h2 h3 h4 => (hg.block b (Nat.lt_of_lt_of_le hb h.fr.size) (fun e => by have := hn b e.symm; omega)).trans (h.fr.block b hb h1 h2 h3 h4), h.fr.mnew, h.fr.enew⟩, h.le, h.few, h.fewm⟩

/-! ### the contracts, so bundled -/
theorem rexpr_x (c : Cf) (hw : Lw c.ts) (hN : NumOk c.ts) (w : World) (st : St) (x : Xs) (h : RX c w st x) (hd : st.dp = 0) :
    Calls Tryz.prog 114 #[.pointer (some ⟨c.rb, 0, none⟩)] w fun e w' => ∃ (n : Int) (x' : Xs), e = .returned (.int .i64 n) ∧ RX c w' (exprP c.ts st).2 x' ∧ GX c w x w' x' ∧ ((exprP c.ts st).2.er = none → x'.ms = x.ms ++ idx st.nx (tkE (exprP c.ts st).1)) := by
  refine (rexpr_any c hw hN w st x.I x.ms x.mv x.ev x.en h hd).mono ?_
  rintro e w' ⟨n, I', ms', mv', ev', en', rfl, hr, hf, h1, h2, h3, h4⟩
  exact ⟨n, ⟨I', ms', mv', ev', en'⟩, rfl, hr, ⟨hf, h1, h2, h3⟩, h4⟩
theorem rmust_x (c : Cf) (w : World) (st : St) (x : Xs) (y : ByteArray) (h : RX c w st x) :
    Calls Tryz.prog 112 #[.pointer (some ⟨c.rb, 0, none⟩), .string y] w fun e w' => ∃ x' : Xs, e = .returned (.tuple #[]) ∧ RX c w' (wantP c.ts st [y]) x' ∧ GX c w x w' x' ∧ x'.ms = x.ms := by
  refine (rmust_any c w st x.I y x.ms x.mv x.ev x.en h).mono ?_
  rintro e w' ⟨rfl, ⟨I', hI, hr⟩, hk⟩
  exact ⟨{ x with I := I' }, rfl, hr, GX.ofKp hk hI, rfl⟩
theorem rmay_x (c : Cf) (w : World) (st : St) (x : Xs) (y : ByteArray) (h : RX c w st x) :
    Calls Tryz.prog 67 #[.pointer (some ⟨c.rb, 0, none⟩), .string y] w fun e w' => ∃ x' : Xs, e = .returned (.bool (hitP c.ts st [y])) ∧ RX c w' (takeS c.ts st [y]) x' ∧ GX c w x w' x' ∧ x'.ms = x.ms := by
  refine (rmay_any c w st x.I y x.ms x.mv x.ev x.en h).mono ?_
  rintro e w' ⟨rfl, ⟨I', hI, hr⟩, hk⟩
  exact ⟨{ x with I := I' }, rfl, hr, GX.ofKp hk hI, rfl⟩
theorem rkind_x (c : Cf) (w : World) (st : St) (x : Xs) (k : Nat) (h : RX c w st x) (hk : k = 2 ∨ k = 3) :
    Calls Tryz.prog 111 #[.pointer (some ⟨c.rb, 0, none⟩), .int .i64 k] w fun e w' => ∃ (a b : Int) (x' : Xs), e = .returned (.agg #[.int .i64 a, .int .i64 b, .string (wkT c.ts st k).text]) ∧ RX c w' (wkP c.ts st k) x' ∧ GX c w x w' x' ∧ x'.ms = x.ms := by
  refine (rkind_any c w st x.I k x.ms x.mv x.ev x.en h hk).mono ?_
  rintro e w' ⟨⟨a, b, rfl⟩, ⟨I', hI, hr⟩, hk⟩
  exact ⟨a, b, { x with I := I' }, rfl, hr, GX.ofKp hk hI, rfl⟩
theorem rfail_x (c : Cf) (w : World) (st : St) (x : Xs) (h : RX c w st x) :
    Calls Tryz.prog 70 #[.pointer (some ⟨c.rb, 0, none⟩), .int .i64 4] w fun e w' => ∃ x' : Xs, e = .returned (.tuple #[]) ∧ RX c w' (failP c.ts st eSyntax) x' ∧ GX c w x w' x' ∧ x'.ms = x.ms := by
  refine (rfail_syntax c w st x.I x.ms x.mv x.ev x.en h).mono ?_
  rintro e w' ⟨rfl, hr, hk⟩
  exact ⟨{ x with I := x.I }, rfl, hr, GX.ofKp hk (Nat.le_refl _), rfl⟩
theorem rfailm_x (c : Cf) (w : World) (st : St) (x : Xs) (h : RX c w st x) :
    Calls Tryz.prog 70 #[.pointer (some ⟨c.rb, 0, none⟩), .int .i64 9] w fun e w' => ∃ x' : Xs, e = .returned (.tuple #[]) ∧ RX c w' (failP c.ts st eMany) x' ∧ GX c w x w' x' ∧ x'.ms = x.ms := by
  refine (rfail_many c w st x.I x.ms x.mv x.ev x.en h).mono ?_
  rintro e w' ⟨rfl, hr, hk⟩
  exact ⟨{ x with I := x.I }, rfl, hr, GX.ofKp hk (Nat.le_refl _), rfl⟩
theorem rstep_x (c : Cf) (w : World) (st : St) (x : Xs) (h : RX c w st x) (he : st.er = none) (hk : (tkAt c.ts st.nx).kind ≠ 0) :
    Calls Tryz.prog 110 #[.pointer (some ⟨c.rb, 0, none⟩)] w fun e w' => ∃ x' : Xs, e = .returned (rtok (tkAt c.ts st.nx)) ∧ RX c w' (adv st) x' ∧ GX c w x w' x' ∧ x'.ms = x.ms := by
  refine (rstep_any c w st x.I x.ms x.mv x.ev x.en h he hk).mono ?_
  rintro e w' ⟨rfl, hr, hk⟩
  exact ⟨{ x with I := x.I + 1 }, rfl, hr, GX.ofKp hk (Nat.le_succ _), rfl⟩

/-! ### tokens passed, and the minuses among them -/
/-- between two states these tokens were passed, and their minuses kept. -/
def Ml (a b : St) (m : List TT) (s0 s1 : List Nat) : Prop := m.length + a.nx = b.nx ∧ s1 = s0 ++ idx a.nx m
theorem Ml.refl (a : St) (s : List Nat) : Ml a a [] s s := ⟨by simp, by simp [idx]⟩
theorem Ml.trans {a b d : St} {m n : List TT} {s0 s1 s2 : List Nat} (h : Ml a b m s0 s1) (k : Ml b d n s1 s2) : Ml a d (m ++ n) s0 s2 := by
  obtain ⟨h1, h2⟩ := h
  obtain ⟨k1, k2⟩ := k
  refine ⟨by rw [List.length_append]; omega, ?_⟩
  rw [k2, h2, idx_append, List.append_assoc, show b.nx = a.nx + m.length from by omega]
theorem Ml.cast {a b : St} {m n : List TT} {s0 s1 : List Nat} (h : Ml a b m s0 s1) (e : m = n) : Ml a b n s0 s1 := e ▸ h
theorem Ml.one {a b : St} {s : List Nat} (x : ByteArray) (h : b.nx = a.nx + 1) : Ml a b [tx x] s s := ⟨by rw [h]; simp; omega, by simp [idx, tx]⟩
theorem ml_want {ts : List Tk} {st : St} {y : ByteArray} {s : List Nat} (he : (wantP ts st [y]).er = none) : Ml st (wantP ts st [y]) [tx y] s s := Ml.one y (grow_want he)
theorem ml_wk {ts : List Tk} {st : St} {k : Nat} {s : List Nat} (he : (wkP ts st k).er = none) : Ml st (wkP ts st k) [tx (wkT ts st k).text] s s := Ml.one _ (grow_wk he)
theorem ml_adv {st : St} (x : ByteArray) {s : List Nat} : Ml st (adv st) [tx x] s s := Ml.one x rfl
theorem ml_lin {ts : List Tk} {a b : St} {m : List TT} {s0 s1 : List Nat} (h : Lin ts a b m) (hb : b.nx ≤ ts.length) (e : s1 = s0 ++ idx a.nx m) : Ml a b m s0 s1 := by
  have h1 := lin_length h hb
  have h2 := h.le
  exact ⟨by omega, e⟩
theorem ml_expr {ts : List Tk} (hw : Lw ts) {st : St} {s0 s1 : List Nat} (h : st.nx < ts.length) (he : (exprP ts st).2.er = none) (e : s1 = s0 ++ idx st.nx (tkE (exprP ts st).1)) : Ml st (exprP ts st).2 (tkE (exprP ts st).1) s0 s1 :=
  ml_lin (lin_x hw st h he) (Nat.le_of_lt (onw_exprP hw.last st h).lt) e

/-! ### a plain list, as the other reading goes through it -/
def joinT (sep : TT) : List (List TT) → List TT
  | [] => []
  | [a] => a
  | a :: b :: r => a ++ sep :: joinT sep (b :: r)
theorem joinT_snoc (sep : TT) : ∀ (l : List (List TT)) (a : List TT), joinT sep (l ++ [a]) = joinT sep l ++ (if l = [] then [] else [sep]) ++ a
  | [], a => by simp [joinT]
  | [x], a => by simp [joinT]
  | x :: y :: r, a => by
    have ih := joinT_snoc sep (y :: r) a
    simp only [List.cons_append] at ih ⊢
    rw [joinT, ih, joinT]
    simp
theorem joinT_commas : ∀ l : List (List TT), joinT (tx ⟨#[44]⟩) l = commas l
  | [] => rfl
  | [_] => rfl
  | a :: b :: r => by rw [joinT, commas, joinT_commas (b :: r)]
theorem joinT_tests : ∀ (x : TestA) (r : List TestA), tkTests (x :: r) = tx ⟨#[119, 104, 101, 114, 101]⟩ :: joinT (tx ⟨#[97, 110, 100]⟩) ((x :: r).map tkTest)
  | x, [] => by simp [tkTests, joinT]
  | x, y :: r => by
    have ih := joinT_tests y r
    simp only [tkTests, List.map_cons, List.flatMap_cons] at ih ⊢
    rw [joinT]
    simp only [List.cons_append, List.nil_append, List.cons.injEq, true_and] at ih ⊢
    rw [ih]
def gLoop {α : Type} (ts : List Tk) (one : St → α × St) (mny : Nat → St → St) (sep : ByteArray) : Nat → List α → St → List α × St
  | 0, l, st => (l, st)
  | f + 1, l, st => if hitP ts st [sep] then gLoop ts one mny sep f (l ++ [(one (mny l.length (adv st))).1]) (one (mny l.length (adv st))).2 else (l, st)
theorem gLoop_list {α : Type} (ts : List Tk) (one : St → α × St) (most : Nat) : ∀ (f : Nat) (l : List α) (st : St), listLoop ts one most f l st = gLoop ts one (many ts most) ⟨#[44]⟩ f l st
  | 0, _, _ => rfl
  | f + 1, l, st => by
    unfold listLoop gLoop
    rw [gLoop_list ts one most f]
    rfl
theorem gLoop_and (ts : List Tk) : ∀ (f : Nat) (l : List TestA) (st : St), andLoop ts f l st = gLoop ts (testP ts) (fun _ s => s) ⟨#[97, 110, 100]⟩ f l st
  | 0, _, _ => rfl
  | f + 1, l, st => by
    unfold andLoop gLoop
    rw [gLoop_and ts f]
/-- what was passed so far: a separator behind the last, if more are to come. -/
def tkk {α : Type} (tk : α → List TT) (sep : ByteArray) (l : List α) (more : Bool) : List TT := joinT (tx sep) (l.map tk) ++ (if more then (if l.map tk = [] then [] else [tx sep]) else [])
theorem tkk_snoc {α : Type} (tk : α → List TT) (sep : ByteArray) (l : List α) (a : α) : tkk tk sep (l ++ [a]) false = tkk tk sep l true ++ tk a := by
  unfold tkk
  rw [List.map_append, List.map_cons, List.map_nil, joinT_snoc]
  simp
theorem tkk_more {α : Type} (tk : α → List TT) (sep : ByteArray) (l : List α) (a : α) : tkk tk sep (l ++ [a]) true = tkk tk sep (l ++ [a]) false ++ [tx sep] := by
  unfold tkk
  simp
/-- where a list stands ahead of a round (more), or behind the last. -/
structure LsR {α : Type} (c : Cf) (w : World) (x0 : Xs) (st0 : St) (s0 : List Nat) (one : St → α × St) (mny : Nat → St → St) (sep : ByteArray) (tk : α → List TT) (X : List α × St) (f : Nat) (W : World) (l : List α) (st : St) (x : Xs) (more : Bool) : Prop where
  rx : RX c W st x
  gx : GX c w x0 W x
  eq : X = if more then gLoop c.ts one mny sep f (l ++ [(one (mny l.length st)).1]) (one (mny l.length st)).2 else (l, st)
  fuel : more = true → c.ts.length ≤ f + st.nx
  dp : st.dp = 0
  ok : st.er = none → Ml st0 st (tkk tk sep l more) s0 x.ms
theorem LsR.round {α : Type} {c : Cf} {w : World} {x0 : Xs} {st0 : St} {s0 : List Nat} {one : St → α × St} {mny : Nat → St → St} {sep : ByteArray} {tk : α → List TT} {X : List α × St} {f : Nat} {W W2 : World} {l : List α} {st : St} {x x2 : Xs} (h : LsR c w x0 st0 s0 one mny sep tk X (f + 1) W l st x true)
    {S : St} (hS : S = mny l.length st) (hSS : S = st ∨ S.er ≠ none) (hSd : S.dp = st.dp) (hSn : st.nx ≤ S.nx) (ho : Onw c.ts S (one S).2) (h1 : GX c w x0 W2 x2) (h2 : RX c W2 (takeS c.ts (one S).2 [sep]) x2) (h3 : (one S).2.er = none → Ml S (one S).2 (tk (one S).1) x.ms x2.ms) :
    LsR c w x0 st0 s0 one mny sep tk X f W2 (l ++ [(one S).1]) (takeS c.ts (one S).2 [sep]) x2 (hitP c.ts (one S).2 [sep]) := by
  have heq := h.eq
  rw [if_pos rfl, ← hS] at heq
  unfold gLoop at heq
  have hok : (one S).2.er = none → Ml st0 (one S).2 (tkk tk sep (l ++ [(one S).1]) false) s0 x2.ms := fun e => by
    have e1 := ho.er e
    have e2 : S = st := hSS.elim id (fun q => (q e1).elim)
    rw [tkk_snoc]
    exact (h.ok (e2 ▸ e1)).trans (e2 ▸ h3 e)
  have hd : (one S).2.dp = 0 := ho.dp.trans (hSd.trans h.dp)
  have hf := h.fuel rfl
  have hn := ho.nx
  unfold takeS at h2 ⊢
  cases hh : hitP c.ts (one S).2 [sep] with
  | true =>
    rw [hh] at heq h2
    simp only [if_true] at heq h2 ⊢
    refine ⟨h2, h1, by rw [if_pos rfl]; exact heq, fun _ => ?_, hd, fun e => ?_⟩
    · show c.ts.length ≤ f + ((one S).2.nx + 1)
      omega
    · rw [tkk_more]
      exact (hok e).trans (ml_adv sep)
  | false =>
    rw [hh] at heq h2
    simp only [Bool.false_eq_true, if_false] at heq h2 ⊢
    exact ⟨h2, h1, by rw [heq]; rfl, (fun e => by cases e), hd, hok⟩
theorem LsR.first {α : Type} {c : Cf} {w W : World} {x0 x : Xs} {st0 : St} (one : St → α × St) (mny : Nat → St → St) (sep : ByteArray) (tk : α → List TT) (h : RX c W st0 x) (hg : GX c w x0 W x) (hd : st0.dp = 0) (hm : mny 0 st0 = st0) : LsR c w x0 st0 x.ms one mny sep tk (gLoop c.ts one mny sep c.ts.length [(one st0).1] (one st0).2) c.ts.length W [] st0 x true :=
  ⟨h, hg, by rw [if_pos rfl, List.length_nil, hm]; rfl, fun _ => Nat.le_add_right _ _, hd, fun _ => by unfold tkk; simp only [List.map_nil, joinT, if_true, List.append_nil]; exact Ml.refl _ _⟩
theorem LsR.done {α : Type} {c : Cf} {w : World} {x0 : Xs} {st0 : St} {s0 : List Nat} {one : St → α × St} {mny : Nat → St → St} {sep : ByteArray} {tk : α → List TT} {X : List α × St} {f : Nat} {W : World} {l : List α} {st : St} {x : Xs} (h : LsR c w x0 st0 s0 one mny sep tk X f W l st x false) : X = (l, st) ∧ (X.2.er = none → Ml st0 X.2 (joinT (tx sep) (X.1.map tk)) s0 x.ms) := by
  have e := h.eq
  simp only [Bool.false_eq_true, if_false] at e
  subst e
  refine ⟨rfl, fun e => ?_⟩
  have := h.ok e
  unfold tkk at this
  simpa using this
theorem LsR.pos {α : Type} {c : Cf} {w : World} {x0 : Xs} {st0 : St} {s0 : List Nat} {one : St → α × St} {mny : Nat → St → St} {sep : ByteArray} {tk : α → List TT} {X : List α × St} {f : Nat} {W : World} {l : List α} {st : St} {x : Xs} (h : LsR c w x0 st0 s0 one mny sep tk X f W l st x true) : ∃ g, f = g + 1 := by
  have h1 := h.fuel rfl
  have h2 := RF.nx h.rx
  exact ⟨f - 1, by omega⟩
theorem many_ne {ts : List Tk} {most n : Nat} {st : St} (h : n ≠ most) : many ts most n st = st := by
  unfold many
  rw [if_neg h]
theorem many_or {ts : List Tk} {most n : Nat} {st : St} : many ts most n st = st ∨ (many ts most n st).er ≠ none := by
  unfold many
  split
  · exact Or.inr (fun e => fail_nn e)
  · exact Or.inl rfl
theorem many_dp {ts : List Tk} {most n : Nat} {st : St} : (many ts most n st).dp = st.dp := by
  unfold many
  split <;> rfl
theorem many_nx {ts : List Tk} {most n : Nat} {st : St} (h : st.nx < ts.length) : st.nx ≤ (many ts most n st).nx := (onw_many h most n).nx
end Go.Proofs.YtfkeddkfegaeiaaGreatDoor
namespace Go.Proofs.YtfkeddkfegaeiaaGreatDoor
open Go.RowKit

theorem row_gx {c : Cf} {w w' : World} {x x' : Xs} {base : Nat} {e : TypeId} {size : Nat} {v : Value} {n : Nat} {xs : List Value} (h : w.ownsRow base e size v n xs) (hg : GX c w x w' x') (ho : ∀ b, v.ownBlock = some b → Off c x b) : w'.ownsRow base e size v n xs := by
  refine ⟨h.1, h.2.imp id ?_⟩
  rintro ⟨g, cap, cur, hv, hgb, hh, r⟩
  exact ⟨g, cap, cur, hv, hgb, (hg.block (lt_of_heap hh) (ho g (by rw [hv]; rfl))).trans hh, r⟩

/-- exprs in the making: the row v holds so many numbers. -/
structure XlR (c : Cf) (w : World) (x0 : Xs) (st0 : St) (X : List (List Nd) × St) (f : Nat) (W : World) (v : Value) (l : List (List Nd)) (st : St) (x : Xs) (more : Bool) : Prop where
  ls : LsR c w x0 st0 x0.ms (exprP c.ts) (many c.ts 1000) ⟨#[44]⟩ tkE X f W l st x more
  row : ∃ ys, W.ownsRow w.heap.size 3 1 v l.length ys
  off : ∀ b, v.ownBlock = some b → Off c x b
  bnd : more = true → 2 * l.length ≤ st.nx

set_option maxRecDepth 100000 in
set_option maxHeartbeats 1000000 in
theorem rexprs_x (c : Cf) (hw : Lw c.ts) (hN : NumOk c.ts) (w : World) (st : St) (x : Xs) (h : RX c w st x) (hd : st.dp = 0) :
    Calls Tryz.prog 168 #[.pointer (some ⟨c.rb, 0, none⟩)] w fun e w' => ∃ (ad : Option Addr) (n cp : Nat) (x' : Xs), e = .returned (.slice ad n cp) ∧ RX c w' (listP c.ts (exprP c.ts) 1000 st).2 x' ∧ GX c w x w' x' ∧ ((listP c.ts (exprP c.ts) 1000 st).2.er = none → Ml st (listP c.ts (exprP c.ts) 1000 st).2 (commas ((listP c.ts (exprP c.ts) 1000 st).1.map tkE)) x.ms x'.ms) := by
  obtain ⟨i0, hi, hinf⟩ := Option.map_eq_some_iff.1 infoIn
  simp only [Prod.mk.injEq] at hinf
  obtain ⟨hz0, hz1, hz2⟩ := hinf
  have HI := hide hi
  have HZ0 := hide hz0
  have HZ1 := hide hz1
  have HZ2 := hide hz2
  clear hi hz0 hz1 hz2
  obtain ⟨X, HX⟩ : ∃ X, Hid (X = listP c.ts (exprP c.ts) 1000 st) := ⟨_, rfl⟩
  rw [← unhide HX]
  have HF := hide (LsR.first (exprP c.ts) (many c.ts 1000) ⟨#[44]⟩ tkE h (GX.refl c w x) hd (many_ne (by decide)))
  rw [show gLoop c.ts (exprP c.ts) (many c.ts 1000) ⟨#[44]⟩ c.ts.length [(exprP c.ts st).1] (exprP c.ts st).2 = X by rw [unhide HX]; unfold listP; rw [gLoop_list]] at HF
  have hlen := RF.len h
  have HE := hide (rexpr_x c hw hN)
  have HW := hide hw
  clear h hN
  go_enter Tryz.func168, Tryz.ntmps168
  go_wp2_with fail
  go_loopg [3, 4] c.ts.length (fun f v m wr => ∃ l st' x' more, m = .bool more ∧ XlR c w x st X f wr v l st' x' more)
  case atStart => exact ⟨[], st, x, true, rfl, ⟨unhide HF, ⟨[], World.ownsRow_nil _ _ _ _⟩, (fun b e => by cases e), (fun _ => Nat.zero_le _)⟩⟩
  case round =>
    obtain ⟨l, st', x', more, rfl, hrel⟩ := hrel
    have HRL := hide hrel
    clear HF
    cases more with
    | false =>
      obtain ⟨ys, hrow⟩ := hrel.row
      obtain ⟨ad, cp, hv⟩ := row_slice hrow
      subst hv
      clear hrow hrel
      go_wp2
      go_ret
      have hdn := (unhide HRL).ls.done
      refine ⟨_, _, _, x', rfl, by rw [hdn.1]; exact (unhide HRL).ls.rx, (unhide HRL).ls.gx, fun e => ?_⟩
      rw [← joinT_commas]
      exact hdn.2 e
    | true =>
      obtain ⟨gk, rfl⟩ := hrel.ls.pos
      have hrx := hrel.ls.rx
      have hnx := RF.nx hrx
      have HO := hide (onw_exprP (unhide HW).last st' hnx)
      have HG := hide (grow_exprP (unhide HW).last st' hnx)
      obtain ⟨ys, hrow⟩ := hrel.row
      obtain ⟨ad, cp, hv⟩ := row_slice hrow
      subst hv
      have HROW := hide hrow
      have HC := hide ((unhide HE) wr st' x' hrx hrel.ls.dp)
      have HM := hide (fun s0 s1 he e => ml_expr (unhide HW) (st := st') (s0 := s0) (s1 := s1) hnx he e)
      have hbnd := hrel.bnd rfl
      clear hrow hrel hrx
      generalize hY : exprP c.ts st' = Y at *
      have HY := hide hY
      clear hY
      go_wp2_with fail
      refine (unhide HC).mono ?_
      rintro e w1 ⟨n1, x1, rfl, hr1, hg1, hm1⟩
      have HR1 := hide hr1
      have HG1 := hide hg1
      have HM1 := hide hm1
      have HROW1 := hide (row_gx (unhide HROW) hg1 (unhide HRL).off)
      have z1 := hg1.size
      have hb1 := (unhide HRL).ls.gx.size
      have hl1 : l.length ≤ 1001 := by omega
      have HOFF1 : Hid (∀ b, (Value.slice ad l.length cp).ownBlock = some b → Off c x1 b) := fun b e => hg1.off ((unhide HROW).lt b e).2 ((unhide HRL).off b e)
      clear hr1 hg1 hm1 HC
      go_wp2_with (at_builtin; refine wpList_append_lies _ rfl _ _ 32 rfl w.heap.size 3 i0 (.int .i64 0) 1 8 Tryz.underlying32 (unhide HI) (unhide HZ0) (unhide HZ1) (unhide HZ2) rfl (by decide) _ _ _ rfl ((unhide HROW1).alloc _) ⟨w1.heap.size, 0, none⟩ 1 1 [.int .i64 n1] rfl rfl ?c1 ?c2 (by decide) ?c3 ?c4 ?c5 _ rfl ?_)
      case c1 => exact cell_new rfl
      case c2 => exact one1 _
      case c3 => unfold maxLen; omega
      case c4 => omega
      case c5 => simp; omega
      intro g cap w2 ho hg hat _
      have HO2 := hide ho
      have HR2 : Hid (RX c w2 Y.2 x1) := ((unhide HR1).keep ((Below.refl _ _).alloc (Nat.le_refl _) _)).grown hg (unhide HOFF1)
      have HG2 : Hid (GX c w x w2 x1) := (((unhide HRL).ls.gx.trans (unhide HG1)).below ((Below.refl _ _).alloc (Nat.le_refl _) _)).grown hg (fun b e => ((unhide HROW).lt b e).1)
      have HOF2 : Hid (∀ b, (Value.slice (some ⟨g, 0, none⟩) (l.length + 1) cap).ownBlock = some b → Off c x1 b) := fun b e => by
        have e2 : g = b := by simpa [Value.ownBlock] using e
        subst e2
        rcases hat with q | q
        · exact (unhide HOFF1) g q
        · exact (unhide HR1).off (by rw [q]; simp)
      clear ho hg hat
      go_wp2_with fail
      refine (rmay_x c _ Y.2 x1 ⟨#[44]⟩ (by exact unhide HR2)).mono ?_
      rintro e w3 ⟨x2, rfl, hr3, hg3, hm3⟩
      have HR3 := hide hr3
      have HG3 := hide hg3
      have HM3 := hide hm3
      have HROW3 := hide (row_gx (unhide HO2) hg3 (unhide HOF2))
      have HOF3 : Hid (∀ b, (Value.slice (some ⟨g, 0, none⟩) (l.length + 1) cap).ownBlock = some b → Off c x2 b) := fun b e => hg3.off ((unhide HO2).lt b e).2 ((unhide HOF2) b e)
      clear hr3 hg3 hm3
      go_wp2
      go_roundg gk
      case measure => simp
      case rel =>
        obtain rfl := unhide HY
        refine ⟨l ++ [(exprP c.ts st').1], takeS c.ts (exprP c.ts st').2 [⟨#[44]⟩], x2, hitP c.ts (exprP c.ts st').2 [⟨#[44]⟩], rfl, ⟨?_, ⟨_, by rw [List.length_append]; exact unhide HROW3⟩, unhide HOF3, fun hh => ?_⟩⟩
        · exact (unhide HRL).ls.round (S := st') (many_ne (by omega)).symm (Or.inl rfl) rfl (Nat.le_refl _) (unhide HO) ((unhide HG2).trans (unhide HG3)) (unhide HR3) (fun e => by
            rw [unhide HM3]
            exact (unhide HM) _ _ e ((unhide HM1) e))
        · have he := RF.okHit (unhide HR2) hh
          have h1 := (unhide HG) he
          unfold takeS
          rw [if_pos hh, List.length_append]
          show 2 * (l.length + 1) ≤ (exprP c.ts st').2.nx + 1
          omega
end Go.Proofs.YtfkeddkfegaeiaaGreatDoor
