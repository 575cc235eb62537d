/-
  Part 10.
-/
import Derived.Test.YtfkeddkfegaeiaaGreatDoorMvLsX
import Derived.Deep.CutRange
namespace Go.Proofs.YtfkeddkfegaeiaaGreatDoor
open Go.RowKit
/-- the tokens of an expr, off its nodes (from the right: a pile of what is told). -/
def tkStep (n : Nd) (S : List (List TT)) : List (List TT) := match n.tag with
  | 0 => [tx n.s1] :: S
  | 1 => match S with
    | a :: S' => ((⟨#[45]⟩, true) :: a) :: S'
    | [] => []
  | 2 => [tx n.s1, tx ⟨#[46]⟩, tx n.s2] :: S
  | 3 => match S with
    | a :: S' => (tx ⟨#[40]⟩ :: (a ++ [tx ⟨#[41]⟩])) :: S'
    | [] => []
  | _ => match S with
    | a :: b :: S' => (a ++ tx n.s1 :: b) :: S'
    | _ => []
def tkS (l : List Nd) (S : List (List TT)) : List (List TT) := l.foldr tkStep S
def tkE (l : List Nd) : List TT := (tkS l []).headD []
def WfE (l : List Nd) : Prop := ∀ S, tkS l S = tkE l :: S
theorem tkS_append (k m : List Nd) (S : List (List TT)) : tkS (k ++ m) S = tkS k (tkS m S) := List.foldr_append
theorem wf_of {l : List Nd} {t : List TT} (h : ∀ S, tkS l S = t :: S) : WfE l ∧ tkE l = t := by
  have e : tkE l = t := by unfold tkE; rw [h]; rfl
  exact ⟨fun S => by rw [h, e], e⟩
theorem wf_num (t : Tk) : WfE [ndNum t] ∧ tkE [ndNum t] = [tx t.text] := wf_of fun _ => rfl
theorem wf_col (t u : Tk) : WfE [ndCol t u] ∧ tkE [ndCol t u] = [tx t.text, tx ⟨#[46]⟩, tx u.text] := wf_of fun _ => rfl
theorem wf_minus {k : List Nd} (h : WfE k) (p : Nat) : WfE (ndMinus p :: k) ∧ tkE (ndMinus p :: k) = (⟨#[45]⟩, true) :: tkE k := wf_of fun S => by
  show tkStep (ndMinus p) (tkS k S) = _
  rw [h S]; rfl
theorem wf_br {k : List Nd} (h : WfE k) (p : Nat) : WfE (ndBr p :: k) ∧ tkE (ndBr p :: k) = tx ⟨#[40]⟩ :: (tkE k ++ [tx ⟨#[41]⟩]) := wf_of fun S => by
  show tkStep (ndBr p) (tkS k S) = _
  rw [h S]; rfl
theorem wf_pair {k m : List Nd} (h : WfE k) (h' : WfE m) (p : Nat) (sg : ByteArray) : WfE (ndPair p sg :: (k ++ m)) ∧ tkE (ndPair p sg :: (k ++ m)) = tkE k ++ tx sg :: tkE m := wf_of fun S => by
  show tkStep (ndPair p sg) (tkS (k ++ m) S) = _
  rw [tkS_append, h' S, h]; rfl
theorem ExP.wf {w : World} {P : Nat → Prop} : ∀ (n : Nat) (v : Value) (l : List Nd), ExP w P n v l → WfE l
  | 0, _, _, h => h.elim
  | n + 1, v, l, h => by
    rcases h with ⟨b, t, _, _, _, rfl⟩ | ⟨b, p, x, k, _, _, _, h3, rfl⟩ | ⟨b, t, u, _, _, _, rfl⟩ | ⟨b, p, x, k, _, _, _, h3, rfl⟩ | ⟨b, p, x, sg, y, k, m, _, _, _, h3, h4, rfl⟩
    · exact (wf_num t).1
    · exact (wf_minus (ExP.wf n x k h3) p).1
    · exact (wf_col t u).1
    · exact (wf_br (ExP.wf n x k h3) p).1
    · exact (wf_pair (ExP.wf n x k h3) (ExP.wf n y m h4) p sg).1
def Told (tl : Nat) (w : World) (o : Out) (l : List TT) (e : Ending) (w' : World) : Prop := e = .returned (.tuple #[]) ∧ TL tl w' (layAll o l).1 (layAll o l).2 ∧ TSt tl w w'
def big : Nat := 1099511627776
theorem TL.alloc {tl : Nat} {w : World} {o : List UInt8} {g : Bool} (h : TL tl w o g) (x : Obj) : TL tl (w.alloc x) o g := by
  obtain ⟨p, v, hp, hb, ho⟩ := h
  exact ⟨p, v, hp, heap_prev hb, ho.alloc x⟩
theorem TL.drew {tl : Nat} {w : World} {o : List UInt8} {g : Bool} (h : TL tl w o g) : TL tl w.drew o g := h
theorem Told.next {tl : Nat} {w w1 w2 : World} {o : Out} {l m : List TT} {e e' : Ending} (h : Told tl w o l e w1) (k : Told tl w1 (layAll o l) m e' w2) : Told tl w o (l ++ m) e' w2 :=
  ⟨k.1, by rw [layAll_append]; exact k.2.1, h.2.2.trans k.2.2⟩
theorem Told.len {tl : Nat} {w w1 : World} {o : Out} {l m : List TT} {e : Ending} (_ : Told tl w o l e w1) (hl : o.1.length + cost (l ++ m) ≤ big) : (layAll o l).1.length + cost m ≤ big := by
  have := layAll_len o l
  rw [cost_append] at hl
  omega
theorem TSt.nodes {tl lo : Nat} {w w' : World} (h : TSt tl w w') : NodeKeep lo w w' := fun k cs t _ hk ht => h.keep k cs t (Nat.zero_le _) hk (by
  unfold tkT
  cases h1 : (t == 5) with
  | true => rw [beq_iff_eq.1 h1] at ht; cases ht
  | false =>
    cases h2 : (t == 93) with
    | true => rw [beq_iff_eq.1 h2] at ht; cases ht
    | false => rfl)
theorem ExP.ts {tl : Nat} {w w' : World} {P : Nat → Prop} {n : Nat} {v : Value} {l : List Nd} (h : ExP w P n v l) (ht : TSt tl w w') : ExP w' P n v l := ExP.keep (fun _ h => h) (fun k cs t _ hk hn => ht.nodes (lo := 0) k cs t (Nat.zero_le _) hk hn) n v l h
theorem no_Minus_Number (a : Option Addr) (w : World) : Sem.run Tryz.prog (Instr.typeAssert (.iface 392 (.pointer a)) 248 386 true) w = .ok (.tuple #[.pointer none, .bool false]) w := by kernel_rfl
theorem no_Column_Number (a : Option Addr) (w : World) : Sem.run Tryz.prog (Instr.typeAssert (.iface 395 (.pointer a)) 248 386 true) w = .ok (.tuple #[.pointer none, .bool false]) w := by kernel_rfl
theorem no_Column_Minus (a : Option Addr) (w : World) : Sem.run Tryz.prog (Instr.typeAssert (.iface 395 (.pointer a)) 248 392 true) w = .ok (.tuple #[.pointer none, .bool false]) w := by kernel_rfl
theorem no_Bracket_Number (a : Option Addr) (w : World) : Sem.run Tryz.prog (Instr.typeAssert (.iface 398 (.pointer a)) 248 386 true) w = .ok (.tuple #[.pointer none, .bool false]) w := by kernel_rfl
theorem no_Bracket_Minus (a : Option Addr) (w : World) : Sem.run Tryz.prog (Instr.typeAssert (.iface 398 (.pointer a)) 248 392 true) w = .ok (.tuple #[.pointer none, .bool false]) w := by kernel_rfl
theorem no_Bracket_Column (a : Option Addr) (w : World) : Sem.run Tryz.prog (Instr.typeAssert (.iface 398 (.pointer a)) 248 395 true) w = .ok (.tuple #[.pointer none, .bool false]) w := by kernel_rfl
theorem no_Pair_Number (a : Option Addr) (w : World) : Sem.run Tryz.prog (Instr.typeAssert (.iface 265 (.pointer a)) 248 386 true) w = .ok (.tuple #[.pointer none, .bool false]) w := by kernel_rfl
theorem no_Pair_Minus (a : Option Addr) (w : World) : Sem.run Tryz.prog (Instr.typeAssert (.iface 265 (.pointer a)) 248 392 true) w = .ok (.tuple #[.pointer none, .bool false]) w := by kernel_rfl
theorem no_Pair_Column (a : Option Addr) (w : World) : Sem.run Tryz.prog (Instr.typeAssert (.iface 265 (.pointer a)) 248 395 true) w = .ok (.tuple #[.pointer none, .bool false]) w := by kernel_rfl
theorem no_Pair_Bracket (a : Option Addr) (w : World) : Sem.run Tryz.prog (Instr.typeAssert (.iface 265 (.pointer a)) 248 398 true) w = .ok (.tuple #[.pointer none, .bool false]) w := by kernel_rfl
theorem yes_Number (a : Option Addr) (w : World) : Sem.run Tryz.prog (Instr.typeAssert (.iface 386 (.pointer a)) 248 386 true) w = .ok (.tuple #[.pointer a, .bool true]) w := by kernel_rfl
theorem yes_Minus (a : Option Addr) (w : World) : Sem.run Tryz.prog (Instr.typeAssert (.iface 392 (.pointer a)) 248 392 true) w = .ok (.tuple #[.pointer a, .bool true]) w := by kernel_rfl
theorem yes_Column (a : Option Addr) (w : World) : Sem.run Tryz.prog (Instr.typeAssert (.iface 395 (.pointer a)) 248 395 true) w = .ok (.tuple #[.pointer a, .bool true]) w := by kernel_rfl
theorem yes_Bracket (a : Option Addr) (w : World) : Sem.run Tryz.prog (Instr.typeAssert (.iface 398 (.pointer a)) 248 398 true) w = .ok (.tuple #[.pointer a, .bool true]) w := by kernel_rfl
theorem yes_Pair (a : Option Addr) (w : World) : Sem.run Tryz.prog (Instr.typeAssert (.iface 265 (.pointer a)) 248 265 true) w = .ok (.tuple #[.pointer a, .bool true]) w := by kernel_rfl
end Go.Proofs.YtfkeddkfegaeiaaGreatDoor
namespace Go.Proofs.YtfkeddkfegaeiaaGreatDoor
open Go.RowKit
/-- window's own box, in the making. -/
structure WS (c : Cx) (w : World) (p : Nat) (call : ByteArray) (W : World) (st : St) (ev o a d r : Value) : Prop where
  rs : RS c W st ev
  kp : Kp c.rb w W
  box : W.heap[w.heap.size + 1]? = some (.cells #[.int .i64 p, .string call, o, a, d, r] 388 (0, 0))
  old : c.rb < w.heap.size ∧ c.tb < w.heap.size ∧ c.B ≤ w.heap.size
/-- behind a call. -/
theorem WS.step {c : Cx} {w : World} {p : Nat} {call : ByteArray} {W W' : World} {st st' : St} {ev ev' o a d r : Value} (h : WS c w p call W st ev o a d r) (hs : RS c W' st' ev') (hk : Kp c.rb W W') : WS c w p call W' st' ev' o a d r :=
  ⟨hs, h.kp.trans hk, (hk.block _ (lt_of_heap h.box) (by have := h.old.1; omega)).trans h.box, h.old⟩
theorem WS.keeps {c : Cx} {w : World} {p : Nat} {call : ByteArray} {W W' : World} {st : St} {ev o a d r : Value} (h : WS c w p call W st ev o a d r) (hk : Kp c.rb W W') : Keeps winT (w.heap.size + 2) W W' := h.rs.keeps hk rfl
/-- a store into the box. -/
theorem WS.set {c : Cx} {w : World} {p : Nat} {call : ByteArray} {W : World} {st : St} {ev o a d r o' a' d' r' u : Value} {i : Nat} (h : WS c w p call W st ev o a d r)
    (he : #[.int .i64 p, .string call, o, a, d, r].setIfInBounds i u = #[.int .i64 p, .string call, o', a', d', r']) : WS c w p call (W.setCell ⟨w.heap.size + 1, i, none⟩ u) st ev o' a' d' r' := by
  have h1 := h.old
  refine ⟨h.rs.kpb ((Kp.refl _ _).setCell _ _) (by omega) (by omega) (by omega) (fun p e => by rw [h.box]; simp), h.kp.setNew (by show w.heap.size ≤ w.heap.size + 1; omega) _, ?_, h.old⟩
  rw [heap_set h.box, he]
theorem WS.setKeeps {w W : World} {i : Nat} {u : Value} : Keeps winT (w.heap.size + 2) W (W.setCell ⟨w.heap.size + 1, i, none⟩ u) := Keeps.ofKp ((Kp.refl (w.heap.size + 1) W).setCell i u) (Or.inl (by omega))
theorem WS.lo {c : Cx} {w : World} {p : Nat} {call : ByteArray} {W : World} {st : St} {ev o a d r : Value} (h : WS c w p call W st ev o a d r) : w.heap.size + 2 ≤ W.heap.size := by have := lt_of_heap h.box; omega
theorem IsI.one {v : Value} (h : IsI v) : v.oneCell' = true := by rcases h with rfl | ⟨q, z, rfl⟩ <;> rfl
set_option maxRecDepth 100000 in
set_option maxHeartbeats 2000000 in
theorem window_any (c : Cx) (w : World) (st : St) (ev : Value) (p : Nat) (call : ByteArray) (X : WinA × St) (h : RS c w st ev) (hd0 : st.dp = 0) (HX : Hid (X = winP c.ts st p call)) :
    Calls Tryz.prog 217 #[.pointer (some ⟨c.rb, 0, none⟩), .agg #[.int .i64 p], .string call] w fun e w' => ∃ b, e = .returned (.pointer (some ⟨b, 0, none⟩)) ∧ Aft c w X.2 w' ∧ (X.2.er = none → WinOk w' w.heap.size (.pointer (some ⟨b, 0, none⟩)) X.1) := by
  have HL := hide h.last
  have hold : c.rb < w.heap.size ∧ c.tb < w.heap.size ∧ c.B ≤ w.heap.size := ⟨lt_of_heap h.reader, by obtain ⟨cur, e1, _⟩ := h.tokens; exact lt_of_heap e1, h.env.size⟩
  have HOLD := hide hold
  have HH := hide h
  clear h hold
  have hON1 := onw_want (unhide HL) (unhide HH).nx [⟨#[40]⟩]
  obtain ⟨O, HO⟩ : ∃ O, Hid (O = wOf c.ts st call) := ⟨_, rfl⟩
  have HONO := hide (onw_wOf (unhide HL) (unhide HH).nx call)
  rw [← unhide HO] at HONO
  have HON1 := hide hON1
  clear hON1
  go_enter Tryz.func217, Tryz.ntmps217
  go_wp2_with fail
  refine (want_any c _ st ev (w.heap.size + 1 + 1) [⟨#[40]⟩] (by exact (((unhide HH).alloc _).alloc _).alloc _) (by exact texts_new (by simp) (fun j hj => by match j, hj with | 0, _ => rfl)) (by simp) (nonE_ok (by decide))).mono ?_
  rintro e w1 ⟨rfl, ⟨ev1, hs⟩, hk⟩
  have hws : WS c w p call w1 (wantP c.ts st [⟨#[40]⟩]) ev1 .nilIface (.slice none 0 0) (.slice none 0 0) (.pointer none) :=
    ⟨hs, ((((Kp.refl c.rb w).alloc _).alloc _).alloc _).trans hk, (hk.block (w.heap.size + 1) (by simp) (by have := (unhide HOLD).1; omega)).trans (heap_prev (heap_last (by simp))), unhide HOLD⟩
  have HW1 := hide hws
  clear hs hk hws
  generalize hq : wantP c.ts st [⟨#[40]⟩] = st1 at *
  have HQ1 := hide hq
  clear hq
  have hd1 : st1.dp = 0 := (unhide HON1).dp.trans hd0
  go_upto_region 3 with (fail)
  go_cut [20] from 15 to 20 (fun s20 W => W = w1 ∧ s20 = .bool (takesOf call))
  case first =>
    cases hA : (call.toList == [114, 111, 119, 95, 110, 117, 109, 98, 101, 114]) with
    | true =>
      go_wp2_with fail
      go_meet
      case rel => exact ⟨rfl, by unfold takesOf; rw [hA]; rfl⟩
    | false =>
      cases hB : (call.toList == [99, 111, 117, 110, 116]) with
      | true =>
        go_wp2_with fail
        go_meet
        case rel => exact ⟨rfl, by unfold takesOf; rw [hA, hB]; rfl⟩
      | false =>
        go_wp2_with fail
        go_meet
        case rel => exact ⟨rfl, by unfold takesOf; rw [hA, hB]; rfl⟩
  case rest =>
    obtain ⟨rfl, rfl⟩ := hcut
    go_upto_if 20 with (fail)
    go_cut [] from 20 to 25 (fun W => ∃ ev2 o, WS c w p call W O.2 ev2 o (.slice none 0 0) (.slice none 0 0) (.pointer none) ∧ (O.2.er = none → OfOk W (w.heap.size + 2) o O.1))
    case first =>
      cases ht : takesOf call with
      | false =>
        have HO' : Hid (O = (none, st1)) := by have := unhide HO; unfold wOf at this; rw [ht, unhide HQ1] at this; exact this
        clear ht
        go_wp2_with fail
        go_meet
        case rel =>
          rw [unhide HO']
          exact ⟨ev1, .nilIface, unhide HW1, fun _ => rfl⟩
      | true =>
        have HO' : Hid (O = (some (exprP c.ts st1).1, (exprP c.ts st1).2)) := by have := unhide HO; unfold wOf at this; rw [ht, unhide HQ1] at this; exact this
        clear ht
        go_wp2_with fail
        refine (exprP_spec c (unhide HL) _ st1 ev1 (by exact (unhide HW1).rs) hd1).mono ?_
        rintro e w2 ⟨xo, rfl, hxo, ⟨⟨ev2, hs⟩, hk⟩, hex⟩
        have hws2 := (unhide HW1).step hs hk
        have HW2 := hide hws2
        obtain ⟨k2, f2⟩ := blk hws2.box
        have z2 := lt_of_heap hws2.box
        have HEX := hide hex
        clear hs hk hws2 hex
        rcases hxo with rfl | ⟨uq, zq, rfl⟩
        all_goals
          go_wp2_with fail
          go_meet
          case rel =>
            rw [unhide HO']
            refine ⟨ev2, _, (unhide HW2).set rfl, fun he => ?_⟩
            exact OfOk.keep (o := some _) ((unhide HEX) he) (unhide HW1).lo (WS.setKeeps.mono (fun _ h => h) (unhide HW1).lo)
    case rest =>
      obtain ⟨ev2, o, hws, hof⟩ := hcut
      have HW2 := hide hws
      have HOF := hide hof
      clear hws hof HW1
      go_wp2_with fail
      refine (want_any c _ O.2 ev2 wc.heap.size [⟨#[41]⟩] (by exact (unhide HW2).rs.alloc _) (by exact texts_new rfl (fun j hj => by match j, hj with | 0, _ => rfl)) (by simp) (nonE_ok (by decide))).mono ?_
      rintro e w3 ⟨rfl, ⟨ev3, hs⟩, hk⟩
      have HW3 := hide ((unhide HW2).step hs (((Kp.refl c.rb wc).alloc _).trans hk))
      have HON3 := hide (onw_want (unhide HL) (unhide HW2).rs.nx [⟨#[41]⟩])
      have KE3 : Hid (Keeps winT (w.heap.size + 2) wc w3) := (unhide HW2).keeps (((Kp.refl c.rb wc).alloc _).trans hk)
      clear hs hk
      generalize hq : wantP c.ts O.2 [⟨#[41]⟩] = st3 at *
      have HQ3 := hide hq
      clear hq
      go_wp2_with fail
      refine (want_any c _ st3 ev3 w3.heap.size [⟨#[111, 118, 101, 114]⟩] (by exact (unhide HW3).rs.alloc _) (by exact texts_new rfl (fun j hj => by match j, hj with | 0, _ => rfl)) (by simp) (nonE_ok (by decide))).mono ?_
      rintro e w4 ⟨rfl, ⟨ev4, hs⟩, hk⟩
      have HW4 := hide ((unhide HW3).step hs (((Kp.refl c.rb w3).alloc _).trans hk))
      have HON4 := hide (onw_want (unhide HL) (unhide HW3).rs.nx [⟨#[111, 118, 101, 114]⟩])
      have KE4 : Hid (Keeps winT (w.heap.size + 2) w3 w4) := (unhide HW3).keeps (((Kp.refl c.rb w3).alloc _).trans hk)
      clear hs hk
      generalize hq : wantP c.ts st3 [⟨#[111, 118, 101, 114]⟩] = st4 at *
      have HQ4 := hide hq
      clear hq
      go_wp2_with fail
      refine (want_any c _ st4 ev4 w4.heap.size [⟨#[40]⟩] (by exact (unhide HW4).rs.alloc _) (by exact texts_new rfl (fun j hj => by match j, hj with | 0, _ => rfl)) (by simp) (nonE_ok (by decide))).mono ?_
      rintro e w5 ⟨rfl, ⟨ev5, hs⟩, hk⟩
      have HW5 := hide ((unhide HW4).step hs (((Kp.refl c.rb w4).alloc _).trans hk))
      have HON5 := hide (onw_want (unhide HL) (unhide HW4).rs.nx [⟨#[40]⟩])
      have KE5 : Hid (Keeps winT (w.heap.size + 2) w4 w5) := (unhide HW4).keeps (((Kp.refl c.rb w4).alloc _).trans hk)
      clear hs hk
      generalize hq : wantP c.ts st4 [⟨#[40]⟩] = st5 at *
      have HQ5 := hide hq
      clear hq
      go_wp2_with fail
      refine (behind_any c _ st5 ev5 ⟨#[112, 97, 114, 116, 105, 116, 105, 111, 110]⟩ _ (by exact (unhide HW5).rs) (((unhide HON5).dp.trans ((unhide HON4).dp.trans (unhide HON3).dp)).trans ((unhide HONO).dp.trans hd0)) (by rw [ByteArray.toList_eq]; rfl) rfl).mono ?_
      rintro e w6 ⟨vp, ap, lp, cp, rfl, hv, ⟨⟨ev6, hs⟩, hk⟩, hx⟩
      subst hv
      have HW6 := hide ((unhide HW5).step hs hk)
      have HON6 := hide (onw_beh (unhide HL) (unhide HW5).rs.nx ⟨#[112, 97, 114, 116, 105, 116, 105, 111, 110]⟩)
      have KE6 : Hid (Keeps winT (w.heap.size + 2) w5 w6) := (unhide HW5).keeps hk
      have HXp := hide hx
      have HLOp := hide (unhide HW5).lo
      clear hs hk hx
      generalize hq : behP c.ts st5 ⟨#[112, 97, 114, 116, 105, 116, 105, 111, 110]⟩ = rp at *
      have HQ6 := hide hq
      clear hq
      obtain ⟨k6, f6⟩ := blk (unhide HW6).box
      have z6 := lt_of_heap (unhide HW6).box
      go_upto_region 9 with (fail)
      have HW6s := hide ((unhide HW6).set (i := 3) (u := .slice ap lp cp) rfl)
      have KE6s : Hid (Keeps winT (w.heap.size + 2) w6 (w6.setCell ⟨w.heap.size + 1, 3, none⟩ (.slice ap lp cp))) := WS.setKeeps
      clear k6 f6 z6
      generalize w6.setCell ⟨w.heap.size + 1, 3, none⟩ (.slice ap lp cp) = w6s at *
      go_wp2_with fail
      refine (behind_any c _ rp.2 ev6 ⟨#[111, 114, 100, 101, 114]⟩ _ (by exact (unhide HW6s).rs) ((unhide HON6).dp.trans (((unhide HON5).dp.trans ((unhide HON4).dp.trans (unhide HON3).dp)).trans ((unhide HONO).dp.trans hd0))) (by rw [ByteArray.toList_eq]; rfl) rfl).mono ?_
      rintro e w7 ⟨vo, ao, lo, co, rfl, hv, ⟨⟨ev7, hs⟩, hk⟩, hx⟩
      subst hv
      have HW7 := hide ((unhide HW6s).step hs hk)
      have HON7 := hide (onw_beh (unhide HL) (unhide HW6s).rs.nx ⟨#[111, 114, 100, 101, 114]⟩)
      have KE7 : Hid (Keeps winT (w.heap.size + 2) w6s w7) := (unhide HW6s).keeps hk
      have HXo := hide hx
      have HLOo := hide (unhide HW6s).lo
      clear hs hk hx
      generalize hq : behP c.ts rp.2 ⟨#[111, 114, 100, 101, 114]⟩ = ro at *
      have HQ7 := hide hq
      clear hq
      obtain ⟨k7, f7⟩ := blk (unhide HW7).box
      have z7 := lt_of_heap (unhide HW7).box
      go_upto_region 10 with (fail)
      have HW7s := hide ((unhide HW7).set (i := 4) (u := .slice ao lo co) rfl)
      have KE7s : Hid (Keeps winT (w.heap.size + 2) w7 (w7.setCell ⟨w.heap.size + 1, 4, none⟩ (.slice ao lo co))) := WS.setKeeps
      clear k7 f7 z7
      generalize w7.setCell ⟨w.heap.size + 1, 4, none⟩ (.slice ao lo co) = w7s at *
      have HXE : Hid (X = (⟨p, call, O.1, rp.1, ro.1, (wRows c.ts ro.2).1⟩, wantP c.ts (wRows c.ts ro.2).2 [⟨#[41]⟩])) := by
        rw [unhide HX]
        unfold Hid winP wPart wOrd wOpen
        dsimp only
        rw [← unhide HO, unhide HQ3, unhide HQ4, unhide HQ5, unhide HQ6, unhide HQ7]
      cases hh : hitP c.ts ro.2 [⟨#[114, 111, 119, 115]⟩] with
      | false =>
        have HR : Hid (wRows c.ts ro.2 = (none, ro.2)) := by unfold Hid wRows; rw [hh]; rfl
        have HHIT := hide hh
        clear hh
        go_wp2_with fail
        refine (take_no c _ ro.2 ev7 ⟨#[114, 111, 119, 115]⟩ (by exact (unhide HW7s).rs) (by exact unhide HHIT)).mono ?_
        rintro e w8 ⟨rfl, hb⟩
        have HW8 := hide ((unhide HW7s).step ((unhide HW7s).rs.keep hb) (Kp.ofBelow hb))
        have KE8 : Hid (Keeps winT (w.heap.size + 2) w7s w8) := Keeps.ofBelow hb
        clear hb
        go_wp2_with fail
        refine (want_any c _ ro.2 ev7 w8.heap.size [⟨#[41]⟩] (by exact (unhide HW8).rs.alloc _) (by exact texts_new rfl (fun j hj => by match j, hj with | 0, _ => rfl)) (by simp) (nonE_ok (by decide))).mono ?_
        rintro e w9 ⟨rfl, ⟨ev9, hs⟩, hk⟩
        have HW9 := hide ((unhide HW8).step hs (((Kp.refl c.rb w8).alloc _).trans hk))
        have HON9 := hide (onw_want (unhide HL) (unhide HW8).rs.nx [⟨#[41]⟩])
        have KE9 : Hid (Keeps winT (w.heap.size + 2) w8 w9) := (unhide HW8).keeps (((Kp.refl c.rb w8).alloc _).trans hk)
        clear hs hk
        go_wp2
        go_ret
        rw [unhide HXE, unhide HR]
        refine ⟨w.heap.size + 1, rfl, ⟨⟨ev9, (unhide HW9).rs⟩, (unhide HW9).kp⟩, fun he => ?_⟩
        have e7 := (unhide HON9).er he
        have e6 := (unhide HON7).er e7
        have e5 := (unhide HON6).er e6
        have e2 := (unhide HON3).er ((unhide HON4).er ((unhide HON5).er e5))
        have kF := (unhide KE8).trans (unhide KE9)
        have k7 := (unhide KE7s).trans kF
        have k6 := (unhide KE6s).trans ((unhide KE7).trans k7)
        have k2 := (unhide KE3).trans ((unhide KE4).trans ((unhide KE5).trans ((unhide KE6).trans k6)))
        have hlo : w.heap.size ≤ w.heap.size + 2 := by omega
        exact ⟨w.heap.size + 1, o, _, _, _, rfl, by omega, (unhide HW9).box, ((unhide HOF) e2).keep hlo k2, ((unhide HXp) e6).keep (Nat.le_trans hlo (unhide HLOp)) (k6.mono (fun _ h => h) (unhide HLOp)), ((unhide HXo) e7).keep (Nat.le_trans hlo (unhide HLOo)) (k7.mono (fun _ h => h) (unhide HLOo)), rfl⟩
      | true =>
        have HR : Hid (wRows c.ts ro.2 = (some (wkT c.ts (adv ro.2) 3), wantP c.ts (wkP c.ts (adv ro.2) 3) [⟨#[112, 114, 101, 99, 101, 100, 105, 110, 103]⟩])) := by unfold Hid wRows; rw [hh]; rfl
        have HHIT := hide hh
        clear hh
        go_wp2_with fail
        refine (take_yes c _ ro.2 ev7 ⟨#[114, 111, 119, 115]⟩ (by exact (unhide HW7s).rs) (by rw [ByteArray.toList_eq]; rfl) (by exact unhide HHIT)).mono ?_
        rintro e w8 ⟨rfl, ⟨ev8, hs⟩, hk⟩
        have HW8 := hide ((unhide HW7s).step hs hk)
        have HON8 := hide (onw_adv (unhide HL) (unhide HW7s).rs.nx (hit_kind (unhide HHIT)))
        have KE8 : Hid (Keeps winT (w.heap.size + 2) w7s w8) := (unhide HW7s).keeps hk
        clear hs hk
        go_wp2_with fail
        refine (number_any c _ (adv ro.2) ev8 (by exact (unhide HW8).rs)).mono ?_
        rintro e w9 ⟨bn, rfl, hbn, hblk, ⟨ev9, hs⟩, hk⟩
        have HW9 := hide ((unhide HW8).step hs hk)
        have HON9 := hide (onw_wk (unhide HL) (unhide HW8).rs.nx (k := 3) (by decide))
        have KE9 : Hid (Keeps winT (w.heap.size + 2) w8 w9) := (unhide HW8).keeps hk
        have HNB := hide hblk
        have hbn2 : w.heap.size + 2 ≤ bn := Nat.le_trans (unhide HW8).lo hbn
        clear hs hk hblk
        obtain ⟨k9, f9⟩ := blk (unhide HW9).box
        have z9 := lt_of_heap (unhide HW9).box
        go_upto_region 12 with (fail)
        have HW9s := hide ((unhide HW9).set (i := 5) (u := .pointer (some ⟨bn, 0, none⟩)) rfl)
        have KE9s : Hid (Keeps winT (w.heap.size + 2) w9 (w9.setCell ⟨w.heap.size + 1, 5, none⟩ (.pointer (some ⟨bn, 0, none⟩)))) := WS.setKeeps
        clear k9 f9 z9
        generalize w9.setCell ⟨w.heap.size + 1, 5, none⟩ (.pointer (some ⟨bn, 0, none⟩)) = w9s at *
        go_wp2_with fail
        refine (want_any c _ (wkP c.ts (adv ro.2) 3) ev9 w9s.heap.size [⟨#[112, 114, 101, 99, 101, 100, 105, 110, 103]⟩] (by exact (unhide HW9s).rs.alloc _) (by exact texts_new rfl (fun j hj => by match j, hj with | 0, _ => rfl)) (by simp) (nonE_ok (by decide))).mono ?_
        rintro e w10 ⟨rfl, ⟨ev10, hs⟩, hk⟩
        have HW10 := hide ((unhide HW9s).step hs (((Kp.refl c.rb w9s).alloc _).trans hk))
        have HON10 := hide (onw_want (unhide HL) (unhide HW9s).rs.nx [⟨#[112, 114, 101, 99, 101, 100, 105, 110, 103]⟩])
        have KE10 : Hid (Keeps winT (w.heap.size + 2) w9s w10) := (unhide HW9s).keeps (((Kp.refl c.rb w9s).alloc _).trans hk)
        clear hs hk
        go_wp2_with fail
        refine (want_any c _ (wantP c.ts (wkP c.ts (adv ro.2) 3) [⟨#[112, 114, 101, 99, 101, 100, 105, 110, 103]⟩]) ev10 w10.heap.size [⟨#[41]⟩] (by exact (unhide HW10).rs.alloc _) (by exact texts_new rfl (fun j hj => by match j, hj with | 0, _ => rfl)) (by simp) (nonE_ok (by decide))).mono ?_
        rintro e w11 ⟨rfl, ⟨ev11, hs⟩, hk⟩
        have HW11 := hide ((unhide HW10).step hs (((Kp.refl c.rb w10).alloc _).trans hk))
        have HON11 := hide (onw_want (unhide HL) (unhide HW10).rs.nx [⟨#[41]⟩])
        have KE11 : Hid (Keeps winT (w.heap.size + 2) w10 w11) := (unhide HW10).keeps (((Kp.refl c.rb w10).alloc _).trans hk)
        clear hs hk
        go_wp2
        go_ret
        rw [unhide HXE, unhide HR]
        refine ⟨w.heap.size + 1, rfl, ⟨⟨ev11, (unhide HW11).rs⟩, (unhide HW11).kp⟩, fun he => ?_⟩
        have e7 := (unhide HON8).er ((unhide HON9).er ((unhide HON10).er ((unhide HON11).er he)))
        have e6 := (unhide HON7).er e7
        have e5 := (unhide HON6).er e6
        have e2 := (unhide HON3).er ((unhide HON4).er ((unhide HON5).er e5))
        have k9 := (unhide KE9s).trans ((unhide KE10).trans (unhide KE11))
        have kF := (unhide KE8).trans ((unhide KE9).trans k9)
        have k7 := (unhide KE7s).trans kF
        have k6 := (unhide KE6s).trans ((unhide KE7).trans k7)
        have k2 := (unhide KE3).trans ((unhide KE4).trans ((unhide KE5).trans ((unhide KE6).trans k6)))
        have hlo : w.heap.size ≤ w.heap.size + 2 := by omega
        refine ⟨w.heap.size + 1, o, _, _, _, rfl, by omega, (unhide HW11).box, ((unhide HOF) e2).keep hlo k2, ((unhide HXp) e6).keep (Nat.le_trans hlo (unhide HLOp)) (k6.mono (fun _ h => h) (unhide HLOp)), ((unhide HXo) e7).keep (Nat.le_trans hlo (unhide HLOo)) (k7.mono (fun _ h => h) (unhide HLOo)), bn, rfl, by omega, ?_⟩
        exact (k9 bn _ _ hbn2 (unhide HNB) rfl).trans (unhide HNB)
end Go.Proofs.YtfkeddkfegaeiaaGreatDoor
