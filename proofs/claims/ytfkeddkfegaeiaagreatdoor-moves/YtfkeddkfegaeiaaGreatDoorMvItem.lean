/-
  Part 11.
-/
import Derived.Test.YtfkeddkfegaeiaaGreatDoorMvTlx
namespace Go.Proofs.YtfkeddkfegaeiaaGreatDoor
open Go.RowKit
/-- an item: its place, its window or the nodes of its expr, the place and text of the name behind as (0 and none). -/
structure ItemA where
  place : Nat
  win : Option WinA
  val : List Nd
  asP : Nat
  asT : ByteArray
def xCalls : List ByteArray := [⟨#[114, 111, 119, 95, 110, 117, 109, 98, 101, 114]⟩, ⟨#[99, 111, 117, 110, 116]⟩, ⟨#[115, 117, 109]⟩, ⟨#[109, 105, 110]⟩, ⟨#[109, 97, 120]⟩]
def itOf (ts : List Tk) (st : St) : (Option WinA × List Nd) × St :=
  if hitP ts st xCalls then ((some (winP ts (adv st) (tkAt ts st.nx).place (tkAt ts st.nx).text).1, []), (winP ts (adv st) (tkAt ts st.nx).place (tkAt ts st.nx).text).2)
  else ((none, (exprP ts st).1), (exprP ts st).2)
def itAs (ts : List Tk) (st : St) : (Nat × ByteArray) × St := if hitP ts st [⟨#[97, 115]⟩] then (((wkT ts (adv st) 2).place, (wkT ts (adv st) 2).text), wkP ts (adv st) 2) else ((0, ⟨#[]⟩), st)
def itemP (ts : List Tk) (st : St) : ItemA × St := (⟨(tkAt ts st.nx).place, (itOf ts st).1.1, (itOf ts st).1.2, (itAs ts (itOf ts st).2).1.1, (itAs ts (itOf ts st).2).1.2⟩, (itAs ts (itOf ts st).2).2)
theorem onw_itOf {ts : List Tk} (hl : Lst ts) {st : St} (h : st.nx < ts.length) : Onw ts st (itOf ts st).2 := by
  unfold itOf
  split
  · rename_i hh
    have h1 := onw_adv hl h (hit_kind hh)
    exact h1.trans (onw_win hl h1.lt (tkAt ts st.nx).place (tkAt ts st.nx).text)
  · exact onw_exprP hl _ h
theorem onw_itAs {ts : List Tk} (hl : Lst ts) {st : St} (h : st.nx < ts.length) : Onw ts st (itAs ts st).2 := by
  unfold itAs
  split
  · rename_i hh
    have h1 := onw_adv hl h (hit_kind hh)
    exact h1.trans (onw_wk hl h1.lt (by decide))
  · exact Onw.refl h
theorem onw_item {ts : List Tk} (hl : Lst ts) : OnwG ts (itemP ts) := fun _ h => (onw_itOf hl h).trans (onw_itAs hl (onw_itOf hl h).lt)
/-- the window or expr of an item as it lies. -/
def ItV (w : World) (lo : Nat) (v wv : Value) (x : Option WinA) (l : List Nd) : Prop := match x with
  | none => wv = .pointer none ∧ ExOk w lo v l
  | some q => v = .nilIface ∧ WinOk w lo wv q
theorem ItV.keep {w w' : World} {lo lo' : Nat} {v wv : Value} {x : Option WinA} {l : List Nd} (h : ItV w lo v wv x l) (hlo : lo' ≤ lo) (hk : Keeps winT lo w w') : ItV w' lo' v wv x l := by
  match x, h with
  | none, h => exact ⟨h.1, h.2.keep hlo hk.node⟩
  | some q, h => exact ⟨h.1, WinOk.keep h.2 hlo hk⟩
/-- takeOne, whether it hits or not. -/
def takeS (ts : List Tk) (st : St) (xs : List ByteArray) : St := if hitP ts st xs then adv st else st
theorem takeOne_any (c : Cx) (w : World) (st : St) (ev : Value) (b : Nat) (xs : List ByteArray) (h : RS c w st ev) (hx : Texts w b xs) (hl : xs.length ≤ 100) :
    Calls Tryz.prog 147 #[.pointer (some ⟨c.rb, 0, none⟩), .slice (some ⟨b, 0, none⟩) xs.length xs.length] w fun e w' => e = .returned (.string (wantT c.ts st xs)) ∧ Aft c w (takeS c.ts st xs) w' := by
  unfold wantT takeS
  cases hh : hitP c.ts st xs with
  | true =>
    refine (takeOne_yes c w st ev b xs h hx hl hh).mono ?_
    rintro e w' ⟨rfl, ha⟩
    exact ⟨rfl, ha⟩
  | false =>
    refine (takeOne_no c w st ev b xs h hx hl hh).mono ?_
    rintro e w' ⟨rfl, hb⟩
    exact ⟨rfl, Aft.same h hb⟩
/-- item's two boxes, in the making. -/
structure IS (c : Cx) (w : World) (b1 : Nat) (W : World) (st : St) (ev : Value) (p : Nat) (v wv : Value) (ap : Nat) (at' : ByteArray) : Prop where
  rs : RS c W st ev
  kp : Kp c.rb w W
  res : W.heap[w.heap.size]? = some (.cells #[.int .i64 0, .nilIface, .pointer none, .int .i64 0, .string ⟨#[]⟩] 251 (0, 0))
  box : W.heap[b1]? = some (.cells #[.int .i64 p, v, wv, .int .i64 ap, .string at'] 251 (0, 0))
  old : c.rb < w.heap.size ∧ c.tb < w.heap.size ∧ c.B ≤ w.heap.size ∧ w.heap.size < b1
theorem IS.step {c : Cx} {w : World} {b1 : Nat} {W W' : World} {st st' : St} {ev ev' : Value} {p : Nat} {v wv : Value} {ap : Nat} {at' : ByteArray} (h : IS c w b1 W st ev p v wv ap at') (hs : RS c W' st' ev') (hk : Kp c.rb W W') : IS c w b1 W' st' ev' p v wv ap at' :=
  ⟨hs, h.kp.trans hk, (hk.block _ (lt_of_heap h.res) (by have := h.old.1; omega)).trans h.res, (hk.block _ (lt_of_heap h.box) (by have := h.old; omega)).trans h.box, h.old⟩
theorem IS.keeps {c : Cx} {w : World} {b1 lo : Nat} {W W' : World} {st : St} {ev : Value} {p : Nat} {v wv : Value} {ap : Nat} {at' : ByteArray} (h : IS c w b1 W st ev p v wv ap at') (hk : Kp c.rb W W') : Keeps winT lo W W' := h.rs.keeps hk rfl
theorem IS.set {c : Cx} {w : World} {b1 : Nat} {W : World} {st : St} {ev : Value} {p : Nat} {v wv v' wv' u : Value} {ap ap' i : Nat} {at' at'' : ByteArray} (h : IS c w b1 W st ev p v wv ap at')
    (he : #[.int .i64 p, v, wv, .int .i64 ap, .string at'].setIfInBounds i u = #[.int .i64 p, v', wv', .int .i64 ap', .string at'']) : IS c w b1 (W.setCell ⟨b1, i, none⟩ u) st ev p v' wv' ap' at'' := by
  have h1 := h.old
  refine ⟨h.rs.kpb ((Kp.refl _ _).setCell _ _) (by omega) (by omega) (by omega) (fun p e => by rw [h.box]; simp), h.kp.setNew (by show w.heap.size ≤ b1; omega) _, ?_, ?_, h.old⟩
  · rw [Below.heap_setCell _ _ _ _ (by show w.heap.size ≠ b1; omega)]; exact h.res
  · rw [heap_set h.box, he]
theorem IS.setKeeps {c : Cx} {w : World} {b1 lo : Nat} {W : World} {st : St} {ev : Value} {p : Nat} {v wv u : Value} {ap i : Nat} {at' : ByteArray} (h : IS c w b1 W st ev p v wv ap at') : Keeps winT lo W (W.setCell ⟨b1, i, none⟩ u) :=
  Keeps.ofKp ((Kp.refl b1 W).setCell i u) (Or.inr fun cs t e => by rw [h.box] at e; cases e; rfl)
theorem Kp.own {r b : Nat} {w W W' : World} (h : Kp r w W) (hb : Kp b W W') (hwb : w.heap.size ≤ b) : Kp r w W' :=
  ⟨hb.os.trans h.os, hb.tape.trans h.tape, hb.output.trans h.output, Nat.le_trans h.size hb.size, fun k hk hr => (hb.block k (Nat.lt_of_lt_of_le hk h.size) (by omega)).trans (h.block k hk hr)⟩
theorem IS.fin {c : Cx} {w : World} {b1 lo : Nat} {W W' : World} {st : St} {ev : Value} {p : Nat} {v wv : Value} {ap : Nat} {at' : ByteArray} (h : IS c w b1 W st ev p v wv ap at') (hk : Kp w.heap.size W W') : RS c W' st ev ∧ Kp c.rb w W' ∧ Keeps winT lo W W' := by
  have h1 := h.old
  exact ⟨h.rs.kpb hk (by omega) (by omega) (by omega) (fun p e => by rw [h.res]; simp), h.kp.own hk (Nat.le_refl _), Keeps.ofKp hk (Or.inr fun cs t e => by rw [h.res] at e; cases e; rfl)⟩
set_option maxRecDepth 100000 in
set_option maxHeartbeats 2000000 in
theorem item_any (c : Cx) (w : World) (st : St) (ev : Value) (X : ItemA × St) (h : RS c w st ev) (hd0 : st.dp = 0) (HX : Hid (X = itemP c.ts st)) :
    Calls Tryz.prog 152 #[.pointer (some ⟨c.rb, 0, none⟩)] w fun e w' => ∃ v q, e = .returned (.agg #[.int .i64 X.1.place, v, .pointer q, .int .i64 X.1.asP, .string X.1.asT]) ∧ IsI v ∧ Aft c w X.2 w' ∧ (X.2.er = none → ItV w' w.heap.size v (.pointer q) X.1.win X.1.val) := by
  have HL := hide h.last
  have hold : c.rb < w.heap.size ∧ c.tb < w.heap.size ∧ c.B ≤ w.heap.size := ⟨lt_of_heap h.reader, by obtain ⟨cur, e1, _⟩ := h.tokens; exact lt_of_heap e1, h.env.size⟩
  have HOLD := hide hold
  have HH := hide h
  clear h hold
  have hfp := field_part
  obtain ⟨O, HO⟩ : ∃ O, Hid (O = itOf c.ts st) := ⟨_, rfl⟩
  have HONO := hide (onw_itOf (unhide HL) (unhide HH).nx)
  rw [← unhide HO] at HONO
  go_enter Tryz.func152, Tryz.ntmps152
  go_wp2_with fail
  refine (peek_any c _ st ev (by exact (unhide HH).alloc _)).mono ?_
  rintro e w1 ⟨rfl, hb⟩
  have HB1 := hide hb
  clear hb
  generalize hpl : (tkAt c.ts st.nx).place = pl at *
  have HPL := hide hpl
  clear hpl
  go_wp2_with fail
  have his : IS c w w1.heap.size (w1.alloc (.cells #[.int .i64 pl, .nilIface, .pointer none, .int .i64 0, .string ⟨#[]⟩] 251)) st ev pl .nilIface (.pointer none) 0 ⟨#[]⟩ := by
    have hz : w.heap.size < w1.heap.size := by have := (unhide HB1).size; simp at this; omega
    refine ⟨((((unhide HH).alloc _).keep (unhide HB1)).alloc _), (((Kp.refl c.rb w).alloc _).trans (Kp.ofBelow (unhide HB1))).alloc _, heap_prev (((unhide HB1).block w.heap.size (by simp)).trans (heap_last rfl)), heap_last rfl, (unhide HOLD).1, (unhide HOLD).2.1, (unhide HOLD).2.2, hz⟩
  have HI0 := hide his
  have hz1 : w.heap.size ≤ w1.heap.size := by have := his.old; omega
  clear his
  refine (takeOne_any c _ st ev (w1.heap.size + 1) [⟨#[114, 111, 119, 95, 110, 117, 109, 98, 101, 114]⟩, ⟨#[99, 111, 117, 110, 116]⟩, ⟨#[115, 117, 109]⟩, ⟨#[109, 105, 110]⟩, ⟨#[109, 97, 120]⟩] (by exact (unhide HI0).rs.alloc _) (by exact texts_new (by simp) (fun j hj => by match j, hj with | 0, _ => rfl | 1, _ => rfl | 2, _ => rfl | 3, _ => rfl | 4, _ => rfl)) (by simp)).mono ?_
  rintro e w2 ⟨rfl, ⟨ev2, hs⟩, hk⟩
  have HI2 := hide ((unhide HI0).step hs (((Kp.refl c.rb _).alloc _).trans hk))
  have hlo2 : w1.heap.size < w2.heap.size := by have := hk.size; simp at this; omega
  clear hs hk HI0
  generalize w1.heap.size = b1 at *
  obtain ⟨tx, HTX⟩ : ∃ tx, Hid (wantT c.ts st [⟨#[114, 111, 119, 95, 110, 117, 109, 98, 101, 114]⟩, ⟨#[99, 111, 117, 110, 116]⟩, ⟨#[115, 117, 109]⟩, ⟨#[109, 105, 110]⟩, ⟨#[109, 97, 120]⟩] = tx) := ⟨_, rfl⟩
  rw [unhide HTX]
  go_upto_if 13 with (fail)
  go_cut [] from 12 to 22 (fun W => ∃ ev3 v q, IS c w b1 W O.2 ev3 pl v (.pointer q) 0 ⟨#[]⟩ ∧ IsI v ∧ (O.2.er = none → ItV W w.heap.size v (.pointer q) O.1.1 O.1.2))
  case first =>
    cases hh : hitP c.ts st xCalls with
    | true =>
      have hne := hit_text hh (nonE_ok (by decide))
      have htx : tx = (tkAt c.ts st.nx).text := by rw [← unhide HTX]; unfold wantT; exact if_pos hh
      rw [← htx] at hne
      have hem : (!tx.toList.isEmpty) = true := by
        cases hl : tx.toList with
        | nil => rw [hl] at hne; cases hne
        | cons a r => rfl
      have HO' : Hid (O = ((some (winP c.ts (adv st) pl tx).1, []), (winP c.ts (adv st) pl tx).2)) := by rw [unhide HO, htx, ← unhide HPL]; unfold Hid itOf; exact if_pos hh
      have HI3 : Hid (IS c w b1 w2 (adv st) ev2 pl .nilIface (.pointer none) 0 ⟨#[]⟩) := by
        have e1 : takeS c.ts st [⟨#[114, 111, 119, 95, 110, 117, 109, 98, 101, 114]⟩, ⟨#[99, 111, 117, 110, 116]⟩, ⟨#[115, 117, 109]⟩, ⟨#[109, 105, 110]⟩, ⟨#[109, 97, 120]⟩] = adv st := if_pos hh
        have := unhide HI2
        rw [e1] at this
        exact this
      clear hh htx HI2 hne
      obtain ⟨k2, f2⟩ := blk (unhide HI3).box
      have z2 := lt_of_heap (unhide HI3).box
      rw [hem]
      clear hem
      go_wp2_with fail
      refine (window_any c _ (adv st) ev2 pl tx _ (by exact (unhide HI3).rs) hd0 rfl).mono ?_
      rintro e w3 ⟨bq, rfl, ⟨⟨ev3, hs⟩, hk⟩, hwin⟩
      have HI4 := hide ((unhide HI3).step hs hk)
      have HWIN := hide hwin
      clear hs hk hwin k2 f2 z2
      obtain ⟨k3, f3⟩ := blk (unhide HI4).box
      have z3 := lt_of_heap (unhide HI4).box
      go_wp2_with fail
      go_meet
      case rel =>
        rw [unhide HO']
        refine ⟨ev3, .nilIface, some ⟨bq, 0, none⟩, (unhide HI4).set rfl, Or.inl rfl, fun he => ?_⟩
        exact ItV.keep (x := some _) ⟨rfl, (unhide HWIN) he⟩ (unhide HI3).kp.size (unhide HI4).setKeeps
    | false =>
      have htx : tx = ⟨#[]⟩ := by rw [← unhide HTX]; unfold wantT; exact if_neg (fun e => by rw [show hitP c.ts st [⟨#[114, 111, 119, 95, 110, 117, 109, 98, 101, 114]⟩, ⟨#[99, 111, 117, 110, 116]⟩, ⟨#[115, 117, 109]⟩, ⟨#[109, 105, 110]⟩, ⟨#[109, 97, 120]⟩] = false from hh] at e; cases e)
      have HO' : Hid (O = ((none, (exprP c.ts st).1), (exprP c.ts st).2)) := by rw [unhide HO]; unfold Hid itOf; exact if_neg (by rw [hh]; decide)
      have HI3 : Hid (IS c w b1 w2 st ev2 pl .nilIface (.pointer none) 0 ⟨#[]⟩) := by
        have e1 : takeS c.ts st [⟨#[114, 111, 119, 95, 110, 117, 109, 98, 101, 114]⟩, ⟨#[99, 111, 117, 110, 116]⟩, ⟨#[115, 117, 109]⟩, ⟨#[109, 105, 110]⟩, ⟨#[109, 97, 120]⟩] = st := if_neg (fun e => by rw [show hitP c.ts st [⟨#[114, 111, 119, 95, 110, 117, 109, 98, 101, 114]⟩, ⟨#[99, 111, 117, 110, 116]⟩, ⟨#[115, 117, 109]⟩, ⟨#[109, 105, 110]⟩, ⟨#[109, 97, 120]⟩] = false from hh] at e; cases e)
        have := unhide HI2
        rw [e1] at this
        exact this
      have hem : (!tx.toList.isEmpty) = false := by rw [htx, ByteArray.toList_eq]; rfl
      clear hh HI2 htx
      rw [hem]
      clear hem
      go_wp2_with fail
      refine (exprP_spec c (unhide HL) _ st ev2 (by exact (unhide HI3).rs) hd0).mono ?_
      rintro e w3 ⟨v, rfl, hv, ⟨⟨ev3, hs⟩, hk⟩, hex⟩
      have HI4 := hide ((unhide HI3).step hs hk)
      have HEX := hide hex
      have HV := hide hv
      clear hs hk hex
      obtain ⟨k3, f3⟩ := blk (unhide HI4).box
      have z3 := lt_of_heap (unhide HI4).box
      rcases hv with rfl | ⟨uq, zq, rfl⟩
      all_goals
        go_wp2_with fail
        go_meet
        case rel =>
          rw [unhide HO']
          refine ⟨ev3, _, none, (unhide HI4).set rfl, unhide HV, fun he => ?_⟩
          exact ItV.keep (x := none) ⟨rfl, (unhide HEX) he⟩ (unhide HI3).kp.size (unhide HI4).setKeeps
  case rest =>
    obtain ⟨ev3, v, q, his, hv, hit⟩ := hcut
    have HI3 := hide his
    have HV := hide hv
    have HIT := hide hit
    clear his hit HI2
    have hcv := hv.cells
    unfold Value.cells at hcv
    have HXE : Hid (X = (⟨pl, O.1.1, O.1.2, (itAs c.ts O.2).1.1, (itAs c.ts O.2).1.2⟩, (itAs c.ts O.2).2)) := by rw [unhide HX]; unfold Hid itemP; rw [unhide HPL, ← unhide HO]
    clear hv
    cases hh : hitP c.ts O.2 [⟨#[97, 115]⟩] with
    | false =>
      have HR : Hid (itAs c.ts O.2 = ((0, ⟨#[]⟩), O.2)) := by unfold Hid itAs; rw [hh]; rfl
      have HHIT := hide hh
      clear hh
      go_wp2_with fail
      refine (take_no c _ O.2 ev3 ⟨#[97, 115]⟩ (by exact (unhide HI3).rs) (by exact unhide HHIT)).mono ?_
      rintro e w4 ⟨rfl, hb⟩
      have HI4 := hide ((unhide HI3).step ((unhide HI3).rs.keep hb) (Kp.ofBelow hb))
      have KE4 : Hid (Keeps winT w.heap.size wc w4) := Keeps.ofBelow hb
      clear hb
      obtain ⟨k4, f4⟩ := blk (unhide HI4).box
      obtain ⟨j4, g4⟩ := blk (unhide HI4).res
      have z4 := lt_of_heap (unhide HI4).box
      have y4 := lt_of_heap (unhide HI4).res
      rcases unhide HV with hv | ⟨uq, zq, hv⟩
      · subst hv
        go_wp2
        obtain ⟨hrs, hkp, hke⟩ := (unhide HI4).fin (lo := w.heap.size) (((((Kp.refl w.heap.size w4).setCell 0 (.int .i64 pl)).setCell 1 .nilIface).setCell 2 (.pointer q)).setCell 3 (.int .i64 0) |>.setCell 4 (.string ⟨#[]⟩))
        refine bodyPost_ret (v := .agg #[.int .i64 pl, .nilIface, .pointer q, .int .i64 0, .string ⟨#[]⟩]) (by simp [results, Tryz.results152, go_sem, j4]) rfl ⟨.nilIface, q, ?_, unhide HV, ⟨⟨ev3, ?_⟩, ?_⟩, fun he => ?_⟩
        · rw [unhide HXE, unhide HR]; rfl
        · rw [unhide HXE, unhide HR]; exact hrs
        · exact hkp
        · rw [unhide HXE, unhide HR] at he ⊢
          exact ((unhide HIT) he).keep (Nat.le_refl _) ((unhide KE4).trans hke)
      · subst hv
        go_wp2
        obtain ⟨hrs, hkp, hke⟩ := (unhide HI4).fin (lo := w.heap.size) (((((Kp.refl w.heap.size w4).setCell 0 (.int .i64 pl)).setCell 1 (.iface uq zq)).setCell 2 (.pointer q)).setCell 3 (.int .i64 0) |>.setCell 4 (.string ⟨#[]⟩))
        refine bodyPost_ret (v := .agg #[.int .i64 pl, (.iface uq zq), .pointer q, .int .i64 0, .string ⟨#[]⟩]) (by simp [results, Tryz.results152, go_sem, j4]) rfl ⟨(.iface uq zq), q, ?_, unhide HV, ⟨⟨ev3, ?_⟩, ?_⟩, fun he => ?_⟩
        · rw [unhide HXE, unhide HR]; rfl
        · rw [unhide HXE, unhide HR]; exact hrs
        · exact hkp
        · rw [unhide HXE, unhide HR] at he ⊢
          exact ((unhide HIT) he).keep (Nat.le_refl _) ((unhide KE4).trans hke)
    | true =>
      have HR : Hid (itAs c.ts O.2 = (((wkT c.ts (adv O.2) 2).place, (wkT c.ts (adv O.2) 2).text), wkP c.ts (adv O.2) 2)) := by unfold Hid itAs; rw [hh]; rfl
      have HHIT := hide hh
      clear hh
      go_wp2_with fail
      refine (take_yes c _ O.2 ev3 ⟨#[97, 115]⟩ (by exact (unhide HI3).rs) (by rw [ByteArray.toList_eq]; rfl) (by exact unhide HHIT)).mono ?_
      rintro e w4 ⟨rfl, ⟨ev4, hs⟩, hk⟩
      have HI4 := hide ((unhide HI3).step hs hk)
      have HON4 := hide (onw_adv (unhide HL) (unhide HI3).rs.nx (hit_kind (unhide HHIT)))
      have KE4 : Hid (Keeps winT w.heap.size wc w4) := (unhide HI3).keeps hk
      clear hs hk
      go_wp2_with fail
      refine (name_any c _ (adv O.2) ev4 (by exact (unhide HI4).rs)).mono ?_
      rintro e w5 ⟨rfl, ⟨ev5, hs⟩, hk⟩
      have HI5 := hide ((unhide HI4).step hs hk)
      have HON5 := hide (onw_wk (unhide HL) (unhide HI4).rs.nx (k := 2) (by decide))
      have KE5 : Hid (Keeps winT w.heap.size w4 w5) := (unhide HI4).keeps hk
      clear hs hk
      generalize hta : wkT c.ts (adv O.2) 2 = ta at *
      have HTA := hide hta
      clear hta
      obtain ⟨k5, f5⟩ := blk (unhide HI5).box
      have z5 := lt_of_heap (unhide HI5).box
      go_upto_region 8 with (fail)
      have HI6 := hide ((unhide HI5).set (i := 3) (u := .int .i64 ta.place) (ap' := ta.place) rfl)
      have KE6 : Hid (Keeps winT w.heap.size w5 (w5.setCell ⟨b1, 3, none⟩ (.int .i64 ta.place))) := (unhide HI5).setKeeps
      have HI7 := hide ((unhide HI6).set (i := 4) (u := .string ta.text) (at'' := ta.text) rfl)
      have KE7 : Hid (Keeps winT w.heap.size (w5.setCell ⟨b1, 3, none⟩ (.int .i64 ta.place)) ((w5.setCell ⟨b1, 3, none⟩ (.int .i64 ta.place)).setCell ⟨b1, 4, none⟩ (.string ta.text))) := (unhide HI6).setKeeps
      clear k5 f5 z5
      generalize (w5.setCell ⟨b1, 3, none⟩ (.int .i64 ta.place)).setCell ⟨b1, 4, none⟩ (.string ta.text) = w7 at *
      obtain ⟨k7, f7⟩ := blk (unhide HI7).box
      obtain ⟨j7, g7⟩ := blk (unhide HI7).res
      have z7 := lt_of_heap (unhide HI7).box
      have y7 := lt_of_heap (unhide HI7).res
      have hne7 : w.heap.size ≠ b1 := by have := (unhide HI7).old; omega
      rcases unhide HV with hv | ⟨uq, zq, hv⟩
      · subst hv
        go_wp2
        obtain ⟨hrs, hkp, hke⟩ := (unhide HI7).fin (lo := w.heap.size) (((((Kp.refl w.heap.size w7).setCell 0 (.int .i64 pl)).setCell 1 .nilIface).setCell 2 (.pointer q)).setCell 3 (.int .i64 ta.place) |>.setCell 4 (.string ta.text))
        refine bodyPost_ret (v := .agg #[.int .i64 pl, .nilIface, .pointer q, .int .i64 ta.place, .string ta.text]) (by simp [results, Tryz.results152, go_sem, j7]) rfl ⟨.nilIface, q, ?_, unhide HV, ⟨⟨ev5, ?_⟩, ?_⟩, fun he => ?_⟩
        · rw [unhide HXE, unhide HR]
        · rw [unhide HXE, unhide HR]; exact hrs
        · exact hkp
        · rw [unhide HXE, unhide HR] at he ⊢
          exact ((unhide HIT) ((unhide HON4).er ((unhide HON5).er he))).keep (Nat.le_refl _) (((unhide KE4).trans ((unhide KE5).trans ((unhide KE6).trans (unhide KE7)))).trans hke)
      · subst hv
        go_wp2
        obtain ⟨hrs, hkp, hke⟩ := (unhide HI7).fin (lo := w.heap.size) (((((Kp.refl w.heap.size w7).setCell 0 (.int .i64 pl)).setCell 1 (.iface uq zq)).setCell 2 (.pointer q)).setCell 3 (.int .i64 ta.place) |>.setCell 4 (.string ta.text))
        refine bodyPost_ret (v := .agg #[.int .i64 pl, (.iface uq zq), .pointer q, .int .i64 ta.place, .string ta.text]) (by simp [results, Tryz.results152, go_sem, j7]) rfl ⟨(.iface uq zq), q, ?_, unhide HV, ⟨⟨ev5, ?_⟩, ?_⟩, fun he => ?_⟩
        · rw [unhide HXE, unhide HR]
        · rw [unhide HXE, unhide HR]; exact hrs
        · exact hkp
        · rw [unhide HXE, unhide HR] at he ⊢
          exact ((unhide HIT) ((unhide HON4).er ((unhide HON5).er he))).keep (Nat.le_refl _) (((unhide KE4).trans ((unhide KE5).trans ((unhide KE6).trans (unhide KE7)))).trans hke)
end Go.Proofs.YtfkeddkfegaeiaaGreatDoor
