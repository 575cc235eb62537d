/-
  The walk of query.
-/
import Derived.Test.YtjnmkmcopfkdfaaGreatDoorWth
namespace Go.Proofs.YtjnmkmcopfkdfaaGreatDoor
open Go.RowKit

structure QueryX where
  place : Nat
  wth : Option WithX
  main : SelX
def qHead (ts : List Tk) (st : St) : Option WithX × St := if hitP ts st [⟨#[119, 105, 116, 104]⟩] then (some (withP ts (adv st) (tkAt ts st.nx).place).1, (withP ts (adv st) (tkAt ts st.nx).place).2) else (none, st)
def queryP (ts : List Tk) (st : St) : QueryX × St := (⟨(tkAt ts st.nx).place, (qHead ts st).1, (selP ts (qHead ts st).2).1⟩, (selP ts (qHead ts st).2).2)
theorem onw_qHead {ts : List Tk} (hl : Lst ts) {st : St} (h : st.nx < ts.length) : Onw ts st (qHead ts st).2 := by
  unfold qHead
  split
  · rename_i hh
    have h1 := onw_adv hl h (hit_kind hh)
    exact h1.trans (onw_with hl h1.lt (tkAt ts st.nx).place)
  · exact Onw.refl h
theorem onw_query {ts : List Tk} (hl : Lst ts) {st : St} (h : st.nx < ts.length) : Onw ts st (queryP ts st).2 := (onw_qHead hl h).trans (onw_sel hl (onw_qHead hl h).lt)

def qT (t : TypeId) : Bool := selT t || t == 123
theorem Keeps.sel {lo : Nat} {w w' : World} (h : Keeps qT lo w w') : Keeps selT lo w w' := h.mono (fun t ht => by unfold qT; rw [ht]; rfl) (Nat.le_refl _)
theorem WithOk.keep {w w' : World} {lo lo' : Nat} {v : Value} {x : WithX} (h : WithOk w lo v x) (hlo : lo' ≤ lo) (hk : Keeps qT lo w w') : WithOk w' lo' v x := by
  obtain ⟨b, vc, vf, vg, h1, h2, h3, h4, h5, h6⟩ := h
  exact ⟨b, vc, vf, vg, h1, Nat.le_trans hlo h2, (hk b _ _ h2 h3 rfl).trans h3, ownsRow_low (ownsRow_keeps h4 hk rfl) hlo, h5.keep hlo hk.sel, h6.keep hlo hk.sel⟩
def WtOk (w : World) (lo : Nat) (v : Value) : Option WithX → Prop
  | none => v = .pointer none
  | some x => WithOk w lo v x
theorem WtOk.keep {w w' : World} {lo lo' : Nat} {v : Value} {o : Option WithX} (h : WtOk w lo v o) (hlo : lo' ≤ lo) (hk : Keeps qT lo w w') : WtOk w' lo' v o := by
  match o, h with
  | none, h => exact h
  | some x, h => exact WithOk.keep h hlo hk
/-- a query as it lies. -/
def QueryOk (w : World) (lo : Nat) (v : Value) (x : QueryX) : Prop := ∃ b vw vm, v = .pointer (some ⟨b, 0, none⟩) ∧ lo ≤ b ∧ w.heap[b]? = some (.cells #[.int .i64 x.place, vw, vm] 90 (0, 0)) ∧ WtOk w lo vw x.wth ∧ SelOk w lo vm x.main

set_option maxRecDepth 100000 in
set_option maxHeartbeats 1000000 in
theorem query_any (c : Cx) (w : World) (st : St) (ev : Value) (X : QueryX × St) (h : RS c w st ev) (hd0 : st.dp = 0) (HX : Hid (X = queryP c.ts st)) :
    Calls Tryz.prog 21 #[.pointer (some ⟨c.rb, 0, none⟩)] w fun e w' => ∃ b, e = .returned (.pointer (some ⟨b, 0, none⟩)) ∧ w.heap.size ≤ b ∧ Aft c w X.2 w' ∧ (X.2.er = none → QueryOk w' w.heap.size (.pointer (some ⟨b, 0, none⟩)) X.1) := by
  have HL := hide h.last
  have hold : c.rb < w.heap.size ∧ c.tb < w.heap.size ∧ c.B ≤ w.heap.size := ⟨lt_of_heap h.reader, by obtain ⟨cur, e1, _⟩ := h.tokens; exact lt_of_heap e1, h.env.size⟩
  have HOLD := hide hold
  have HH := hide h
  have HNX := hide h.nx
  clear h hold
  have hfp := field_part
  go_enter Tryz.func21, Tryz.ntmps21
  go_wp2_with fail
  refine (peek_any c _ st ev (by exact unhide HH)).mono ?_
  rintro e w1 ⟨rfl, hb⟩
  have HB1 := hide hb
  clear hb
  generalize hpl : (tkAt c.ts st.nx).place = pl at *
  have HPL := hide hpl
  clear hpl
  go_upto_region 2 with (fail)
  have hbx : BX c w 90 w1.heap.size (w1.alloc (.cells #[.int .i64 pl, .pointer none, .pointer none] 90)) st ev #[.int .i64 pl, .pointer none, .pointer none] :=
    ⟨((unhide HH).keep (unhide HB1)).alloc _, (Kp.ofBelow (unhide HB1)).alloc _, heap_last rfl, (unhide HOLD).1, (unhide HOLD).2.1, (unhide HOLD).2.2, (unhide HB1).size⟩
  have HS2 := hide hbx
  clear hbx
  generalize w1.alloc (.cells #[.int .i64 pl, .pointer none, .pointer none] 90) = w2 at *
  generalize w1.heap.size = bs at *
  cases hh : hitP c.ts st [⟨#[119, 105, 116, 104]⟩] with
  | false =>
    have HQ : Hid (qHead c.ts st = (none, st)) := by unfold Hid qHead; rw [hh]; rfl
    have HHIT := hide hh
    clear hh
    go_wp2_with fail
    refine (take_no c _ st ev ⟨#[119, 105, 116, 104]⟩ (by exact (unhide HS2).rs) (by exact unhide HHIT)).mono ?_
    rintro e w3 ⟨rfl, hb⟩
    have HS3 := hide ((unhide HS2).step ((unhide HS2).rs.keep hb) (Kp.ofBelow hb))
    clear hb HS2
    have HW3 : Hid (st.er = none → WtOk w3 w.heap.size (.pointer none) none) := fun _ => rfl
    have hdm := hd0
    obtain ⟨G, HG⟩ : ∃ G, Hid (G = selP c.ts st) := ⟨_, rfl⟩
    go_wp2_with fail
    refine (selection_any c _ _ ev G (by exact (unhide HS3).rs) hdm HG).mono ?_
    rintro e w15 ⟨bg, rfl, hbg, ⟨⟨ev15, hs⟩, hkk⟩, hok⟩
    have HS15 := hide ((unhide HS3).step hs hkk)
    have HF15 := hide (fun he => ((unhide HW3) he).keep (Nat.le_refl _) ((unhide HS3).keeps (S := qT) hkk rfl))
    have HG15 : Hid (G.2.er = none → SelOk w15 w.heap.size (.pointer (some ⟨bg, 0, none⟩)) G.1) := fun he => (hok he).keep (unhide HS3).lo (Keeps.ofBelow (Below.refl _ _))
    have HON15 : Hid (Onw c.ts st G.2) := by rw [unhide HG]; exact onw_sel (unhide HL) (unhide HNX)
    clear hs hkk hok hbg HS3
    obtain ⟨k15, f15⟩ := blk (unhide HS15).box
    have z15 := lt_of_heap (unhide HS15).box
    go_wp2
    have HS16 := hide ((unhide HS15).set (i := 2) (u := .pointer (some ⟨bg, 0, none⟩)) (by decide) rfl)
    have KE16 : Hid (Keeps qT w.heap.size w15 (w15.setCell ⟨bs, 2, none⟩ (.pointer (some ⟨bg, 0, none⟩)))) := (unhide HS15).setKeeps rfl
    have HF16 := hide (fun he => ((unhide HF15) he).keep (Nat.le_refl _) (unhide KE16))
    have HG16 := hide (fun he => ((unhide HG15) he).keep (Nat.le_refl _) (unhide KE16).sel)
    clear k15 f15 z15 HS15 HF15 HG15 KE16
    generalize w15.setCell ⟨bs, 2, none⟩ (.pointer (some ⟨bg, 0, none⟩)) = w16 at *
    go_ret
    rw [unhide HX]
    unfold queryP
    rw [unhide HQ, ← unhide HG, unhide HPL]
    refine ⟨bs, rfl, (unhide HS16).old.2.2.2, ⟨⟨ev15, (unhide HS16).rs⟩, (unhide HS16).kp⟩, fun he => ?_⟩
    exact ⟨bs, _, _, rfl, (unhide HS16).old.2.2.2, (unhide HS16).box, (unhide HF16) ((unhide HON15).er he), (unhide HG16) he⟩
  | true =>
    obtain ⟨A, HA⟩ : ∃ A, Hid (A = withP c.ts (adv st) pl) := ⟨_, rfl⟩
    have HQ : Hid (qHead c.ts st = (some A.1, A.2)) := by unfold Hid qHead; rw [hh, if_pos rfl, unhide HPL, ← unhide HA]
    have HHIT := hide hh
    clear hh
    have HON3 := hide (onw_adv (unhide HL) (unhide HNX) (hit_kind (unhide HHIT)))
    go_wp2_with fail
    refine (take_yes c _ st ev ⟨#[119, 105, 116, 104]⟩ (by exact (unhide HS2).rs) (by rw [ByteArray.toList_eq]; rfl) (by exact unhide HHIT)).mono ?_
    rintro e w3 ⟨rfl, ⟨ev3, hs⟩, hk⟩
    have HS3 := hide ((unhide HS2).step hs hk)
    clear hs hk HS2
    have hd3 : (adv st).dp = 0 := hd0
    obtain ⟨k3, f3⟩ := blk (unhide HS3).box
    have z3 := lt_of_heap (unhide HS3).box
    go_wp2_with fail
    refine (with_any c _ (adv st) ev3 pl A (by exact (unhide HS3).rs) hd3 HA).mono ?_
    rintro e w4 ⟨ba, rfl, hba, ⟨⟨ev4, hs⟩, hkk⟩, hok⟩
    have HS4 := hide ((unhide HS3).step hs hkk)
    have HF4 : Hid (A.2.er = none → WtOk w4 w.heap.size (.pointer (some ⟨ba, 0, none⟩)) (some A.1)) := fun he => WithOk.keep (hok he) (unhide HS3).lo (Keeps.ofBelow (Below.refl _ _))
    have HON4 : Hid (Onw c.ts (adv st) A.2) := by rw [unhide HA]; exact onw_with (unhide HL) (unhide HON3).lt _
    clear hs hkk hok hba k3 f3 z3 HS3
    obtain ⟨k4, f4⟩ := blk (unhide HS4).box
    have z4 := lt_of_heap (unhide HS4).box
    go_upto_region 4 with (fail)
    have HS5 := hide ((unhide HS4).set (i := 1) (u := .pointer (some ⟨ba, 0, none⟩)) (by decide) rfl)
    have KE5 : Hid (Keeps qT w.heap.size w4 (w4.setCell ⟨bs, 1, none⟩ (.pointer (some ⟨ba, 0, none⟩)))) := (unhide HS4).setKeeps rfl
    have HF5 := hide (fun he => ((unhide HF4) he).keep (Nat.le_refl _) (unhide KE5))
    clear k4 f4 z4 HS4 HF4 KE5
    generalize w4.setCell ⟨bs, 1, none⟩ (.pointer (some ⟨ba, 0, none⟩)) = w5 at *
    have hdm : A.2.dp = 0 := (unhide HON4).dp.trans hd3
    obtain ⟨G, HG⟩ : ∃ G, Hid (G = selP c.ts A.2) := ⟨_, rfl⟩
    go_wp2_with fail
    refine (selection_any c _ _ ev4 G (by exact (unhide HS5).rs) hdm HG).mono ?_
    rintro e w15 ⟨bg, rfl, hbg, ⟨⟨ev15, hs⟩, hkk⟩, hok⟩
    have HS15 := hide ((unhide HS5).step hs hkk)
    have HF15 := hide (fun he => ((unhide HF5) he).keep (Nat.le_refl _) ((unhide HS5).keeps (S := qT) hkk rfl))
    have HG15 : Hid (G.2.er = none → SelOk w15 w.heap.size (.pointer (some ⟨bg, 0, none⟩)) G.1) := fun he => (hok he).keep (unhide HS5).lo (Keeps.ofBelow (Below.refl _ _))
    have HON15 : Hid (Onw c.ts A.2 G.2) := by rw [unhide HG]; exact onw_sel (unhide HL) (unhide HON4).lt
    clear hs hkk hok hbg HS5
    obtain ⟨k15, f15⟩ := blk (unhide HS15).box
    have z15 := lt_of_heap (unhide HS15).box
    go_wp2
    have HS16 := hide ((unhide HS15).set (i := 2) (u := .pointer (some ⟨bg, 0, none⟩)) (by decide) rfl)
    have KE16 : Hid (Keeps qT w.heap.size w15 (w15.setCell ⟨bs, 2, none⟩ (.pointer (some ⟨bg, 0, none⟩)))) := (unhide HS15).setKeeps rfl
    have HF16 := hide (fun he => ((unhide HF15) he).keep (Nat.le_refl _) (unhide KE16))
    have HG16 := hide (fun he => ((unhide HG15) he).keep (Nat.le_refl _) (unhide KE16).sel)
    clear k15 f15 z15 HS15 HF15 HG15 KE16
    generalize w15.setCell ⟨bs, 2, none⟩ (.pointer (some ⟨bg, 0, none⟩)) = w16 at *
    go_ret
    rw [unhide HX]
    unfold queryP
    rw [unhide HQ, ← unhide HG, unhide HPL]
    refine ⟨bs, rfl, (unhide HS16).old.2.2.2, ⟨⟨ev15, (unhide HS16).rs⟩, (unhide HS16).kp⟩, fun he => ?_⟩
    exact ⟨bs, _, _, rfl, (unhide HS16).old.2.2.2, (unhide HS16).box, (unhide HF16) ((unhide HON15).er he), (unhide HG16) he⟩
end Go.Proofs.YtjnmkmcopfkdfaaGreatDoor
