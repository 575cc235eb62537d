/-
  Part 15.
-/
import Derived.Test.YtfkeddkfegaeiaaGreatDoorMvSel
import Derived.Test.YtfkeddkfegaeiaaGreatDoorMvTlx
namespace Go.Proofs.YtfkeddkfegaeiaaGreatDoor
open Go.RowKit
/-- a call's own box beside the reader. -/
structure BX (c : Cx) (w : World) (T : TypeId) (b : Nat) (W : World) (st : St) (ev : Value) (cs : Array Value) : Prop where
  rs : RS c W st ev
  kp : Kp c.rb w W
  box : W.heap[b]? = some (.cells cs T (0, 0))
  old : c.rb < w.heap.size ∧ c.tb < w.heap.size ∧ c.B ≤ w.heap.size ∧ w.heap.size ≤ b
theorem BX.step {c : Cx} {w : World} {T : TypeId} {b : Nat} {W W' : World} {st st' : St} {ev ev' : Value} {cs : Array Value} (h : BX c w T b W st ev cs) (hs : RS c W' st' ev') (hk : Kp c.rb W W') : BX c w T b W' st' ev' cs :=
  ⟨hs, h.kp.trans hk, (hk.block _ (lt_of_heap h.box) (by have := h.old; omega)).trans h.box, h.old⟩
theorem BX.set {c : Cx} {w : World} {T : TypeId} {b : Nat} {W : World} {st : St} {ev : Value} {cs cs' : Array Value} {i : Nat} {u : Value} (h : BX c w T b W st ev cs) (hT : T ≠ 113) (he : cs.setIfInBounds i u = cs') : BX c w T b (W.setCell ⟨b, i, none⟩ u) st ev cs' := by
  have h1 := h.old
  refine ⟨h.rs.kpb ((Kp.refl _ _).setCell _ _) (by omega) (by omega) (by omega) (fun p e => by rw [h.box]; intro e1; simp at e1; exact hT e1.2), h.kp.setNew (by show w.heap.size ≤ b; omega) _, ?_, h.old⟩
  rw [heap_set h.box, he]
theorem BX.setKeeps {c : Cx} {w : World} {T : TypeId} {b : Nat} {W : World} {st : St} {ev : Value} {cs : Array Value} {i : Nat} {u : Value} {S : TypeId → Bool} {lo : Nat} (h : BX c w T b W st ev cs) (hT : S T = false) : Keeps S lo W (W.setCell ⟨b, i, none⟩ u) :=
  Keeps.ofKp ((Kp.refl b W).setCell i u) (Or.inr fun cs t e => by rw [h.box] at e; cases e; exact hT)
theorem BX.keeps {c : Cx} {w : World} {T : TypeId} {b : Nat} {W W' : World} {st : St} {ev : Value} {cs : Array Value} {S : TypeId → Bool} {lo : Nat} (h : BX c w T b W st ev cs) (hk : Kp c.rb W W') (hS : S 167 = false) : Keeps S lo W W' := h.rs.keeps hk hS
theorem BX.lo {c : Cx} {w : World} {T : TypeId} {b : Nat} {W : World} {st : St} {ev : Value} {cs : Array Value} (h : BX c w T b W st ev cs) : w.heap.size ≤ W.heap.size := h.kp.size
/-- blocks of selects and of what they hold. -/
def selT (t : TypeId) : Bool := lstT t || t == 256
theorem Keeps.lst {lo : Nat} {w w' : World} (h : Keeps selT lo w w') : Keeps lstT lo w w' := h.mono (fun t ht => by unfold selT; rw [ht]; rfl) (Nat.le_refl _)
theorem SelOk.keep {w w' : World} {lo lo' : Nat} {v : Value} {x : SelX} (h : SelOk w lo v x) (hlo : lo' ≤ lo) (hk : Keeps selT lo w w') : SelOk w' lo' v x := by
  obtain ⟨b, vi, vs, vt, es, us, h1, h2, h3, ⟨i1, i2, i3⟩, s1, t1, t2, t3⟩ := h
  refine ⟨b, vi, vs, vt, es, us, h1, Nat.le_trans hlo h2, (hk b _ _ h2 h3 rfl).trans h3, ⟨ownsRow_low (ownsRow_keeps i1 hk rfl) hlo, i2, fun e he => (i3 e he).keep hlo hk.lst.win⟩, ownsRow_low (ownsRow_keeps s1 hk rfl) hlo, ownsRow_low (ownsRow_keeps t1 hk rfl) hlo, t2, fun u hu => ?_⟩
  have hn : ∀ (k : Nat) (cs : Array Value) (t : TypeId), offRow lo vt k → w.heap[k]? = some (.cells cs t (0, 0)) → nodeT t = true → w'.heap[k]? = w.heap[k]? := fun k cs t h0 hkk ht => hk k cs t h0.1 hkk (by unfold selT lstT winT; rw [ht]; rfl)
  exact ⟨(t3 u hu).1.keep (fun k h => ⟨Nat.le_trans hlo h.1, h.2⟩) hn, (t3 u hu).2.keep (fun k h => ⟨Nat.le_trans hlo h.1, h.2⟩) hn⟩
structure WithX where
  place : Nat
  name : Tk
  cols : List Tk
  first : SelX
  union : Nat
  second : SelX
  endp : Nat
def wtOpen (ts : List Tk) (st : St) : St := wantP ts (wantP ts (wantP ts st [⟨#[41]⟩]) [⟨#[97, 115]⟩]) [⟨#[40]⟩]
def wtCols (ts : List Tk) (st : St) : List Tk × St := listP ts (nameP ts) 6 (wantP ts (wkP ts st 2) [⟨#[40]⟩])
def wtA (ts : List Tk) (st : St) : SelX × St := selP ts (wtOpen ts (wtCols ts st).2)
def wtB (ts : List Tk) (st : St) : SelX × St := selP ts (wantP ts st [⟨#[117, 110, 105, 111, 110]⟩])
def withP (ts : List Tk) (st : St) (p : Nat) : WithX × St :=
  (⟨p, wkT ts st 2, (wtCols ts st).1, (wtA ts st).1, (tkAt ts (wtA ts st).2.nx).place, (wtB ts (wtA ts st).2).1, (tkAt ts (wtB ts (wtA ts st).2).2.nx).place⟩, wantP ts (wtB ts (wtA ts st).2).2 [⟨#[41]⟩])
theorem onw_wtCols {ts : List Tk} (hl : Lst ts) {st : St} (h : st.nx < ts.length) : Onw ts st (wtCols ts st).2 := by
  have h1 := onw_wk hl h (k := 2) (by decide)
  have h2 := onw_want hl h1.lt [⟨#[40]⟩]
  exact h1.trans (h2.trans (onw_list hl (onw_name hl) 6 _ h2.lt))
theorem onw_wtOpen {ts : List Tk} (hl : Lst ts) {st : St} (h : st.nx < ts.length) : Onw ts st (wtOpen ts st) := by
  have h1 := onw_want hl h [⟨#[41]⟩]
  have h2 := onw_want hl h1.lt [⟨#[97, 115]⟩]
  exact h1.trans (h2.trans (onw_want hl h2.lt _))
theorem onw_wtA {ts : List Tk} (hl : Lst ts) {st : St} (h : st.nx < ts.length) : Onw ts st (wtA ts st).2 := by
  have h1 := onw_wtCols hl h
  have h2 := onw_wtOpen hl h1.lt
  exact h1.trans (h2.trans (onw_sel hl h2.lt))
theorem onw_wtB {ts : List Tk} (hl : Lst ts) {st : St} (h : st.nx < ts.length) : Onw ts st (wtB ts st).2 := by
  have h1 := onw_want hl h [⟨#[117, 110, 105, 111, 110]⟩]
  exact h1.trans (onw_sel hl h1.lt)
theorem onw_with {ts : List Tk} (hl : Lst ts) {st : St} (h : st.nx < ts.length) (p : Nat) : Onw ts st (withP ts st p).2 := by
  have h1 := onw_wtA hl h
  have h2 := onw_wtB hl h1.lt
  exact h1.trans (h2.trans (onw_want hl h2.lt _))
/-- a with as it lies. -/
def WithOk (w : World) (lo : Nat) (v : Value) (x : WithX) : Prop := ∃ b vc vf vg, v = .pointer (some ⟨b, 0, none⟩) ∧ lo ≤ b ∧ w.heap[b]? = some (.cells #[.int .i64 x.place, .int .i64 x.name.place, .string x.name.text, vc, vf, .int .i64 x.union, vg, .int .i64 x.endp] 243 (0, 0)) ∧
  w.ownsRow lo 240 2 vc x.cols.length (nmCells x.cols) ∧ SelOk w lo vf x.first ∧ SelOk w lo vg x.second
set_option maxRecDepth 100000 in
set_option maxHeartbeats 2000000 in
theorem with_any (c : Cx) (w : World) (st : St) (ev : Value) (p : Nat) (X : WithX × St) (h : RS c w st ev) (hd0 : st.dp = 0) (HX : Hid (X = withP c.ts st p)) :
    Calls Tryz.prog 97 #[.pointer (some ⟨c.rb, 0, none⟩), .agg #[.int .i64 p]] w fun e w' => ∃ b, e = .returned (.pointer (some ⟨b, 0, none⟩)) ∧ w.heap.size ≤ b ∧ Aft c w X.2 w' ∧ (X.2.er = none → WithOk w' w.heap.size (.pointer (some ⟨b, 0, none⟩)) X.1) := by
  have HL := hide h.last
  have hold : c.rb < w.heap.size ∧ c.tb < w.heap.size ∧ c.B ≤ w.heap.size := ⟨lt_of_heap h.reader, by obtain ⟨cur, e1, _⟩ := h.tokens; exact lt_of_heap e1, h.env.size⟩
  have HOLD := hide hold
  have HH := hide h
  have HNX := hide h.nx
  clear h hold
  have hfp := field_part
  go_enter Tryz.func97, Tryz.ntmps97
  go_wp2_with fail
  have hbx : BX c w 243 (w.heap.size + 1) ((w.alloc (.cells #[.int .i64 p] 170)).alloc (.cells #[.int .i64 p, .int .i64 0, .string ⟨#[]⟩, .slice none 0 0, .pointer none, .int .i64 0, .pointer none, .int .i64 0] 243)) st ev #[.int .i64 p, .int .i64 0, .string ⟨#[]⟩, .slice none 0 0, .pointer none, .int .i64 0, .pointer none, .int .i64 0] :=
    ⟨((unhide HH).alloc _).alloc _, ((Kp.refl _ _).alloc _).alloc _, heap_last (by simp), (unhide HOLD).1, (unhide HOLD).2.1, (unhide HOLD).2.2, by omega⟩
  have HS0 := hide hbx
  clear hbx
  generalize (w.alloc (.cells #[.int .i64 p] 170)).alloc (.cells #[.int .i64 p, .int .i64 0, .string ⟨#[]⟩, .slice none 0 0, .pointer none, .int .i64 0, .pointer none, .int .i64 0] 243) = w1 at *
  refine (name_any c _ st ev (by exact (unhide HS0).rs)).mono ?_
  rintro e w2 ⟨rfl, ⟨ev2, hs⟩, hk⟩
  have HS2 := hide ((unhide HS0).step hs hk)
  clear hs hk HS0
  generalize hnm : wkT c.ts st 2 = nm at *
  have HNM := hide hnm
  clear hnm
  obtain ⟨k2, f2⟩ := blk (unhide HS2).box
  have z2 := lt_of_heap (unhide HS2).box
  generalize w.heap.size + 1 = bs at *
  go_upto_region 3 with (fail)
  have HS3 := hide (((unhide HS2).set (i := 1) (u := .int .i64 nm.place) (by decide) rfl).set (i := 2) (u := .string nm.text) (by decide) rfl)
  clear k2 f2 z2 HS2
  generalize (w2.setCell ⟨bs, 1, none⟩ (.int .i64 nm.place)).setCell ⟨bs, 2, none⟩ (.string nm.text) = w3 at *
  go_wp2_with fail
  refine (want_any c _ (wkP c.ts st 2) ev2 w3.heap.size [⟨#[40]⟩] (by exact (unhide HS3).rs.alloc _) (by exact texts_new rfl (fun j hj => by match j, hj with | 0, _ => rfl)) (by simp) (nonE_ok (by decide))).mono ?_
  rintro e w4 ⟨rfl, ⟨ev4, hs⟩, hk⟩
  have HS4 := hide ((unhide HS3).step hs (((Kp.refl c.rb w3).alloc _).trans hk))
  have hkk := ((Kp.refl c.rb w3).alloc (.cells #[.string ⟨#[40]⟩] 9)).trans hk
  clear hs hk hkk HS3
  go_wp2_with fail
  refine (list_name c _ _ ev4 6 _ (by exact (unhide HS4).rs) (by decide) rfl).mono ?_
  rintro e w5 ⟨vc, rfl, hrow, hpos, ⟨ev5, hs⟩, hk⟩
  obtain ⟨gc, cc, hvc⟩ := ownsRow_slice hrow hpos
  subst hvc
  have HS5 : Hid (BX c w 243 bs w5 (wtCols c.ts st).2 ev5 _) := (unhide HS4).step hs hk
  have HC5 : Hid (w5.ownsRow w.heap.size 240 2 (.slice (some ⟨gc, 0, none⟩) (wtCols c.ts st).1.length cc) (wtCols c.ts st).1.length (nmCells (wtCols c.ts st).1)) := ownsRow_low hrow (unhide HS4).lo
  have HON5 := hide (onw_wtCols (unhide HL) (unhide HNX))
  rw [show (listP c.ts (nameP c.ts) 6 (wantP c.ts (wkP c.ts st 2) [⟨#[40]⟩])) = wtCols c.ts st from rfl]
  clear hs hk hrow hpos HS4
  generalize hcl : wtCols c.ts st = cl at *
  have HCL := hide hcl
  clear hcl
  obtain ⟨k5, f5⟩ := blk (unhide HS5).box
  have z5 := lt_of_heap (unhide HS5).box
  go_upto_region 5 with (fail)
  have HS6 := hide ((unhide HS5).set (i := 3) (u := .slice (some ⟨gc, 0, none⟩) cl.1.length cc) (by decide) rfl)
  have HC6 := hide (ownsRow_keeps (unhide HC5) ((unhide HS5).setKeeps (S := selT) (i := 3) (u := .slice (some ⟨gc, 0, none⟩) cl.1.length cc) rfl) rfl)
  clear k5 f5 z5 HS5 HC5
  generalize w5.setCell ⟨bs, 3, none⟩ (.slice (some ⟨gc, 0, none⟩) cl.1.length cc) = w6 at *
  go_wp2_with fail
  refine (want_any c _ cl.2 ev5 w6.heap.size [⟨#[41]⟩] (by exact (unhide HS6).rs.alloc _) (by exact texts_new rfl (fun j hj => by match j, hj with | 0, _ => rfl)) (by simp) (nonE_ok (by decide))).mono ?_
  rintro e w7 ⟨rfl, ⟨ev7, hs⟩, hk⟩
  have HS7 := hide ((unhide HS6).step hs (((Kp.refl c.rb w6).alloc _).trans hk))
  have hkk := ((Kp.refl c.rb w6).alloc (.cells #[.string ⟨#[41]⟩] 9)).trans hk
  have HC7 := hide (ownsRow_keeps (unhide HC6) ((unhide HS6).keeps (S := selT) hkk rfl) rfl)
  clear hs hk hkk HS6
  go_wp2_with fail
  refine (want_any c _ _ ev7 w7.heap.size [⟨#[97, 115]⟩] (by exact (unhide HS7).rs.alloc _) (by exact texts_new rfl (fun j hj => by match j, hj with | 0, _ => rfl)) (by simp) (nonE_ok (by decide))).mono ?_
  rintro e w8 ⟨rfl, ⟨ev8, hs⟩, hk⟩
  have HS8 := hide ((unhide HS7).step hs (((Kp.refl c.rb w7).alloc _).trans hk))
  have hkk := ((Kp.refl c.rb w7).alloc (.cells #[.string ⟨#[97, 115]⟩] 9)).trans hk
  have HC8 := hide (ownsRow_keeps (unhide HC7) ((unhide HS7).keeps (S := selT) hkk rfl) rfl)
  clear hs hk hkk HS7
  go_wp2_with fail
  refine (want_any c _ _ ev8 w8.heap.size [⟨#[40]⟩] (by exact (unhide HS8).rs.alloc _) (by exact texts_new rfl (fun j hj => by match j, hj with | 0, _ => rfl)) (by simp) (nonE_ok (by decide))).mono ?_
  rintro e w9 ⟨rfl, ⟨ev9, hs⟩, hk⟩
  have HS9 := hide ((unhide HS8).step hs (((Kp.refl c.rb w8).alloc _).trans hk))
  have hkk := ((Kp.refl c.rb w8).alloc (.cells #[.string ⟨#[40]⟩] 9)).trans hk
  have HC9 := hide (ownsRow_keeps (unhide HC8) ((unhide HS8).keeps (S := selT) hkk rfl) rfl)
  clear hs hk hkk HS8
  have HS9' : Hid (BX c w 243 bs w9 (wtOpen c.ts cl.2) ev9 _) := unhide HS9
  clear HS9
  have HON9 := hide (onw_wtOpen (unhide HL) (unhide HON5).lt)
  have hd9 : (wtOpen c.ts cl.2).dp = 0 := ((unhide HON9).dp.trans (unhide HON5).dp).trans hd0
  obtain ⟨A, HA⟩ : ∃ A, Hid (A = selP c.ts (wtOpen c.ts cl.2)) := ⟨_, rfl⟩
  go_wp2_with fail
  refine (selection_any c _ _ ev9 A (by exact (unhide HS9').rs) hd9 HA).mono ?_
  rintro e w10 ⟨ba, rfl, hba, ⟨⟨ev10, hs⟩, hkk⟩, hok⟩
  have HS10 := hide ((unhide HS9').step hs hkk)
  have HC10 := hide (ownsRow_keeps (unhide HC9) ((unhide HS9').keeps (S := selT) hkk rfl) rfl)
  have HF10 : Hid (A.2.er = none → SelOk w10 w.heap.size (.pointer (some ⟨ba, 0, none⟩)) A.1) := fun he => (hok he).keep (unhide HS9').lo (Keeps.ofBelow (Below.refl _ _))
  have HON10 : Hid (Onw c.ts (wtOpen c.ts cl.2) A.2) := by rw [unhide HA]; exact onw_sel (unhide HL) (unhide HON9).lt
  clear hs hkk hok hba HS9' HC9
  obtain ⟨k10, f10⟩ := blk (unhide HS10).box
  have z10 := lt_of_heap (unhide HS10).box
  go_upto_region 9 with (fail)
  have HS11 := hide ((unhide HS10).set (i := 4) (u := .pointer (some ⟨ba, 0, none⟩)) (by decide) rfl)
  have KE11 : Hid (Keeps selT w.heap.size w10 (w10.setCell ⟨bs, 4, none⟩ (.pointer (some ⟨ba, 0, none⟩)))) := (unhide HS10).setKeeps rfl
  have HC11 := hide (ownsRow_keeps (unhide HC10) (unhide KE11) rfl)
  have HF11 := hide (fun he => ((unhide HF10) he).keep (Nat.le_refl _) (unhide KE11))
  clear k10 f10 z10 HS10 HC10 HF10 KE11
  generalize w10.setCell ⟨bs, 4, none⟩ (.pointer (some ⟨ba, 0, none⟩)) = w11 at *
  go_wp2_with fail
  refine (peek_any c _ A.2 ev10 (by exact (unhide HS11).rs)).mono ?_
  rintro e w12 ⟨rfl, hb⟩
  have hkk : Kp c.rb w11 w12 := Kp.ofBelow hb
  have HS12 := hide ((unhide HS11).step ((unhide HS11).rs.keep hb) hkk)
  have HC12 := hide (ownsRow_keeps (unhide HC11) ((unhide HS11).keeps (S := selT) hkk rfl) rfl)
  have HF12 := hide (fun he => ((unhide HF11) he).keep (Nat.le_refl _) ((unhide HS11).keeps (S := selT) hkk rfl))
  clear hb hkk HS11 HC11 HF11
  generalize hpu : (tkAt c.ts A.2.nx).place = pu at *
  have HPU := hide hpu
  clear hpu
  obtain ⟨k12, f12⟩ := blk (unhide HS12).box
  have z12 := lt_of_heap (unhide HS12).box
  go_upto_region 10 with (fail)
  have HS13 := hide ((unhide HS12).set (i := 5) (u := .int .i64 pu) (by decide) rfl)
  have KE13 : Hid (Keeps selT w.heap.size w12 (w12.setCell ⟨bs, 5, none⟩ (.int .i64 pu))) := (unhide HS12).setKeeps rfl
  have HC13 := hide (ownsRow_keeps (unhide HC12) (unhide KE13) rfl)
  have HF13 := hide (fun he => ((unhide HF12) he).keep (Nat.le_refl _) (unhide KE13))
  clear k12 f12 z12 HS12 HC12 HF12 KE13
  generalize w12.setCell ⟨bs, 5, none⟩ (.int .i64 pu) = w13 at *
  go_wp2_with fail
  refine (want_any c _ A.2 ev10 w13.heap.size [⟨#[117, 110, 105, 111, 110]⟩] (by exact (unhide HS13).rs.alloc _) (by exact texts_new rfl (fun j hj => by match j, hj with | 0, _ => rfl)) (by simp) (nonE_ok (by decide))).mono ?_
  rintro e w14 ⟨rfl, ⟨ev14, hs⟩, hk⟩
  have HS14 := hide ((unhide HS13).step hs (((Kp.refl c.rb w13).alloc _).trans hk))
  have hkk := ((Kp.refl c.rb w13).alloc (.cells #[.string ⟨#[117, 110, 105, 111, 110]⟩] 9)).trans hk
  have HC14 := hide (ownsRow_keeps (unhide HC13) ((unhide HS13).keeps (S := selT) hkk rfl) rfl)
  have HF14 := hide (fun he => ((unhide HF13) he).keep (Nat.le_refl _) ((unhide HS13).keeps (S := selT) hkk rfl))
  clear hs hk hkk HS13
  have HON14 := hide (onw_want (unhide HL) (unhide HON10).lt [⟨#[117, 110, 105, 111, 110]⟩])
  have hd14 : (wantP c.ts A.2 [⟨#[117, 110, 105, 111, 110]⟩]).dp = 0 := ((unhide HON14).dp.trans (unhide HON10).dp).trans hd9
  obtain ⟨G, HG⟩ : ∃ G, Hid (G = wtB c.ts A.2) := ⟨_, rfl⟩
  go_wp2_with fail
  refine (selection_any c _ _ ev14 G (by exact (unhide HS14).rs) hd14 HG).mono ?_
  rintro e w15 ⟨bg, rfl, hbg, ⟨⟨ev15, hs⟩, hkk⟩, hok⟩
  have HS15 := hide ((unhide HS14).step hs hkk)
  have HC15 := hide (ownsRow_keeps (unhide HC14) ((unhide HS14).keeps (S := selT) hkk rfl) rfl)
  have HF15 := hide (fun he => ((unhide HF14) he).keep (Nat.le_refl _) ((unhide HS14).keeps (S := selT) hkk rfl))
  have HG15 : Hid (G.2.er = none → SelOk w15 w.heap.size (.pointer (some ⟨bg, 0, none⟩)) G.1) := fun he => (hok he).keep (unhide HS14).lo (Keeps.ofBelow (Below.refl _ _))
  have HON15 : Hid (Onw c.ts A.2 G.2) := by rw [unhide HG]; exact onw_wtB (unhide HL) (unhide HON10).lt
  clear hs hkk hok hbg HS14 HC14 HF14
  obtain ⟨k15, f15⟩ := blk (unhide HS15).box
  have z15 := lt_of_heap (unhide HS15).box
  go_upto_region 12 with (fail)
  have HS16 := hide ((unhide HS15).set (i := 6) (u := .pointer (some ⟨bg, 0, none⟩)) (by decide) rfl)
  have KE16 : Hid (Keeps selT w.heap.size w15 (w15.setCell ⟨bs, 6, none⟩ (.pointer (some ⟨bg, 0, none⟩)))) := (unhide HS15).setKeeps rfl
  have HC16 := hide (ownsRow_keeps (unhide HC15) (unhide KE16) rfl)
  have HF16 := hide (fun he => ((unhide HF15) he).keep (Nat.le_refl _) (unhide KE16))
  have HG16 := hide (fun he => ((unhide HG15) he).keep (Nat.le_refl _) (unhide KE16))
  clear k15 f15 z15 HS15 HC15 HF15 HG15 KE16
  generalize w15.setCell ⟨bs, 6, none⟩ (.pointer (some ⟨bg, 0, none⟩)) = w16 at *
  go_wp2_with fail
  refine (peek_any c _ G.2 ev15 (by exact (unhide HS16).rs)).mono ?_
  rintro e w17 ⟨rfl, hb⟩
  have hkk : Kp c.rb w16 w17 := Kp.ofBelow hb
  have HS17 := hide ((unhide HS16).step ((unhide HS16).rs.keep hb) hkk)
  have HC17 := hide (ownsRow_keeps (unhide HC16) ((unhide HS16).keeps (S := selT) hkk rfl) rfl)
  have HF17 := hide (fun he => ((unhide HF16) he).keep (Nat.le_refl _) ((unhide HS16).keeps (S := selT) hkk rfl))
  have HG17 := hide (fun he => ((unhide HG16) he).keep (Nat.le_refl _) ((unhide HS16).keeps (S := selT) hkk rfl))
  clear hb hkk HS16 HC16 HF16 HG16
  generalize hpe : (tkAt c.ts G.2.nx).place = pe at *
  have HPE := hide hpe
  clear hpe
  obtain ⟨k17, f17⟩ := blk (unhide HS17).box
  have z17 := lt_of_heap (unhide HS17).box
  go_upto_region 13 with (fail)
  have HS18 := hide ((unhide HS17).set (i := 7) (u := .int .i64 pe) (by decide) rfl)
  have KE18 : Hid (Keeps selT w.heap.size w17 (w17.setCell ⟨bs, 7, none⟩ (.int .i64 pe))) := (unhide HS17).setKeeps rfl
  have HC18 := hide (ownsRow_keeps (unhide HC17) (unhide KE18) rfl)
  have HF18 := hide (fun he => ((unhide HF17) he).keep (Nat.le_refl _) (unhide KE18))
  have HG18 := hide (fun he => ((unhide HG17) he).keep (Nat.le_refl _) (unhide KE18))
  clear k17 f17 z17 HS17 HC17 HF17 HG17 KE18
  generalize w17.setCell ⟨bs, 7, none⟩ (.int .i64 pe) = w18 at *
  go_wp2_with fail
  refine (want_any c _ G.2 ev15 w18.heap.size [⟨#[41]⟩] (by exact (unhide HS18).rs.alloc _) (by exact texts_new rfl (fun j hj => by match j, hj with | 0, _ => rfl)) (by simp) (nonE_ok (by decide))).mono ?_
  rintro e w19 ⟨rfl, ⟨ev19, hs⟩, hk⟩
  have HS19 := hide ((unhide HS18).step hs (((Kp.refl c.rb w18).alloc _).trans hk))
  have hkk := ((Kp.refl c.rb w18).alloc (.cells #[.string ⟨#[41]⟩] 9)).trans hk
  have HC19 := hide (ownsRow_keeps (unhide HC18) ((unhide HS18).keeps (S := selT) hkk rfl) rfl)
  have HF19 := hide (fun he => ((unhide HF18) he).keep (Nat.le_refl _) ((unhide HS18).keeps (S := selT) hkk rfl))
  have HG19 := hide (fun he => ((unhide HG18) he).keep (Nat.le_refl _) ((unhide HS18).keeps (S := selT) hkk rfl))
  clear hs hk hkk HS18
  have HXE : Hid (X = (⟨p, nm, cl.1, A.1, pu, G.1, pe⟩, wantP c.ts G.2 [⟨#[41]⟩])) := by rw [unhide HX]; unfold Hid withP wtA; rw [unhide HNM, unhide HCL, ← unhide HA, ← unhide HG, unhide HPU, unhide HPE]
  have HON19 := hide (onw_want (unhide HL) (unhide HON15).lt [⟨#[41]⟩])
  go_wp2
  go_ret
  rw [unhide HXE]
  refine ⟨bs, rfl, (unhide HS19).old.2.2.2, ⟨⟨ev19, (unhide HS19).rs⟩, (unhide HS19).kp⟩, fun he => ?_⟩
  have e15 := (unhide HON19).er he
  exact ⟨bs, _, _, _, rfl, (unhide HS19).old.2.2.2, (unhide HS19).box, unhide HC19, (unhide HF19) ((unhide HON15).er e15), (unhide HG19) e15⟩
end Go.Proofs.YtfkeddkfegaeiaaGreatDoor
namespace Go.Proofs.YtfkeddkfegaeiaaGreatDoor
open Go.RowKit
structure QueryX where
  place : Nat
  wth : Option WithX
  main : SelX
def qHead (ts : List Tk) (st : St) : Option WithX × St := if hitP ts st [⟨#[119, 105, 116, 104]⟩] then (some (withP ts (adv st) (tkAt ts st.nx).place).1, (withP ts (adv st) (tkAt ts st.nx).place).2) else (none, st)
def queryP (ts : List Tk) (st : St) : QueryX × St := (⟨(tkAt ts st.nx).place, (qHead ts st).1, (selP ts (qHead ts st).2).1⟩, (selP ts (qHead ts st).2).2)
def qT (t : TypeId) : Bool := selT t || t == 243
theorem Keeps.sel {lo : Nat} {w w' : World} (h : Keeps qT lo w w') : Keeps selT lo w w' := h.mono (fun t ht => by unfold qT; rw [ht]; rfl) (Nat.le_refl _)
theorem WithOk.keep {w w' : World} {lo lo' : Nat} {v : Value} {x : WithX} (h : WithOk w lo v x) (hlo : lo' ≤ lo) (hk : Keeps qT lo w w') : WithOk w' lo' v x := by
  obtain ⟨b, vc, vf, vg, h1, h2, h3, h4, h5, h6⟩ := h
  exact ⟨b, vc, vf, vg, h1, Nat.le_trans hlo h2, (hk b _ _ h2 h3 rfl).trans h3, ownsRow_low (ownsRow_keeps h4 hk rfl) hlo, h5.keep hlo hk.sel, h6.keep hlo hk.sel⟩
def WtOk (w : World) (lo : Nat) (v : Value) : Option WithX → Prop
  | none => v = .pointer none
  | some x => WithOk w lo v x
theorem WtOk.keep {w w' : World} {lo lo' : Nat} {v : Value} {o : Option WithX} (h : WtOk w lo v o) (hlo : lo' ≤ lo) (hk : Keeps qT lo w w') : WtOk w' lo' v o := by
  match o, h with
  | none, h => exact h
  | some x, h => exact WithOk.keep h hlo hk
/-- a query as it lies. -/
def QueryOk (w : World) (lo : Nat) (v : Value) (x : QueryX) : Prop := ∃ b vw vm, v = .pointer (some ⟨b, 0, none⟩) ∧ lo ≤ b ∧ w.heap[b]? = some (.cells #[.int .i64 x.place, vw, vm] 180 (0, 0)) ∧ WtOk w lo vw x.wth ∧ SelOk w lo vm x.main
set_option maxRecDepth 100000 in
set_option maxHeartbeats 1000000 in
theorem query_any (c : Cx) (w : World) (st : St) (ev : Value) (X : QueryX × St) (h : RS c w st ev) (hd0 : st.dp = 0) (HX : Hid (X = queryP c.ts st)) :
    Calls Tryz.prog 61 #[.pointer (some ⟨c.rb, 0, none⟩)] w fun e w' => ∃ b, e = .returned (.pointer (some ⟨b, 0, none⟩)) ∧ w.heap.size ≤ b ∧ Aft c w X.2 w' ∧ (X.2.er = none → QueryOk w' w.heap.size (.pointer (some ⟨b, 0, none⟩)) X.1) := by
  have HL := hide h.last
  have hold : c.rb < w.heap.size ∧ c.tb < w.heap.size ∧ c.B ≤ w.heap.size := ⟨lt_of_heap h.reader, by obtain ⟨cur, e1, _⟩ := h.tokens; exact lt_of_heap e1, h.env.size⟩
  have HOLD := hide hold
  have HH := hide h
  have HNX := hide h.nx
  clear h hold
  have hfp := field_part
  go_enter Tryz.func61, Tryz.ntmps61
  go_wp2_with fail
  refine (peek_any c _ st ev (by exact unhide HH)).mono ?_
  rintro e w1 ⟨rfl, hb⟩
  have HB1 := hide hb
  clear hb
  generalize hpl : (tkAt c.ts st.nx).place = pl at *
  have HPL := hide hpl
  clear hpl
  go_upto_region 2 with (fail)
  have hbx : BX c w 180 w1.heap.size (w1.alloc (.cells #[.int .i64 pl, .pointer none, .pointer none] 180)) st ev #[.int .i64 pl, .pointer none, .pointer none] :=
    ⟨((unhide HH).keep (unhide HB1)).alloc _, (Kp.ofBelow (unhide HB1)).alloc _, heap_last rfl, (unhide HOLD).1, (unhide HOLD).2.1, (unhide HOLD).2.2, (unhide HB1).size⟩
  have HS2 := hide hbx
  clear hbx
  generalize w1.alloc (.cells #[.int .i64 pl, .pointer none, .pointer none] 180) = w2 at *
  generalize w1.heap.size = bs at *
  cases hh : hitP c.ts st [⟨#[119, 105, 116, 104]⟩] with
  | false =>
    have HQ : Hid (qHead c.ts st = (none, st)) := by unfold Hid qHead; rw [hh]; rfl
    have HHIT := hide hh
    clear hh
    go_wp2_with fail
    refine (take_no c _ st ev ⟨#[119, 105, 116, 104]⟩ (by exact (unhide HS2).rs) (by exact unhide HHIT)).mono ?_
    rintro e w3 ⟨rfl, hb⟩
    have HS3 := hide ((unhide HS2).step ((unhide HS2).rs.keep hb) (Kp.ofBelow hb))
    clear hb HS2
    have HW3 : Hid (st.er = none → WtOk w3 w.heap.size (.pointer none) none) := fun _ => rfl
    have hdm := hd0
    obtain ⟨G, HG⟩ : ∃ G, Hid (G = selP c.ts st) := ⟨_, rfl⟩
    go_wp2_with fail
    refine (selection_any c _ _ ev G (by exact (unhide HS3).rs) hdm HG).mono ?_
    rintro e w15 ⟨bg, rfl, hbg, ⟨⟨ev15, hs⟩, hkk⟩, hok⟩
    have HS15 := hide ((unhide HS3).step hs hkk)
    have HF15 := hide (fun he => ((unhide HW3) he).keep (Nat.le_refl _) ((unhide HS3).keeps (S := qT) hkk rfl))
    have HG15 : Hid (G.2.er = none → SelOk w15 w.heap.size (.pointer (some ⟨bg, 0, none⟩)) G.1) := fun he => (hok he).keep (unhide HS3).lo (Keeps.ofBelow (Below.refl _ _))
    have HON15 : Hid (Onw c.ts st G.2) := by rw [unhide HG]; exact onw_sel (unhide HL) (unhide HNX)
    clear hs hkk hok hbg HS3
    obtain ⟨k15, f15⟩ := blk (unhide HS15).box
    have z15 := lt_of_heap (unhide HS15).box
    go_wp2
    have HS16 := hide ((unhide HS15).set (i := 2) (u := .pointer (some ⟨bg, 0, none⟩)) (by decide) rfl)
    have KE16 : Hid (Keeps qT w.heap.size w15 (w15.setCell ⟨bs, 2, none⟩ (.pointer (some ⟨bg, 0, none⟩)))) := (unhide HS15).setKeeps rfl
    have HF16 := hide (fun he => ((unhide HF15) he).keep (Nat.le_refl _) (unhide KE16))
    have HG16 := hide (fun he => ((unhide HG15) he).keep (Nat.le_refl _) (unhide KE16).sel)
    clear k15 f15 z15 HS15 HF15 HG15 KE16
    generalize w15.setCell ⟨bs, 2, none⟩ (.pointer (some ⟨bg, 0, none⟩)) = w16 at *
    go_ret
    rw [unhide HX]
    unfold queryP
    rw [unhide HQ, ← unhide HG, unhide HPL]
    refine ⟨bs, rfl, (unhide HS16).old.2.2.2, ⟨⟨ev15, (unhide HS16).rs⟩, (unhide HS16).kp⟩, fun he => ?_⟩
    exact ⟨bs, _, _, rfl, (unhide HS16).old.2.2.2, (unhide HS16).box, (unhide HF16) ((unhide HON15).er he), (unhide HG16) he⟩
  | true =>
    obtain ⟨A, HA⟩ : ∃ A, Hid (A = withP c.ts (adv st) pl) := ⟨_, rfl⟩
    have HQ : Hid (qHead c.ts st = (some A.1, A.2)) := by unfold Hid qHead; rw [hh, if_pos rfl, unhide HPL, ← unhide HA]
    have HHIT := hide hh
    clear hh
    have HON3 := hide (onw_adv (unhide HL) (unhide HNX) (hit_kind (unhide HHIT)))
    go_wp2_with fail
    refine (take_yes c _ st ev ⟨#[119, 105, 116, 104]⟩ (by exact (unhide HS2).rs) (by rw [ByteArray.toList_eq]; rfl) (by exact unhide HHIT)).mono ?_
    rintro e w3 ⟨rfl, ⟨ev3, hs⟩, hk⟩
    have HS3 := hide ((unhide HS2).step hs hk)
    clear hs hk HS2
    have hd3 : (adv st).dp = 0 := hd0
    obtain ⟨k3, f3⟩ := blk (unhide HS3).box
    have z3 := lt_of_heap (unhide HS3).box
    go_wp2_with fail
    refine (with_any c _ (adv st) ev3 pl A (by exact (unhide HS3).rs) hd3 HA).mono ?_
    rintro e w4 ⟨ba, rfl, hba, ⟨⟨ev4, hs⟩, hkk⟩, hok⟩
    have HS4 := hide ((unhide HS3).step hs hkk)
    have HF4 : Hid (A.2.er = none → WtOk w4 w.heap.size (.pointer (some ⟨ba, 0, none⟩)) (some A.1)) := fun he => WithOk.keep (hok he) (unhide HS3).lo (Keeps.ofBelow (Below.refl _ _))
    have HON4 : Hid (Onw c.ts (adv st) A.2) := by rw [unhide HA]; exact onw_with (unhide HL) (unhide HON3).lt _
    clear hs hkk hok hba k3 f3 z3 HS3
    obtain ⟨k4, f4⟩ := blk (unhide HS4).box
    have z4 := lt_of_heap (unhide HS4).box
    go_upto_region 4 with (fail)
    have HS5 := hide ((unhide HS4).set (i := 1) (u := .pointer (some ⟨ba, 0, none⟩)) (by decide) rfl)
    have KE5 : Hid (Keeps qT w.heap.size w4 (w4.setCell ⟨bs, 1, none⟩ (.pointer (some ⟨ba, 0, none⟩)))) := (unhide HS4).setKeeps rfl
    have HF5 := hide (fun he => ((unhide HF4) he).keep (Nat.le_refl _) (unhide KE5))
    clear k4 f4 z4 HS4 HF4 KE5
    generalize w4.setCell ⟨bs, 1, none⟩ (.pointer (some ⟨ba, 0, none⟩)) = w5 at *
    have hdm : A.2.dp = 0 := (unhide HON4).dp.trans hd3
    obtain ⟨G, HG⟩ : ∃ G, Hid (G = selP c.ts A.2) := ⟨_, rfl⟩
    go_wp2_with fail
    refine (selection_any c _ _ ev4 G (by exact (unhide HS5).rs) hdm HG).mono ?_
    rintro e w15 ⟨bg, rfl, hbg, ⟨⟨ev15, hs⟩, hkk⟩, hok⟩
    have HS15 := hide ((unhide HS5).step hs hkk)
    have HF15 := hide (fun he => ((unhide HF5) he).keep (Nat.le_refl _) ((unhide HS5).keeps (S := qT) hkk rfl))
    have HG15 : Hid (G.2.er = none → SelOk w15 w.heap.size (.pointer (some ⟨bg, 0, none⟩)) G.1) := fun he => (hok he).keep (unhide HS5).lo (Keeps.ofBelow (Below.refl _ _))
    have HON15 : Hid (Onw c.ts A.2 G.2) := by rw [unhide HG]; exact onw_sel (unhide HL) (unhide HON4).lt
    clear hs hkk hok hbg HS5
    obtain ⟨k15, f15⟩ := blk (unhide HS15).box
    have z15 := lt_of_heap (unhide HS15).box
    go_wp2
    have HS16 := hide ((unhide HS15).set (i := 2) (u := .pointer (some ⟨bg, 0, none⟩)) (by decide) rfl)
    have KE16 : Hid (Keeps qT w.heap.size w15 (w15.setCell ⟨bs, 2, none⟩ (.pointer (some ⟨bg, 0, none⟩)))) := (unhide HS15).setKeeps rfl
    have HF16 := hide (fun he => ((unhide HF15) he).keep (Nat.le_refl _) (unhide KE16))
    have HG16 := hide (fun he => ((unhide HG15) he).keep (Nat.le_refl _) (unhide KE16).sel)
    clear k15 f15 z15 HS15 HF15 HG15 KE16
    generalize w15.setCell ⟨bs, 2, none⟩ (.pointer (some ⟨bg, 0, none⟩)) = w16 at *
    go_ret
    rw [unhide HX]
    unfold queryP
    rw [unhide HQ, ← unhide HG, unhide HPL]
    refine ⟨bs, rfl, (unhide HS16).old.2.2.2, ⟨⟨ev15, (unhide HS16).rs⟩, (unhide HS16).kp⟩, fun he => ?_⟩
    exact ⟨bs, _, _, rfl, (unhide HS16).old.2.2.2, (unhide HS16).box, (unhide HF16) ((unhide HON15).er he), (unhide HG16) he⟩
end Go.Proofs.YtfkeddkfegaeiaaGreatDoor
namespace Go.Proofs.YtfkeddkfegaeiaaGreatDoor
open Go.RowKit
theorem ExIn.isI {w : World} {P : Nat → Prop} {v : Value} {l : List Nd} (h : ExIn w P v l) : ∃ u z, v = .iface u z := by
  obtain ⟨n, hn⟩ := h
  match n, hn with
  | n + 1, hn =>
    rcases hn with ⟨b, t, h, _⟩ | ⟨b, p, x, k, h, _⟩ | ⟨b, t, u, h, _⟩ | ⟨b, p, x, k, h, _⟩ | ⟨b, p, x, sg, y, k, m, h, _⟩ <;> exact ⟨_, _, h⟩
theorem ExIn.ts {tl : Nat} {w w' : World} {P : Nat → Prop} {v : Value} {l : List Nd} (h : ExIn w P v l) (ht : TSt tl w w') : ExIn w' P v l := let ⟨n, hn⟩ := h; ⟨n, hn.ts ht⟩
end Go.Proofs.YtfkeddkfegaeiaaGreatDoor
namespace Go.Proofs.YtfkeddkfegaeiaaGreatDoor
open Go.RowKit
theorem TSt.keeps {tl lo : Nat} {w w' : World} {S : TypeId → Bool} (h : TSt tl w w') (hS : ∀ t, S t = true → tkT t = true) : Keeps S lo w w' := h.keep.mono hS (Nat.zero_le _)
theorem tkT_of {S : TypeId → Bool} (h1 : S 5 = false) (h2 : S 93 = false) : ∀ t, S t = true → tkT t = true := fun t ht => by
  unfold tkT
  cases h3 : (t == 5) with
  | true => rw [beq_iff_eq.1 h3, h1] at ht; cases ht
  | false =>
    cases h4 : (t == 93) with
    | true => rw [beq_iff_eq.1 h4, h2] at ht; cases ht
    | false => rfl
end Go.Proofs.YtfkeddkfegaeiaaGreatDoor
