/-
  Part 12.
-/
import Derived.Test.YtfkeddkfegaeiaaGreatDoorMvItem
import Derived.Test.YtfkeddkfegaeiaaGreatDoorMvExF
namespace Go.Proofs.YtfkeddkfegaeiaaGreatDoor
open Go.RowKit
def itCells (es : List (ItemA × Value × Option Addr)) : List Value := es.flatMap fun e => [.int .i64 e.1.place, e.2.1, .pointer e.2.2, .int .i64 e.1.asP, .string e.1.asT]
theorem itCells_snoc (es : List (ItemA × Value × Option Addr)) (e : ItemA × Value × Option Addr) : itCells es ++ [.int .i64 e.1.place, e.2.1, .pointer e.2.2, .int .i64 e.1.asP, .string e.1.asT] = itCells (es ++ [e]) := by simp [itCells]
theorem Keeps.grown {S : TypeId → Bool} {lo base : Nat} {w w' : World} {e : TypeId} {size : Nat} {v : Value} {n : Nat} {xs : List Value} (hrow : w.ownsRow base e size v n xs) (hg : w.grownBy w' v.ownBlock) (he : S e = false) : Keeps S lo w w' := by
  intro k cs t _ hk ht
  refine hg.block k (lt_of_heap hk) (fun e1 => ?_)
  rcases hrow.2 with ⟨rfl, _⟩ | ⟨g, cap, cur, rfl, _, hh, _⟩
  · cases e1
  · have e2 : k = g := by simpa [Value.ownBlock] using e1
    subst e2
    rw [hh] at hk
    cases hk
    rw [he] at ht
    cases ht
/-- the loop of list at items. -/
structure ItRel (c : Cx) (w : World) (most : Nat) (d : Nat) (R : List ItemA × St) (f : Nat) (v : Value) (wr : World) (es : List (ItemA × Value × Option Addr)) (st' : St) (ev' : Value) : Prop where
  rs : RS c wr st' ev'
  kp : Kp c.rb w wr
  row : wr.ownsRow w.heap.size 251 5 v es.length (itCells es)
  ok : st'.er = none → ∀ e ∈ es, ItV wr w.heap.size e.2.1 (.pointer e.2.2) e.1.win e.1.val
  pos : 0 < es.length
  few : es.length ≤ st'.nx + 1
  eq : R = listLoop c.ts (itemP c.ts) most f (es.map (·.1)) st'
  fuel : c.ts.length ≤ f + st'.nx
  dp : st'.dp = d
theorem it_next {c : Cx} {w wr w3 w4 w5 w6 : World} {most d gk : Nat} {R : List ItemA × St} {v v' : Value} {es : List (ItemA × Value × Option Addr)} {st0 st' : St} {ev0 ev' ev5 : Value} {x5 : Value} {q5 : Option Addr} {X5 : ItemA × St} (hr : ItRel c w most d R (gk + 1) v wr es st' ev') (hh : hitP c.ts st' xComma = true) (hl : Lst c.ts) (hrb : c.rb < w.heap.size) (h0 : RS c w st0 ev0)
    (hX5 : X5 = itemP c.ts (many c.ts most es.length (adv st')))
    (hk3 : Kp c.rb wr w3) (hk4 : Kp c.rb w3 w4) (h5 : RS c w5 X5.2 ev5) (hk5 : Kp c.rb w4 w5) (hex : X5.2.er = none → ItV w5 w4.heap.size x5 (.pointer q5) X5.1.win X5.1.val)
    (hrow : w5.ownsRow w.heap.size 251 5 v es.length (itCells es)) (ho : w6.ownsRow w.heap.size 251 5 v' (es.length + 1) (itCells es ++ [.int .i64 X5.1.place, x5, .pointer q5, .int .i64 X5.1.asP, .string X5.1.asT]))
    (hg : (w5.alloc (.cells #[.int .i64 X5.1.place, x5, .pointer q5, .int .i64 X5.1.asP, .string X5.1.asT] 251)).grownBy w6 v.ownBlock) :
    ItRel c w most d R gk v' w6 (es ++ [(X5.1, x5, q5)]) X5.2 ev5 := by
  have hadv := onw_adv hl hr.rs.nx (hit_kind hh)
  have hmany := onw_many hadv.lt most es.length
  have hnm := onw_item hl _ hmany.lt
  rw [← hX5] at hnm
  have htb : c.tb < w.heap.size := by obtain ⟨cur, e1, _⟩ := h0.tokens; exact lt_of_heap e1
  have hnx : st'.nx + 1 ≤ X5.2.nx := Nat.le_trans hmany.nx hnm.nx
  have hk : Kp c.rb w w5 := ((hr.kp.trans hk3).trans hk4).trans hk5
  have hke : Keeps winT w.heap.size w5 w6 := (Keeps.ofBelow ((Below.refl _ _).alloc (Nat.le_refl _) _)).trans (Keeps.grown (hrow.alloc _) hg rfl)
  refine ⟨(h5.alloc _).grown (hrow.alloc _) hg (by decide) hrb htb h0.env.size, ?_, ?_, fun he e hm => ?_, by simp, ?_, ?_, ?_, ?_⟩
  · exact Kp.grown (hk.alloc _) (hrow.alloc _) hg (Nat.le_refl _)
  · rw [← itCells_snoc, List.length_append]; exact ho
  · rcases List.mem_append.1 hm with hm | hm
    · have hwr := hr.ok (hadv.er (hmany.er (hnm.er he))) e hm
      exact (hwr.keep (Nat.le_refl _) (hr.rs.keeps ((hk3.trans hk4).trans hk5) rfl)).keep (Nat.le_refl _) hke
    · rw [List.mem_singleton.1 hm]
      exact ((hex he).keep ((hr.kp.trans hk3).trans hk4).size (Keeps.ofBelow (Below.refl _ _))).keep (Nat.le_refl _) hke
  · have := hr.few; rw [List.length_append]; simp; omega
  · have e := hr.eq
    unfold listLoop at e
    rw [if_pos hh] at e
    rw [e, List.length_map, ← hX5, List.map_append]; rfl
  · have := hr.fuel; omega
  · exact (hnm.dp.trans (hmany.dp.trans hadv.dp)).trans hr.dp
theorem infoIt : (Tryz.prog.info? 251).map (fun i => (i.zero, i.size, i.bytes)) = some (some (.agg #[.int .i64 0, .nilIface, .pointer none, .int .i64 0, .string ⟨#[]⟩]), 5, 56) := by kernel_rfl
theorem one5 {p a : Int} {v : Value} {q : Option Addr} {s : ByteArray} (hv : IsI v) : ∀ u ∈ [Value.int .i64 p, v, .pointer q, .int .i64 a, .string s], u.oneCell' = true := by
  intro u hu
  simp only [List.mem_cons, List.mem_nil_iff, or_false] at hu
  rcases hu with rfl | rfl | rfl | rfl | rfl
  · rfl
  · exact hv.one
  · rfl
  · rfl
  · rfl
set_option maxRecDepth 100000 in
set_option maxHeartbeats 1000000 in
theorem list_item (c : Cx) (w : World) (st : St) (ev : Value) (most : Nat) (R : List ItemA × St) (h : RS c w st ev) (hd0 : st.dp = 0) (_hm : most ≤ 1001) (HR : Hid (R = listP c.ts (itemP c.ts) most st)) :
    Calls Tryz.prog 151 #[.pointer (some ⟨c.rb, 0, none⟩), .int .i64 most, .func (.func 152) #[.pointer (some ⟨c.rb, 0, none⟩)] #[]] w fun e w' => ∃ v es, e = .returned v ∧ w'.ownsRow w.heap.size 251 5 v es.length (itCells es) ∧ es.map (·.1) = R.1 ∧ 0 < es.length ∧ Aft c w R.2 w' ∧ (R.2.er = none → ∀ e ∈ es, ItV w' w.heap.size e.2.1 (.pointer e.2.2) e.1.win e.1.val) := by
  obtain ⟨i0, hi, hinf⟩ := Option.map_eq_some_iff.1 infoIt
  simp only [Prod.mk.injEq] at hinf
  obtain ⟨hz0, hz1, hz2⟩ := hinf
  have HI := hide hi
  have HZ0 := hide hz0
  have HZ1 := hide hz1
  have HZ2 := hide hz2
  have HL := hide h.last
  have hlen := h.len
  have hrbw := lt_of_heap h.reader
  have HH := hide h
  clear hi hz0 hz1 hz2 h
  go_enter Tryz.func151, Tryz.ntmps151
  go_wp2_with fail
  refine (item_any c _ st ev _ (by exact unhide HH) hd0 rfl).mono ?_
  rintro e w1 ⟨x1, q1, rfl, hx1, ⟨⟨ev1, hs1⟩, hk1⟩, hex1⟩
  have hcv := hx1.cells
  unfold Value.cells at hcv
  obtain ⟨X1, hX1⟩ : ∃ X1, X1 = itemP c.ts st := ⟨_, rfl⟩
  rw [← hX1] at hs1 hex1 ⊢
  have REL : Hid (ItRel c w most st.dp R c.ts.length (.slice (some ⟨w1.heap.size, 0, none⟩) 1 1) (w1.alloc (.cells #[.int .i64 X1.1.place, x1, .pointer q1, .int .i64 X1.1.asP, .string X1.1.asT] 251)) [(X1.1, x1, q1)] X1.2 ev1) :=
    ⟨hs1.alloc _, hk1.alloc _, World.ownsRow_lit w1 #[.int .i64 X1.1.place, x1, .pointer q1, .int .i64 X1.1.asP, .string X1.1.asT] 1 hk1.size (by unfold maxLen; omega) rfl, fun he e hm => by
      rw [List.mem_singleton.1 hm]
      exact (hex1 he).keep (Nat.le_refl _) (Keeps.ofBelow ((Below.refl _ _).alloc (Nat.le_refl _) _)), by simp, by simp, by rw [unhide HR, hX1]; rfl, by omega, by rw [hX1]; exact (onw_item (unhide HL) st (unhide HH).nx).dp⟩
  clear hs1 hk1 hex1 hX1
  go_wp2_with fail
  go_loopg [7] c.ts.length (fun f s7 wr => ∃ es st' ev', ItRel c w most st.dp R f s7 wr es st' ev')
  case atStart => exact ⟨_, _, _, unhide REL⟩
  case round =>
    obtain ⟨es, st', ev', hrel⟩ := hrel
    have HREL := hide hrel
    clear hrel REL
    match gk, HREL with
    | 0, HREL => exact absurd (unhide HREL).fuel (by have := (unhide HREL).rs.nx; omega)
    | gk + 1, HREL =>
    cases hh : hitP c.ts st' xComma with
    | false =>
      have HHIT := hide hh
      clear hh
      go_wp2_with fail
      refine (take_no c _ st' ev' ⟨#[44]⟩ (by exact (unhide HREL).rs) (by exact unhide HHIT)).mono ?_
      rintro e w3 ⟨rfl, hb3⟩
      have HB3 := hide hb3
      clear hb3
      go_wp2
      go_ret
      have hr := (unhide HREL).eq
      unfold listLoop at hr
      rw [if_neg (by rw [unhide HHIT]; decide)] at hr
      subst hr
      exact ⟨_, es, rfl, ownsRow_keep (unhide HREL).row (unhide HB3), rfl, (unhide HREL).pos, ⟨⟨ev', (unhide HREL).rs.keep (unhide HB3)⟩, (unhide HREL).kp.trans (Kp.ofBelow (unhide HB3))⟩, fun he e hm => ((unhide HREL).ok he e hm).keep (Nat.le_refl _) (Keeps.ofBelow (unhide HB3))⟩
    | true =>
      have HHIT := hide hh
      clear hh
      obtain ⟨g, cap, hv⟩ := ownsRow_slice (unhide HREL).row (unhide HREL).pos
      subst hv
      have hfew := (unhide HREL).few
      have hnx := (unhide HREL).rs.nx
      go_wp2_with fail
      refine (take_yes c _ st' ev' ⟨#[44]⟩ (by exact (unhide HREL).rs) (by rw [ByteArray.toList_eq]; rfl) (by exact unhide HHIT)).mono ?_
      rintro e w3 ⟨rfl, ⟨ev3, hs3⟩, hk3⟩
      have HS3 := hide hs3
      have HK3 := hide hk3
      clear hs3 hk3
      have hg3 := (unhide HS3).env.cell 4 (by decide)
      have ROW3 := hide (ownsRow_kp (unhide HREL).row (unhide HK3) hrbw)
      by_cases hmx : es.length = most
      · have hb : (((es.length : Nat) : Int) == (most : Int)) = true := by simp; omega
        have HMX := hide hmx
        clear hmx
        go_wp2_with fail
        refine (fail_any c _ (adv st') ev3 eMany (by exact unhide HS3)).mono ?_
        rintro e w4 ⟨rfl, ⟨ev4, hs4⟩, hk4⟩
        have HS4 : Hid (RS c w4 (many c.ts most es.length (adv st')) ev4) := by unfold many; rw [if_pos (unhide HMX)]; exact hs4
        have HK4 := hide hk4
        have ROW4 := hide (ownsRow_kp (unhide ROW3) hk4 hrbw)
        clear hs4 hk4
        go_wp2_with fail
        obtain ⟨X5, HX5⟩ : ∃ X5, Hid (X5 = itemP c.ts (many c.ts most es.length (adv st'))) := ⟨_, rfl⟩
        refine (item_any c _ _ ev4 X5 (by exact unhide HS4) (by exact ((onw_many (unhide HS3).nx most es.length).dp.trans (unhide HREL).dp).trans hd0) HX5).mono ?_
        rintro e w5 ⟨x5, q5, rfl, hx5, ⟨⟨ev5, hs5⟩, hk5⟩, hex5⟩
        have hcv5 := hx5.cells
        unfold Value.cells at hcv5
        have HXI5 := hide hx5
        have HEX5 := hide hex5
        clear hx5 hex5
        have HS5 := hide hs5
        have HK5 := hide hk5
        have ROW5 := hide (ownsRow_kp (ownsRow_kp (unhide ROW4) hk5 hrbw) (Kp.refl c.rb w5) hrbw)
        clear hs5 hk5
        go_wp2_with (at_builtin; refine wpList_append_own _ rfl _ _ 252 rfl w.heap.size 251 i0 (.agg #[.int .i64 0, .nilIface, .pointer none, .int .i64 0, .string ⟨#[]⟩]) 5 56 Tryz.underlying252 (unhide HI) (unhide HZ0) (unhide HZ1) (unhide HZ2) rfl (by decide) _ _ _ rfl ((unhide ROW5).alloc _) ⟨w5.heap.size, 0, none⟩ 1 1 [.int .i64 X5.1.place, x5, .pointer q5, .int .i64 X5.1.asP, .string X5.1.asT] rfl rfl ?c1 ?c2 ?c3 ?c4 ?c5 ?_)
        case c1 => exact cell_new rfl
        case c2 => exact one5 (unhide HXI5)
        case c3 => unfold maxLen; omega
        case c4 => omega
        case c5 => have := (unhide HREL).kp.size; have := (unhide HK3).size; have := (unhide HK4).size; have := (unhide HK5).size; simp; omega
        intro v' w6 ho hg _
        have HO6 := hide ho
        have HG6 := hide hg
        clear ho hg
        go_wp2
        go_roundg gk
        case measure => omega
        case rel =>
          exact ⟨_, _, ev5, it_next (unhide HREL) (unhide HHIT) (unhide HL) hrbw (unhide HH) (unhide HX5) (unhide HK3) (unhide HK4) (unhide HS5) (unhide HK5) (unhide HEX5) (unhide ROW5) (unhide HO6) (unhide HG6)⟩
      · have hb : (((es.length : Nat) : Int) == (most : Int)) = false := by simp; omega
        have HMX := hide hmx
        clear hmx
        obtain ⟨w4, hw4⟩ : ∃ w4, w4 = w3 := ⟨_, rfl⟩
        obtain ⟨ev4, hev4⟩ : ∃ q, q = ev3 := ⟨_, rfl⟩
        have HS4 : Hid (RS c w3 (many c.ts most es.length (adv st')) ev4) := by unfold many; rw [if_neg (unhide HMX), hev4]; exact unhide HS3
        have HK4 : Hid (Kp c.rb w3 w3) := Kp.refl _ _
        have ROW4 := ROW3
        clear hw4 hev4
        go_wp2_with fail
        obtain ⟨X5, HX5⟩ : ∃ X5, Hid (X5 = itemP c.ts (many c.ts most es.length (adv st'))) := ⟨_, rfl⟩
        refine (item_any c _ _ ev4 X5 (by exact unhide HS4) (by exact ((onw_many (unhide HS3).nx most es.length).dp.trans (unhide HREL).dp).trans hd0) HX5).mono ?_
        rintro e w5 ⟨x5, q5, rfl, hx5, ⟨⟨ev5, hs5⟩, hk5⟩, hex5⟩
        have hcv5 := hx5.cells
        unfold Value.cells at hcv5
        have HXI5 := hide hx5
        have HEX5 := hide hex5
        clear hx5 hex5
        have HS5 := hide hs5
        have HK5 := hide hk5
        have ROW5 := hide (ownsRow_kp (ownsRow_kp (unhide ROW4) hk5 hrbw) (Kp.refl c.rb w5) hrbw)
        clear hs5 hk5
        go_wp2_with (at_builtin; refine wpList_append_own _ rfl _ _ 252 rfl w.heap.size 251 i0 (.agg #[.int .i64 0, .nilIface, .pointer none, .int .i64 0, .string ⟨#[]⟩]) 5 56 Tryz.underlying252 (unhide HI) (unhide HZ0) (unhide HZ1) (unhide HZ2) rfl (by decide) _ _ _ rfl ((unhide ROW5).alloc _) ⟨w5.heap.size, 0, none⟩ 1 1 [.int .i64 X5.1.place, x5, .pointer q5, .int .i64 X5.1.asP, .string X5.1.asT] rfl rfl ?c1 ?c2 ?c3 ?c4 ?c5 ?_)
        case c1 => exact cell_new rfl
        case c2 => exact one5 (unhide HXI5)
        case c3 => unfold maxLen; omega
        case c4 => omega
        case c5 => have := (unhide HREL).kp.size; have := (unhide HK3).size; have := (unhide HK4).size; have := (unhide HK5).size; simp; omega
        intro v' w6 ho hg _
        have HO6 := hide ho
        have HG6 := hide hg
        clear ho hg
        go_wp2
        go_roundg gk
        case measure => omega
        case rel =>
          exact ⟨_, _, ev5, it_next (unhide HREL) (unhide HHIT) (unhide HL) hrbw (unhide HH) (unhide HX5) (unhide HK3) (unhide HK4) (unhide HS5) (unhide HK5) (unhide HEX5) (unhide ROW5) (unhide HO6) (unhide HG6)⟩
end Go.Proofs.YtfkeddkfegaeiaaGreatDoor
namespace Go.Proofs.YtfkeddkfegaeiaaGreatDoor
open Go.RowKit
/-- a test: its place, two exprs, the sign between them. -/
structure TestA where
  place : Nat
  l : List Nd
  sg : ByteArray
  r : List Nd
def xCmp : List ByteArray := [⟨#[61]⟩, ⟨#[60, 62]⟩, ⟨#[60]⟩, ⟨#[60, 61]⟩, ⟨#[62]⟩, ⟨#[62, 61]⟩]
def testP (ts : List Tk) (st : St) : TestA × St :=
  (⟨(tkAt ts st.nx).place, (exprP ts st).1, wantT ts (exprP ts st).2 xCmp, (exprP ts (wantP ts (exprP ts st).2 xCmp)).1⟩, (exprP ts (wantP ts (exprP ts st).2 xCmp)).2)
theorem onw_test {ts : List Tk} (hl : Lst ts) : OnwG ts (testP ts) := fun _ h => by
  have h1 := onw_exprP hl _ h
  have h2 := onw_want hl h1.lt xCmp
  exact h1.trans (h2.trans (onw_exprP hl _ h2.lt))
/-- test's two boxes, in the making. -/
structure TS (c : Cx) (w : World) (b1 : Nat) (W : World) (st : St) (ev : Value) (p : Nat) (x : Value) (sg : ByteArray) (y : Value) : Prop where
  rs : RS c W st ev
  kp : Kp c.rb w W
  res : W.heap[w.heap.size]? = some (.cells #[.int .i64 0, .nilIface, .string ⟨#[]⟩, .nilIface] 263 (0, 0))
  box : W.heap[b1]? = some (.cells #[.int .i64 p, x, .string sg, y] 263 (0, 0))
  old : c.rb < w.heap.size ∧ c.tb < w.heap.size ∧ c.B ≤ w.heap.size ∧ w.heap.size < b1
theorem TS.step {c : Cx} {w : World} {b1 : Nat} {W W' : World} {st st' : St} {ev ev' : Value} {p : Nat} {x y : Value} {sg : ByteArray} (h : TS c w b1 W st ev p x sg y) (hs : RS c W' st' ev') (hk : Kp c.rb W W') : TS c w b1 W' st' ev' p x sg y :=
  ⟨hs, h.kp.trans hk, (hk.block _ (lt_of_heap h.res) (by have := h.old.1; omega)).trans h.res, (hk.block _ (lt_of_heap h.box) (by have := h.old; omega)).trans h.box, h.old⟩
theorem TS.set {c : Cx} {w : World} {b1 : Nat} {W : World} {st : St} {ev : Value} {p i : Nat} {x y x' y' u : Value} {sg sg' : ByteArray} (h : TS c w b1 W st ev p x sg y)
    (he : #[.int .i64 p, x, .string sg, y].setIfInBounds i u = #[.int .i64 p, x', .string sg', y']) : TS c w b1 (W.setCell ⟨b1, i, none⟩ u) st ev p x' sg' y' := by
  have h1 := h.old
  refine ⟨h.rs.kpb ((Kp.refl _ _).setCell _ _) (by omega) (by omega) (by omega) (fun p e => by rw [h.box]; simp), h.kp.setNew (by show w.heap.size ≤ b1; omega) _, ?_, ?_, h.old⟩
  · rw [Below.heap_setCell _ _ _ _ (by show w.heap.size ≠ b1; omega)]; exact h.res
  · rw [heap_set h.box, he]
theorem TS.setKeeps {W : World} {b1 i : Nat} {u : Value} : NodeKeep (b1 + 1) W (W.setCell ⟨b1, i, none⟩ u) := NodeKeep.ofKp ((Kp.refl b1 W).setCell i u) (Or.inl (by omega))
theorem TS.fin {c : Cx} {w : World} {b1 : Nat} {W W' : World} {st : St} {ev : Value} {p : Nat} {x y : Value} {sg : ByteArray} (h : TS c w b1 W st ev p x sg y) (hk : Kp w.heap.size W W') : RS c W' st ev ∧ Kp c.rb w W' ∧ NodeKeep (b1 + 1) W W' := by
  have h1 := h.old
  exact ⟨h.rs.kpb hk (by omega) (by omega) (by omega) (fun p e => by rw [h.res]; simp), h.kp.own hk (Nat.le_refl _), NodeKeep.ofKp hk (Or.inl (by omega))⟩
theorem TS.lo {c : Cx} {w : World} {b1 : Nat} {W : World} {st : St} {ev : Value} {p : Nat} {x y : Value} {sg : ByteArray} (h : TS c w b1 W st ev p x sg y) : b1 + 1 ≤ W.heap.size := by have := lt_of_heap h.box; omega
theorem store_ok {P : Program} {w : World} {a : Addr} {v u : Value} {m : Mode} (hv : v.oneCell' = true) (hc : w.cell? a = some u) (hf : w.frozen? a = false) : (store a v m).run P w = .ok () (w.setCell a v) := by
  rw [run_store P w a v m hv, hc]
  simp [hf]
set_option maxRecDepth 100000 in
set_option maxHeartbeats 2000000 in
theorem test_any (c : Cx) (w : World) (st : St) (ev : Value) (X : TestA × St) (h : RS c w st ev) (hd0 : st.dp = 0) (HX : Hid (X = testP c.ts st)) :
    Calls Tryz.prog 155 #[.pointer (some ⟨c.rb, 0, none⟩)] w fun e w' => ∃ x y, e = .returned (.agg #[.int .i64 X.1.place, x, .string X.1.sg, y]) ∧ IsI x ∧ IsI y ∧ Aft c w X.2 w' ∧ (X.2.er = none → ExOk w' w.heap.size x X.1.l ∧ ExOk w' w.heap.size y X.1.r) := by
  have HL := hide h.last
  have hold : c.rb < w.heap.size ∧ c.tb < w.heap.size ∧ c.B ≤ w.heap.size := ⟨lt_of_heap h.reader, by obtain ⟨cur, e1, _⟩ := h.tokens; exact lt_of_heap e1, h.env.size⟩
  have HOLD := hide hold
  have HH := hide h
  clear h hold
  have hfp := field_part
  go_enter Tryz.func155, Tryz.ntmps155
  go_wp2_with fail
  refine (peek_any c _ st ev (by exact (unhide HH).alloc _)).mono ?_
  rintro e w1 ⟨rfl, hb⟩
  have HB1 := hide hb
  clear hb
  generalize hpl : (tkAt c.ts st.nx).place = pl at *
  have HPL := hide hpl
  clear hpl
  go_wp2_with fail
  have his : TS c w w1.heap.size (w1.alloc (.cells #[.int .i64 pl, .nilIface, .string ⟨#[]⟩, .nilIface] 263)) st ev pl .nilIface ⟨#[]⟩ .nilIface := by
    have hz : w.heap.size < w1.heap.size := by have := (unhide HB1).size; simp at this; omega
    refine ⟨((((unhide HH).alloc _).keep (unhide HB1)).alloc _), (((Kp.refl c.rb w).alloc _).trans (Kp.ofBelow (unhide HB1))).alloc _, heap_prev (((unhide HB1).block w.heap.size (by simp)).trans (heap_last rfl)), heap_last rfl, (unhide HOLD).1, (unhide HOLD).2.1, (unhide HOLD).2.2, hz⟩
  have HI0 := hide his
  clear his
  refine (exprP_spec c (unhide HL) _ st ev (by exact (unhide HI0).rs) hd0).mono ?_
  rintro e w2 ⟨x, rfl, hx, ⟨⟨ev2, hs⟩, hk⟩, hex⟩
  have HI2 := hide ((unhide HI0).step hs hk)
  have HON2 := hide (onw_exprP (unhide HL) st (unhide HH).nx)
  have HEX := hide hex
  have hlox : w1.heap.size + 1 ≤ (w1.alloc (.cells #[.int .i64 pl, .nilIface, .string ⟨#[]⟩, .nilIface] 263)).heap.size := (unhide HI0).lo
  have HLOX := hide hlox
  have hone := hx.one
  have hcv := hx.cells
  unfold Value.cells at hcv
  have HXI := hide hx
  clear hs hk hex hlox hx HI0
  generalize hr1 : exprP c.ts st = r1 at *
  have HR1 := hide hr1
  clear hr1
  generalize hbb : w1.heap.size = b1 at *
  obtain ⟨k2, f2⟩ := blk (unhide HI2).box
  have z2 := lt_of_heap (unhide HI2).box
  go_wp2_with fail
  rw [store_ok (u := .nilIface) hone (by rw [k2]; rfl) (f2 _)]
  go_upto_region 3 with (fail)
  have HI3 := hide ((unhide HI2).set (i := 1) (u := x) (x' := x) rfl)
  have KE3 : Hid (NodeKeep (b1 + 1) w2 (w2.setCell ⟨b1, 1, none⟩ x)) := TS.setKeeps
  clear k2 f2 z2
  generalize w2.setCell ⟨b1, 1, none⟩ x = w3 at *
  go_wp2_with fail
  refine (want_any c _ r1.2 ev2 w3.heap.size [⟨#[61]⟩, ⟨#[60, 62]⟩, ⟨#[60]⟩, ⟨#[60, 61]⟩, ⟨#[62]⟩, ⟨#[62, 61]⟩] (by exact (unhide HI3).rs.alloc _) (by exact texts_new rfl (fun j hj => by match j, hj with | 0, _ => rfl | 1, _ => rfl | 2, _ => rfl | 3, _ => rfl | 4, _ => rfl | 5, _ => rfl)) (by simp) (nonE_ok (by decide))).mono ?_
  rintro e w4 ⟨rfl, ⟨ev4, hs⟩, hk⟩
  have HI4 := hide ((unhide HI3).step hs (((Kp.refl c.rb w3).alloc _).trans hk))
  have HON4 := hide (onw_want (unhide HL) (unhide HI3).rs.nx [⟨#[61]⟩, ⟨#[60, 62]⟩, ⟨#[60]⟩, ⟨#[60, 61]⟩, ⟨#[62]⟩, ⟨#[62, 61]⟩])
  have KE4 : Hid (NodeKeep (b1 + 1) w3 w4) := (unhide HI3).rs.nodes (((Kp.refl c.rb w3).alloc _).trans hk)
  clear hs hk
  generalize hsg : wantT c.ts r1.2 [⟨#[61]⟩, ⟨#[60, 62]⟩, ⟨#[60]⟩, ⟨#[60, 61]⟩, ⟨#[62]⟩, ⟨#[62, 61]⟩] = sg at *
  generalize hst4 : wantP c.ts r1.2 [⟨#[61]⟩, ⟨#[60, 62]⟩, ⟨#[60]⟩, ⟨#[60, 61]⟩, ⟨#[62]⟩, ⟨#[62, 61]⟩] = st4 at *
  have HSG := hide hsg
  have HST4 := hide hst4
  clear hsg hst4
  have hd4 : st4.dp = 0 := (unhide HON4).dp.trans ((unhide HON2).dp.trans hd0)
  obtain ⟨k4, f4⟩ := blk (unhide HI4).box
  have z4 := lt_of_heap (unhide HI4).box
  go_upto_region 4 with (fail)
  have HI5 := hide ((unhide HI4).set (i := 2) (u := .string sg) (sg' := sg) rfl)
  have KE5 : Hid (NodeKeep (b1 + 1) w4 (w4.setCell ⟨b1, 2, none⟩ (.string sg))) := TS.setKeeps
  clear k4 f4 z4
  generalize w4.setCell ⟨b1, 2, none⟩ (.string sg) = w5 at *
  go_wp2_with fail
  refine (exprP_spec c (unhide HL) _ st4 ev4 (by exact (unhide HI5).rs) hd4).mono ?_
  rintro e w6 ⟨y, rfl, hy, ⟨⟨ev6, hs⟩, hk⟩, hey⟩
  have HI6 := hide ((unhide HI5).step hs hk)
  have HON6 := hide (onw_exprP (unhide HL) st4 (unhide HI5).rs.nx)
  have KE6 : Hid (NodeKeep (b1 + 1) w5 w6) := (unhide HI5).rs.nodes hk
  have HEY := hide hey
  have HLOY := hide (unhide HI5).lo
  have honey := hy.one
  have hcvy := hy.cells
  unfold Value.cells at hcvy
  have HYI := hide hy
  clear hs hk hey hy
  generalize hr2 : exprP c.ts st4 = r2 at *
  have HR2 := hide hr2
  clear hr2
  obtain ⟨k6, f6⟩ := blk (unhide HI6).box
  have z6 := lt_of_heap (unhide HI6).box
  go_wp2_with fail
  rw [store_ok (u := .nilIface) honey (by rw [k6]; rfl) (f6 _)]
  go_upto_region 5 with (fail)
  have HI7 := hide ((unhide HI6).set (i := 3) (u := y) (y' := y) rfl)
  have KE7 : Hid (NodeKeep (b1 + 1) w6 (w6.setCell ⟨b1, 3, none⟩ y)) := TS.setKeeps
  clear k6 f6 z6
  generalize w6.setCell ⟨b1, 3, none⟩ y = w7 at *
  obtain ⟨k7, f7⟩ := blk (unhide HI7).box
  obtain ⟨j7, g7⟩ := blk (unhide HI7).res
  have z7 := lt_of_heap (unhide HI7).box
  have y7 := lt_of_heap (unhide HI7).res
  have hne7 : w.heap.size ≠ b1 := by have := (unhide HI7).old; omega
  have HXE : Hid (X = (⟨pl, r1.1, sg, r2.1⟩, r2.2)) := by
    rw [unhide HX]
    unfold Hid testP
    rw [unhide HPL, unhide HR1]
    show ((⟨pl, r1.1, wantT c.ts r1.2 [⟨#[61]⟩, ⟨#[60, 62]⟩, ⟨#[60]⟩, ⟨#[60, 61]⟩, ⟨#[62]⟩, ⟨#[62, 61]⟩], (exprP c.ts (wantP c.ts r1.2 [⟨#[61]⟩, ⟨#[60, 62]⟩, ⟨#[60]⟩, ⟨#[60, 61]⟩, ⟨#[62]⟩, ⟨#[62, 61]⟩])).1⟩ : TestA), (exprP c.ts (wantP c.ts r1.2 [⟨#[61]⟩, ⟨#[60, 62]⟩, ⟨#[60]⟩, ⟨#[60, 61]⟩, ⟨#[62]⟩, ⟨#[62, 61]⟩])).2) = _
    rw [unhide HSG, unhide HST4, unhide HR2]
  clear hone honey hcv hcvy
  rcases unhide HXI with hxx | ⟨u1, q1, hxx⟩ <;> rcases unhide HYI with hyy | ⟨u2, q2, hyy⟩
  all_goals
    go_wp2
    refine bodyPost_ret (v := .agg #[.int .i64 pl, x, .string sg, y]) (by simp [results, Tryz.results155, go_sem, j7, hxx, hyy]) rfl ⟨x, y, ?_, unhide HXI, unhide HYI, ⟨⟨ev6, ?_⟩, ?_⟩, fun he => ?_⟩
    · rw [unhide HXE]
    · rw [unhide HXE]
      refine ((unhide HI7).fin ?_).1
      exact ((((Kp.refl _ _).setCell _ _).setCell _ _).setCell _ _).setCell _ _
    · refine ((unhide HI7).fin ?_).2.1
      exact ((((Kp.refl _ _).setCell _ _).setCell _ _).setCell _ _).setCell _ _
    · rw [unhide HXE] at he ⊢
      have hl7 := (unhide HI7).old
      have e4 := (unhide HON6).er he
      have e2 := (unhide HON4).er e4
      have kx := (unhide KE3).trans ((unhide KE4).trans ((unhide KE5).trans ((unhide KE6).trans (unhide KE7))))
      refine ⟨(((unhide HEX) e2).keep (unhide HLOX) (fun k cs t h0 => kx k cs t (Nat.le_trans (unhide HLOX) h0))).keep (by omega) (((unhide HI7).fin ?_).2.2), (((unhide HEY) he).keep (unhide HLOY) (fun k cs t h0 => unhide KE7 k cs t (Nat.le_trans (unhide HLOY) h0))).keep (by omega) (((unhide HI7).fin ?_).2.2)⟩
      · exact ((((Kp.refl _ _).setCell _ _).setCell _ _).setCell _ _).setCell _ _
      · exact ((((Kp.refl _ _).setCell _ _).setCell _ _).setCell _ _).setCell _ _
end Go.Proofs.YtfkeddkfegaeiaaGreatDoor
namespace Go.Proofs.YtfkeddkfegaeiaaGreatDoor
open Go.RowKit
def srcP (ts : List Tk) (st : St) : (Tk × Tk) × St := ((wkT ts st 2, wkT ts (wkP ts st 2) 2), wkP ts (wkP ts st 2) 2)
theorem onw_src {ts : List Tk} (hl : Lst ts) : OnwG ts (srcP ts) := fun _ h => (onw_wk hl h (by decide)).trans (onw_wk hl (onw_wk hl h (k := 2) (by decide)).lt (by decide))
set_option maxRecDepth 100000 in
set_option maxHeartbeats 400000 in
theorem source_any (c : Cx) (w : World) (st : St) (ev : Value) (X : (Tk × Tk) × St) (h : RS c w st ev) (HX : Hid (X = srcP c.ts st)) :
    Calls Tryz.prog 154 #[.pointer (some ⟨c.rb, 0, none⟩)] w fun e w' => e = .returned (.agg #[.int .i64 X.1.1.place, .int .i64 X.1.1.place, .string X.1.1.text, .int .i64 X.1.2.place, .string X.1.2.text]) ∧ Aft c w X.2 w' := by
  have hne : w.heap.size ≠ c.rb := by have := lt_of_heap h.reader; omega
  have htb : w.heap.size ≠ c.tb := by obtain ⟨cur, e1, _⟩ := h.tokens; have := lt_of_heap e1; omega
  have hB := h.env.size
  have HH := hide h
  clear h
  go_enter Tryz.func154, Tryz.ntmps154
  go_wp2_with fail
  refine (name_any c _ st ev (by exact (unhide HH).alloc _)).mono ?_
  rintro e w1 ⟨rfl, ⟨ev1, hs1⟩, hk1⟩
  have K1 := hide ((hk1.block w.heap.size (by simp) hne).trans (heap_last rfl))
  obtain ⟨k1, f1⟩ := blk (unhide K1)
  have hz1 := lt_of_heap (unhide K1)
  have HS1 := hide hs1
  have HK1 := hide (((Kp.refl c.rb w).alloc _).trans hk1)
  clear hs1 hk1
  have hne1 : w1.heap.size ≠ c.rb := by have := lt_of_heap (unhide HS1).reader; omega
  generalize ht : wkT c.ts st 2 = t at *
  generalize hst1 : wkP c.ts st 2 = st1 at *
  have HT := hide ht
  have HST1 := hide hst1
  clear ht hst1
  go_wp2_with fail
  go_region_with (go_at_call 148; refine (name_any c _ st1 ev1 (by exact ((unhide HS1).alloc _).drew)).mono ?_; rintro e w3 ⟨rfl, ⟨ev3, hs3⟩, hk3⟩; have K3 := hide ((hk3.block w.heap.size (by simp; omega) hne).trans (by exact heap_prev (unhide K1))); obtain ⟨k3, f3⟩ := blk (unhide K3); obtain ⟨k4, f4⟩ := blk ((hk3.block w1.heap.size (by simp) hne1).trans (by exact heap_last rfl)); have HS3 := hide hs3; have HK3 := hide (((unhide HK1).alloc _).drew.trans hk3); clear hs3 hk3 k1 f1)
  all_goals
    generalize hu : wkT c.ts st1 2 = u at *
    have HU := hide hu
    clear hu
    go_wp2
    have hX : X = ((t, u), wkP c.ts st1 2) := by rw [unhide HX]; unfold srcP; rw [unhide HT, unhide HST1, unhide HU]
    subst hX
    refine bodyPost_ret (v := .agg #[.int .i64 t.place, .int .i64 t.place, .string t.text, .int .i64 u.place, .string u.text]) (by simp [results, Tryz.results154, go_sem, k3]) rfl ⟨rfl, ⟨ev3, ?_⟩, ?_⟩
    · refine (unhide HS3).kpb (b := w.heap.size) ?_ hne htb hB (fun p e => by rw [unhide K3]; simp)
      exact (((((Kp.refl _ _).setCell _ _).setCell _ _).setCell _ _).setCell _ _).setCell _ _
    · exact ((((((unhide HK3).setNew (Nat.le_refl _) _).setNew (Nat.le_refl _) _).setNew (Nat.le_refl _) _).setNew (Nat.le_refl _) _).setNew (Nat.le_refl _) _)
end Go.Proofs.YtfkeddkfegaeiaaGreatDoor
