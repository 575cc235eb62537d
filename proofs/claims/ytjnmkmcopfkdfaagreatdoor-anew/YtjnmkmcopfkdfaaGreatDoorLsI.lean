/-
  Lists of items: the walk of list at items.
-/
import Derived.Test.YtjnmkmcopfkdfaaGreatDoorItem
namespace Go.Proofs.YtjnmkmcopfkdfaaGreatDoor
open Go.RowKit

def itCells (es : List (ItemA × Value × Option Addr)) : List Value := es.flatMap fun e => [.int .i64 e.1.place, e.2.1, .pointer e.2.2, .int .i64 e.1.asP, .string e.1.asT]
theorem itCells_snoc (es : List (ItemA × Value × Option Addr)) (e : ItemA × Value × Option Addr) : itCells es ++ [.int .i64 e.1.place, e.2.1, .pointer e.2.2, .int .i64 e.1.asP, .string e.1.asT] = itCells (es ++ [e]) := by simp [itCells]
theorem Keeps.grown {S : TypeId → Bool} {lo base : Nat} {w w' : World} {e : TypeId} {size : Nat} {v : Value} {n : Nat} {xs : List Value} (hrow : w.ownsRow base e size v n xs) (hg : w.grownBy w' v.ownBlock) (he : S e = false) : Keeps S lo w w' := by
  intro k cs t _ hk ht
  refine hg.block k (lt_of_heap hk) (fun e1 => ?_)
  rcases hrow.2 with ⟨rfl, _⟩ | ⟨g, cap, cur, rfl, _, hh, _⟩
  · cases e1
  · have e2 : k = g := by simpa [Value.ownBlock] using e1
    subst e2
    rw [hh] at hk
    cases hk
    rw [he] at ht
    cases ht

/-- the loop of list at items. -/
structure ItRel (c : Cx) (w : World) (most : Nat) (d : Nat) (R : List ItemA × St) (f : Nat) (v : Value) (wr : World) (es : List (ItemA × Value × Option Addr)) (st' : St) (ev' : Value) : Prop where
  rs : RS c wr st' ev'
  kp : Kp c.rb w wr
  row : wr.ownsRow w.heap.size 131 5 v es.length (itCells es)
  ok : st'.er = none → ∀ e ∈ es, ItV wr w.heap.size e.2.1 (.pointer e.2.2) e.1.win e.1.val
  pos : 0 < es.length
  few : es.length ≤ st'.nx + 1
  eq : R = listLoop c.ts (itemP c.ts) most f (es.map (·.1)) st'
  fuel : c.ts.length ≤ f + st'.nx
  dp : st'.dp = d

theorem it_next {c : Cx} {w wr w3 w4 w5 w6 : World} {most d gk : Nat} {R : List ItemA × St} {v v' : Value} {es : List (ItemA × Value × Option Addr)} {st0 st' : St} {ev0 ev' ev5 : Value} {x5 : Value} {q5 : Option Addr} {X5 : ItemA × St} (hr : ItRel c w most d R (gk + 1) v wr es st' ev') (hh : hitP c.ts st' xComma = true) (hl : Lst c.ts) (hrb : c.rb < w.heap.size) (h0 : RS c w st0 ev0)
    (hX5 : X5 = itemP c.ts (many c.ts most es.length (adv st')))
    (hk3 : Kp c.rb wr w3) (hk4 : Kp c.rb w3 w4) (h5 : RS c w5 X5.2 ev5) (hk5 : Kp c.rb w4 w5) (hex : X5.2.er = none → ItV w5 w4.heap.size x5 (.pointer q5) X5.1.win X5.1.val)
    (hrow : w5.ownsRow w.heap.size 131 5 v es.length (itCells es)) (ho : w6.ownsRow w.heap.size 131 5 v' (es.length + 1) (itCells es ++ [.int .i64 X5.1.place, x5, .pointer q5, .int .i64 X5.1.asP, .string X5.1.asT]))
    (hg : (w5.alloc (.cells #[.int .i64 X5.1.place, x5, .pointer q5, .int .i64 X5.1.asP, .string X5.1.asT] 131)).grownBy w6 v.ownBlock) :
    ItRel c w most d R gk v' w6 (es ++ [(X5.1, x5, q5)]) X5.2 ev5 := by
  have hadv := onw_adv hl hr.rs.nx (hit_kind hh)
  have hmany := onw_many hadv.lt most es.length
  have hnm := onw_item hl _ hmany.lt
  rw [← hX5] at hnm
  have htb : c.tb < w.heap.size := by obtain ⟨cur, e1, _⟩ := h0.tokens; exact lt_of_heap e1
  have hnx : st'.nx + 1 ≤ X5.2.nx := Nat.le_trans hmany.nx hnm.nx
  have hk : Kp c.rb w w5 := ((hr.kp.trans hk3).trans hk4).trans hk5
  have hke : Keeps winT w.heap.size w5 w6 := (Keeps.ofBelow ((Below.refl _ _).alloc (Nat.le_refl _) _)).trans (Keeps.grown (hrow.alloc _) hg rfl)
  refine ⟨(h5.alloc _).grown (hrow.alloc _) hg (by decide) hrb htb h0.env.size, ?_, ?_, fun he e hm => ?_, by simp, ?_, ?_, ?_, ?_⟩
  · exact Kp.grown (hk.alloc _) (hrow.alloc _) hg (Nat.le_refl _)
  · rw [← itCells_snoc, List.length_append]; exact ho
  · rcases List.mem_append.1 hm with hm | hm
    · have hwr := hr.ok (hadv.er (hmany.er (hnm.er he))) e hm
      exact (hwr.keep (Nat.le_refl _) (hr.rs.keeps ((hk3.trans hk4).trans hk5) rfl)).keep (Nat.le_refl _) hke
    · rw [List.mem_singleton.1 hm]
      exact ((hex he).keep ((hr.kp.trans hk3).trans hk4).size (Keeps.ofBelow (Below.refl _ _))).keep (Nat.le_refl _) hke
  · have := hr.few; rw [List.length_append]; simp; omega
  · have e := hr.eq
    unfold listLoop at e
    rw [if_pos hh] at e
    rw [e, List.length_map, ← hX5, List.map_append]; rfl
  · have := hr.fuel; omega
  · exact (hnm.dp.trans (hmany.dp.trans hadv.dp)).trans hr.dp

theorem infoIt : (Tryz.prog.info? 131).map (fun i => (i.zero, i.size, i.bytes)) = some (some (.agg #[.int .i64 0, .nilIface, .pointer none, .int .i64 0, .string ⟨#[]⟩]), 5, 56) := by kernel_rfl
theorem one5 {p a : Int} {v : Value} {q : Option Addr} {s : ByteArray} (hv : IsI v) : ∀ u ∈ [Value.int .i64 p, v, .pointer q, .int .i64 a, .string s], u.oneCell' = true := by
  intro u hu
  simp only [List.mem_cons, List.mem_nil_iff, or_false] at hu
  rcases hu with rfl | rfl | rfl | rfl | rfl
  · rfl
  · exact hv.one
  · rfl
  · rfl
  · rfl

set_option maxRecDepth 100000 in
set_option maxHeartbeats 1000000 in
theorem list_item (c : Cx) (w : World) (st : St) (ev : Value) (most : Nat) (R : List ItemA × St) (h : RS c w st ev) (hd0 : st.dp = 0) (_hm : most ≤ 1001) (HR : Hid (R = listP c.ts (itemP c.ts) most st)) :
    Calls Tryz.prog 62 #[.pointer (some ⟨c.rb, 0, none⟩), .int .i64 most, .func (.func 63) #[.pointer (some ⟨c.rb, 0, none⟩)] #[]] w fun e w' => ∃ v es, e = .returned v ∧ w'.ownsRow w.heap.size 131 5 v es.length (itCells es) ∧ es.map (·.1) = R.1 ∧ 0 < es.length ∧ Aft c w R.2 w' ∧ (R.2.er = none → ∀ e ∈ es, ItV w' w.heap.size e.2.1 (.pointer e.2.2) e.1.win e.1.val) := by
  obtain ⟨i0, hi, hinf⟩ := Option.map_eq_some_iff.1 infoIt
  simp only [Prod.mk.injEq] at hinf
  obtain ⟨hz0, hz1, hz2⟩ := hinf
  have HI := hide hi
  have HZ0 := hide hz0
  have HZ1 := hide hz1
  have HZ2 := hide hz2
  have HL := hide h.last
  have hlen := h.len
  have hrbw := lt_of_heap h.reader
  have HH := hide h
  clear hi hz0 hz1 hz2 h
  go_enter Tryz.func62, Tryz.ntmps62
  go_wp2_with fail
  refine (item_any c _ st ev _ (by exact unhide HH) hd0 rfl).mono ?_
  rintro e w1 ⟨x1, q1, rfl, hx1, ⟨⟨ev1, hs1⟩, hk1⟩, hex1⟩
  have hcv := hx1.cells
  unfold Value.cells at hcv
  obtain ⟨X1, hX1⟩ : ∃ X1, X1 = itemP c.ts st := ⟨_, rfl⟩
  rw [← hX1] at hs1 hex1 ⊢
  have REL : Hid (ItRel c w most st.dp R c.ts.length (.slice (some ⟨w1.heap.size, 0, none⟩) 1 1) (w1.alloc (.cells #[.int .i64 X1.1.place, x1, .pointer q1, .int .i64 X1.1.asP, .string X1.1.asT] 131)) [(X1.1, x1, q1)] X1.2 ev1) :=
    ⟨hs1.alloc _, hk1.alloc _, World.ownsRow_lit w1 #[.int .i64 X1.1.place, x1, .pointer q1, .int .i64 X1.1.asP, .string X1.1.asT] 1 hk1.size (by unfold maxLen; omega) rfl, fun he e hm => by
      rw [List.mem_singleton.1 hm]
      exact (hex1 he).keep (Nat.le_refl _) (Keeps.ofBelow ((Below.refl _ _).alloc (Nat.le_refl _) _)), by simp, by simp, by rw [unhide HR, hX1]; rfl, by omega, by rw [hX1]; exact (onw_item (unhide HL) st (unhide HH).nx).dp⟩
  clear hs1 hk1 hex1 hX1
  go_wp2_with fail
  go_loopg [7] c.ts.length (fun f s7 wr => ∃ es st' ev', ItRel c w most st.dp R f s7 wr es st' ev')
  case atStart => exact ⟨_, _, _, unhide REL⟩
  case round =>
    obtain ⟨es, st', ev', hrel⟩ := hrel
    have HREL := hide hrel
    clear hrel REL
    match gk, HREL with
    | 0, HREL => exact absurd (unhide HREL).fuel (by have := (unhide HREL).rs.nx; omega)
    | gk + 1, HREL =>
    cases hh : hitP c.ts st' xComma with
    | false =>
      have HHIT := hide hh
      clear hh
      go_wp2_with fail
      refine (take_no c _ st' ev' ⟨#[44]⟩ (by exact (unhide HREL).rs) (by exact unhide HHIT)).mono ?_
      rintro e w3 ⟨rfl, hb3⟩
      have HB3 := hide hb3
      clear hb3
      go_wp2
      go_ret
      have hr := (unhide HREL).eq
      unfold listLoop at hr
      rw [if_neg (by rw [unhide HHIT]; decide)] at hr
      subst hr
      exact ⟨_, es, rfl, ownsRow_keep (unhide HREL).row (unhide HB3), rfl, (unhide HREL).pos, ⟨⟨ev', (unhide HREL).rs.keep (unhide HB3)⟩, (unhide HREL).kp.trans (Kp.ofBelow (unhide HB3))⟩, fun he e hm => ((unhide HREL).ok he e hm).keep (Nat.le_refl _) (Keeps.ofBelow (unhide HB3))⟩
    | true =>
      have HHIT := hide hh
      clear hh
      obtain ⟨g, cap, hv⟩ := ownsRow_slice (unhide HREL).row (unhide HREL).pos
      subst hv
      have hfew := (unhide HREL).few
      have hnx := (unhide HREL).rs.nx
      go_wp2_with fail
      refine (take_yes c _ st' ev' ⟨#[44]⟩ (by exact (unhide HREL).rs) (by rw [ByteArray.toList_eq]; rfl) (by exact unhide HHIT)).mono ?_
      rintro e w3 ⟨rfl, ⟨ev3, hs3⟩, hk3⟩
      have HS3 := hide hs3
      have HK3 := hide hk3
      clear hs3 hk3
      have hg3 := (unhide HS3).env.cell 4 (by decide)
      have ROW3 := hide (ownsRow_kp (unhide HREL).row (unhide HK3) hrbw)
      by_cases hmx : es.length = most
      · have hb : (((es.length : Nat) : Int) == (most : Int)) = true := by simp; omega
        have HMX := hide hmx
        clear hmx
        go_wp2_with fail
        refine (fail_any c _ (adv st') ev3 eMany (by exact unhide HS3)).mono ?_
        rintro e w4 ⟨rfl, ⟨ev4, hs4⟩, hk4⟩
        have HS4 : Hid (RS c w4 (many c.ts most es.length (adv st')) ev4) := by unfold many; rw [if_pos (unhide HMX)]; exact hs4
        have HK4 := hide hk4
        have ROW4 := hide (ownsRow_kp (unhide ROW3) hk4 hrbw)
        clear hs4 hk4
        go_wp2_with fail
        obtain ⟨X5, HX5⟩ : ∃ X5, Hid (X5 = itemP c.ts (many c.ts most es.length (adv st'))) := ⟨_, rfl⟩
        refine (item_any c _ _ ev4 X5 (by exact unhide HS4) (by exact ((onw_many (unhide HS3).nx most es.length).dp.trans (unhide HREL).dp).trans hd0) HX5).mono ?_
        rintro e w5 ⟨x5, q5, rfl, hx5, ⟨⟨ev5, hs5⟩, hk5⟩, hex5⟩
        have hcv5 := hx5.cells
        unfold Value.cells at hcv5
        have HXI5 := hide hx5
        have HEX5 := hide hex5
        clear hx5 hex5
        have HS5 := hide hs5
        have HK5 := hide hk5
        have ROW5 := hide (ownsRow_kp (ownsRow_kp (unhide ROW4) hk5 hrbw) (Kp.refl c.rb w5) hrbw)
        clear hs5 hk5
        go_wp2_with (at_builtin; refine wpList_append_own _ rfl _ _ 132 rfl w.heap.size 131 i0 (.agg #[.int .i64 0, .nilIface, .pointer none, .int .i64 0, .string ⟨#[]⟩]) 5 56 Tryz.underlying132 (unhide HI) (unhide HZ0) (unhide HZ1) (unhide HZ2) rfl (by decide) _ _ _ rfl ((unhide ROW5).alloc _) ⟨w5.heap.size, 0, none⟩ 1 1 [.int .i64 X5.1.place, x5, .pointer q5, .int .i64 X5.1.asP, .string X5.1.asT] rfl rfl ?c1 ?c2 ?c3 ?c4 ?c5 ?_)
        case c1 => exact cell_new rfl
        case c2 => exact one5 (unhide HXI5)
        case c3 => unfold maxLen; omega
        case c4 => omega
        case c5 => have := (unhide HREL).kp.size; have := (unhide HK3).size; have := (unhide HK4).size; have := (unhide HK5).size; simp; omega
        intro v' w6 ho hg _
        have HO6 := hide ho
        have HG6 := hide hg
        clear ho hg
        go_wp2
        go_roundg gk
        case measure => omega
        case rel =>
          exact ⟨_, _, ev5, it_next (unhide HREL) (unhide HHIT) (unhide HL) hrbw (unhide HH) (unhide HX5) (unhide HK3) (unhide HK4) (unhide HS5) (unhide HK5) (unhide HEX5) (unhide ROW5) (unhide HO6) (unhide HG6)⟩
      · have hb : (((es.length : Nat) : Int) == (most : Int)) = false := by simp; omega
        have HMX := hide hmx
        clear hmx
        obtain ⟨w4, hw4⟩ : ∃ w4, w4 = w3 := ⟨_, rfl⟩
        obtain ⟨ev4, hev4⟩ : ∃ q, q = ev3 := ⟨_, rfl⟩
        have HS4 : Hid (RS c w3 (many c.ts most es.length (adv st')) ev4) := by unfold many; rw [if_neg (unhide HMX), hev4]; exact unhide HS3
        have HK4 : Hid (Kp c.rb w3 w3) := Kp.refl _ _
        have ROW4 := ROW3
        clear hw4 hev4
        go_wp2_with fail
        obtain ⟨X5, HX5⟩ : ∃ X5, Hid (X5 = itemP c.ts (many c.ts most es.length (adv st'))) := ⟨_, rfl⟩
        refine (item_any c _ _ ev4 X5 (by exact unhide HS4) (by exact ((onw_many (unhide HS3).nx most es.length).dp.trans (unhide HREL).dp).trans hd0) HX5).mono ?_
        rintro e w5 ⟨x5, q5, rfl, hx5, ⟨⟨ev5, hs5⟩, hk5⟩, hex5⟩
        have hcv5 := hx5.cells
        unfold Value.cells at hcv5
        have HXI5 := hide hx5
        have HEX5 := hide hex5
        clear hx5 hex5
        have HS5 := hide hs5
        have HK5 := hide hk5
        have ROW5 := hide (ownsRow_kp (ownsRow_kp (unhide ROW4) hk5 hrbw) (Kp.refl c.rb w5) hrbw)
        clear hs5 hk5
        go_wp2_with (at_builtin; refine wpList_append_own _ rfl _ _ 132 rfl w.heap.size 131 i0 (.agg #[.int .i64 0, .nilIface, .pointer none, .int .i64 0, .string ⟨#[]⟩]) 5 56 Tryz.underlying132 (unhide HI) (unhide HZ0) (unhide HZ1) (unhide HZ2) rfl (by decide) _ _ _ rfl ((unhide ROW5).alloc _) ⟨w5.heap.size, 0, none⟩ 1 1 [.int .i64 X5.1.place, x5, .pointer q5, .int .i64 X5.1.asP, .string X5.1.asT] rfl rfl ?c1 ?c2 ?c3 ?c4 ?c5 ?_)
        case c1 => exact cell_new rfl
        case c2 => exact one5 (unhide HXI5)
        case c3 => unfold maxLen; omega
        case c4 => omega
        case c5 => have := (unhide HREL).kp.size; have := (unhide HK3).size; have := (unhide HK4).size; have := (unhide HK5).size; simp; omega
        intro v' w6 ho hg _
        have HO6 := hide ho
        have HG6 := hide hg
        clear ho hg
        go_wp2
        go_roundg gk
        case measure => omega
        case rel =>
          exact ⟨_, _, ev5, it_next (unhide HREL) (unhide HHIT) (unhide HL) hrbw (unhide HH) (unhide HX5) (unhide HK3) (unhide HK4) (unhide HS5) (unhide HK5) (unhide HEX5) (unhide ROW5) (unhide HO6) (unhide HG6)⟩
end Go.Proofs.YtjnmkmcopfkdfaaGreatDoor
