/-
  Part 9.
-/
import Derived.Test.YtfkeddkfegaeiaaGreatDoorMvExF
import Derived.Lib.Builder
import Derived.Lib.AppendStr
import Derived.Lib.UnsafeStr
import Derived.Laws.Externs
import Derived.Test.YtfkeddkfegaeiaaGreatDoorMvPure
import Derived.Test.YtfkeddkfegaeiaaGreatDoorRows
import Derived.WalkKit
import Derived.WalkSpells
import Derived.WalkLawsBesides
import Derived.Shelf.Strings.Builder1
namespace Go.Proofs.YtfkeddkfegaeiaaGreatDoor
open Go.RowKit
/-- the loop of list at exprs. -/
structure XsRel (c : Cx) (w : World) (most : Nat) (d : Nat) (R : List (List Nd) × St) (f : Nat) (v : Value) (wr : World) (l : List (List Nd)) (vs : List Value) (st' : St) (ev' : Value) : Prop where
  rs : RS c wr st' ev'
  kp : Kp c.rb w wr
  row : wr.ownsRow w.heap.size 248 1 v l.length vs
  lenv : vs.length = l.length
  ok : st'.er = none → ∀ (i : Nat) (x : Value) (k : List Nd), vs[i]? = some x → l[i]? = some k → ExOk wr w.heap.size x k
  pos : 0 < l.length
  few : l.length ≤ st'.nx + 1
  eq : R = listLoop c.ts (exprP c.ts) most f l st'
  fuel : c.ts.length ≤ f + st'.nx
  dp : st'.dp = d
theorem NodeKeep.grown {lo base : Nat} {w w' : World} {e : TypeId} {size : Nat} {v : Value} {n : Nat} {xs : List Value} (hrow : w.ownsRow base e size v n xs) (hg : w.grownBy w' v.ownBlock) (he : nodeT e = false) : NodeKeep lo w w' := by
  intro k cs t _ hk ht
  refine hg.block k (lt_of_heap hk) (fun e1 => ?_)
  rcases hrow.2 with ⟨rfl, _⟩ | ⟨g, cap, cur, rfl, _, hh, _⟩
  · cases e1
  · have e2 : k = g := by simpa [Value.ownBlock] using e1
    subst e2
    rw [hh] at hk
    cases hk
    rw [he] at ht
    cases ht
theorem xs_next {c : Cx} {w wr w3 w4 w5 w6 : World} {most d gk : Nat} {R : List (List Nd) × St} {v v' : Value} {l : List (List Nd)} {vs : List Value} {st0 st' : St} {ev0 ev' ev5 : Value} {x5 : Value} (hr : XsRel c w most d R (gk + 1) v wr l vs st' ev') (hh : hitP c.ts st' xComma = true) (hl : Lst c.ts) (hrb : c.rb < w.heap.size) (h0 : RS c w st0 ev0)
    (hk3 : Kp c.rb wr w3) (hk4 : Kp c.rb w3 w4) (h5 : RS c w5 (exprP c.ts (many c.ts most l.length (adv st'))).2 ev5) (hk5 : Kp c.rb w4 w5) (hex : (exprP c.ts (many c.ts most l.length (adv st'))).2.er = none → ExOk w5 w4.heap.size x5 (exprP c.ts (many c.ts most l.length (adv st'))).1)
    (hrow : w5.ownsRow w.heap.size 248 1 v l.length vs) (ho : w6.ownsRow w.heap.size 248 1 v' (l.length + 1) (vs ++ [x5]))
    (hg : (w5.alloc (.cells #[x5] 248)).grownBy w6 v.ownBlock) :
    XsRel c w most d R gk v' w6 (l ++ [(exprP c.ts (many c.ts most l.length (adv st'))).1]) (vs ++ [x5]) (exprP c.ts (many c.ts most l.length (adv st'))).2 ev5 := by
  have hadv := onw_adv hl hr.rs.nx (hit_kind hh)
  have hmany := onw_many hadv.lt most l.length
  have hnm := onw_exprP hl _ hmany.lt
  have htb : c.tb < w.heap.size := by obtain ⟨cur, e1, _⟩ := h0.tokens; exact lt_of_heap e1
  have hnx : st'.nx + 1 ≤ (exprP c.ts (many c.ts most l.length (adv st'))).2.nx := Nat.le_trans hmany.nx hnm.nx
  have hk : Kp c.rb w w5 := ((hr.kp.trans hk3).trans hk4).trans hk5
  have hnk : NodeKeep w.heap.size w5 w6 := (NodeKeep.ofBelow ((Below.refl _ _).alloc (Nat.le_refl _) _)).trans (NodeKeep.grown (hrow.alloc _) hg rfl)
  refine ⟨(h5.alloc _).grown (hrow.alloc _) hg (by decide) hrb htb h0.env.size, ?_, ?_, by simp [hr.lenv], fun he i x k hx hkk => ?_, by simp, ?_, ?_, ?_, ?_⟩
  · exact Kp.grown (hk.alloc _) (hrow.alloc _) hg (Nat.le_refl _)
  · rw [List.length_append]; exact ho
  · rcases Nat.lt_or_ge i vs.length with hi | hi
    · rw [List.getElem?_append_left hi] at hx
      rw [List.getElem?_append_left (by rw [← hr.lenv]; exact hi)] at hkk
      have hwr := hr.ok (hadv.er (hmany.er (hnm.er he))) i x k hx hkk
      exact (hwr.keep (Nat.le_refl _) (hr.rs.nodes ((hk3.trans hk4).trans hk5))).keep (Nat.le_refl _) hnk
    · rw [List.getElem?_append_right hi] at hx
      rw [List.getElem?_append_right (by rw [← hr.lenv]; exact hi), show i - l.length = i - vs.length from by rw [hr.lenv]] at hkk
      match hj : i - vs.length, hx, hkk with
      | 0, hx, hkk =>
        simp only [List.getElem?_cons_zero, Option.some.injEq] at hx hkk
        subst hx; subst hkk
        exact ((hex he).keep ((hr.kp.trans hk3).trans hk4).size (NodeKeep.ofBelow (Below.refl _ _))).keep (Nat.le_refl _) hnk
      | j + 1, hx, _ => simp at hx
  · have := hr.few; rw [List.length_append]; simp; omega
  · have e := hr.eq
    unfold listLoop at e
    rw [if_pos hh] at e
    exact e
  · have := hr.fuel; omega
  · exact (hnm.dp.trans (hmany.dp.trans hadv.dp)).trans hr.dp
theorem infoXs : (Tryz.prog.info? 248).map (fun i => (i.zero, i.size, i.bytes)) = some (some .nilIface, 1, 16) := by kernel_rfl
set_option maxRecDepth 100000 in
set_option maxHeartbeats 1000000 in
theorem list_expr (c : Cx) (w : World) (st : St) (ev : Value) (most : Nat) (R : List (List Nd) × St) (h : RS c w st ev) (hd0 : st.dp = 0) (_hm : most ≤ 1001) (HR : Hid (R = listP c.ts (exprP c.ts) most st)) :
    Calls Tryz.prog 309 #[.pointer (some ⟨c.rb, 0, none⟩), .int .i64 most, .func (.func 218) #[.pointer (some ⟨c.rb, 0, none⟩)] #[]] w fun e w' => ∃ v vs, e = .returned v ∧ w'.ownsRow w.heap.size 248 1 v R.1.length vs ∧ vs.length = R.1.length ∧ 0 < R.1.length ∧ Aft c w R.2 w' ∧ (R.2.er = none → ∀ (i : Nat) (x : Value) (k : List Nd), vs[i]? = some x → R.1[i]? = some k → ExOk w' w.heap.size x k) := by
  obtain ⟨i0, hi, hinf⟩ := Option.map_eq_some_iff.1 infoXs
  simp only [Prod.mk.injEq] at hinf
  obtain ⟨hz0, hz1, hz2⟩ := hinf
  have HI := hide hi
  have HZ0 := hide hz0
  have HZ1 := hide hz1
  have HZ2 := hide hz2
  have HL := hide h.last
  have hlen := h.len
  have hrbw := lt_of_heap h.reader
  have HH := hide h
  clear hi hz0 hz1 hz2 h
  go_enter Tryz.func309, Tryz.ntmps309
  go_wp2_with fail
  refine (exprP_spec c (unhide HL) _ st ev (by exact unhide HH) hd0).mono ?_
  rintro e w1 ⟨x1, rfl, hx1, ⟨⟨ev1, hs1⟩, hk1⟩, hex1⟩
  have hcv := hx1.cells
  unfold Value.cells at hcv
  have REL : Hid (XsRel c w most st.dp R c.ts.length (.slice (some ⟨w1.heap.size, 0, none⟩) 1 1) (w1.alloc (.cells #[x1] 248)) [(exprP c.ts st).1] [x1] (exprP c.ts st).2 ev1) :=
    ⟨hs1.alloc _, hk1.alloc _, World.ownsRow_lit w1 #[x1] 1 hk1.size (by unfold maxLen; omega) rfl, rfl, fun he i x k hx hk => by
      match i, hx, hk with
      | 0, hx, hk =>
        simp only [List.getElem?_cons_zero, Option.some.injEq] at hx hk
        subst hx; subst hk
        exact (hex1 he).keep (Nat.le_refl _) (NodeKeep.ofBelow ((Below.refl _ _).alloc (Nat.le_refl _) _))
      | i + 1, hx, hk => simp at hx, by simp, by simp, by rw [unhide HR]; rfl, by omega, (onw_exprP (unhide HL) st (unhide HH).nx).dp⟩
  clear hs1 hk1 hex1
  go_wp2_with fail
  go_loopg [7] c.ts.length (fun f s7 wr => ∃ l vs st' ev', XsRel c w most st.dp R f s7 wr l vs st' ev')
  case atStart => exact ⟨_, _, _, _, unhide REL⟩
  case round =>
    obtain ⟨l, vs, st', ev', hrel⟩ := hrel
    have HREL := hide hrel
    clear hrel REL
    match gk, HREL with
    | 0, HREL => exact absurd (unhide HREL).fuel (by have := (unhide HREL).rs.nx; omega)
    | gk + 1, HREL =>
    cases hh : hitP c.ts st' xComma with
    | false =>
      have HHIT := hide hh
      clear hh
      go_wp2_with fail
      refine (take_no c _ st' ev' ⟨#[44]⟩ (by exact (unhide HREL).rs) (by exact unhide HHIT)).mono ?_
      rintro e w3 ⟨rfl, hb3⟩
      have HB3 := hide hb3
      clear hb3
      go_wp2
      go_ret
      have hr := (unhide HREL).eq
      unfold listLoop at hr
      rw [if_neg (by rw [unhide HHIT]; decide)] at hr
      subst hr
      exact ⟨_, vs, rfl, ownsRow_keep (unhide HREL).row (unhide HB3), (unhide HREL).lenv, (unhide HREL).pos, ⟨⟨ev', (unhide HREL).rs.keep (unhide HB3)⟩, (unhide HREL).kp.trans (Kp.ofBelow (unhide HB3))⟩, fun he i x k hx hk => ((unhide HREL).ok he i x k hx hk).keep (Nat.le_refl _) (NodeKeep.ofBelow (unhide HB3))⟩
    | true =>
      have HHIT := hide hh
      clear hh
      obtain ⟨g, cap, hv⟩ := ownsRow_slice (unhide HREL).row (unhide HREL).pos
      subst hv
      have hfew := (unhide HREL).few
      have hnx := (unhide HREL).rs.nx
      go_wp2_with fail
      refine (take_yes c _ st' ev' ⟨#[44]⟩ (by exact (unhide HREL).rs) (by rw [ByteArray.toList_eq]; rfl) (by exact unhide HHIT)).mono ?_
      rintro e w3 ⟨rfl, ⟨ev3, hs3⟩, hk3⟩
      have HS3 := hide hs3
      have HK3 := hide hk3
      clear hs3 hk3
      have hg3 := (unhide HS3).env.cell 4 (by decide)
      have ROW3 := hide (ownsRow_kp (unhide HREL).row (unhide HK3) hrbw)
      by_cases hmx : l.length = most
      · have hb : (((l.length : Nat) : Int) == (most : Int)) = true := by simp; omega
        have HMX := hide hmx
        clear hmx
        go_wp2_with fail
        refine (fail_any c _ (adv st') ev3 eMany (by exact unhide HS3)).mono ?_
        rintro e w4 ⟨rfl, ⟨ev4, hs4⟩, hk4⟩
        have HS4 : Hid (RS c w4 (many c.ts most l.length (adv st')) ev4) := by unfold many; rw [if_pos (unhide HMX)]; exact hs4
        have HK4 := hide hk4
        have ROW4 := hide (ownsRow_kp (unhide ROW3) hk4 hrbw)
        clear hs4 hk4
        go_wp2_with fail
        refine (exprP_spec c (unhide HL) _ _ ev4 (by exact unhide HS4) (by exact ((onw_many (unhide HS3).nx most l.length).dp.trans (unhide HREL).dp).trans hd0)).mono ?_
        rintro e w5 ⟨x5, rfl, hx5, ⟨⟨ev5, hs5⟩, hk5⟩, hex5⟩
        have hcv5 := hx5.cells
        unfold Value.cells at hcv5
        have HX5 := hide hx5
        have HEX5 := hide hex5
        clear hx5 hex5
        have HS5 := hide hs5
        have HK5 := hide hk5
        have ROW5 := hide (ownsRow_kp (ownsRow_kp (unhide ROW4) hk5 hrbw) (Kp.refl c.rb w5) hrbw)
        clear hs5 hk5
        go_wp2_with (at_builtin; refine wpList_append_own _ rfl _ _ 385 rfl w.heap.size 248 i0 (.nilIface) 1 16 Tryz.underlying385 (unhide HI) (unhide HZ0) (unhide HZ1) (unhide HZ2) rfl (by decide) _ _ _ rfl ((unhide ROW5).alloc _) ⟨w5.heap.size, 0, none⟩ 1 1 [x5] rfl rfl ?c1 ?c2 ?c3 ?c4 ?c5 ?_)
        case c1 => exact cell_new rfl
        case c2 => intro u hu; simp only [List.mem_cons, List.mem_nil_iff, or_false] at hu; subst hu; rcases unhide HX5 with rfl | ⟨q, z, rfl⟩ <;> rfl
        case c3 => unfold maxLen; omega
        case c4 => omega
        case c5 => have := (unhide HREL).kp.size; have := (unhide HK3).size; have := (unhide HK4).size; have := (unhide HK5).size; simp; omega
        intro v' w6 ho hg _
        have HO6 := hide ho
        have HG6 := hide hg
        clear ho hg
        go_wp2
        go_roundg gk
        case measure => omega
        case rel =>
          exact ⟨_, _, _, ev5, xs_next (unhide HREL) (unhide HHIT) (unhide HL) hrbw (unhide HH) (unhide HK3) (unhide HK4) (unhide HS5) (unhide HK5) (unhide HEX5) (unhide ROW5) (unhide HO6) (unhide HG6)⟩
      · have hb : (((l.length : Nat) : Int) == (most : Int)) = false := by simp; omega
        have HMX := hide hmx
        clear hmx
        obtain ⟨w4, hw4⟩ : ∃ w4, w4 = w3 := ⟨_, rfl⟩
        obtain ⟨ev4, hev4⟩ : ∃ q, q = ev3 := ⟨_, rfl⟩
        have HS4 : Hid (RS c w3 (many c.ts most l.length (adv st')) ev4) := by unfold many; rw [if_neg (unhide HMX), hev4]; exact unhide HS3
        have HK4 : Hid (Kp c.rb w3 w3) := Kp.refl _ _
        have ROW4 := ROW3
        clear hw4 hev4
        go_wp2_with fail
        refine (exprP_spec c (unhide HL) _ _ ev4 (by exact unhide HS4) (by exact ((onw_many (unhide HS3).nx most l.length).dp.trans (unhide HREL).dp).trans hd0)).mono ?_
        rintro e w5 ⟨x5, rfl, hx5, ⟨⟨ev5, hs5⟩, hk5⟩, hex5⟩
        have hcv5 := hx5.cells
        unfold Value.cells at hcv5
        have HX5 := hide hx5
        have HEX5 := hide hex5
        clear hx5 hex5
        have HS5 := hide hs5
        have HK5 := hide hk5
        have ROW5 := hide (ownsRow_kp (ownsRow_kp (unhide ROW4) hk5 hrbw) (Kp.refl c.rb w5) hrbw)
        clear hs5 hk5
        go_wp2_with (at_builtin; refine wpList_append_own _ rfl _ _ 385 rfl w.heap.size 248 i0 (.nilIface) 1 16 Tryz.underlying385 (unhide HI) (unhide HZ0) (unhide HZ1) (unhide HZ2) rfl (by decide) _ _ _ rfl ((unhide ROW5).alloc _) ⟨w5.heap.size, 0, none⟩ 1 1 [x5] rfl rfl ?c1 ?c2 ?c3 ?c4 ?c5 ?_)
        case c1 => exact cell_new rfl
        case c2 => intro u hu; simp only [List.mem_cons, List.mem_nil_iff, or_false] at hu; subst hu; rcases unhide HX5 with rfl | ⟨q, z, rfl⟩ <;> rfl
        case c3 => unfold maxLen; omega
        case c4 => omega
        case c5 => have := (unhide HREL).kp.size; have := (unhide HK3).size; have := (unhide HK4).size; have := (unhide HK5).size; simp; omega
        intro v' w6 ho hg _
        have HO6 := hide ho
        have HG6 := hide hg
        clear ho hg
        go_wp2
        go_roundg gk
        case measure => omega
        case rel =>
          exact ⟨_, _, _, ev5, xs_next (unhide HREL) (unhide HHIT) (unhide HL) hrbw (unhide HH) (unhide HK3) (unhide HK4) (unhide HS5) (unhide HK5) (unhide HEX5) (unhide ROW5) (unhide HO6) (unhide HG6)⟩
end Go.Proofs.YtfkeddkfegaeiaaGreatDoor
namespace Go.Proofs.YtfkeddkfegaeiaaGreatDoor
open Go.RowKit
def behP (ts : List Tk) (st : St) (x : ByteArray) : List (List Nd) × St := if hitP ts st [x] then listP ts (exprP ts) 1000 (wantP ts (adv st) [⟨#[98, 121]⟩]) else ([], st)
theorem onw_beh {ts : List Tk} (hl : Lst ts) {st : St} (h : st.nx < ts.length) (x : ByteArray) : Onw ts st (behP ts st x).2 := by
  unfold behP
  split
  · rename_i hh
    have h1 := onw_adv hl h (hit_kind hh)
    have h2 := onw_want hl h1.lt [⟨#[98, 121]⟩]
    exact h1.trans (h2.trans (onw_list hl (onw_exprP hl) 1000 _ h2.lt))
  · exact Onw.refl h
theorem ownsRow_low {w : World} {base base' : Nat} {e : TypeId} {size : Nat} {v : Value} {n : Nat} {xs : List Value} (h : w.ownsRow base e size v n xs) (hb : base' ≤ base) : w.ownsRow base' e size v n xs := by
  obtain ⟨h1, h2⟩ := h
  refine ⟨h1, ?_⟩
  rcases h2 with h2 | ⟨g, cap, cur, hv, hg, q⟩
  · exact Or.inl h2
  · exact Or.inr ⟨g, cap, cur, hv, by omega, q⟩
/-- a slice of exprs. -/
def XsOk (w : World) (lo : Nat) (v : Value) (l : List (List Nd)) : Prop := ∃ vs : List Value, w.ownsRow lo 248 1 v l.length vs ∧ vs.length = l.length ∧ ∀ (i : Nat) (x : Value) (k : List Nd), vs[i]? = some x → l[i]? = some k → ExOk w lo x k
set_option maxRecDepth 100000 in
set_option maxHeartbeats 400000 in
theorem behind_any (c : Cx) (w : World) (st : St) (ev : Value) (x : ByteArray) (R : List (List Nd) × St) (h : RS c w st ev) (hd0 : st.dp = 0) (hx : (x.toList == []) = false) (HR : Hid (R = behP c.ts st x)) :
    Calls Tryz.prog 272 #[.pointer (some ⟨c.rb, 0, none⟩), .string x] w fun e w' => ∃ v a len cap, e = .returned v ∧ v = .slice a len cap ∧ Aft c w R.2 w' ∧ (R.2.er = none → XsOk w' w.heap.size v R.1) := by
  have HL := hide h.last
  have HH := hide h
  clear h
  unfold behP at HR
  cases hh : hitP c.ts st [x] with
  | false =>
    have HHIT := hide hh
    clear hh
    go_enter Tryz.func272, Tryz.ntmps272
    go_wp2_with fail
    refine (take_no c _ st ev x (by exact unhide HH) (by exact unhide HHIT)).mono ?_
    rintro e w1 ⟨rfl, hb1⟩
    have HB1 := hide hb1
    clear hb1
    go_wp2
    go_ret
    have hR : R = ([], st) := by rw [unhide HR, unhide HHIT]; rfl
    subst hR
    exact ⟨.slice none 0 0, none, 0, 0, rfl, rfl, Aft.same (unhide HH) (unhide HB1), fun _ => ⟨[], World.ownsRow_nil _ _ _ _, rfl, fun i x k hx => by simp at hx⟩⟩
  | true =>
    have HHIT := hide hh
    clear hh
    go_enter Tryz.func272, Tryz.ntmps272
    go_wp2_with fail
    refine (take_yes c _ st ev x (by exact unhide HH) hx (by exact unhide HHIT)).mono ?_
    rintro e w1 ⟨rfl, ⟨ev1, hs1⟩, hk1⟩
    have HS1 := hide hs1
    have HK1 := hide hk1
    clear hs1 hk1
    go_wp2_with fail
    refine (want_any c _ (adv st) ev1 w1.heap.size [⟨#[98, 121]⟩] (by exact (unhide HS1).alloc _) (by exact texts_new rfl (fun j hj => by match j, hj with | 0, _ => rfl)) (by simp) (nonE_ok (by decide))).mono ?_
    rintro e w2 ⟨rfl, ⟨ev2, hs2⟩, hk2⟩
    have HS2 := hide hs2
    have HK2 := hide (((unhide HK1).alloc _).trans hk2)
    clear hs2 hk2
    have hd2 : (wantP c.ts (adv st) [⟨#[98, 121]⟩]).dp = 0 := ((onw_want (unhide HL) (unhide HS1).nx _).dp).trans hd0
    go_wp2_with fail
    refine (list_expr c _ _ ev2 1000 R (by exact unhide HS2) hd2 (by decide) (by rw [unhide HHIT] at HR; exact HR)).mono ?_
    rintro e w3 ⟨v, vs, rfl, hrow, hlen, hpos, ⟨⟨ev3, hs3⟩, hk3⟩, hex⟩
    obtain ⟨g, cap, hv⟩ := ownsRow_slice hrow hpos
    have HROW := hide hrow
    have HEX := hide hex
    have HS3 := hide hs3
    have HK3 := hide ((unhide HK2).trans hk3)
    subst hv
    clear hrow hex hs3 hk3
    go_wp2
    go_ret
    refine ⟨_, _, _, _, rfl, rfl, ⟨⟨ev3, unhide HS3⟩, unhide HK3⟩, fun he => ⟨vs, ?_, hlen, fun i x k hx hk => (unhide HEX he i x k hx hk).keep (unhide HK2).size (NodeKeep.ofBelow (Below.refl _ _))⟩⟩
    exact ownsRow_low (unhide HROW) (unhide HK2).size
end Go.Proofs.YtfkeddkfegaeiaaGreatDoor
namespace Go.Proofs.YtfkeddkfegaeiaaGreatDoor
open Go.RowKit
/-- a window: its place, its call, what it is of, parts, order, rows. -/
structure WinA where
  place : Nat
  call : ByteArray
  of : Option (List Nd)
  part : List (List Nd)
  ord : List (List Nd)
  rows : Option Tk
def takesOf (call : ByteArray) : Bool := !(call.toList == [114, 111, 119, 95, 110, 117, 109, 98, 101, 114]) && !(call.toList == [99, 111, 117, 110, 116])
def wOf (ts : List Tk) (st : St) (call : ByteArray) : Option (List Nd) × St := if takesOf call then (some (exprP ts (wantP ts st [⟨#[40]⟩])).1, (exprP ts (wantP ts st [⟨#[40]⟩])).2) else (none, wantP ts st [⟨#[40]⟩])
def wOpen (ts : List Tk) (st : St) : St := wantP ts (wantP ts (wantP ts st [⟨#[41]⟩]) [⟨#[111, 118, 101, 114]⟩]) [⟨#[40]⟩]
def wPart (ts : List Tk) (st : St) : List (List Nd) × St := behP ts st ⟨#[112, 97, 114, 116, 105, 116, 105, 111, 110]⟩
def wOrd (ts : List Tk) (st : St) : List (List Nd) × St := behP ts st ⟨#[111, 114, 100, 101, 114]⟩
def wRows (ts : List Tk) (st : St) : Option Tk × St := if hitP ts st [⟨#[114, 111, 119, 115]⟩] then (some (wkT ts (adv st) 3), wantP ts (wkP ts (adv st) 3) [⟨#[112, 114, 101, 99, 101, 100, 105, 110, 103]⟩]) else (none, st)
def winP (ts : List Tk) (st : St) (p : Nat) (call : ByteArray) : WinA × St :=
  let o := wOf ts st call
  let a := wPart ts (wOpen ts o.2)
  let b := wOrd ts a.2
  let r := wRows ts b.2
  (⟨p, call, o.1, a.1, b.1, r.1⟩, wantP ts r.2 [⟨#[41]⟩])
theorem onw_wOf {ts : List Tk} (hl : Lst ts) {st : St} (h : st.nx < ts.length) (call : ByteArray) : Onw ts st (wOf ts st call).2 := by
  have h1 := onw_want hl h [⟨#[40]⟩]
  unfold wOf
  split
  · exact h1.trans (onw_exprP hl _ h1.lt)
  · exact h1
theorem onw_wOpen {ts : List Tk} (hl : Lst ts) {st : St} (h : st.nx < ts.length) : Onw ts st (wOpen ts st) := by
  have h1 := onw_want hl h [⟨#[41]⟩]
  have h2 := onw_want hl h1.lt [⟨#[111, 118, 101, 114]⟩]
  exact h1.trans (h2.trans (onw_want hl h2.lt _))
theorem onw_wRows {ts : List Tk} (hl : Lst ts) {st : St} (h : st.nx < ts.length) : Onw ts st (wRows ts st).2 := by
  unfold wRows
  split
  · rename_i hh
    have h1 := onw_adv hl h (hit_kind hh)
    have h2 := onw_wk hl h1.lt (k := 3) (by decide)
    exact h1.trans (h2.trans (onw_want hl h2.lt _))
  · exact Onw.refl h
theorem onw_win {ts : List Tk} (hl : Lst ts) {st : St} (h : st.nx < ts.length) (p : Nat) (call : ByteArray) : Onw ts st (winP ts st p call).2 := by
  have h1 := onw_wOf hl h call
  have h2 := onw_wOpen hl h1.lt
  have h3 := onw_beh hl h2.lt ⟨#[112, 97, 114, 116, 105, 116, 105, 111, 110]⟩
  have h4 := onw_beh hl h3.lt ⟨#[111, 114, 100, 101, 114]⟩
  have h5 := onw_wRows hl h4.lt
  exact h1.trans (h2.trans (h3.trans (h4.trans (h5.trans (onw_want hl h5.lt _)))))
/-- the parts of a window as they lie. -/
def OfOk (w : World) (lo : Nat) (v : Value) : Option (List Nd) → Prop
  | none => v = .nilIface
  | some l => ExOk w lo v l
def RowsOk (w : World) (lo : Nat) (v : Value) : Option Tk → Prop
  | none => v = .pointer none
  | some t => ∃ b, v = .pointer (some ⟨b, 0, none⟩) ∧ lo ≤ b ∧ w.heap[b]? = some (.cells #[.int .i64 t.place, .int .i64 t.value, .string t.text] 391 (0, 0))
def WinOk (w : World) (lo : Nat) (v : Value) (x : WinA) : Prop := ∃ b o a d r, v = .pointer (some ⟨b, 0, none⟩) ∧ lo ≤ b ∧ w.heap[b]? = some (.cells #[.int .i64 x.place, .string x.call, o, a, d, r] 388 (0, 0)) ∧ OfOk w lo o x.of ∧ XsOk w lo a x.part ∧ XsOk w lo d x.ord ∧ RowsOk w lo r x.rows
/-- blocks of exprs, of lists of exprs and of windows. -/
def winT (t : TypeId) : Bool := nodeT t || t == 248 || t == 388
def Keeps (S : TypeId → Bool) (lo : Nat) (w w' : World) : Prop := ∀ (k : Nat) (cs : Array Value) (t : TypeId), lo ≤ k → w.heap[k]? = some (.cells cs t (0, 0)) → S t = true → w'.heap[k]? = w.heap[k]?
theorem Keeps.mono {S S' : TypeId → Bool} {lo lo' : Nat} {w w' : World} (h : Keeps S lo w w') (hS : ∀ t, S' t = true → S t = true) (hlo : lo ≤ lo') : Keeps S' lo' w w' := fun k cs t h0 hk ht => h k cs t (Nat.le_trans hlo h0) hk (hS t ht)
theorem Keeps.ofBelow {S : TypeId → Bool} {lo : Nat} {w w' : World} (h : Below w.heap.size w w') : Keeps S lo w w' := fun k _ _ _ hk _ => h.block k (lt_of_heap hk)
theorem Keeps.ofKp {S : TypeId → Bool} {lo r : Nat} {w w' : World} (h : Kp r w w') (hr : r < lo ∨ ∀ (cs : Array Value) (t : TypeId), w.heap[r]? = some (.cells cs t (0, 0)) → S t = false) : Keeps S lo w w' := fun k cs t hlo hk ht =>
  h.block k (lt_of_heap hk) (fun e => by
    subst e
    rcases hr with hr | hr
    · omega
    · rw [hr cs t hk] at ht; cases ht)
theorem Keeps.trans {S : TypeId → Bool} {lo : Nat} {a b c : World} (h : Keeps S lo a b) (k : Keeps S lo b c) : Keeps S lo a c := fun i cs t h0 hi ht => by
  have e := h i cs t h0 hi ht
  exact (k i cs t h0 (e.trans hi) ht).trans e
theorem RS.keeps {c : Cx} {S : TypeId → Bool} {lo : Nat} {w w' : World} {st : St} {ev : Value} (h : RS c w st ev) (hk : Kp c.rb w w') (hS : S 167 = false) : Keeps S lo w w' :=
  Keeps.ofKp hk (Or.inr fun cs t e => by rw [h.reader] at e; cases e; exact hS)
theorem Keeps.node {lo : Nat} {w w' : World} (h : Keeps winT lo w w') : NodeKeep lo w w' := fun k cs t h0 hk ht => h k cs t h0 hk (by unfold winT; rw [ht]; rfl)
theorem ownsRow_keeps {S : TypeId → Bool} {w w' : World} {lo : Nat} {e : TypeId} {size : Nat} {v : Value} {n : Nat} {xs : List Value} (h : w.ownsRow lo e size v n xs) (hk : Keeps S lo w w') (hS : S e = true) : w'.ownsRow lo e size v n xs := by
  obtain ⟨h1, h2⟩ := h
  refine ⟨h1, ?_⟩
  rcases h2 with h2 | ⟨g, cap, cur, hv, hg, hh, q⟩
  · exact Or.inl h2
  · exact Or.inr ⟨g, cap, cur, hv, hg, by rw [hk g _ _ hg hh hS]; exact hh, q⟩
theorem XsOk.keep {w w' : World} {lo lo' : Nat} {v : Value} {l : List (List Nd)} (h : XsOk w lo v l) (hlo : lo' ≤ lo) (hk : Keeps winT lo w w') : XsOk w' lo' v l := by
  obtain ⟨vs, h1, h2, h3⟩ := h
  exact ⟨vs, ownsRow_low (ownsRow_keeps h1 hk rfl) hlo, h2, fun i x k hx hkk => (h3 i x k hx hkk).keep hlo hk.node⟩
theorem OfOk.keep {w w' : World} {lo lo' : Nat} {v : Value} {o : Option (List Nd)} (h : OfOk w lo v o) (hlo : lo' ≤ lo) (hk : Keeps winT lo w w') : OfOk w' lo' v o := by
  match o, h with
  | none, h => exact h
  | some l, h => exact ExOk.keep h hlo hk.node
theorem RowsOk.keep {w w' : World} {lo lo' : Nat} {v : Value} {o : Option Tk} (h : RowsOk w lo v o) (hlo : lo' ≤ lo) (hk : Keeps winT lo w w') : RowsOk w' lo' v o := by
  match o, h with
  | none, h => exact h
  | some t, ⟨b, h1, h2, h3⟩ => exact ⟨b, h1, Nat.le_trans hlo h2, (hk b _ _ h2 h3 rfl).trans h3⟩
theorem WinOk.keep {w w' : World} {lo lo' : Nat} {v : Value} {x : WinA} (h : WinOk w lo v x) (hlo : lo' ≤ lo) (hk : Keeps winT lo w w') : WinOk w' lo' v x := by
  obtain ⟨b, o, a, d, r, h1, h2, h3, h4, h5, h6, h7⟩ := h
  exact ⟨b, o, a, d, r, h1, Nat.le_trans hlo h2, (hk b _ _ h2 h3 rfl).trans h3, h4.keep hlo hk, h5.keep hlo hk, h6.keep hlo hk, h7.keep hlo hk⟩
end Go.Proofs.YtfkeddkfegaeiaaGreatDoor
namespace Go.Proofs.YtfkeddkfegaeiaaGreatDoor
open Go.RowKit
/-- what the telling leaves: all but rows of bytes and the teller itself. -/
def tkT (t : TypeId) : Bool := !(t == 5) && !(t == 93)
structure TSt (tl : Nat) (w w' : World) : Prop where
  below : Below tl w w'
  keep : Keeps tkT 0 w w'
theorem TSt.refl (tl : Nat) (w : World) : TSt tl w w := ⟨Below.refl _ _, fun _ _ _ _ _ _ => rfl⟩
theorem TSt.trans {tl : Nat} {a b c : World} (h : TSt tl a b) (k : TSt tl b c) : TSt tl a c := ⟨h.below.trans k.below, h.keep.trans k.keep⟩
theorem TSt.alloc {tl : Nat} {a w : World} (h : TSt tl a w) (hl : tl ≤ w.heap.size) (o : Obj) : TSt tl a (w.alloc o) := h.trans ⟨(Below.refl _ _).alloc hl _, Keeps.ofBelow ((Below.refl _ _).alloc (Nat.le_refl _) _)⟩
theorem TSt.drew {tl : Nat} {a w : World} (h : TSt tl a w) : TSt tl a w.drew := h.trans ⟨(Below.refl _ _).drew, fun _ _ _ _ _ _ => rfl⟩
theorem TSt.new {tl : Nat} {w w' : World} (h : Below w.heap.size w w') (hl : tl ≤ w.heap.size) : TSt tl w w' := ⟨h.mono hl, Keeps.ofBelow h⟩
theorem TSt.kp {tl : Nat} {w w' : World} {cs : Array Value} (hb : w.heap[tl]? = some (.cells cs 93 (0, 0))) (h : Kp tl w w') : TSt tl w w' :=
  ⟨h.below (Nat.le_refl _) (Nat.le_of_lt (lt_of_heap hb)), Keeps.ofKp h (Or.inr fun cs t e => by rw [hb] at e; cases e; rfl)⟩
theorem TSt.grown {tl : Nat} {w w' : World} {v : Value} {n : Nat} {xs : List Value} (hrow : w.ownsRow (tl + 1) 5 1 v n xs) (hg : w.grownBy w' v.ownBlock) (hl : tl ≤ w.heap.size) : TSt tl w w' := by
  refine ⟨(Below.refl tl w).grown hg hl (fun k hk => by have := (hrow.lt k hk).1; omega), fun k cs t _ hk ht => ?_⟩
  refine hg.block k (lt_of_heap hk) (fun e => ?_)
  rcases hrow.2 with ⟨hv, _⟩ | ⟨g, cap, cur, hv, hg1, hg2, _⟩
  · subst hv; cases e
  · subst hv
    simp only [Value.ownBlock, Option.some.injEq] at e
    subst e
    rw [hg2] at hk; cases hk; cases ht
/-- the teller: what it has told, and whether it is tight. -/
def TL (tl : Nat) (W : World) (o : List UInt8) (g : Bool) : Prop := ∃ p v, (p = .pointer none ∨ p = .pointer (some ⟨tl, 0, none⟩)) ∧ W.heap[tl]? = some (.cells #[p, v, .bool g] 93 (0, 0)) ∧ W.ownsRow (tl + 1) 5 1 v o.length (Lib.byteCells o)
/-- the buffer's row where only the teller's own block turned. -/
theorem row_kp {tl : Nat} {w w' : World} {v : Value} {n : Nat} {xs : List Value} (h : w.ownsRow (tl + 1) 5 1 v n xs) (hk : Kp tl w w') : w'.ownsRow (tl + 1) 5 1 v n xs := ownsRow_kp h hk (Nat.lt_succ_self _)
/-- a new buffer laid into the teller. -/
theorem TL.put {tl : Nat} {w : World} {v v' : Value} {o : List UInt8} {g : Bool} (hb : w.heap[tl]? = some (.cells #[.pointer (some ⟨tl, 0, none⟩), v, .bool g] 93 (0, 0))) (ho : w.ownsRow (tl + 1) 5 1 v' o.length (Lib.byteCells o)) :
    TL tl (w.setCell ⟨tl, 1, none⟩ v') o g :=
  ⟨_, v', Or.inr rfl, (heap_set hb v').trans rfl, row_kp ho ((Kp.refl _ _).setCell _ _)⟩
end Go.Proofs.YtfkeddkfegaeiaaGreatDoor
namespace Go.Proofs.YtfkeddkfegaeiaaGreatDoor
open Go.RowKit
/-- a token as it is told: its text; is it a minus of one factor? -/
abbrev TT := ByteArray × Bool
def tightA (s : ByteArray) : Bool := s.toList == [41] || s.toList == [44] || s.toList == [46]
def tightB (s : ByteArray) : Bool := s.toList == [40] || s.toList == [46] || s.toList == [114, 111, 119, 95, 110, 117, 109, 98, 101, 114] || s.toList == [99, 111, 117, 110, 116] || s.toList == [115, 117, 109] || s.toList == [109, 105, 110] || s.toList == [109, 97, 120]
abbrev Out := List UInt8 × Bool
def gapped (o : Out) (s : ByteArray) : Bool := decide (0 < o.1.length) && !o.2 && !tightA s
def lay (o : Out) (t : TT) : Out := (o.1 ++ (if gapped o t.1 then [32] else []) ++ t.1.data.toList, t.2 || tightB t.1)
def layAll (o : Out) (l : List TT) : Out := l.foldl lay o
def cost (l : List TT) : Nat := (l.map fun t => t.1.size + 1).sum
def tx (s : ByteArray) : TT := (s, false)
theorem layAll_append (o : Out) (l m : List TT) : layAll o (l ++ m) = layAll (layAll o l) m := List.foldl_append
theorem layAll_cons (o : Out) (t : TT) (l : List TT) : layAll o (t :: l) = layAll (lay o t) l := rfl
theorem cost_append (l m : List TT) : cost (l ++ m) = cost l + cost m := by simp [cost]
theorem cost_cons (t : TT) (l : List TT) : cost (t :: l) = t.1.size + 1 + cost l := by simp [cost]
theorem lay_len (o : Out) (t : TT) : (lay o t).1.length ≤ o.1.length + (t.1.size + 1) := by
  unfold lay
  split
  · simp
  · simp
theorem layAll_len (o : Out) : ∀ l : List TT, (layAll o l).1.length ≤ o.1.length + cost l := by
  intro l
  induction l generalizing o with
  | nil => simp [layAll, cost]
  | cons t l ih =>
    rw [layAll_cons, cost_cons]
    have := ih (lay o t)
    have := lay_len o t
    omega
end Go.Proofs.YtfkeddkfegaeiaaGreatDoor
namespace Go.Proofs.YtfkeddkfegaeiaaGreatDoor
open Go.RowKit
theorem TL.ts {tl : Nat} {W : World} {o : List UInt8} {g : Bool} (h : TL tl W o g) : tl < W.heap.size := let ⟨_, _, _, hb, _⟩ := h; lt_of_heap hb
end Go.Proofs.YtfkeddkfegaeiaaGreatDoor
