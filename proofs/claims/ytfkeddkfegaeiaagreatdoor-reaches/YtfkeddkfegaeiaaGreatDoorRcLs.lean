/-
  Part 9.
-/
import Derived.Test.YtfkeddkfegaeiaaGreatDoorRcExC
namespace Go.Proofs.YtfkeddkfegaeiaaGreatDoor
open Go.RowKit
theorem ownsRow_kp {w w' : World} {r base : Nat} {e : TypeId} {size : Nat} {v : Value} {n : Nat} {xs : List Value} (h : w.ownsRow base e size v n xs) (hk : Kp r w w') (hr : r < base) : w'.ownsRow base e size v n xs := by
  obtain ⟨h1, h2⟩ := h
  refine ⟨h1, ?_⟩
  rcases h2 with h2 | ⟨g, cap, cur, hv, hg, hh, q⟩
  · exact Or.inl h2
  · exact Or.inr ⟨g, cap, cur, hv, hg, by rw [hk.block g (lt_of_heap hh) (by omega)]; exact hh, q⟩
/-- the length of a slice that owns its cells. -/
theorem ownsRow_slice {w : World} {base : Nat} {e : TypeId} {size : Nat} {v : Value} {n : Nat} {xs : List Value} (h : w.ownsRow base e size v n xs) (hn : 0 < n) : ∃ g cap, v = .slice (some ⟨g, 0, none⟩) n cap := by
  rcases h.2 with ⟨_, h2⟩ | ⟨g, cap, cur, hv, _⟩
  · omega
  · exact ⟨g, cap, hv⟩
/-- behind an append to a row of the call's own. -/
theorem RS.grown {c : Cx} {w w' : World} {st : St} {ev : Value} {base : Nat} {e : TypeId} {size : Nat} {v : Value} {n : Nat} {xs : List Value} (h : RS c w st ev) (hrow : w.ownsRow base e size v n xs) (hg : w.grownBy w' v.ownBlock) (he : e ≠ 113) (h1 : c.rb < base) (h2 : c.tb < base) (h3 : c.B ≤ base) : RS c w' st ev := by
  rcases hrow.2 with ⟨rfl, _⟩ | ⟨g, cap, cur, rfl, hgb, hh, _⟩
  · exact h.keep ⟨hg.os, hg.tape, hg.output, hg.size, fun k hk => hg.block k hk (by simp [Value.ownBlock])⟩
  · refine h.kpb (b := g) ⟨hg.os, hg.tape, hg.output, hg.size, fun k hk hne => hg.block k hk (by simp [Value.ownBlock]; omega)⟩ (by omega) (by omega) (by omega) (fun p x => ?_)
    rw [hh]
    intro e1
    cases e1
    exact he rfl
theorem Kp.grown {r base : Nat} {w0 w w' : World} {e : TypeId} {size : Nat} {v : Value} {n : Nat} {xs : List Value} (h : Kp r w0 w) (hrow : w.ownsRow base e size v n xs) (hg : w.grownBy w' v.ownBlock) (hb : w0.heap.size ≤ base) : Kp r w0 w' := by
  refine ⟨hg.os.trans h.os, hg.tape.trans h.tape, hg.output.trans h.output, Nat.le_trans h.size hg.size, fun k hk hne => ?_⟩
  have hk' : k < w.heap.size := Nat.lt_of_lt_of_le hk h.size
  refine (hg.block k hk' (fun e1 => ?_)).trans (h.block k hk hne)
  have := (hrow.lt k e1.symm).1
  omega
def xComma : List ByteArray := [⟨#[44]⟩]
def many (ts : List Tk) (most len : Nat) (st : St) : St := if len = most then failP ts st eMany else st
def listLoop {α : Type} (ts : List Tk) (one : St → α × St) (most : Nat) : Nat → List α → St → List α × St
  | 0, l, st => (l, st)
  | f + 1, l, st => if hitP ts st xComma then listLoop ts one most f (l ++ [(one (many ts most l.length (adv st))).1]) (one (many ts most l.length (adv st))).2 else (l, st)
def listP {α : Type} (ts : List Tk) (one : St → α × St) (most : Nat) (st : St) : List α × St := listLoop ts one most ts.length [(one st).1] (one st).2
def OnwG {α : Type} (ts : List Tk) (f : St → α × St) : Prop := ∀ st, st.nx < ts.length → Onw ts st (f st).2
theorem onw_many {ts : List Tk} {st : St} (h : st.nx < ts.length) (most len : Nat) : Onw ts st (many ts most len st) := by
  unfold many
  split
  · exact onw_fail h _
  · exact Onw.refl h
theorem onw_listLoop {α : Type} {ts : List Tk} (hl : Lst ts) {one : St → α × St} (ho : OnwG ts one) (most : Nat) : ∀ (f : Nat) (l : List α) (st : St), st.nx < ts.length → Onw ts st (listLoop ts one most f l st).2
  | 0, _, st, h => Onw.refl h
  | f + 1, l, st, h => by
    unfold listLoop
    split
    · rename_i hh
      have h1 := onw_adv hl h (hit_kind hh)
      have h2 := onw_many h1.lt most l.length
      have h3 := ho _ h2.lt
      exact h1.trans (h2.trans (h3.trans (onw_listLoop hl ho most f _ _ h3.lt)))
    · exact Onw.refl h
theorem onw_list {α : Type} {ts : List Tk} (hl : Lst ts) {one : St → α × St} (ho : OnwG ts one) (most : Nat) : OnwG ts (listP ts one most) := fun st h => (ho st h).trans (onw_listLoop hl ho most _ _ _ (ho st h).lt)
def nameP (ts : List Tk) (st : St) : Tk × St := (wkT ts st 2, wkP ts st 2)
theorem onw_name {ts : List Tk} (hl : Lst ts) : OnwG ts (nameP ts) := fun _ h => onw_wk hl h (by decide)
def nmCells (l : List Tk) : List Value := l.flatMap fun t => [.int .i64 t.place, .string t.text]
theorem nmCells_snoc (l : List Tk) (t : Tk) : nmCells l ++ [.int .i64 t.place, .string t.text] = nmCells (l ++ [t]) := by simp [nmCells]
/-- the loop of list at names. -/
structure NmRel (c : Cx) (w : World) (most : Nat) (d : Nat) (R : List Tk × St) (f : Nat) (v : Value) (wr : World) (l : List Tk) (st' : St) (ev' : Value) : Prop where
  rs : RS c wr st' ev'
  kp : Kp c.rb w wr
  row : wr.ownsRow w.heap.size 240 2 v l.length (nmCells l)
  pos : 0 < l.length
  few : l.length ≤ st'.nx + 1
  eq : R = listLoop c.ts (nameP c.ts) most f l st'
  fuel : c.ts.length ≤ f + st'.nx
  dp : st'.dp = d
theorem nm_next {c : Cx} {w wr w3 w4 w5 w6 : World} {most d gk : Nat} {R : List Tk × St} {v v' : Value} {l : List Tk} {st0 st' : St} {ev0 ev' ev5 : Value} {t5 : Tk} (hr : NmRel c w most d R (gk + 1) v wr l st' ev') (hh : hitP c.ts st' xComma = true) (hl : Lst c.ts) (hrb : c.rb < w.heap.size) (h0 : RS c w st0 ev0)
    (hk3 : Kp c.rb wr w3) (hk4 : Kp c.rb w3 w4) (h5 : RS c w5 (wkP c.ts (many c.ts most l.length (adv st')) 2) ev5) (hk5 : Kp c.rb w4 w5) (ht : wkT c.ts (many c.ts most l.length (adv st')) 2 = t5)
    (hrow : w5.ownsRow w.heap.size 240 2 v l.length (nmCells l)) (ho : w6.ownsRow w.heap.size 240 2 v' (l.length + 1) (nmCells l ++ [.int .i64 t5.place, .string t5.text]))
    (hg : (w5.alloc (.cells #[.int .i64 t5.place, .string t5.text] 240)).grownBy w6 v.ownBlock) :
    NmRel c w most d R gk v' w6 (l ++ [t5]) (wkP c.ts (many c.ts most l.length (adv st')) 2) ev5 := by
  have hadv := onw_adv hl hr.rs.nx (hit_kind hh)
  have hmany := onw_many hadv.lt most l.length
  have hnm := onw_wk hl hmany.lt (k := 2) (by decide)
  have htb : c.tb < w.heap.size := by obtain ⟨cur, e1, _⟩ := h0.tokens; exact lt_of_heap e1
  have hnx : st'.nx + 1 ≤ (wkP c.ts (many c.ts most l.length (adv st')) 2).nx := Nat.le_trans hmany.nx hnm.nx
  refine ⟨(h5.alloc _).grown (hrow.alloc _) hg (by decide) hrb htb h0.env.size, ?_, ?_, by simp, ?_, ?_, ?_, ?_⟩
  · exact Kp.grown ((((hr.kp.trans hk3).trans hk4).trans hk5).alloc _) (hrow.alloc _) hg (Nat.le_refl _)
  · rw [← nmCells_snoc, List.length_append]; exact ho
  · have := hr.few; rw [List.length_append]; simp; omega
  · have e := hr.eq
    unfold listLoop at e
    rw [if_pos hh] at e
    rw [e, ← ht]; rfl
  · have := hr.fuel; omega
  · exact (hnm.dp.trans (hmany.dp.trans hadv.dp)).trans hr.dp
theorem infoNm : (Tryz.prog.info? 240).map (fun i => (i.zero, i.size, i.bytes)) = some (some (.agg #[.int .i64 0, .string ⟨#[]⟩]), 2, 24) := by kernel_rfl
set_option maxRecDepth 100000 in
set_option maxHeartbeats 1000000 in
theorem list_name (c : Cx) (w : World) (st : St) (ev : Value) (most : Nat) (R : List Tk × St) (h : RS c w st ev) (_hm : most ≤ 1001) (HR : Hid (R = listP c.ts (nameP c.ts) most st)) :
    Calls Tryz.prog 150 #[.pointer (some ⟨c.rb, 0, none⟩), .int .i64 most, .func (.func 148) #[.pointer (some ⟨c.rb, 0, none⟩)] #[]] w fun e w' => ∃ v, e = .returned v ∧ w'.ownsRow w.heap.size 240 2 v R.1.length (nmCells R.1) ∧ 0 < R.1.length ∧ Aft c w R.2 w' := by
  obtain ⟨i0, hi, hinf⟩ := Option.map_eq_some_iff.1 infoNm
  simp only [Prod.mk.injEq] at hinf
  obtain ⟨hz0, hz1, hz2⟩ := hinf
  have HI := hide hi
  have HZ0 := hide hz0
  have HZ1 := hide hz1
  have HZ2 := hide hz2
  have HL := hide h.last
  have hlen := h.len
  have hrbw := lt_of_heap h.reader
  have HH := hide h
  clear hi hz0 hz1 hz2 h
  go_enter Tryz.func150, Tryz.ntmps150
  go_wp2_with fail
  refine (name_any c _ st ev (by exact unhide HH)).mono ?_
  rintro e w1 ⟨rfl, ⟨ev1, hs1⟩, hk1⟩
  have REL : Hid (NmRel c w most st.dp R c.ts.length (.slice (some ⟨w1.heap.size, 0, none⟩) 1 1) (w1.alloc (.cells #[.int .i64 (wkT c.ts st 2).place, .string (wkT c.ts st 2).text] 240)) [wkT c.ts st 2] (wkP c.ts st 2) ev1) :=
    ⟨hs1.alloc _, hk1.alloc _, World.ownsRow_lit w1 #[.int .i64 (wkT c.ts st 2).place, .string (wkT c.ts st 2).text] 1 hk1.size (by unfold maxLen; omega) rfl, by simp, by simp, by rw [unhide HR]; rfl, by omega, (onw_name (unhide HL) st (unhide HH).nx).dp⟩
  clear hs1 hk1
  generalize wkT c.ts st 2 = t at *
  go_wp2_with fail
  go_loopg [7] c.ts.length (fun f s7 wr => ∃ l st' ev', NmRel c w most st.dp R f s7 wr l st' ev')
  case atStart => exact ⟨_, _, _, unhide REL⟩
  case round =>
    obtain ⟨l, st', ev', hrel⟩ := hrel
    have HREL := hide hrel
    clear hrel REL
    match gk, HREL with
    | 0, HREL => exact absurd (unhide HREL).fuel (by have := (unhide HREL).rs.nx; omega)
    | gk + 1, HREL =>
    cases hh : hitP c.ts st' xComma with
    | false =>
      have HHIT := hide hh
      clear hh
      go_wp2_with fail
      refine (take_no c _ st' ev' ⟨#[44]⟩ (by exact (unhide HREL).rs) (by exact unhide HHIT)).mono ?_
      rintro e w3 ⟨rfl, hb3⟩
      have HB3 := hide hb3
      clear hb3
      go_wp2
      go_ret
      have hr := (unhide HREL).eq
      unfold listLoop at hr
      rw [if_neg (by rw [unhide HHIT]; decide)] at hr
      subst hr
      exact ⟨_, rfl, ownsRow_keep (unhide HREL).row (unhide HB3), (unhide HREL).pos, ⟨ev', (unhide HREL).rs.keep (unhide HB3)⟩, (unhide HREL).kp.trans (Kp.ofBelow (unhide HB3))⟩
    | true =>
      have HHIT := hide hh
      clear hh
      obtain ⟨g, cap, hv⟩ := ownsRow_slice (unhide HREL).row (unhide HREL).pos
      subst hv
      have hfew := (unhide HREL).few
      have hnx := (unhide HREL).rs.nx
      go_wp2_with fail
      refine (take_yes c _ st' ev' ⟨#[44]⟩ (by exact (unhide HREL).rs) (by rw [ByteArray.toList_eq]; rfl) (by exact unhide HHIT)).mono ?_
      rintro e w3 ⟨rfl, ⟨ev3, hs3⟩, hk3⟩
      have HS3 := hide hs3
      have HK3 := hide hk3
      clear hs3 hk3
      have hg3 := (unhide HS3).env.cell 4 (by decide)
      have ROW3 := hide (ownsRow_kp (unhide HREL).row (unhide HK3) hrbw)
      by_cases hmx : l.length = most
      · have hb : (((l.length : Nat) : Int) == (most : Int)) = true := by simp; omega
        have HMX := hide hmx
        clear hmx
        go_wp2_with fail
        refine (fail_any c _ (adv st') ev3 eMany (by exact unhide HS3)).mono ?_
        rintro e w4 ⟨rfl, ⟨ev4, hs4⟩, hk4⟩
        have HS4 : Hid (RS c w4 (many c.ts most l.length (adv st')) ev4) := by unfold many; rw [if_pos (unhide HMX)]; exact hs4
        have HK4 := hide hk4
        have ROW4 := hide (ownsRow_kp (unhide ROW3) hk4 hrbw)
        clear hs4 hk4
        go_wp2_with fail
        refine (name_any c _ _ ev4 (by exact unhide HS4)).mono ?_
        rintro e w5 ⟨rfl, ⟨ev5, hs5⟩, hk5⟩
        have HS5 := hide hs5
        have HK5 := hide hk5
        have ROW5 := hide (ownsRow_kp (ownsRow_kp (unhide ROW4) hk5 hrbw) (Kp.refl c.rb w5) hrbw)
        clear hs5 hk5
        generalize ht5 : wkT c.ts (many c.ts most l.length (adv st')) 2 = t5 at *
        have HT5 := hide ht5
        clear ht5
        go_wp2_with (at_builtin; refine wpList_append_own _ rfl _ _ 241 rfl w.heap.size 240 i0 (.agg #[.int .i64 0, .string ⟨#[]⟩]) 2 24 Tryz.underlying241 (unhide HI) (unhide HZ0) (unhide HZ1) (unhide HZ2) rfl (by decide) _ _ _ rfl ((unhide ROW5).alloc _) ⟨w5.heap.size, 0, none⟩ 1 1 [.int .i64 t5.place, .string t5.text] rfl rfl ?c1 ?c2 ?c3 ?c4 ?c5 ?_)
        case c1 => exact cell_new rfl
        case c2 => intro u hu; simp only [List.mem_cons, List.mem_nil_iff, or_false] at hu; rcases hu with rfl | rfl <;> rfl
        case c3 => unfold maxLen; omega
        case c4 => omega
        case c5 => have := (unhide HREL).kp.size; have := (unhide HK3).size; have := (unhide HK4).size; have := (unhide HK5).size; simp; omega
        intro v' w6 ho hg _
        have HO6 := hide ho
        have HG6 := hide hg
        clear ho hg
        go_wp2
        go_roundg gk
        case measure => omega
        case rel =>
          exact ⟨_, _, ev5, nm_next (unhide HREL) (unhide HHIT) (unhide HL) hrbw (unhide HH) (unhide HK3) (unhide HK4) (unhide HS5) (unhide HK5) (unhide HT5) (unhide ROW5) (unhide HO6) (unhide HG6)⟩
      · have hb : (((l.length : Nat) : Int) == (most : Int)) = false := by simp; omega
        have HMX := hide hmx
        clear hmx
        obtain ⟨w4, hw4⟩ : ∃ w4, w4 = w3 := ⟨_, rfl⟩
        obtain ⟨ev4, hev4⟩ : ∃ q, q = ev3 := ⟨_, rfl⟩
        have HS4 : Hid (RS c w3 (many c.ts most l.length (adv st')) ev4) := by unfold many; rw [if_neg (unhide HMX), hev4]; exact unhide HS3
        have HK4 : Hid (Kp c.rb w3 w3) := Kp.refl _ _
        have ROW4 := ROW3
        clear hw4 hev4
        go_wp2_with fail
        refine (name_any c _ _ ev4 (by exact unhide HS4)).mono ?_
        rintro e w5 ⟨rfl, ⟨ev5, hs5⟩, hk5⟩
        have HS5 := hide hs5
        have HK5 := hide hk5
        have ROW5 := hide (ownsRow_kp (ownsRow_kp (unhide ROW4) hk5 hrbw) (Kp.refl c.rb w5) hrbw)
        clear hs5 hk5
        generalize ht5 : wkT c.ts (many c.ts most l.length (adv st')) 2 = t5 at *
        have HT5 := hide ht5
        clear ht5
        go_wp2_with (at_builtin; refine wpList_append_own _ rfl _ _ 241 rfl w.heap.size 240 i0 (.agg #[.int .i64 0, .string ⟨#[]⟩]) 2 24 Tryz.underlying241 (unhide HI) (unhide HZ0) (unhide HZ1) (unhide HZ2) rfl (by decide) _ _ _ rfl ((unhide ROW5).alloc _) ⟨w5.heap.size, 0, none⟩ 1 1 [.int .i64 t5.place, .string t5.text] rfl rfl ?c1 ?c2 ?c3 ?c4 ?c5 ?_)
        case c1 => exact cell_new rfl
        case c2 => intro u hu; simp only [List.mem_cons, List.mem_nil_iff, or_false] at hu; rcases hu with rfl | rfl <;> rfl
        case c3 => unfold maxLen; omega
        case c4 => omega
        case c5 => have := (unhide HREL).kp.size; have := (unhide HK3).size; have := (unhide HK4).size; have := (unhide HK5).size; simp; omega
        intro v' w6 ho hg _
        have HO6 := hide ho
        have HG6 := hide hg
        clear ho hg
        go_wp2
        go_roundg gk
        case measure => omega
        case rel =>
          exact ⟨_, _, ev5, nm_next (unhide HREL) (unhide HHIT) (unhide HL) hrbw (unhide HH) (unhide HK3) (unhide HK4) (unhide HS5) (unhide HK5) (unhide HT5) (unhide ROW5) (unhide HO6) (unhide HG6)⟩
end Go.Proofs.YtfkeddkfegaeiaaGreatDoor
namespace Go.Proofs.YtfkeddkfegaeiaaGreatDoor
open Go.RowKit
/-- the loop of list at exprs. -/
structure XsRel (c : Cx) (w : World) (most : Nat) (d : Nat) (R : List (List Nd) × St) (f : Nat) (v : Value) (wr : World) (l : List (List Nd)) (vs : List Value) (st' : St) (ev' : Value) : Prop where
  rs : RS c wr st' ev'
  kp : Kp c.rb w wr
  row : wr.ownsRow w.heap.size 248 1 v l.length vs
  lenv : vs.length = l.length
  ok : st'.er = none → ∀ (i : Nat) (x : Value) (k : List Nd), vs[i]? = some x → l[i]? = some k → ExOk wr w.heap.size x k
  pos : 0 < l.length
  few : l.length ≤ st'.nx + 1
  eq : R = listLoop c.ts (exprP c.ts) most f l st'
  fuel : c.ts.length ≤ f + st'.nx
  dp : st'.dp = d
theorem NodeKeep.grown {lo base : Nat} {w w' : World} {e : TypeId} {size : Nat} {v : Value} {n : Nat} {xs : List Value} (hrow : w.ownsRow base e size v n xs) (hg : w.grownBy w' v.ownBlock) (he : nodeT e = false) : NodeKeep lo w w' := by
  intro k cs t _ hk ht
  refine hg.block k (lt_of_heap hk) (fun e1 => ?_)
  rcases hrow.2 with ⟨rfl, _⟩ | ⟨g, cap, cur, rfl, _, hh, _⟩
  · cases e1
  · have e2 : k = g := by simpa [Value.ownBlock] using e1
    subst e2
    rw [hh] at hk
    cases hk
    rw [he] at ht
    cases ht
theorem xs_next {c : Cx} {w wr w3 w4 w5 w6 : World} {most d gk : Nat} {R : List (List Nd) × St} {v v' : Value} {l : List (List Nd)} {vs : List Value} {st0 st' : St} {ev0 ev' ev5 : Value} {x5 : Value} (hr : XsRel c w most d R (gk + 1) v wr l vs st' ev') (hh : hitP c.ts st' xComma = true) (hl : Lst c.ts) (hrb : c.rb < w.heap.size) (h0 : RS c w st0 ev0)
    (hk3 : Kp c.rb wr w3) (hk4 : Kp c.rb w3 w4) (h5 : RS c w5 (exprP c.ts (many c.ts most l.length (adv st'))).2 ev5) (hk5 : Kp c.rb w4 w5) (hex : (exprP c.ts (many c.ts most l.length (adv st'))).2.er = none → ExOk w5 w4.heap.size x5 (exprP c.ts (many c.ts most l.length (adv st'))).1)
    (hrow : w5.ownsRow w.heap.size 248 1 v l.length vs) (ho : w6.ownsRow w.heap.size 248 1 v' (l.length + 1) (vs ++ [x5]))
    (hg : (w5.alloc (.cells #[x5] 248)).grownBy w6 v.ownBlock) :
    XsRel c w most d R gk v' w6 (l ++ [(exprP c.ts (many c.ts most l.length (adv st'))).1]) (vs ++ [x5]) (exprP c.ts (many c.ts most l.length (adv st'))).2 ev5 := by
  have hadv := onw_adv hl hr.rs.nx (hit_kind hh)
  have hmany := onw_many hadv.lt most l.length
  have hnm := onw_exprP hl _ hmany.lt
  have htb : c.tb < w.heap.size := by obtain ⟨cur, e1, _⟩ := h0.tokens; exact lt_of_heap e1
  have hnx : st'.nx + 1 ≤ (exprP c.ts (many c.ts most l.length (adv st'))).2.nx := Nat.le_trans hmany.nx hnm.nx
  have hk : Kp c.rb w w5 := ((hr.kp.trans hk3).trans hk4).trans hk5
  have hnk : NodeKeep w.heap.size w5 w6 := (NodeKeep.ofBelow ((Below.refl _ _).alloc (Nat.le_refl _) _)).trans (NodeKeep.grown (hrow.alloc _) hg rfl)
  refine ⟨(h5.alloc _).grown (hrow.alloc _) hg (by decide) hrb htb h0.env.size, ?_, ?_, by simp [hr.lenv], fun he i x k hx hkk => ?_, by simp, ?_, ?_, ?_, ?_⟩
  · exact Kp.grown (hk.alloc _) (hrow.alloc _) hg (Nat.le_refl _)
  · rw [List.length_append]; exact ho
  · rcases Nat.lt_or_ge i vs.length with hi | hi
    · rw [List.getElem?_append_left hi] at hx
      rw [List.getElem?_append_left (by rw [← hr.lenv]; exact hi)] at hkk
      have hwr := hr.ok (hadv.er (hmany.er (hnm.er he))) i x k hx hkk
      exact (hwr.keep (Nat.le_refl _) (hr.rs.nodes ((hk3.trans hk4).trans hk5))).keep (Nat.le_refl _) hnk
    · rw [List.getElem?_append_right hi] at hx
      rw [List.getElem?_append_right (by rw [← hr.lenv]; exact hi), show i - l.length = i - vs.length from by rw [hr.lenv]] at hkk
      match hj : i - vs.length, hx, hkk with
      | 0, hx, hkk =>
        simp only [List.getElem?_cons_zero, Option.some.injEq] at hx hkk
        subst hx; subst hkk
        exact ((hex he).keep ((hr.kp.trans hk3).trans hk4).size (NodeKeep.ofBelow (Below.refl _ _))).keep (Nat.le_refl _) hnk
      | j + 1, hx, _ => simp at hx
  · have := hr.few; rw [List.length_append]; simp; omega
  · have e := hr.eq
    unfold listLoop at e
    rw [if_pos hh] at e
    exact e
  · have := hr.fuel; omega
  · exact (hnm.dp.trans (hmany.dp.trans hadv.dp)).trans hr.dp
theorem infoXs : (Tryz.prog.info? 248).map (fun i => (i.zero, i.size, i.bytes)) = some (some .nilIface, 1, 16) := by kernel_rfl
set_option maxRecDepth 100000 in
set_option maxHeartbeats 1000000 in
theorem list_expr (c : Cx) (w : World) (st : St) (ev : Value) (most : Nat) (R : List (List Nd) × St) (h : RS c w st ev) (hd0 : st.dp = 0) (_hm : most ≤ 1001) (HR : Hid (R = listP c.ts (exprP c.ts) most st)) :
    Calls Tryz.prog 309 #[.pointer (some ⟨c.rb, 0, none⟩), .int .i64 most, .func (.func 218) #[.pointer (some ⟨c.rb, 0, none⟩)] #[]] w fun e w' => ∃ v vs, e = .returned v ∧ w'.ownsRow w.heap.size 248 1 v R.1.length vs ∧ vs.length = R.1.length ∧ 0 < R.1.length ∧ Aft c w R.2 w' ∧ (R.2.er = none → ∀ (i : Nat) (x : Value) (k : List Nd), vs[i]? = some x → R.1[i]? = some k → ExOk w' w.heap.size x k) := by
  obtain ⟨i0, hi, hinf⟩ := Option.map_eq_some_iff.1 infoXs
  simp only [Prod.mk.injEq] at hinf
  obtain ⟨hz0, hz1, hz2⟩ := hinf
  have HI := hide hi
  have HZ0 := hide hz0
  have HZ1 := hide hz1
  have HZ2 := hide hz2
  have HL := hide h.last
  have hlen := h.len
  have hrbw := lt_of_heap h.reader
  have HH := hide h
  clear hi hz0 hz1 hz2 h
  go_enter Tryz.func309, Tryz.ntmps309
  go_wp2_with fail
  refine (exprP_spec c (unhide HL) _ st ev (by exact unhide HH) hd0).mono ?_
  rintro e w1 ⟨x1, rfl, hx1, ⟨⟨ev1, hs1⟩, hk1⟩, hex1⟩
  have hcv := hx1.cells
  unfold Value.cells at hcv
  have REL : Hid (XsRel c w most st.dp R c.ts.length (.slice (some ⟨w1.heap.size, 0, none⟩) 1 1) (w1.alloc (.cells #[x1] 248)) [(exprP c.ts st).1] [x1] (exprP c.ts st).2 ev1) :=
    ⟨hs1.alloc _, hk1.alloc _, World.ownsRow_lit w1 #[x1] 1 hk1.size (by unfold maxLen; omega) rfl, rfl, fun he i x k hx hk => by
      match i, hx, hk with
      | 0, hx, hk =>
        simp only [List.getElem?_cons_zero, Option.some.injEq] at hx hk
        subst hx; subst hk
        exact (hex1 he).keep (Nat.le_refl _) (NodeKeep.ofBelow ((Below.refl _ _).alloc (Nat.le_refl _) _))
      | i + 1, hx, hk => simp at hx, by simp, by simp, by rw [unhide HR]; rfl, by omega, (onw_exprP (unhide HL) st (unhide HH).nx).dp⟩
  clear hs1 hk1 hex1
  go_wp2_with fail
  go_loopg [7] c.ts.length (fun f s7 wr => ∃ l vs st' ev', XsRel c w most st.dp R f s7 wr l vs st' ev')
  case atStart => exact ⟨_, _, _, _, unhide REL⟩
  case round =>
    obtain ⟨l, vs, st', ev', hrel⟩ := hrel
    have HREL := hide hrel
    clear hrel REL
    match gk, HREL with
    | 0, HREL => exact absurd (unhide HREL).fuel (by have := (unhide HREL).rs.nx; omega)
    | gk + 1, HREL =>
    cases hh : hitP c.ts st' xComma with
    | false =>
      have HHIT := hide hh
      clear hh
      go_wp2_with fail
      refine (take_no c _ st' ev' ⟨#[44]⟩ (by exact (unhide HREL).rs) (by exact unhide HHIT)).mono ?_
      rintro e w3 ⟨rfl, hb3⟩
      have HB3 := hide hb3
      clear hb3
      go_wp2
      go_ret
      have hr := (unhide HREL).eq
      unfold listLoop at hr
      rw [if_neg (by rw [unhide HHIT]; decide)] at hr
      subst hr
      exact ⟨_, vs, rfl, ownsRow_keep (unhide HREL).row (unhide HB3), (unhide HREL).lenv, (unhide HREL).pos, ⟨⟨ev', (unhide HREL).rs.keep (unhide HB3)⟩, (unhide HREL).kp.trans (Kp.ofBelow (unhide HB3))⟩, fun he i x k hx hk => ((unhide HREL).ok he i x k hx hk).keep (Nat.le_refl _) (NodeKeep.ofBelow (unhide HB3))⟩
    | true =>
      have HHIT := hide hh
      clear hh
      obtain ⟨g, cap, hv⟩ := ownsRow_slice (unhide HREL).row (unhide HREL).pos
      subst hv
      have hfew := (unhide HREL).few
      have hnx := (unhide HREL).rs.nx
      go_wp2_with fail
      refine (take_yes c _ st' ev' ⟨#[44]⟩ (by exact (unhide HREL).rs) (by rw [ByteArray.toList_eq]; rfl) (by exact unhide HHIT)).mono ?_
      rintro e w3 ⟨rfl, ⟨ev3, hs3⟩, hk3⟩
      have HS3 := hide hs3
      have HK3 := hide hk3
      clear hs3 hk3
      have hg3 := (unhide HS3).env.cell 4 (by decide)
      have ROW3 := hide (ownsRow_kp (unhide HREL).row (unhide HK3) hrbw)
      by_cases hmx : l.length = most
      · have hb : (((l.length : Nat) : Int) == (most : Int)) = true := by simp; omega
        have HMX := hide hmx
        clear hmx
        go_wp2_with fail
        refine (fail_any c _ (adv st') ev3 eMany (by exact unhide HS3)).mono ?_
        rintro e w4 ⟨rfl, ⟨ev4, hs4⟩, hk4⟩
        have HS4 : Hid (RS c w4 (many c.ts most l.length (adv st')) ev4) := by unfold many; rw [if_pos (unhide HMX)]; exact hs4
        have HK4 := hide hk4
        have ROW4 := hide (ownsRow_kp (unhide ROW3) hk4 hrbw)
        clear hs4 hk4
        go_wp2_with fail
        refine (exprP_spec c (unhide HL) _ _ ev4 (by exact unhide HS4) (by exact ((onw_many (unhide HS3).nx most l.length).dp.trans (unhide HREL).dp).trans hd0)).mono ?_
        rintro e w5 ⟨x5, rfl, hx5, ⟨⟨ev5, hs5⟩, hk5⟩, hex5⟩
        have hcv5 := hx5.cells
        unfold Value.cells at hcv5
        have HX5 := hide hx5
        have HEX5 := hide hex5
        clear hx5 hex5
        have HS5 := hide hs5
        have HK5 := hide hk5
        have ROW5 := hide (ownsRow_kp (ownsRow_kp (unhide ROW4) hk5 hrbw) (Kp.refl c.rb w5) hrbw)
        clear hs5 hk5
        go_wp2_with (at_builtin; refine wpList_append_own _ rfl _ _ 385 rfl w.heap.size 248 i0 (.nilIface) 1 16 Tryz.underlying385 (unhide HI) (unhide HZ0) (unhide HZ1) (unhide HZ2) rfl (by decide) _ _ _ rfl ((unhide ROW5).alloc _) ⟨w5.heap.size, 0, none⟩ 1 1 [x5] rfl rfl ?c1 ?c2 ?c3 ?c4 ?c5 ?_)
        case c1 => exact cell_new rfl
        case c2 => intro u hu; simp only [List.mem_cons, List.mem_nil_iff, or_false] at hu; subst hu; rcases unhide HX5 with rfl | ⟨q, z, rfl⟩ <;> rfl
        case c3 => unfold maxLen; omega
        case c4 => omega
        case c5 => have := (unhide HREL).kp.size; have := (unhide HK3).size; have := (unhide HK4).size; have := (unhide HK5).size; simp; omega
        intro v' w6 ho hg _
        have HO6 := hide ho
        have HG6 := hide hg
        clear ho hg
        go_wp2
        go_roundg gk
        case measure => omega
        case rel =>
          exact ⟨_, _, _, ev5, xs_next (unhide HREL) (unhide HHIT) (unhide HL) hrbw (unhide HH) (unhide HK3) (unhide HK4) (unhide HS5) (unhide HK5) (unhide HEX5) (unhide ROW5) (unhide HO6) (unhide HG6)⟩
      · have hb : (((l.length : Nat) : Int) == (most : Int)) = false := by simp; omega
        have HMX := hide hmx
        clear hmx
        obtain ⟨w4, hw4⟩ : ∃ w4, w4 = w3 := ⟨_, rfl⟩
        obtain ⟨ev4, hev4⟩ : ∃ q, q = ev3 := ⟨_, rfl⟩
        have HS4 : Hid (RS c w3 (many c.ts most l.length (adv st')) ev4) := by unfold many; rw [if_neg (unhide HMX), hev4]; exact unhide HS3
        have HK4 : Hid (Kp c.rb w3 w3) := Kp.refl _ _
        have ROW4 := ROW3
        clear hw4 hev4
        go_wp2_with fail
        refine (exprP_spec c (unhide HL) _ _ ev4 (by exact unhide HS4) (by exact ((onw_many (unhide HS3).nx most l.length).dp.trans (unhide HREL).dp).trans hd0)).mono ?_
        rintro e w5 ⟨x5, rfl, hx5, ⟨⟨ev5, hs5⟩, hk5⟩, hex5⟩
        have hcv5 := hx5.cells
        unfold Value.cells at hcv5
        have HX5 := hide hx5
        have HEX5 := hide hex5
        clear hx5 hex5
        have HS5 := hide hs5
        have HK5 := hide hk5
        have ROW5 := hide (ownsRow_kp (ownsRow_kp (unhide ROW4) hk5 hrbw) (Kp.refl c.rb w5) hrbw)
        clear hs5 hk5
        go_wp2_with (at_builtin; refine wpList_append_own _ rfl _ _ 385 rfl w.heap.size 248 i0 (.nilIface) 1 16 Tryz.underlying385 (unhide HI) (unhide HZ0) (unhide HZ1) (unhide HZ2) rfl (by decide) _ _ _ rfl ((unhide ROW5).alloc _) ⟨w5.heap.size, 0, none⟩ 1 1 [x5] rfl rfl ?c1 ?c2 ?c3 ?c4 ?c5 ?_)
        case c1 => exact cell_new rfl
        case c2 => intro u hu; simp only [List.mem_cons, List.mem_nil_iff, or_false] at hu; subst hu; rcases unhide HX5 with rfl | ⟨q, z, rfl⟩ <;> rfl
        case c3 => unfold maxLen; omega
        case c4 => omega
        case c5 => have := (unhide HREL).kp.size; have := (unhide HK3).size; have := (unhide HK4).size; have := (unhide HK5).size; simp; omega
        intro v' w6 ho hg _
        have HO6 := hide ho
        have HG6 := hide hg
        clear ho hg
        go_wp2
        go_roundg gk
        case measure => omega
        case rel =>
          exact ⟨_, _, _, ev5, xs_next (unhide HREL) (unhide HHIT) (unhide HL) hrbw (unhide HH) (unhide HK3) (unhide HK4) (unhide HS5) (unhide HK5) (unhide HEX5) (unhide ROW5) (unhide HO6) (unhide HG6)⟩
end Go.Proofs.YtfkeddkfegaeiaaGreatDoor
