/-
  Part 13.
-/
import Derived.Test.YtfkeddkfegaeiaaGreatDoorMvLsI
import Derived.Deep.RegionLaw
namespace Go.Proofs.YtfkeddkfegaeiaaGreatDoor
open Go.RowKit
def srCells (l : List (Tk × Tk)) : List Value := l.flatMap fun t => [.int .i64 t.1.place, .int .i64 t.1.place, .string t.1.text, .int .i64 t.2.place, .string t.2.text]
theorem srCells_snoc (l : List (Tk × Tk)) (t : Tk × Tk) : srCells l ++ [.int .i64 t.1.place, .int .i64 t.1.place, .string t.1.text, .int .i64 t.2.place, .string t.2.text] = srCells (l ++ [t]) := by simp [srCells]
/-- the loop of list at names. -/
structure SrRel (c : Cx) (w : World) (most : Nat) (d : Nat) (R : List (Tk × Tk) × St) (f : Nat) (v : Value) (wr : World) (l : List (Tk × Tk)) (st' : St) (ev' : Value) : Prop where
  rs : RS c wr st' ev'
  kp : Kp c.rb w wr
  row : wr.ownsRow w.heap.size 260 5 v l.length (srCells l)
  pos : 0 < l.length
  few : l.length ≤ st'.nx + 1
  eq : R = listLoop c.ts (srcP c.ts) most f l st'
  fuel : c.ts.length ≤ f + st'.nx
  dp : st'.dp = d
theorem sr_next {c : Cx} {w wr w3 w4 w5 w6 : World} {most d gk : Nat} {R : List (Tk × Tk) × St} {v v' : Value} {l : List (Tk × Tk)} {st0 st' : St} {ev0 ev' ev5 : Value} {t5 : Tk × Tk} (hr : SrRel c w most d R (gk + 1) v wr l st' ev') (hh : hitP c.ts st' xComma = true) (hl : Lst c.ts) (hrb : c.rb < w.heap.size) (h0 : RS c w st0 ev0)
    (hk3 : Kp c.rb wr w3) (hk4 : Kp c.rb w3 w4) (h5 : RS c w5 ((srcP c.ts (many c.ts most l.length (adv st'))).2) ev5) (hk5 : Kp c.rb w4 w5) (ht : (srcP c.ts (many c.ts most l.length (adv st'))).1 = t5)
    (hrow : w5.ownsRow w.heap.size 260 5 v l.length (srCells l)) (ho : w6.ownsRow w.heap.size 260 5 v' (l.length + 1) (srCells l ++ [.int .i64 t5.1.place, .int .i64 t5.1.place, .string t5.1.text, .int .i64 t5.2.place, .string t5.2.text]))
    (hg : (w5.alloc (.cells #[.int .i64 t5.1.place, .int .i64 t5.1.place, .string t5.1.text, .int .i64 t5.2.place, .string t5.2.text] 260)).grownBy w6 v.ownBlock) :
    SrRel c w most d R gk v' w6 (l ++ [t5]) ((srcP c.ts (many c.ts most l.length (adv st'))).2) ev5 := by
  have hadv := onw_adv hl hr.rs.nx (hit_kind hh)
  have hmany := onw_many hadv.lt most l.length
  have hnm := onw_src hl _ hmany.lt
  have htb : c.tb < w.heap.size := by obtain ⟨cur, e1, _⟩ := h0.tokens; exact lt_of_heap e1
  have hnx : st'.nx + 1 ≤ ((srcP c.ts (many c.ts most l.length (adv st'))).2).nx := Nat.le_trans hmany.nx hnm.nx
  refine ⟨(h5.alloc _).grown (hrow.alloc _) hg (by decide) hrb htb h0.env.size, ?_, ?_, by simp, ?_, ?_, ?_, ?_⟩
  · exact Kp.grown ((((hr.kp.trans hk3).trans hk4).trans hk5).alloc _) (hrow.alloc _) hg (Nat.le_refl _)
  · rw [← srCells_snoc, List.length_append]; exact ho
  · have := hr.few; rw [List.length_append]; simp; omega
  · have e := hr.eq
    unfold listLoop at e
    rw [if_pos hh] at e
    rw [e, ← ht]
  · have := hr.fuel; omega
  · exact (hnm.dp.trans (hmany.dp.trans hadv.dp)).trans hr.dp
theorem infoSr : (Tryz.prog.info? 260).map (fun i => (i.zero, i.size, i.bytes)) = some (some (.agg #[.int .i64 0, .int .i64 0, .string ⟨#[]⟩, .int .i64 0, .string ⟨#[]⟩]), 5, 56) := by kernel_rfl
set_option maxRecDepth 100000 in
set_option maxHeartbeats 1000000 in
theorem list_source (c : Cx) (w : World) (st : St) (ev : Value) (most : Nat) (R : List (Tk × Tk) × St) (h : RS c w st ev) (_hm : most ≤ 1001) (HR : Hid (R = listP c.ts (srcP c.ts) most st)) :
    Calls Tryz.prog 153 #[.pointer (some ⟨c.rb, 0, none⟩), .int .i64 most, .func (.func 154) #[.pointer (some ⟨c.rb, 0, none⟩)] #[]] w fun e w' => ∃ v, e = .returned v ∧ w'.ownsRow w.heap.size 260 5 v R.1.length (srCells R.1) ∧ 0 < R.1.length ∧ Aft c w R.2 w' := by
  obtain ⟨i0, hi, hinf⟩ := Option.map_eq_some_iff.1 infoSr
  simp only [Prod.mk.injEq] at hinf
  obtain ⟨hz0, hz1, hz2⟩ := hinf
  have HI := hide hi
  have HZ0 := hide hz0
  have HZ1 := hide hz1
  have HZ2 := hide hz2
  have HL := hide h.last
  have hlen := h.len
  have hrbw := lt_of_heap h.reader
  have HH := hide h
  clear hi hz0 hz1 hz2 h
  go_enter Tryz.func153, Tryz.ntmps153
  go_wp2_with fail
  refine (source_any c _ st ev _ (by exact unhide HH) rfl).mono ?_
  rintro e w1 ⟨rfl, ⟨ev1, hs1⟩, hk1⟩
  have REL : Hid (SrRel c w most st.dp R c.ts.length (.slice (some ⟨w1.heap.size, 0, none⟩) 1 1) (w1.alloc (.cells #[.int .i64 (srcP c.ts st).1.1.place, .int .i64 (srcP c.ts st).1.1.place, .string (srcP c.ts st).1.1.text, .int .i64 (srcP c.ts st).1.2.place, .string (srcP c.ts st).1.2.text] 260)) [(srcP c.ts st).1] (srcP c.ts st).2 ev1) :=
    ⟨hs1.alloc _, hk1.alloc _, World.ownsRow_lit w1 #[.int .i64 (srcP c.ts st).1.1.place, .int .i64 (srcP c.ts st).1.1.place, .string (srcP c.ts st).1.1.text, .int .i64 (srcP c.ts st).1.2.place, .string (srcP c.ts st).1.2.text] 1 hk1.size (by unfold maxLen; omega) rfl, by simp, by simp, by rw [unhide HR]; rfl, by omega, (onw_src (unhide HL) st (unhide HH).nx).dp⟩
  clear hs1 hk1
  generalize (srcP c.ts st).1 = t at *
  go_wp2_with fail
  go_loopg [7] c.ts.length (fun f s7 wr => ∃ l st' ev', SrRel c w most st.dp R f s7 wr l st' ev')
  case atStart => exact ⟨_, _, _, unhide REL⟩
  case round =>
    obtain ⟨l, st', ev', hrel⟩ := hrel
    have HREL := hide hrel
    clear hrel REL
    match gk, HREL with
    | 0, HREL => exact absurd (unhide HREL).fuel (by have := (unhide HREL).rs.nx; omega)
    | gk + 1, HREL =>
    cases hh : hitP c.ts st' xComma with
    | false =>
      have HHIT := hide hh
      clear hh
      go_wp2_with fail
      refine (take_no c _ st' ev' ⟨#[44]⟩ (by exact (unhide HREL).rs) (by exact unhide HHIT)).mono ?_
      rintro e w3 ⟨rfl, hb3⟩
      have HB3 := hide hb3
      clear hb3
      go_wp2
      go_ret
      have hr := (unhide HREL).eq
      unfold listLoop at hr
      rw [if_neg (by rw [unhide HHIT]; decide)] at hr
      subst hr
      exact ⟨_, rfl, ownsRow_keep (unhide HREL).row (unhide HB3), (unhide HREL).pos, ⟨ev', (unhide HREL).rs.keep (unhide HB3)⟩, (unhide HREL).kp.trans (Kp.ofBelow (unhide HB3))⟩
    | true =>
      have HHIT := hide hh
      clear hh
      obtain ⟨g, cap, hv⟩ := ownsRow_slice (unhide HREL).row (unhide HREL).pos
      subst hv
      have hfew := (unhide HREL).few
      have hnx := (unhide HREL).rs.nx
      go_wp2_with fail
      refine (take_yes c _ st' ev' ⟨#[44]⟩ (by exact (unhide HREL).rs) (by rw [ByteArray.toList_eq]; rfl) (by exact unhide HHIT)).mono ?_
      rintro e w3 ⟨rfl, ⟨ev3, hs3⟩, hk3⟩
      have HS3 := hide hs3
      have HK3 := hide hk3
      clear hs3 hk3
      have hg3 := (unhide HS3).env.cell 4 (by decide)
      have ROW3 := hide (ownsRow_kp (unhide HREL).row (unhide HK3) hrbw)
      by_cases hmx : l.length = most
      · have hb : (((l.length : Nat) : Int) == (most : Int)) = true := by simp; omega
        have HMX := hide hmx
        clear hmx
        go_wp2_with fail
        refine (fail_any c _ (adv st') ev3 eMany (by exact unhide HS3)).mono ?_
        rintro e w4 ⟨rfl, ⟨ev4, hs4⟩, hk4⟩
        have HS4 : Hid (RS c w4 (many c.ts most l.length (adv st')) ev4) := by unfold many; rw [if_pos (unhide HMX)]; exact hs4
        have HK4 := hide hk4
        have ROW4 := hide (ownsRow_kp (unhide ROW3) hk4 hrbw)
        clear hs4 hk4
        go_wp2_with fail
        refine (source_any c _ _ ev4 _ (by exact unhide HS4) rfl).mono ?_
        rintro e w5 ⟨rfl, ⟨ev5, hs5⟩, hk5⟩
        have HS5 := hide hs5
        have HK5 := hide hk5
        have ROW5 := hide (ownsRow_kp (ownsRow_kp (unhide ROW4) hk5 hrbw) (Kp.refl c.rb w5) hrbw)
        clear hs5 hk5
        generalize ht5 : (srcP c.ts (many c.ts most l.length (adv st'))).1 = t5 at *
        have HT5 := hide ht5
        clear ht5
        go_wp2_with (at_builtin; refine wpList_append_own _ rfl _ _ 253 rfl w.heap.size 260 i0 (.agg #[.int .i64 0, .int .i64 0, .string ⟨#[]⟩, .int .i64 0, .string ⟨#[]⟩]) 5 56 Tryz.underlying253 (unhide HI) (unhide HZ0) (unhide HZ1) (unhide HZ2) rfl (by decide) _ _ _ rfl ((unhide ROW5).alloc _) ⟨w5.heap.size, 0, none⟩ 1 1 [.int .i64 t5.1.place, .int .i64 t5.1.place, .string t5.1.text, .int .i64 t5.2.place, .string t5.2.text] rfl rfl ?c1 ?c2 ?c3 ?c4 ?c5 ?_)
        case c1 => exact cell_new rfl
        case c2 => intro u hu; simp only [List.mem_cons, List.mem_nil_iff, or_false] at hu; rcases hu with rfl | rfl | rfl | rfl | rfl <;> rfl
        case c3 => unfold maxLen; omega
        case c4 => omega
        case c5 => have := (unhide HREL).kp.size; have := (unhide HK3).size; have := (unhide HK4).size; have := (unhide HK5).size; simp; omega
        intro v' w6 ho hg _
        have HO6 := hide ho
        have HG6 := hide hg
        clear ho hg
        go_wp2
        go_roundg gk
        case measure => omega
        case rel =>
          exact ⟨_, _, ev5, sr_next (unhide HREL) (unhide HHIT) (unhide HL) hrbw (unhide HH) (unhide HK3) (unhide HK4) (unhide HS5) (unhide HK5) (unhide HT5) (unhide ROW5) (unhide HO6) (unhide HG6)⟩
      · have hb : (((l.length : Nat) : Int) == (most : Int)) = false := by simp; omega
        have HMX := hide hmx
        clear hmx
        obtain ⟨w4, hw4⟩ : ∃ w4, w4 = w3 := ⟨_, rfl⟩
        obtain ⟨ev4, hev4⟩ : ∃ q, q = ev3 := ⟨_, rfl⟩
        have HS4 : Hid (RS c w3 (many c.ts most l.length (adv st')) ev4) := by unfold many; rw [if_neg (unhide HMX), hev4]; exact unhide HS3
        have HK4 : Hid (Kp c.rb w3 w3) := Kp.refl _ _
        have ROW4 := ROW3
        clear hw4 hev4
        go_wp2_with fail
        refine (source_any c _ _ ev4 _ (by exact unhide HS4) rfl).mono ?_
        rintro e w5 ⟨rfl, ⟨ev5, hs5⟩, hk5⟩
        have HS5 := hide hs5
        have HK5 := hide hk5
        have ROW5 := hide (ownsRow_kp (ownsRow_kp (unhide ROW4) hk5 hrbw) (Kp.refl c.rb w5) hrbw)
        clear hs5 hk5
        generalize ht5 : (srcP c.ts (many c.ts most l.length (adv st'))).1 = t5 at *
        have HT5 := hide ht5
        clear ht5
        go_wp2_with (at_builtin; refine wpList_append_own _ rfl _ _ 253 rfl w.heap.size 260 i0 (.agg #[.int .i64 0, .int .i64 0, .string ⟨#[]⟩, .int .i64 0, .string ⟨#[]⟩]) 5 56 Tryz.underlying253 (unhide HI) (unhide HZ0) (unhide HZ1) (unhide HZ2) rfl (by decide) _ _ _ rfl ((unhide ROW5).alloc _) ⟨w5.heap.size, 0, none⟩ 1 1 [.int .i64 t5.1.place, .int .i64 t5.1.place, .string t5.1.text, .int .i64 t5.2.place, .string t5.2.text] rfl rfl ?c1 ?c2 ?c3 ?c4 ?c5 ?_)
        case c1 => exact cell_new rfl
        case c2 => intro u hu; simp only [List.mem_cons, List.mem_nil_iff, or_false] at hu; rcases hu with rfl | rfl | rfl | rfl | rfl <;> rfl
        case c3 => unfold maxLen; omega
        case c4 => omega
        case c5 => have := (unhide HREL).kp.size; have := (unhide HK3).size; have := (unhide HK4).size; have := (unhide HK5).size; simp; omega
        intro v' w6 ho hg _
        have HO6 := hide ho
        have HG6 := hide hg
        clear ho hg
        go_wp2
        go_roundg gk
        case measure => omega
        case rel =>
          exact ⟨_, _, ev5, sr_next (unhide HREL) (unhide HHIT) (unhide HL) hrbw (unhide HH) (unhide HK3) (unhide HK4) (unhide HS5) (unhide HK5) (unhide HT5) (unhide ROW5) (unhide HO6) (unhide HG6)⟩
end Go.Proofs.YtfkeddkfegaeiaaGreatDoor
namespace Go.Proofs.YtfkeddkfegaeiaaGreatDoor
open Go.RowKit
/-- append to a row of the call's own, as one step of a region that draws. -/
theorem step_append_own {P : Program} {ops : Array Oper} {o : Oper} {a : Act} {w : World} {K : Act → World → Prop} {Q : Exit → Act → World → Prop} {E : Prop}
    (hg : o.guard = none) (s x : Operand) (t : TypeId) (hop : o.op = Op.call { callee := Callee.builtin Builtin.append, args := #[s, x], argTypes := #[t, t] })
    (base : Nat) (e : TypeId) (i : TypeInfo) (z : Value) (size bytes : Nat) (h1 : P.underlying t = some (.slice e)) (h2 : P.info? e = some i) (h3 : i.zero = some z) (h4 : i.size = size) (h5 : i.bytes = bytes) (h6 : z.cells.size = size) (h7 : 0 < size)
    (v : Value) (n : Nat) (xs : List Value) (hs : a.eval s = v) (hown : w.ownsRow base e size v n xs)
    (ad : Addr) (m c : Nat) (news : List Value) (hx : a.eval x = .slice (some ad) m c) (hn : news.length = m * size) (hc : ∀ j u, news[j]? = some u → w.cell? (ad.add j) = some u) (h1c : ∀ u ∈ news, u.oneCell' = true)
    (b1 : n + m ≤ maxLen) (b2 : (n + m) * bytes ≤ 140737488355328) (hbase : base ≤ w.heap.size)
    (hK : ∀ v' w', w'.ownsRow base e size v' (n + m) (xs ++ news) → w.grownBy w' v.ownBlock → K (a.put o.dst v') w') :
    if Region.wanted o (yielded ops a.tmps) = true then Oper.wp P o a w K Q else E := by
  have hw : Region.wanted o (yielded ops a.tmps) = true := by simp [Region.wanted, hg]
  rw [if_pos hw]
  obtain ⟨v', w', hrun, r1, r2, _⟩ := run_append_own (P := P) w base t o.type e i z size bytes h1 h2 h3 h4 h5 h6 h7 v n xs hown ad m c news hn hc h1c b1 b2 hbase
  unfold Oper.wp
  simp [execOp, hop, resolve, invoke, builtin, hs, hx, hrun, Result.andThen]
  exact hK v' w' r1 r2
theorem infoPr : (Tryz.prog.info? 263).map (fun i => (i.zero, i.size, i.bytes)) = some (some (.agg #[.int .i64 0, .nilIface, .string ⟨#[]⟩, .nilIface]), 4, 56) := by kernel_rfl
theorem one4v {p : Int} {x y : Value} {s : ByteArray} (hx : IsI x) (hy : IsI y) : ∀ u ∈ [Value.int .i64 p, x, .string s, y], u.oneCell' = true := by
  intro u hu
  simp only [List.mem_cons, List.mem_nil_iff, or_false] at hu
  rcases hu with rfl | rfl | rfl | rfl
  · rfl
  · exact hx.one
  · rfl
  · exact hy.one
structure SelX where
  place : Nat
  items : List ItemA
  srcs : List (Tk × Tk)
  tests : List TestA
def andLoop (ts : List Tk) : Nat → List TestA → St → List TestA × St
  | 0, l, st => (l, st)
  | f + 1, l, st => if hitP ts st [⟨#[97, 110, 100]⟩] then andLoop ts f (l ++ [(testP ts (adv st)).1]) (testP ts (adv st)).2 else (l, st)
def whereP (ts : List Tk) (st : St) : List TestA × St := if hitP ts st [⟨#[119, 104, 101, 114, 101]⟩] then andLoop ts ts.length [(testP ts (adv st)).1] (testP ts (adv st)).2 else ([], st)
def selI (ts : List Tk) (st : St) : List ItemA × St := listP ts (itemP ts) 6 (wantP ts st [⟨#[115, 101, 108, 101, 99, 116]⟩])
def selS (ts : List Tk) (st : St) : List (Tk × Tk) × St := listP ts (srcP ts) 3 (wantP ts st [⟨#[102, 114, 111, 109]⟩])
def selP (ts : List Tk) (st : St) : SelX × St :=
  (⟨(tkAt ts st.nx).place, (selI ts st).1, (selS ts (selI ts st).2).1, (whereP ts (selS ts (selI ts st).2).2).1⟩, (whereP ts (selS ts (selI ts st).2).2).2)
theorem onw_and {ts : List Tk} (hl : Lst ts) : ∀ (f : Nat) (l : List TestA) (st : St), st.nx < ts.length → Onw ts st (andLoop ts f l st).2
  | 0, _, st, h => Onw.refl h
  | f + 1, l, st, h => by
    unfold andLoop
    split
    · rename_i hh
      have h1 := onw_adv hl h (hit_kind hh)
      have h2 := onw_test hl _ h1.lt
      exact h1.trans (h2.trans (onw_and hl f _ _ h2.lt))
    · exact Onw.refl h
theorem onw_where {ts : List Tk} (hl : Lst ts) {st : St} (h : st.nx < ts.length) : Onw ts st (whereP ts st).2 := by
  unfold whereP
  split
  · rename_i hh
    have h1 := onw_adv hl h (hit_kind hh)
    have h2 := onw_test hl _ h1.lt
    exact h1.trans (h2.trans (onw_and hl _ _ _ h2.lt))
  · exact Onw.refl h
theorem onw_selI {ts : List Tk} (hl : Lst ts) {st : St} (h : st.nx < ts.length) : Onw ts st (selI ts st).2 := by
  have h1 := onw_want hl h [⟨#[115, 101, 108, 101, 99, 116]⟩]
  exact h1.trans (onw_list hl (onw_item hl) 6 _ h1.lt)
theorem onw_selS {ts : List Tk} (hl : Lst ts) {st : St} (h : st.nx < ts.length) : Onw ts st (selS ts st).2 := by
  have h1 := onw_want hl h [⟨#[102, 114, 111, 109]⟩]
  exact h1.trans (onw_list hl (onw_src hl) 3 _ h1.lt)
theorem onw_sel {ts : List Tk} (hl : Lst ts) {st : St} (h : st.nx < ts.length) : Onw ts st (selP ts st).2 := by
  have h1 := onw_selI hl h
  have h2 := onw_selS hl h1.lt
  exact h1.trans (h2.trans (onw_where hl h2.lt))
/-- a test as it lies in a row: with the values of its two exprs. -/
def tsCells (us : List (TestA × Value × Value)) : List Value := us.flatMap fun u => [.int .i64 u.1.place, u.2.1, .string u.1.sg, u.2.2]
theorem tsCells_snoc (us : List (TestA × Value × Value)) (u : TestA × Value × Value) : tsCells us ++ [.int .i64 u.1.place, u.2.1, .string u.1.sg, u.2.2] = tsCells (us ++ [u]) := by simp [tsCells]
theorem ExP.refine {w : World} {P Q : Nat → Prop} (hQ : ∀ (k : Nat) (cs : Array Value) (t : TypeId), P k → w.heap[k]? = some (.cells cs t (0, 0)) → cs.size ≤ 5 → Q k) : ∀ (n : Nat) (v : Value) (l : List Nd), ExP w P n v l → ExP w Q n v l
  | 0, _, _, h => h
  | n + 1, v, l, h => by
    rcases h with ⟨b, t, h1, h0, h2, h3⟩ | ⟨b, p, x, k, h1, h0, h2, h3, h4⟩ | ⟨b, t, u, h1, h0, h2, h3⟩ | ⟨b, p, x, k, h1, h0, h2, h3, h4⟩ | ⟨b, p, x, sg, y, k, m, h1, h0, h2, h3, h4, h5⟩
    · exact Or.inl ⟨b, t, h1, hQ _ _ _ h0 h2 (by simp), h2, h3⟩
    · exact Or.inr (Or.inl ⟨b, p, x, k, h1, hQ _ _ _ h0 h2 (by simp), h2, ExP.refine hQ n x k h3, h4⟩)
    · exact Or.inr (Or.inr (Or.inl ⟨b, t, u, h1, hQ _ _ _ h0 h2 (by simp), h2, h3⟩))
    · exact Or.inr (Or.inr (Or.inr (Or.inl ⟨b, p, x, k, h1, hQ _ _ _ h0 h2 (by simp), h2, ExP.refine hQ n x k h3, h4⟩)))
    · exact Or.inr (Or.inr (Or.inr (Or.inr ⟨b, p, x, sg, y, k, m, h1, hQ _ _ _ h0 h2 (by simp), h2, ExP.refine hQ n x k h3, ExP.refine hQ n y m h4, h5⟩)))
theorem ExP.refineT {w : World} {P Q : Nat → Prop} (hQ : ∀ (k : Nat) (cs : Array Value) (t : TypeId), P k → w.heap[k]? = some (.cells cs t (0, 0)) → nodeT t = true → Q k) : ∀ (n : Nat) (v : Value) (l : List Nd), ExP w P n v l → ExP w Q n v l
  | 0, _, _, h => h
  | n + 1, v, l, h => by
    rcases h with ⟨b, t, h1, h0, h2, h3⟩ | ⟨b, p, x, k, h1, h0, h2, h3, h4⟩ | ⟨b, t, u, h1, h0, h2, h3⟩ | ⟨b, p, x, k, h1, h0, h2, h3, h4⟩ | ⟨b, p, x, sg, y, k, m, h1, h0, h2, h3, h4, h5⟩
    · exact Or.inl ⟨b, t, h1, hQ _ _ _ h0 h2 rfl, h2, h3⟩
    · exact Or.inr (Or.inl ⟨b, p, x, k, h1, hQ _ _ _ h0 h2 rfl, h2, ExP.refineT hQ n x k h3, h4⟩)
    · exact Or.inr (Or.inr (Or.inl ⟨b, t, u, h1, hQ _ _ _ h0 h2 rfl, h2, h3⟩))
    · exact Or.inr (Or.inr (Or.inr (Or.inl ⟨b, p, x, k, h1, hQ _ _ _ h0 h2 rfl, h2, ExP.refineT hQ n x k h3, h4⟩)))
    · exact Or.inr (Or.inr (Or.inr (Or.inr ⟨b, p, x, sg, y, k, m, h1, hQ _ _ _ h0 h2 rfl, h2, ExP.refineT hQ n x k h3, ExP.refineT hQ n y m h4, h5⟩)))
theorem ExIn.refine {w : World} {P Q : Nat → Prop} {v : Value} {l : List Nd} (h : ExIn w P v l) (hQ : ∀ (k : Nat) (cs : Array Value) (t : TypeId), P k → w.heap[k]? = some (.cells cs t (0, 0)) → cs.size ≤ 5 → Q k) : ExIn w Q v l := let ⟨n, hn⟩ := h; ⟨n, ExP.refine hQ n v l hn⟩
/-- where the nodes of tests may lie: from lo on, and not in the row of tests. -/
def offRow (lo : Nat) (vt : Value) (k : Nat) : Prop := lo ≤ k ∧ some k ≠ vt.ownBlock
/-- the tests of a select as they lie. -/
def TsOk (w : World) (lo : Nat) (vt : Value) (us : List (TestA × Value × Value)) : Prop := ∀ u ∈ us, ExIn w (offRow lo vt) u.2.1 u.1.l ∧ ExIn w (offRow lo vt) u.2.2 u.1.r
theorem TsOk.keep {w w' : World} {lo : Nat} {vt : Value} {us : List (TestA × Value × Value)} (h : TsOk w lo vt us) (hk : ∀ (k : Nat) (cs : Array Value) (t : TypeId), offRow lo vt k → w.heap[k]? = some (.cells cs t (0, 0)) → nodeT t = true → w'.heap[k]? = w.heap[k]?) : TsOk w' lo vt us := fun u hu =>
  ⟨(h u hu).1.keep (fun _ h => h) hk, (h u hu).2.keep (fun _ h => h) hk⟩
/-- blocks of exprs, windows, and lists of items, sources and names. -/
def lstT (t : TypeId) : Bool := winT t || t == 251 || t == 260 || t == 240
theorem Keeps.win {lo : Nat} {w w' : World} (h : Keeps lstT lo w w') : Keeps winT lo w w' := h.mono (fun t ht => by unfold lstT; rw [ht]; rfl) (Nat.le_refl _)
/-- a select as it lies. -/
def SelOk (w : World) (lo : Nat) (v : Value) (x : SelX) : Prop := ∃ b vi vs vt es us, v = .pointer (some ⟨b, 0, none⟩) ∧ lo ≤ b ∧ w.heap[b]? = some (.cells #[.int .i64 x.place, vi, vs, vt] 256 (0, 0)) ∧
  (w.ownsRow lo 251 5 vi es.length (itCells es) ∧ es.map (·.1) = x.items ∧ ∀ e ∈ es, ItV w lo e.2.1 (.pointer e.2.2) e.1.win e.1.val) ∧
  w.ownsRow lo 260 5 vs x.srcs.length (srCells x.srcs) ∧
  (w.ownsRow lo 263 4 vt us.length (tsCells us) ∧ us.map (·.1) = x.tests ∧ TsOk w lo vt us)
end Go.Proofs.YtfkeddkfegaeiaaGreatDoor
namespace Go.Proofs.YtfkeddkfegaeiaaGreatDoor
open Go.RowKit
/-- of the blocks below n only those of the reader and of the select have turned. -/
def Old2 (c : Cx) (bs n : Nat) (w w' : World) : Prop := ∀ k, k < n → k ≠ c.rb → k ≠ bs → w'.heap[k]? = w.heap[k]?
theorem Old2.kp {c : Cx} {bs n : Nat} {w W W' : World} (h : Old2 c bs n w W) (hk : Kp c.rb W W') (hn : n ≤ W.heap.size) : Old2 c bs n w W' := fun k h0 h1 h2 => (hk.block k (by omega) h1).trans (h k h0 h1 h2)
theorem Old2.grown {c : Cx} {bs n : Nat} {w W W' : World} {e : TypeId} {size m : Nat} {v : Value} {xs : List Value} (h : Old2 c bs n w W) (hrow : W.ownsRow n e size v m xs) (hg : W.grownBy W' v.ownBlock) (hn : n ≤ W.heap.size) : Old2 c bs n w W' := fun k h0 h1 h2 =>
  (hg.block k (by omega) (fun e1 => by have := (hrow.lt k e1.symm).1; omega)).trans (h k h0 h1 h2)
theorem Old2.set {c : Cx} {bs n i : Nat} {w W : World} {u : Value} (h : Old2 c bs n w W) : Old2 c bs n w (W.setCell ⟨bs, i, none⟩ u) := fun k h0 h1 h2 => (Below.heap_setCell _ _ _ _ h2).trans (h k h0 h1 h2)
/-- a row's block, its size. -/
theorem ownsRow_block {w : World} {base : Nat} {e : TypeId} {size : Nat} {v : Value} {n g : Nat} {xs : List Value} (h : w.ownsRow base e size v n xs) (hg : v.ownBlock = some g) : ∃ cur, w.heap[g]? = some (.cells cur e (0, 0)) ∧ n * size ≤ cur.size := by
  rcases h.2 with ⟨rfl, _⟩ | ⟨g', cap, cur, rfl, _, hh, hn, _, hc, _⟩
  · cases hg
  · have : g' = g := by simpa [Value.ownBlock] using hg
    subst this
    exact ⟨cur, hh, by rw [hc]; exact Nat.mul_le_mul_right _ hn⟩
/-- the tests so far, and one more. -/
theorem tests_more {c : Cx} {w w8 W W5 W6 : World} {bs : Nat} {vt v' x y : Value} {us : List (TestA × Value × Value)} {t : TestA} {stA : St} {evA : Value} {sg : ByteArray} {p : Nat}
    (hrs : RS c W stA evA) (hbs : ∃ cs, W.heap[bs]? = some (.cells cs 256 (0, 0))) (h8 : w.heap.size ≤ w8.heap.size) (h8W : w8.heap.size ≤ W.heap.size)
    (hrow : W.ownsRow w8.heap.size 263 4 vt us.length (tsCells us)) (hok : TsOk W w.heap.size vt us)
    (hk5 : Kp c.rb W W5) (hx : ExOk W5 W.heap.size x t.l) (hy : ExOk W5 W.heap.size y t.r)
    (ho : W6.ownsRow w8.heap.size 263 4 v' (us.length + 1) (tsCells us ++ [.int .i64 p, x, .string sg, y]))
    (hg : (W5.alloc (.cells #[.int .i64 p, x, .string sg, y] 263)).grownBy W6 vt.ownBlock)
    (hfresh : us = [] → ∀ g, v'.ownBlock = some g → W5.heap.size ≤ g) :
    TsOk (W6.setCell ⟨bs, 3, none⟩ v') w.heap.size v' (us ++ [(t, x, y)]) := by
  obtain ⟨csel, hbs⟩ := hbs
  have hbsW := lt_of_heap hbs
  have hs5 := hk5.size
  -- a node's block that stood at W5 and is not the old row's stands behind all of it
  have step : ∀ (k : Nat) (cs : Array Value) (tt : TypeId), some k ≠ vt.ownBlock → k ≠ bs → W5.heap[k]? = some (.cells cs tt (0, 0)) → (W6.setCell ⟨bs, 3, none⟩ v').heap[k]? = W5.heap[k]? := fun k cs tt h1 h2 h3 => by
    have hk := lt_of_heap h3
    rw [Below.heap_setCell _ _ _ _ h2, hg.block k (by simp; omega) h1, Below.heap_alloc _ _ _ hk]
  have nbs : ∀ (k : Nat) (cs : Array Value) (tt : TypeId), W.heap[k]? = some (.cells cs tt (0, 0)) → nodeT tt = true → k ≠ bs := fun k cs tt h1 h2 e => by
    subst e; rw [hbs] at h1; cases h1; cases h2
  have nrb : ∀ (k : Nat) (cs : Array Value) (tt : TypeId), W.heap[k]? = some (.cells cs tt (0, 0)) → nodeT tt = true → k ≠ c.rb := fun k cs tt h1 h2 e => by
    subst e; rw [hrs.reader] at h1; cases h1; cases h2
  -- the new row is no node: by its size, or for it is new
  have far : us ≠ [] → ∀ (k : Nat) (cs : Array Value) (tt : TypeId), k ≠ bs → (W6.setCell ⟨bs, 3, none⟩ v').heap[k]? = some (.cells cs tt (0, 0)) → cs.size ≤ 5 → some k ≠ v'.ownBlock := fun hne k cs tt hkb hk hsz e => by
    obtain ⟨cur, hcur, hn⟩ := ownsRow_block ho e.symm
    rw [Below.heap_setCell _ _ _ _ hkb, hcur] at hk
    cases hk
    have : 0 < us.length := by cases us with | nil => exact absurd rfl hne | cons _ _ => simp
    omega
  intro u hu
  rcases List.mem_append.1 hu with hu | hu
  · have hne : us ≠ [] := fun e => by rw [e] at hu; cases hu
    have old : ∀ {z : Value} {l : List Nd}, ExIn W (offRow w.heap.size vt) z l → ExIn (W6.setCell ⟨bs, 3, none⟩ v') (offRow w.heap.size v') z l := fun {z l} hz => by
      have h1 : ExIn (W6.setCell ⟨bs, 3, none⟩ v') (fun k => offRow w.heap.size vt k ∧ k ≠ bs) z l := by
        have h0 : ExIn W (fun k => offRow w.heap.size vt k ∧ k ≠ bs) z l := by
          obtain ⟨n, hn⟩ := hz
          exact ⟨n, ExP.refineT (fun k cs tt hp hk ht => ⟨hp, nbs k cs tt hk ht⟩) n z l hn⟩
        refine h0.keep (fun _ h => h) (fun k cs tt hp hk ht => ?_)
        have e5 : W5.heap[k]? = W.heap[k]? := hk5.block k (lt_of_heap hk) (nrb k cs tt hk ht)
        exact (step k cs tt hp.1.2 hp.2 (e5.trans hk)).trans e5
      exact h1.refine (fun k cs tt hp hk hsz => ⟨hp.1.1, far hne k cs tt hp.2 hk hsz⟩)
    exact ⟨old (hok u hu).1, old (hok u hu).2⟩
  · rw [List.mem_singleton.1 hu]
    have new : ∀ {z : Value} {l : List Nd}, ExOk W5 W.heap.size z l → ExIn (W6.setCell ⟨bs, 3, none⟩ v') (offRow w.heap.size v') z l := fun {z l} hz => by
      have h1 : ExIn (W6.setCell ⟨bs, 3, none⟩ v') (fun k => W.heap.size ≤ k ∧ k < W5.heap.size) z l := by
        refine hz.bound.keep (fun _ h => h) (fun k cs tt hp hk ht => ?_)
        refine step k cs tt (fun e => ?_) (by omega) hk
        have := (hrow.lt k e.symm).2
        omega
      refine h1.refine (fun k cs tt hp hk hsz => ⟨by omega, ?_⟩)
      by_cases hne : us = []
      · intro e
        have := hfresh hne k e.symm
        omega
      · exact far hne k cs tt (by omega) hk hsz
    exact ⟨new hx, new hy⟩
end Go.Proofs.YtfkeddkfegaeiaaGreatDoor
