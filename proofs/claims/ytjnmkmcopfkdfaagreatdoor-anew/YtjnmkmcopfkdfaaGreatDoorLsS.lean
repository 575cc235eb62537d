/-
  Lists of sources: the walk of list at sources.
-/
import Derived.Test.YtjnmkmcopfkdfaaGreatDoorSrc
namespace Go.Proofs.YtjnmkmcopfkdfaaGreatDoor
open Go.RowKit

def srCells (l : List (Tk × Tk)) : List Value := l.flatMap fun t => [.int .i64 t.1.place, .int .i64 t.1.place, .string t.1.text, .int .i64 t.2.place, .string t.2.text]
theorem srCells_snoc (l : List (Tk × Tk)) (t : Tk × Tk) : srCells l ++ [.int .i64 t.1.place, .int .i64 t.1.place, .string t.1.text, .int .i64 t.2.place, .string t.2.text] = srCells (l ++ [t]) := by simp [srCells]

/-- the loop of list at names. -/
structure SrRel (c : Cx) (w : World) (most : Nat) (d : Nat) (R : List (Tk × Tk) × St) (f : Nat) (v : Value) (wr : World) (l : List (Tk × Tk)) (st' : St) (ev' : Value) : Prop where
  rs : RS c wr st' ev'
  kp : Kp c.rb w wr
  row : wr.ownsRow w.heap.size 140 5 v l.length (srCells l)
  pos : 0 < l.length
  few : l.length ≤ st'.nx + 1
  eq : R = listLoop c.ts (srcP c.ts) most f l st'
  fuel : c.ts.length ≤ f + st'.nx
  dp : st'.dp = d

theorem sr_next {c : Cx} {w wr w3 w4 w5 w6 : World} {most d gk : Nat} {R : List (Tk × Tk) × St} {v v' : Value} {l : List (Tk × Tk)} {st0 st' : St} {ev0 ev' ev5 : Value} {t5 : Tk × Tk} (hr : SrRel c w most d R (gk + 1) v wr l st' ev') (hh : hitP c.ts st' xComma = true) (hl : Lst c.ts) (hrb : c.rb < w.heap.size) (h0 : RS c w st0 ev0)
    (hk3 : Kp c.rb wr w3) (hk4 : Kp c.rb w3 w4) (h5 : RS c w5 ((srcP c.ts (many c.ts most l.length (adv st'))).2) ev5) (hk5 : Kp c.rb w4 w5) (ht : (srcP c.ts (many c.ts most l.length (adv st'))).1 = t5)
    (hrow : w5.ownsRow w.heap.size 140 5 v l.length (srCells l)) (ho : w6.ownsRow w.heap.size 140 5 v' (l.length + 1) (srCells l ++ [.int .i64 t5.1.place, .int .i64 t5.1.place, .string t5.1.text, .int .i64 t5.2.place, .string t5.2.text]))
    (hg : (w5.alloc (.cells #[.int .i64 t5.1.place, .int .i64 t5.1.place, .string t5.1.text, .int .i64 t5.2.place, .string t5.2.text] 140)).grownBy w6 v.ownBlock) :
    SrRel c w most d R gk v' w6 (l ++ [t5]) ((srcP c.ts (many c.ts most l.length (adv st'))).2) ev5 := by
  have hadv := onw_adv hl hr.rs.nx (hit_kind hh)
  have hmany := onw_many hadv.lt most l.length
  have hnm := onw_src hl _ hmany.lt
  have htb : c.tb < w.heap.size := by obtain ⟨cur, e1, _⟩ := h0.tokens; exact lt_of_heap e1
  have hnx : st'.nx + 1 ≤ ((srcP c.ts (many c.ts most l.length (adv st'))).2).nx := Nat.le_trans hmany.nx hnm.nx
  refine ⟨(h5.alloc _).grown (hrow.alloc _) hg (by decide) hrb htb h0.env.size, ?_, ?_, by simp, ?_, ?_, ?_, ?_⟩
  · exact Kp.grown ((((hr.kp.trans hk3).trans hk4).trans hk5).alloc _) (hrow.alloc _) hg (Nat.le_refl _)
  · rw [← srCells_snoc, List.length_append]; exact ho
  · have := hr.few; rw [List.length_append]; simp; omega
  · have e := hr.eq
    unfold listLoop at e
    rw [if_pos hh] at e
    rw [e, ← ht]
  · have := hr.fuel; omega
  · exact (hnm.dp.trans (hmany.dp.trans hadv.dp)).trans hr.dp

theorem infoSr : (Tryz.prog.info? 140).map (fun i => (i.zero, i.size, i.bytes)) = some (some (.agg #[.int .i64 0, .int .i64 0, .string ⟨#[]⟩, .int .i64 0, .string ⟨#[]⟩]), 5, 56) := by kernel_rfl

set_option maxRecDepth 100000 in
set_option maxHeartbeats 1000000 in
theorem list_source (c : Cx) (w : World) (st : St) (ev : Value) (most : Nat) (R : List (Tk × Tk) × St) (h : RS c w st ev) (_hm : most ≤ 1001) (HR : Hid (R = listP c.ts (srcP c.ts) most st)) :
    Calls Tryz.prog 64 #[.pointer (some ⟨c.rb, 0, none⟩), .int .i64 most, .func (.func 65) #[.pointer (some ⟨c.rb, 0, none⟩)] #[]] w fun e w' => ∃ v, e = .returned v ∧ w'.ownsRow w.heap.size 140 5 v R.1.length (srCells R.1) ∧ 0 < R.1.length ∧ Aft c w R.2 w' := by
  obtain ⟨i0, hi, hinf⟩ := Option.map_eq_some_iff.1 infoSr
  simp only [Prod.mk.injEq] at hinf
  obtain ⟨hz0, hz1, hz2⟩ := hinf
  have HI := hide hi
  have HZ0 := hide hz0
  have HZ1 := hide hz1
  have HZ2 := hide hz2
  have HL := hide h.last
  have hlen := h.len
  have hrbw := lt_of_heap h.reader
  have HH := hide h
  clear hi hz0 hz1 hz2 h
  go_enter Tryz.func64, Tryz.ntmps64
  go_wp2_with fail
  refine (source_any c _ st ev _ (by exact unhide HH) rfl).mono ?_
  rintro e w1 ⟨rfl, ⟨ev1, hs1⟩, hk1⟩
  have REL : Hid (SrRel c w most st.dp R c.ts.length (.slice (some ⟨w1.heap.size, 0, none⟩) 1 1) (w1.alloc (.cells #[.int .i64 (srcP c.ts st).1.1.place, .int .i64 (srcP c.ts st).1.1.place, .string (srcP c.ts st).1.1.text, .int .i64 (srcP c.ts st).1.2.place, .string (srcP c.ts st).1.2.text] 140)) [(srcP c.ts st).1] (srcP c.ts st).2 ev1) :=
    ⟨hs1.alloc _, hk1.alloc _, World.ownsRow_lit w1 #[.int .i64 (srcP c.ts st).1.1.place, .int .i64 (srcP c.ts st).1.1.place, .string (srcP c.ts st).1.1.text, .int .i64 (srcP c.ts st).1.2.place, .string (srcP c.ts st).1.2.text] 1 hk1.size (by unfold maxLen; omega) rfl, by simp, by simp, by rw [unhide HR]; rfl, by omega, (onw_src (unhide HL) st (unhide HH).nx).dp⟩
  clear hs1 hk1
  generalize (srcP c.ts st).1 = t at *
  go_wp2_with fail
  go_loopg [7] c.ts.length (fun f s7 wr => ∃ l st' ev', SrRel c w most st.dp R f s7 wr l st' ev')
  case atStart => exact ⟨_, _, _, unhide REL⟩
  case round =>
    obtain ⟨l, st', ev', hrel⟩ := hrel
    have HREL := hide hrel
    clear hrel REL
    match gk, HREL with
    | 0, HREL => exact absurd (unhide HREL).fuel (by have := (unhide HREL).rs.nx; omega)
    | gk + 1, HREL =>
    cases hh : hitP c.ts st' xComma with
    | false =>
      have HHIT := hide hh
      clear hh
      go_wp2_with fail
      refine (take_no c _ st' ev' ⟨#[44]⟩ (by exact (unhide HREL).rs) (by exact unhide HHIT)).mono ?_
      rintro e w3 ⟨rfl, hb3⟩
      have HB3 := hide hb3
      clear hb3
      go_wp2
      go_ret
      have hr := (unhide HREL).eq
      unfold listLoop at hr
      rw [if_neg (by rw [unhide HHIT]; decide)] at hr
      subst hr
      exact ⟨_, rfl, ownsRow_keep (unhide HREL).row (unhide HB3), (unhide HREL).pos, ⟨ev', (unhide HREL).rs.keep (unhide HB3)⟩, (unhide HREL).kp.trans (Kp.ofBelow (unhide HB3))⟩
    | true =>
      have HHIT := hide hh
      clear hh
      obtain ⟨g, cap, hv⟩ := ownsRow_slice (unhide HREL).row (unhide HREL).pos
      subst hv
      have hfew := (unhide HREL).few
      have hnx := (unhide HREL).rs.nx
      go_wp2_with fail
      refine (take_yes c _ st' ev' ⟨#[44]⟩ (by exact (unhide HREL).rs) (by rw [ByteArray.toList_eq]; rfl) (by exact unhide HHIT)).mono ?_
      rintro e w3 ⟨rfl, ⟨ev3, hs3⟩, hk3⟩
      have HS3 := hide hs3
      have HK3 := hide hk3
      clear hs3 hk3
      have hg3 := (unhide HS3).env.cell 4 (by decide)
      have ROW3 := hide (ownsRow_kp (unhide HREL).row (unhide HK3) hrbw)
      by_cases hmx : l.length = most
      · have hb : (((l.length : Nat) : Int) == (most : Int)) = true := by simp; omega
        have HMX := hide hmx
        clear hmx
        go_wp2_with fail
        refine (fail_any c _ (adv st') ev3 eMany (by exact unhide HS3)).mono ?_
        rintro e w4 ⟨rfl, ⟨ev4, hs4⟩, hk4⟩
        have HS4 : Hid (RS c w4 (many c.ts most l.length (adv st')) ev4) := by unfold many; rw [if_pos (unhide HMX)]; exact hs4
        have HK4 := hide hk4
        have ROW4 := hide (ownsRow_kp (unhide ROW3) hk4 hrbw)
        clear hs4 hk4
        go_wp2_with fail
        refine (source_any c _ _ ev4 _ (by exact unhide HS4) rfl).mono ?_
        rintro e w5 ⟨rfl, ⟨ev5, hs5⟩, hk5⟩
        have HS5 := hide hs5
        have HK5 := hide hk5
        have ROW5 := hide (ownsRow_kp (ownsRow_kp (unhide ROW4) hk5 hrbw) (Kp.refl c.rb w5) hrbw)
        clear hs5 hk5
        generalize ht5 : (srcP c.ts (many c.ts most l.length (adv st'))).1 = t5 at *
        have HT5 := hide ht5
        clear ht5
        go_wp2_with (at_builtin; refine wpList_append_own _ rfl _ _ 133 rfl w.heap.size 140 i0 (.agg #[.int .i64 0, .int .i64 0, .string ⟨#[]⟩, .int .i64 0, .string ⟨#[]⟩]) 5 56 Tryz.underlying133 (unhide HI) (unhide HZ0) (unhide HZ1) (unhide HZ2) rfl (by decide) _ _ _ rfl ((unhide ROW5).alloc _) ⟨w5.heap.size, 0, none⟩ 1 1 [.int .i64 t5.1.place, .int .i64 t5.1.place, .string t5.1.text, .int .i64 t5.2.place, .string t5.2.text] rfl rfl ?c1 ?c2 ?c3 ?c4 ?c5 ?_)
        case c1 => exact cell_new rfl
        case c2 => intro u hu; simp only [List.mem_cons, List.mem_nil_iff, or_false] at hu; rcases hu with rfl | rfl | rfl | rfl | rfl <;> rfl
        case c3 => unfold maxLen; omega
        case c4 => omega
        case c5 => have := (unhide HREL).kp.size; have := (unhide HK3).size; have := (unhide HK4).size; have := (unhide HK5).size; simp; omega
        intro v' w6 ho hg _
        have HO6 := hide ho
        have HG6 := hide hg
        clear ho hg
        go_wp2
        go_roundg gk
        case measure => omega
        case rel =>
          exact ⟨_, _, ev5, sr_next (unhide HREL) (unhide HHIT) (unhide HL) hrbw (unhide HH) (unhide HK3) (unhide HK4) (unhide HS5) (unhide HK5) (unhide HT5) (unhide ROW5) (unhide HO6) (unhide HG6)⟩
      · have hb : (((l.length : Nat) : Int) == (most : Int)) = false := by simp; omega
        have HMX := hide hmx
        clear hmx
        obtain ⟨w4, hw4⟩ : ∃ w4, w4 = w3 := ⟨_, rfl⟩
        obtain ⟨ev4, hev4⟩ : ∃ q, q = ev3 := ⟨_, rfl⟩
        have HS4 : Hid (RS c w3 (many c.ts most l.length (adv st')) ev4) := by unfold many; rw [if_neg (unhide HMX), hev4]; exact unhide HS3
        have HK4 : Hid (Kp c.rb w3 w3) := Kp.refl _ _
        have ROW4 := ROW3
        clear hw4 hev4
        go_wp2_with fail
        refine (source_any c _ _ ev4 _ (by exact unhide HS4) rfl).mono ?_
        rintro e w5 ⟨rfl, ⟨ev5, hs5⟩, hk5⟩
        have HS5 := hide hs5
        have HK5 := hide hk5
        have ROW5 := hide (ownsRow_kp (ownsRow_kp (unhide ROW4) hk5 hrbw) (Kp.refl c.rb w5) hrbw)
        clear hs5 hk5
        generalize ht5 : (srcP c.ts (many c.ts most l.length (adv st'))).1 = t5 at *
        have HT5 := hide ht5
        clear ht5
        go_wp2_with (at_builtin; refine wpList_append_own _ rfl _ _ 133 rfl w.heap.size 140 i0 (.agg #[.int .i64 0, .int .i64 0, .string ⟨#[]⟩, .int .i64 0, .string ⟨#[]⟩]) 5 56 Tryz.underlying133 (unhide HI) (unhide HZ0) (unhide HZ1) (unhide HZ2) rfl (by decide) _ _ _ rfl ((unhide ROW5).alloc _) ⟨w5.heap.size, 0, none⟩ 1 1 [.int .i64 t5.1.place, .int .i64 t5.1.place, .string t5.1.text, .int .i64 t5.2.place, .string t5.2.text] rfl rfl ?c1 ?c2 ?c3 ?c4 ?c5 ?_)
        case c1 => exact cell_new rfl
        case c2 => intro u hu; simp only [List.mem_cons, List.mem_nil_iff, or_false] at hu; rcases hu with rfl | rfl | rfl | rfl | rfl <;> rfl
        case c3 => unfold maxLen; omega
        case c4 => omega
        case c5 => have := (unhide HREL).kp.size; have := (unhide HK3).size; have := (unhide HK4).size; have := (unhide HK5).size; simp; omega
        intro v' w6 ho hg _
        have HO6 := hide ho
        have HG6 := hide hg
        clear ho hg
        go_wp2
        go_roundg gk
        case measure => omega
        case rel =>
          exact ⟨_, _, ev5, sr_next (unhide HREL) (unhide HHIT) (unhide HL) hrbw (unhide HH) (unhide HK3) (unhide HK4) (unhide HS5) (unhide HK5) (unhide HT5) (unhide ROW5) (unhide HO6) (unhide HG6)⟩
end Go.Proofs.YtjnmkmcopfkdfaaGreatDoor
