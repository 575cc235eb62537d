/-
  Part 6.
-/
import Derived.Test.YtfkeddkfegaeiaaGreatDoorMvScanD
namespace Go.Proofs.YtfkeddkfegaeiaaGreatDoor
open Go.RowKit
/-- the next token is one of these words or signs. -/
def hitP (ts : List Tk) (st : St) (xs : List ByteArray) : Bool := (tkAt ts st.nx).kind == 1 && Lib.containsS xs (tkAt ts st.nx).text
def adv (st : St) : St := { st with nx := st.nx + 1 }
theorem RS.adv {c : Cx} {w : World} {st : St} {ev : Value} (h : RS c w st ev) (hk : (tkAt c.ts st.nx).kind ≠ 0) : RS c (w.setCell ⟨c.rb, 1, none⟩ (.int .i64 ((st.nx : Int) + 1))) (adv st) ev := by
  have := h.setNx (st.nx + 1) (h.last _ h.nx hk)
  rw [show ((st.nx : Int) + 1) = ((st.nx + 1 : Nat) : Int) from by omega]
  exact this
/-- a list of texts as a call's own row. -/
def Texts (w : World) (b : Nat) (xs : List ByteArray) : Prop := b < w.heap.size ∧ ∀ j, j < xs.length → w.cell? ⟨b, 0 + j, none⟩ = some (.string (xs.getD j ByteArray.empty))
theorem Texts.keep {w w' : World} {b : Nat} {xs : List ByteArray} (h : Texts w b xs) (hb : Below w.heap.size w w') : Texts w' b xs :=
  ⟨Nat.lt_of_lt_of_le h.1 hb.size, fun j hj => (hb.cell (p := ⟨b, 0 + j, none⟩) h.1).trans (h.2 j hj)⟩
set_option maxRecDepth 100000 in
set_option maxHeartbeats 400000 in
theorem takeOne_kind (c : Cx) (w : World) (st : St) (ev : Value) (b : Nat) (xs : List ByteArray) (h : RS c w st ev) (hk : (((tkAt c.ts st.nx).kind : Int) != 1) = true) :
    Calls Tryz.prog 147 #[.pointer (some ⟨c.rb, 0, none⟩), .slice (some ⟨b, 0, none⟩) xs.length xs.length] w fun e w' => e = .returned (.string ⟨#[]⟩) ∧ Below w.heap.size w w' := by
  have HH := hide h
  clear h
  go_enter Tryz.func147, Tryz.ntmps147
  go_wp2_with fail
  refine (peek_any c _ st _ (by exact unhide HH)).mono ?_
  rintro e w1 ⟨rfl, hb1⟩
  have HB1 := hide hb1
  clear hb1
  generalize tkAt c.ts st.nx = t at *
  go_wp2
  go_ret
  exact ⟨rfl, (unhide HB1).alloc (unhide HB1).size _⟩
set_option maxRecDepth 100000 in
set_option maxHeartbeats 400000 in
theorem takeOne_text (c : Cx) (w : World) (st : St) (ev : Value) (b : Nat) (xs : List ByteArray) (h : RS c w st ev) (hx : Texts w b xs) (hl : xs.length ≤ 100) (hk : (((tkAt c.ts st.nx).kind : Int) != 1) = false) (hc : Lib.containsS xs (tkAt c.ts st.nx).text = false) :
    Calls Tryz.prog 147 #[.pointer (some ⟨c.rb, 0, none⟩), .slice (some ⟨b, 0, none⟩) xs.length xs.length] w fun e w' => e = .returned (.string ⟨#[]⟩) ∧ Below w.heap.size w w' := by
  have HH := hide h
  have HX := hide hx
  clear h hx
  go_enter Tryz.func147, Tryz.ntmps147
  go_wp2_with fail
  refine (peek_any c _ st _ (by exact unhide HH)).mono ?_
  rintro e w1 ⟨rfl, hb1⟩
  have HB1 := hide hb1
  clear hb1
  generalize tkAt c.ts st.nx = t at *
  go_wp2_with fail
  refine (Tryz.slices_Contains_string b 0 xs.length xs.length xs t.text _ (Nat.le_refl _) (by omega) ?_).mono ?_
  · exact (((unhide HX).keep (unhide HB1)).keep ((Below.refl _ _).alloc (Nat.le_refl _) _)).2
  rintro e w2 ⟨rfl, rfl⟩
  rw [List.take_length]
  go_wp2
  go_ret
  exact ⟨rfl, (unhide HB1).alloc (unhide HB1).size _⟩
set_option maxRecDepth 100000 in
set_option maxHeartbeats 400000 in
theorem takeOne_hit (c : Cx) (w : World) (st : St) (ev : Value) (b : Nat) (xs : List ByteArray) (h : RS c w st ev) (hx : Texts w b xs) (hl : xs.length ≤ 100) (hk : (((tkAt c.ts st.nx).kind : Int) != 1) = false) (hc : Lib.containsS xs (tkAt c.ts st.nx).text = true) :
    Calls Tryz.prog 147 #[.pointer (some ⟨c.rb, 0, none⟩), .slice (some ⟨b, 0, none⟩) xs.length xs.length] w fun e w' => e = .returned (.string (tkAt c.ts st.nx).text) ∧ Aft c w (adv st) w' := by
  have hk1 : (tkAt c.ts st.nx).kind ≠ 0 := by
    intro e; rw [e] at hk; simp at hk
  have HK := hide hk1
  clear hk1
  have hnx := h.nx
  have hlen := h.len
  have HH := hide h
  have HX := hide hx
  clear h hx
  go_enter Tryz.func147, Tryz.ntmps147
  go_wp2_with fail
  refine (peek_any c _ st _ (by exact unhide HH)).mono ?_
  rintro e w1 ⟨rfl, hb1⟩
  have HB1 := hide hb1
  have HH1 := hide ((unhide HH).keep hb1)
  clear hb1
  generalize ht : tkAt c.ts st.nx = t at *
  have HT := hide ht
  clear ht
  go_wp2_with fail
  refine (Tryz.slices_Contains_string b 0 xs.length xs.length xs t.text _ (Nat.le_refl _) (by omega) ?_).mono ?_
  · exact (((unhide HX).keep (unhide HB1)).keep ((Below.refl _ _).alloc (Nat.le_refl _) _)).2
  rintro e w2 ⟨rfl, rfl⟩
  rw [List.take_length]
  obtain ⟨r0, r1, _, _, hf, hrb⟩ := (unhide HH1).facts
  go_wp2
  go_ret
  rw [unhide HT]
  exact ⟨rfl, ⟨ev, ((unhide HH1).adv (by rw [unhide HT]; exact unhide HK)).alloc _⟩, ((Kp.ofBelow (unhide HB1)).setCell _ _).alloc _⟩
theorem Aft.same {c : Cx} {w w' : World} {st : St} {ev : Value} (h : RS c w st ev) (hb : Below w.heap.size w w') : Aft c w st w' := ⟨⟨ev, h.keep hb⟩, Kp.ofBelow hb⟩
theorem takeOne_yes (c : Cx) (w : World) (st : St) (ev : Value) (b : Nat) (xs : List ByteArray) (h : RS c w st ev) (hx : Texts w b xs) (hl : xs.length ≤ 100) (hh : hitP c.ts st xs = true) :
    Calls Tryz.prog 147 #[.pointer (some ⟨c.rb, 0, none⟩), .slice (some ⟨b, 0, none⟩) xs.length xs.length] w fun e w' => e = .returned (.string (tkAt c.ts st.nx).text) ∧ Aft c w (adv st) w' := by
  unfold hitP at hh
  rw [Bool.and_eq_true] at hh
  exact takeOne_hit c w st ev b xs h hx hl (by have := hh.1; simp at this; rw [this]; rfl) hh.2
theorem takeOne_no (c : Cx) (w : World) (st : St) (ev : Value) (b : Nat) (xs : List ByteArray) (h : RS c w st ev) (hx : Texts w b xs) (hl : xs.length ≤ 100) (hh : hitP c.ts st xs = false) :
    Calls Tryz.prog 147 #[.pointer (some ⟨c.rb, 0, none⟩), .slice (some ⟨b, 0, none⟩) xs.length xs.length] w fun e w' => e = .returned (.string ⟨#[]⟩) ∧ Below w.heap.size w w' := by
  cases hk : (((tkAt c.ts st.nx).kind : Int) != 1) with
  | true => exact takeOne_kind c w st ev b xs h hk
  | false =>
    refine takeOne_text c w st ev b xs h hx hl hk ?_
    unfold hitP at hh
    have : ((tkAt c.ts st.nx).kind == 1) = true := by simp at hk; simp; omega
    rw [this] at hh
    simpa using hh
/-- a text that is hit is not empty, if none of the list is. -/
theorem hit_text {ts : List Tk} {st : St} {xs : List ByteArray} (h : hitP ts st xs = true) (hx : ∀ x ∈ xs, (x.toList == []) = false) : ((tkAt ts st.nx).text.toList == []) = false := by
  unfold hitP at h
  rw [Bool.and_eq_true] at h
  exact hx _ ((Lib.containsS_iff _ _).1 h.2)
def nonE (xs : List ByteArray) : Bool := xs.all fun x => x.size != 0
theorem nonE_ok {xs : List ByteArray} (h : nonE xs = true) : ∀ x ∈ xs, (x.toList == []) = false := by
  intro x hx
  have h1 := List.all_eq_true.1 h x hx
  have h2 := toList_size x
  cases hl : x.toList with
  | nil => rw [hl] at h2; rw [← h2] at h1; cases h1
  | cons a r => rfl
theorem texts_new {w : World} {x : List ByteArray} {cs : Array Value} {t : TypeId} {n : Nat} (hn : n = w.heap.size) (h : ∀ j, j < x.length → cs[j]? = some (.string (x.getD j ByteArray.empty))) : Texts (w.alloc (.cells cs t)) n x := by
  subst hn
  refine ⟨by simp, fun j hj => ?_⟩
  rw [Nat.zero_add, (blk (heap_last (w := w) (o := .cells cs t) rfl)).1]
  exact h j hj
set_option maxRecDepth 100000 in
set_option maxHeartbeats 400000 in
theorem take_yes (c : Cx) (w : World) (st : St) (ev : Value) (x : ByteArray) (h : RS c w st ev) (hx : (x.toList == []) = false) (hh : hitP c.ts st [x] = true) :
    Calls Tryz.prog 96 #[.pointer (some ⟨c.rb, 0, none⟩), .string x] w fun e w' => e = .returned (.bool true) ∧ Aft c w (adv st) w' := by
  have htx := hit_text hh (fun y hy => by rw [List.mem_singleton.1 hy]; exact hx)
  have HH := hide h
  have HX := hide hh
  clear h hh hx
  go_enter Tryz.func96, Tryz.ntmps96
  go_wp2_with fail
  refine (takeOne_yes c _ st ev w.heap.size [x] ((unhide HH).alloc _) (texts_new rfl (fun j hj => by match j, hj with | 0, _ => rfl)) (by simp) (unhide HX)).mono ?_
  rintro e w1 ⟨rfl, hs, hk⟩
  go_wp2
  go_ret
  exact ⟨rfl, hs, ((Kp.refl _ _).alloc _).trans hk⟩
set_option maxRecDepth 100000 in
set_option maxHeartbeats 400000 in
theorem take_no (c : Cx) (w : World) (st : St) (ev : Value) (x : ByteArray) (h : RS c w st ev) (hh : hitP c.ts st [x] = false) :
    Calls Tryz.prog 96 #[.pointer (some ⟨c.rb, 0, none⟩), .string x] w fun e w' => e = .returned (.bool false) ∧ Below w.heap.size w w' := by
  have HH := hide h
  have HX := hide hh
  clear h hh
  go_enter Tryz.func96, Tryz.ntmps96
  go_wp2_with fail
  refine (takeOne_no c _ st ev w.heap.size [x] ((unhide HH).alloc _) (texts_new rfl (fun j hj => by match j, hj with | 0, _ => rfl)) (by simp) (unhide HX)).mono ?_
  rintro e w1 ⟨rfl, hb⟩
  go_wp2
  go_ret
  exact ⟨rfl, ((Below.refl _ _).alloc (Nat.le_refl _) _).trans (hb.mono (by simp))⟩
def wantP (ts : List Tk) (st : St) (xs : List ByteArray) : St := if hitP ts st xs then adv st else failP ts st eSyntax
def wantT (ts : List Tk) (st : St) (xs : List ByteArray) : ByteArray := if hitP ts st xs then (tkAt ts st.nx).text else ⟨#[]⟩
theorem Aft.trans {c : Cx} {w w0 w' : World} {st : St} (h : Kp c.rb w w0) (ha : Aft c w0 st w') : Aft c w st w' := ⟨ha.1, h.trans ha.2⟩
set_option maxRecDepth 100000 in
set_option maxHeartbeats 400000 in
theorem want_any (c : Cx) (w : World) (st : St) (ev : Value) (b : Nat) (xs : List ByteArray) (h : RS c w st ev) (hx : Texts w b xs) (hl : xs.length ≤ 100) (hn : ∀ x ∈ xs, (x.toList == []) = false) :
    Calls Tryz.prog 149 #[.pointer (some ⟨c.rb, 0, none⟩), .slice (some ⟨b, 0, none⟩) xs.length xs.length] w fun e w' => e = .returned (.string (wantT c.ts st xs)) ∧ Aft c w (wantP c.ts st xs) w' := by
  have HX := hide hx
  have HH := hide h
  clear h hx
  unfold wantT wantP
  cases hh : hitP c.ts st xs with
  | true =>
    have htx := hit_text hh hn
    have HT := hide hh
    clear hh hn
    go_enter Tryz.func149, Tryz.ntmps149
    go_wp2_with fail
    refine (takeOne_yes c _ st ev b xs (by exact unhide HH) (unhide HX) hl (unhide HT)).mono ?_
    rintro e w1 ⟨rfl, ha⟩
    have HA := hide ha
    clear ha
    go_wp2
    go_ret
    exact ⟨rfl, unhide HA⟩
  | false =>
    have HT := hide hh
    clear hh hn
    go_enter Tryz.func149, Tryz.ntmps149
    go_wp2_with fail
    refine (takeOne_no c _ st ev b xs (by exact unhide HH) (unhide HX) hl (unhide HT)).mono ?_
    rintro e w1 ⟨rfl, hb⟩
    have hg := ((unhide HH).keep hb).env.cell 3 (by decide)
    have HB := hide hb
    clear hb
    go_wp2_with fail
    refine (fail_any c _ st ev eSyntax ((unhide HH).keep (unhide HB))).mono ?_
    rintro e w2 ⟨rfl, ha⟩
    have HA := hide ha
    clear ha
    go_wp2
    go_ret
    exact ⟨rfl, Aft.trans (Kp.ofBelow (unhide HB)) (unhide HA)⟩
def wkP (ts : List Tk) (st : St) (k : Nat) : St := if (tkAt ts st.nx).kind = k then adv st else failP ts st eSyntax
def wkT (ts : List Tk) (st : St) (k : Nat) : Tk := if (tkAt ts st.nx).kind = k then tkAt ts st.nx else ⟨0, 0, ⟨#[]⟩, 0⟩
set_option maxRecDepth 100000 in
set_option maxHeartbeats 400000 in
theorem wantKind_any (c : Cx) (w : World) (st : St) (ev : Value) (k : Nat) (h : RS c w st ev) (hk0 : k ≠ 0) :
    Calls Tryz.prog 216 #[.pointer (some ⟨c.rb, 0, none⟩), .int .i64 k] w fun e w' => e = .returned (.agg #[.int .i64 (wkT c.ts st k).place, .int .i64 (wkT c.ts st k).kind, .string (wkT c.ts st k).text, .int .i64 (wkT c.ts st k).value]) ∧ Aft c w (wkP c.ts st k) w' := by
  have hnx := h.nx
  have hlen := h.len
  have HH := hide h
  clear h
  unfold wkT wkP
  by_cases hk : (tkAt c.ts st.nx).kind = k
  · rw [if_pos hk, if_pos hk]
    have HK := hide hk
    have hb : (((tkAt c.ts st.nx).kind : Int) != (k : Int)) = false := by rw [hk]; simp
    clear hk
    go_enter Tryz.func216, Tryz.ntmps216
    go_wp2_with fail
    refine (peek_any c _ st ev (by exact (unhide HH).alloc _)).mono ?_
    rintro e w1 ⟨rfl, hb1⟩
    have HB1 := hide hb1
    have hz : w.heap.size < w1.heap.size := by have := hb1.size; simp at this; omega
    obtain ⟨k0, f0⟩ := blk ((hb1.block w.heap.size (by simp)).trans (heap_last rfl))
    have K0 := hide ((hb1.block w.heap.size (by simp)).trans (heap_last rfl))
    have HH1 := hide (((unhide HH).alloc _).keep hb1)
    obtain ⟨r0, r1, _, _, hf, hrb⟩ := (unhide HH1).facts
    have hne : w.heap.size ≠ c.rb := by have := lt_of_heap (unhide HH).reader; omega
    have hne' : c.rb ≠ w.heap.size := fun e => hne e.symm
    clear hb1
    generalize ht : tkAt c.ts st.nx = t at *
    have HT := hide ht
    clear ht
    go_wp2
    have hrs : RS c (w1.setCell ⟨c.rb, 1, none⟩ (.int .i64 ((st.nx : Int) + 1))) (adv st) ev := (unhide HH1).adv (by rw [unhide HT, unhide HK]; exact hk0)
    have hbk : (w1.setCell ⟨c.rb, 1, none⟩ (.int .i64 ((st.nx : Int) + 1))).heap[w.heap.size]? = some (.cells #[.int .i64 0, .int .i64 0, .string ⟨#[]⟩, .int .i64 0] 173 (0, 0)) := by
      rw [Below.heap_setCell _ _ _ _ hne]; exact unhide K0
    refine bodyPost_ret (v := .agg #[.int .i64 t.place, .int .i64 t.kind, .string t.text, .int .i64 t.value]) (by simp [results, Tryz.results216, go_sem, k0, hz]) rfl ⟨by rw [unhide HT], ⟨ev, ?_⟩, ?_⟩
    · refine hrs.kpb (b := w.heap.size) ?_ hne (fun e => by have := (unhide HH).tokens; obtain ⟨cur, e1, _⟩ := this; have := lt_of_heap e1; omega) (unhide HH).env.size (fun p e => by rw [hbk]; simp)
      exact ((((((Kp.refl _ _).setCell _ _).setCell _ _).setCell _ _).setCell _ _).alloc _)
    · have hk1 : Kp c.rb w w1 := ((Kp.refl _ _).alloc _).trans (Kp.ofBelow (unhide HB1))
      exact ((((((hk1.setCell _ _).setNew (Nat.le_refl _) _).setNew (Nat.le_refl _) _).setNew (Nat.le_refl _) _).setNew (Nat.le_refl _) _).alloc _)
  · rw [if_neg hk, if_neg hk]
    have hb : (((tkAt c.ts st.nx).kind : Int) != (k : Int)) = true := by simp; omega
    clear hk
    go_enter Tryz.func216, Tryz.ntmps216
    go_wp2_with fail
    refine (peek_any c _ st ev (by exact (unhide HH).alloc _)).mono ?_
    rintro e w1 ⟨rfl, hb1⟩
    have HB1 := hide hb1
    have hz : w.heap.size < w1.heap.size := by have := hb1.size; simp at this; omega
    obtain ⟨k0, f0⟩ := blk ((hb1.block w.heap.size (by simp)).trans (heap_last rfl))
    have K0 := hide ((hb1.block w.heap.size (by simp)).trans (heap_last rfl))
    have HH1 := hide (((unhide HH).alloc _).keep hb1)
    have hne : w.heap.size ≠ c.rb := by have := lt_of_heap (unhide HH).reader; omega
    have hne' : c.rb ≠ w.heap.size := fun e => hne e.symm
    have hg := (unhide HH1).env.cell 3 (by decide)
    have hz3 : 3 < w1.heap.size := by have := (unhide HH1).env.low; have := (unhide HH1).env.size; omega
    clear hb1 k0 f0
    generalize tkAt c.ts st.nx = t at *
    go_wp2_with fail
    refine (fail_any c _ st ev eSyntax (by exact (unhide HH1).alloc _)).mono ?_
    rintro e w2 ⟨rfl, ⟨ev2, hs2⟩, hk2⟩
    have K2 := hide ((hk2.block w.heap.size (by simp; omega) hne).trans (heap_prev (unhide K0)))
    obtain ⟨k0, f0⟩ := blk (unhide K2)
    have HS2 := hide hs2
    have HK2 := hide hk2
    clear hs2 hk2
    go_wp2
    refine bodyPost_ret (v := .agg #[.int .i64 0, .int .i64 0, .string ⟨#[]⟩, .int .i64 0]) (by simp [results, Tryz.results216, go_sem, k0]) rfl ⟨rfl, ⟨ev2, ?_⟩, ?_⟩
    · refine (unhide HS2).kpb (b := w.heap.size) ?_ hne (fun e => by have := (unhide HH).tokens; obtain ⟨cur, e1, _⟩ := this; have := lt_of_heap e1; omega) (unhide HH).env.size (fun p e => by rw [unhide K2]; simp)
      exact (((((Kp.refl _ _).setCell _ _).setCell _ _).setCell _ _).setCell _ _)
    · have hk1 : Kp c.rb w w2 := (((Kp.refl _ _).alloc _).trans (Kp.ofBelow (unhide HB1))).alloc _ |>.trans (unhide HK2)
      exact ((((hk1.setNew (Nat.le_refl _) _).setNew (Nat.le_refl _) _).setNew (Nat.le_refl _) _).setNew (Nat.le_refl _) _)
end Go.Proofs.YtfkeddkfegaeiaaGreatDoor
namespace Go.Proofs.YtfkeddkfegaeiaaGreatDoor
open Go.RowKit
/-- behind a call: the world as a step of its own. -/
theorem Aft.out {c : Cx} {w w' : World} {st : St} (h : Aft c w st w') : ∃ ev, RS c w' st ev ∧ Kp c.rb w w' := let ⟨⟨ev, hs⟩, hk⟩ := h; ⟨ev, hs, hk⟩
set_option maxRecDepth 100000 in
set_option maxHeartbeats 400000 in
theorem name_any (c : Cx) (w : World) (st : St) (ev : Value) (h : RS c w st ev) :
    Calls Tryz.prog 148 #[.pointer (some ⟨c.rb, 0, none⟩)] w fun e w' => e = .returned (.agg #[.int .i64 (wkT c.ts st 2).place, .string (wkT c.ts st 2).text]) ∧ Aft c w (wkP c.ts st 2) w' := by
  have hne : w.heap.size ≠ c.rb := by have := lt_of_heap h.reader; omega
  have htb : w.heap.size ≠ c.tb := by obtain ⟨cur, e1, _⟩ := h.tokens; have := lt_of_heap e1; omega
  have hB := h.env.size
  have HH := hide h
  clear h
  go_enter Tryz.func148, Tryz.ntmps148
  go_wp2_with fail
  refine (wantKind_any c _ st ev 2 (by exact (unhide HH).alloc _) (by decide)).mono ?_
  rintro e w1 ⟨rfl, ⟨ev1, hs1⟩, hk1⟩
  have K0 := hide ((hk1.block w.heap.size (by simp) hne).trans (heap_last rfl))
  obtain ⟨k0, f0⟩ := blk (unhide K0)
  have hz : w.heap.size < w1.heap.size := by have := hk1.size; simp at this; omega
  have HS1 := hide hs1
  have HK1 := hide hk1
  clear hs1 hk1
  generalize ht : wkT c.ts st 2 = t at *
  have HT := hide ht
  clear ht
  go_wp2
  refine bodyPost_ret (v := .agg #[.int .i64 t.place, .string t.text]) (by simp [results, Tryz.results148, go_sem, k0, hz]) rfl ⟨by rw [unhide HT], ⟨ev1, ?_⟩, ?_⟩
  · refine (unhide HS1).kpb (b := w.heap.size) ?_ hne htb hB (fun p e => by rw [unhide K0]; simp)
    exact (((Kp.refl _ _).setCell _ _).setCell _ _).alloc _
  · have hk : Kp c.rb w w1 := ((Kp.refl _ _).alloc _).trans (unhide HK1)
    exact ((hk.setNew (Nat.le_refl _) _).setNew (Nat.le_refl _) _).alloc _
set_option maxRecDepth 100000 in
set_option maxHeartbeats 400000 in
theorem number_any (c : Cx) (w : World) (st : St) (ev : Value) (h : RS c w st ev) :
    Calls Tryz.prog 273 #[.pointer (some ⟨c.rb, 0, none⟩)] w fun e w' => ∃ b, e = .returned (.pointer (some ⟨b, 0, none⟩)) ∧ w.heap.size ≤ b ∧ w'.heap[b]? = some (.cells #[.int .i64 (wkT c.ts st 3).place, .int .i64 (wkT c.ts st 3).value, .string (wkT c.ts st 3).text] 391 (0, 0)) ∧ Aft c w (wkP c.ts st 3) w' := by
  have HH := hide h
  clear h
  go_enter Tryz.func273, Tryz.ntmps273
  go_wp2_with fail
  refine (wantKind_any c _ st ev 3 (by exact unhide HH) (by decide)).mono ?_
  rintro e w1 ⟨rfl, ⟨ev1, hs1⟩, hk1⟩
  have hz := hk1.size
  have HS1 := hide hs1
  have HK1 := hide hk1
  clear hs1 hk1
  generalize ht : wkT c.ts st 3 = t at *
  have HT := hide ht
  clear ht
  go_wp2
  go_ret
  rw [unhide HT]
  refine ⟨w1.heap.size + 1, rfl, by omega, heap_last (by simp), ⟨ev1, ((unhide HS1).alloc _).alloc _⟩, ((unhide HK1).alloc _).alloc _⟩
def colP (ts : List Tk) (st : St) : St := wkP ts (wantP ts (wkP ts st 2) [⟨#[46]⟩]) 2
set_option maxRecDepth 100000 in
set_option maxHeartbeats 400000 in
theorem column_any (c : Cx) (w : World) (st : St) (ev : Value) (h : RS c w st ev) :
    Calls Tryz.prog 329 #[.pointer (some ⟨c.rb, 0, none⟩)] w fun e w' => ∃ b, e = .returned (.pointer (some ⟨b, 0, none⟩)) ∧ w.heap.size ≤ b ∧ w'.heap[b]? = some (.cells #[.int .i64 (wkT c.ts st 2).place, .int .i64 (wkT c.ts st 2).place, .string (wkT c.ts st 2).text, .int .i64 (wkT c.ts (wantP c.ts (wkP c.ts st 2) [⟨#[46]⟩]) 2).place, .string (wkT c.ts (wantP c.ts (wkP c.ts st 2) [⟨#[46]⟩]) 2).text] 397 (0, 0)) ∧ Aft c w (colP c.ts st) w' := by
  have HH := hide h
  clear h
  unfold colP
  go_enter Tryz.func329, Tryz.ntmps329
  go_wp2_with fail
  refine (name_any c _ st ev (by exact unhide HH)).mono ?_
  rintro e w1 ⟨rfl, ⟨ev1, hs1⟩, hk1⟩
  have HS1 := hide hs1
  have HK1 := hide hk1
  clear hs1 hk1
  generalize ht : wkT c.ts st 2 = t at *
  generalize hst1 : wkP c.ts st 2 = st1 at *
  have HT := hide ht
  have HST1 := hide hst1
  clear ht hst1
  go_wp2_with fail
  refine (want_any c _ st1 ev1 (w1.heap.size + 1) [⟨#[46]⟩] (by exact ((unhide HS1).alloc _).alloc _) (texts_new (by simp) (fun j hj => by match j, hj with | 0, _ => rfl)) (by simp) (nonE_ok (by decide))).mono ?_
  rintro e w2 ⟨rfl, ⟨ev2, hs2⟩, hk2⟩
  have hne : w1.heap.size ≠ c.rb := by have := lt_of_heap (unhide HS1).reader; omega
  have K0 := hide ((hk2.block w1.heap.size (by simp; omega) hne).trans (heap_prev (heap_last rfl)))
  obtain ⟨k0, f0⟩ := blk (unhide K0)
  have hz : w1.heap.size + 1 < w2.heap.size := by have := hk2.size; simp at this; omega
  have HK2 := hide (((unhide HK1).alloc _).alloc _ |>.trans hk2)
  have HS2 := hide hs2
  clear hs2 hk2
  generalize hst2 : wantP c.ts st1 [⟨#[46]⟩] = st2 at *
  have HST2 := hide hst2
  clear hst2
  go_wp2_with fail
  go_region_with (go_at_call 148; refine (name_any c _ st2 ev2 (by exact (unhide HS2).drew)).mono ?_; rintro e w3 ⟨rfl, ⟨ev3, hs3⟩, hk3⟩; have hz3 : w1.heap.size < w3.heap.size := (by have := hk3.size; simp at this; omega); obtain ⟨k3, f3⟩ := blk ((hk3.block w1.heap.size (by simp; omega) hne).trans (by exact unhide K0)); have HS3 := hide hs3; have HK3 := hide ((unhide HK2).drew.trans hk3); clear hs3 hk3)
  all_goals
    go_wp2
    go_ret
    rw [unhide HT, unhide HST1, unhide HST2]
    refine ⟨w3.heap.size, rfl, ?_, heap_last rfl, ⟨ev3, (unhide HS3).alloc _⟩, (unhide HK3).alloc _⟩
    exact (unhide HK3).size
end Go.Proofs.YtfkeddkfegaeiaaGreatDoor
