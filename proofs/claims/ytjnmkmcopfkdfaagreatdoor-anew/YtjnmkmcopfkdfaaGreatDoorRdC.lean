/-
  The reader's methods name, number, column.
-/
import Derived.Test.YtjnmkmcopfkdfaaGreatDoorRdB
namespace Go.Proofs.YtjnmkmcopfkdfaaGreatDoor
open Go.RowKit

/-- behind a call: the world as a step of its own. -/
theorem Aft.out {c : Cx} {w w' : World} {st : St} (h : Aft c w st w') : ∃ ev, RS c w' st ev ∧ Kp c.rb w w' := let ⟨⟨ev, hs⟩, hk⟩ := h; ⟨ev, hs, hk⟩

set_option maxRecDepth 100000 in
set_option maxHeartbeats 400000 in
theorem name_any (c : Cx) (w : World) (st : St) (ev : Value) (h : RS c w st ev) :
    Calls Tryz.prog 59 #[.pointer (some ⟨c.rb, 0, none⟩)] w fun e w' => e = .returned (.agg #[.int .i64 (wkT c.ts st 2).place, .string (wkT c.ts st 2).text]) ∧ Aft c w (wkP c.ts st 2) w' := by
  have hne : w.heap.size ≠ c.rb := by have := lt_of_heap h.reader; omega
  have htb : w.heap.size ≠ c.tb := by obtain ⟨cur, e1, _⟩ := h.tokens; have := lt_of_heap e1; omega
  have hB := h.env.size
  have HH := hide h
  clear h
  go_enter Tryz.func59, Tryz.ntmps59
  go_wp2_with fail
  refine (wantKind_any c _ st ev 2 (by exact (unhide HH).alloc _) (by decide)).mono ?_
  rintro e w1 ⟨rfl, ⟨ev1, hs1⟩, hk1⟩
  have K0 := hide ((hk1.block w.heap.size (by simp) hne).trans (heap_last rfl))
  obtain ⟨k0, f0⟩ := blk (unhide K0)
  have hz : w.heap.size < w1.heap.size := by have := hk1.size; simp at this; omega
  have HS1 := hide hs1
  have HK1 := hide hk1
  clear hs1 hk1
  generalize ht : wkT c.ts st 2 = t at *
  have HT := hide ht
  clear ht
  go_wp2
  refine bodyPost_ret (v := .agg #[.int .i64 t.place, .string t.text]) (by simp [results, Tryz.results59, go_sem, k0, hz]) rfl ⟨by rw [unhide HT], ⟨ev1, ?_⟩, ?_⟩
  · refine (unhide HS1).kpb (b := w.heap.size) ?_ hne htb hB (fun p e => by rw [unhide K0]; simp)
    exact (((Kp.refl _ _).setCell _ _).setCell _ _).alloc _
  · have hk : Kp c.rb w w1 := ((Kp.refl _ _).alloc _).trans (unhide HK1)
    exact ((hk.setNew (Nat.le_refl _) _).setNew (Nat.le_refl _) _).alloc _

set_option maxRecDepth 100000 in
set_option maxHeartbeats 400000 in
theorem number_any (c : Cx) (w : World) (st : St) (ev : Value) (h : RS c w st ev) :
    Calls Tryz.prog 98 #[.pointer (some ⟨c.rb, 0, none⟩)] w fun e w' => ∃ b, e = .returned (.pointer (some ⟨b, 0, none⟩)) ∧ w.heap.size ≤ b ∧ w'.heap[b]? = some (.cells #[.int .i64 (wkT c.ts st 3).place, .int .i64 (wkT c.ts st 3).value, .string (wkT c.ts st 3).text] 187 (0, 0)) ∧ Aft c w (wkP c.ts st 3) w' := by
  have HH := hide h
  clear h
  go_enter Tryz.func98, Tryz.ntmps98
  go_wp2_with fail
  refine (wantKind_any c _ st ev 3 (by exact unhide HH) (by decide)).mono ?_
  rintro e w1 ⟨rfl, ⟨ev1, hs1⟩, hk1⟩
  have hz := hk1.size
  have HS1 := hide hs1
  have HK1 := hide hk1
  clear hs1 hk1
  generalize ht : wkT c.ts st 3 = t at *
  have HT := hide ht
  clear ht
  go_wp2
  go_ret
  rw [unhide HT]
  refine ⟨w1.heap.size + 1, rfl, by omega, heap_last (by simp), ⟨ev1, ((unhide HS1).alloc _).alloc _⟩, ((unhide HK1).alloc _).alloc _⟩

def colP (ts : List Tk) (st : St) : St := wkP ts (wantP ts (wkP ts st 2) [⟨#[46]⟩]) 2

set_option maxRecDepth 100000 in
set_option maxHeartbeats 400000 in
theorem column_any (c : Cx) (w : World) (st : St) (ev : Value) (h : RS c w st ev) :
    Calls Tryz.prog 117 #[.pointer (some ⟨c.rb, 0, none⟩)] w fun e w' => ∃ b, e = .returned (.pointer (some ⟨b, 0, none⟩)) ∧ w.heap.size ≤ b ∧ w'.heap[b]? = some (.cells #[.int .i64 (wkT c.ts st 2).place, .int .i64 (wkT c.ts st 2).place, .string (wkT c.ts st 2).text, .int .i64 (wkT c.ts (wantP c.ts (wkP c.ts st 2) [⟨#[46]⟩]) 2).place, .string (wkT c.ts (wantP c.ts (wkP c.ts st 2) [⟨#[46]⟩]) 2).text] 193 (0, 0)) ∧ Aft c w (colP c.ts st) w' := by
  have HH := hide h
  clear h
  unfold colP
  go_enter Tryz.func117, Tryz.ntmps117
  go_wp2_with fail
  refine (name_any c _ st ev (by exact unhide HH)).mono ?_
  rintro e w1 ⟨rfl, ⟨ev1, hs1⟩, hk1⟩
  have HS1 := hide hs1
  have HK1 := hide hk1
  clear hs1 hk1
  generalize ht : wkT c.ts st 2 = t at *
  generalize hst1 : wkP c.ts st 2 = st1 at *
  have HT := hide ht
  have HST1 := hide hst1
  clear ht hst1
  go_wp2_with fail
  refine (want_any c _ st1 ev1 (w1.heap.size + 1) [⟨#[46]⟩] (by exact ((unhide HS1).alloc _).alloc _) (texts_new (by simp) (fun j hj => by match j, hj with | 0, _ => rfl)) (by simp) (nonE_ok (by decide))).mono ?_
  rintro e w2 ⟨rfl, ⟨ev2, hs2⟩, hk2⟩
  have hne : w1.heap.size ≠ c.rb := by have := lt_of_heap (unhide HS1).reader; omega
  have K0 := hide ((hk2.block w1.heap.size (by simp; omega) hne).trans (heap_prev (heap_last rfl)))
  obtain ⟨k0, f0⟩ := blk (unhide K0)
  have hz : w1.heap.size + 1 < w2.heap.size := by have := hk2.size; simp at this; omega
  have HK2 := hide (((unhide HK1).alloc _).alloc _ |>.trans hk2)
  have HS2 := hide hs2
  clear hs2 hk2
  generalize hst2 : wantP c.ts st1 [⟨#[46]⟩] = st2 at *
  have HST2 := hide hst2
  clear hst2
  go_wp2_with fail
  go_region_with (go_at_call 59; refine (name_any c _ st2 ev2 (by exact (unhide HS2).drew)).mono ?_; rintro e w3 ⟨rfl, ⟨ev3, hs3⟩, hk3⟩; have hz3 : w1.heap.size < w3.heap.size := (by have := hk3.size; simp at this; omega); obtain ⟨k3, f3⟩ := blk ((hk3.block w1.heap.size (by simp; omega) hne).trans (by exact unhide K0)); have HS3 := hide hs3; have HK3 := hide ((unhide HK2).drew.trans hk3); clear hs3 hk3)
  all_goals
    go_wp2
    go_ret
    rw [unhide HT, unhide HST1, unhide HST2]
    refine ⟨w3.heap.size, rfl, ?_, heap_last rfl, ⟨ev3, (unhide HS3).alloc _⟩, (unhide HK3).alloc _⟩
    exact (unhide HK3).size
end Go.Proofs.YtjnmkmcopfkdfaaGreatDoor
