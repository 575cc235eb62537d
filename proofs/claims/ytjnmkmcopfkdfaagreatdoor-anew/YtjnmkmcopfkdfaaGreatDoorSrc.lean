/-
  The walk of source.
-/
import Derived.Test.YtjnmkmcopfkdfaaGreatDoorLs
namespace Go.Proofs.YtjnmkmcopfkdfaaGreatDoor
open Go.RowKit

def srcP (ts : List Tk) (st : St) : (Tk × Tk) × St := ((wkT ts st 2, wkT ts (wkP ts st 2) 2), wkP ts (wkP ts st 2) 2)
theorem onw_src {ts : List Tk} (hl : Lst ts) : OnwG ts (srcP ts) := fun _ h => (onw_wk hl h (by decide)).trans (onw_wk hl (onw_wk hl h (k := 2) (by decide)).lt (by decide))

set_option maxRecDepth 100000 in
set_option maxHeartbeats 400000 in
theorem source_any (c : Cx) (w : World) (st : St) (ev : Value) (X : (Tk × Tk) × St) (h : RS c w st ev) (HX : Hid (X = srcP c.ts st)) :
    Calls Tryz.prog 65 #[.pointer (some ⟨c.rb, 0, none⟩)] w fun e w' => e = .returned (.agg #[.int .i64 X.1.1.place, .int .i64 X.1.1.place, .string X.1.1.text, .int .i64 X.1.2.place, .string X.1.2.text]) ∧ Aft c w X.2 w' := by
  have hne : w.heap.size ≠ c.rb := by have := lt_of_heap h.reader; omega
  have htb : w.heap.size ≠ c.tb := by obtain ⟨cur, e1, _⟩ := h.tokens; have := lt_of_heap e1; omega
  have hB := h.env.size
  have HH := hide h
  clear h
  go_enter Tryz.func65, Tryz.ntmps65
  go_wp2_with fail
  refine (name_any c _ st ev (by exact (unhide HH).alloc _)).mono ?_
  rintro e w1 ⟨rfl, ⟨ev1, hs1⟩, hk1⟩
  have K1 := hide ((hk1.block w.heap.size (by simp) hne).trans (heap_last rfl))
  obtain ⟨k1, f1⟩ := blk (unhide K1)
  have hz1 := lt_of_heap (unhide K1)
  have HS1 := hide hs1
  have HK1 := hide (((Kp.refl c.rb w).alloc _).trans hk1)
  clear hs1 hk1
  have hne1 : w1.heap.size ≠ c.rb := by have := lt_of_heap (unhide HS1).reader; omega
  generalize ht : wkT c.ts st 2 = t at *
  generalize hst1 : wkP c.ts st 2 = st1 at *
  have HT := hide ht
  have HST1 := hide hst1
  clear ht hst1
  go_wp2_with fail
  go_region_with (go_at_call 59; refine (name_any c _ st1 ev1 (by exact ((unhide HS1).alloc _).drew)).mono ?_; rintro e w3 ⟨rfl, ⟨ev3, hs3⟩, hk3⟩; have K3 := hide ((hk3.block w.heap.size (by simp; omega) hne).trans (by exact heap_prev (unhide K1))); obtain ⟨k3, f3⟩ := blk (unhide K3); obtain ⟨k4, f4⟩ := blk ((hk3.block w1.heap.size (by simp) hne1).trans (by exact heap_last rfl)); have HS3 := hide hs3; have HK3 := hide (((unhide HK1).alloc _).drew.trans hk3); clear hs3 hk3 k1 f1)
  all_goals
    generalize hu : wkT c.ts st1 2 = u at *
    have HU := hide hu
    clear hu
    go_wp2
    have hX : X = ((t, u), wkP c.ts st1 2) := by rw [unhide HX]; unfold srcP; rw [unhide HT, unhide HST1, unhide HU]
    subst hX
    refine bodyPost_ret (v := .agg #[.int .i64 t.place, .int .i64 t.place, .string t.text, .int .i64 u.place, .string u.text]) (by simp [results, Tryz.results65, go_sem, k3]) rfl ⟨rfl, ⟨ev3, ?_⟩, ?_⟩
    · refine (unhide HS3).kpb (b := w.heap.size) ?_ hne htb hB (fun p e => by rw [unhide K3]; simp)
      exact (((((Kp.refl _ _).setCell _ _).setCell _ _).setCell _ _).setCell _ _).setCell _ _
    · exact ((((((unhide HK3).setNew (Nat.le_refl _) _).setNew (Nat.le_refl _) _).setNew (Nat.le_refl _) _).setNew (Nat.le_refl _) _).setNew (Nat.le_refl _) _)
end Go.Proofs.YtjnmkmcopfkdfaaGreatDoor
