/-
  Part 26.
-/
import Derived.Test.YtfkeddkfegaeiaaDoorMNwV
import Derived.Test.YtfkeddkfegaeiaaDoorMNwT
namespace Go.Proofs.YtfkeddkfegaeiaaDoor
open Go.RowKit

theorem LRows.rooms {F : Fx} {rs : List (List Int)} {es ls : List Value} (h : LRows F rs es ls) (hb : ∀ r ∈ rs, r.length ≤ 1048576) : ∀ v ∈ ls, Room F v := by
  induction h with
  | nil => intro v hv; cases hv
  | @snoc rs es ls z g _ hi ih =>
    intro v hv
    rcases List.mem_append.1 hv with hv | hv
    · exact ih (fun r hr => hb r (List.mem_append_left _ hr)) v hv
    · rw [List.mem_singleton] at hv
      subst hv
      have := hb z (by simp)
      exact ⟨g, _, _, _, _, rfl, hi, by simp, by omega⟩
theorem LTabs.rooms {F : Fx} {l : List Tb} {ts cs rs ls : List Value} (h : LTabs F l ts cs rs ls) (h1 : ∀ t ∈ l, t.cols.length ≤ 1048576) (h2 : ∀ t ∈ l, t.rows.length ≤ 1048576) (h3 : ∀ t ∈ l, ∀ r ∈ t.rows, r.length ≤ 1048576) : (∀ v ∈ ls, Room F v) ∧ (∀ v ∈ cs, Room F v) ∧ (∀ v ∈ rs, Room F v) := by
  induction h with
  | nil => exact ⟨fun v hv => (by cases hv), fun v hv => (by cases hv), fun v hv => (by cases hv)⟩
  | @snoc l ts cs rs ls ls2 t gc gr capr cur _ ht ih =>
    obtain ⟨i1, i2, i3⟩ := ih (fun t ht => h1 t (List.mem_append_left _ ht)) (fun t ht => h2 t (List.mem_append_left _ ht)) (fun t ht => h3 t (List.mem_append_left _ ht))
    obtain ⟨hc, hr, es, ps, hlr, hps, hpad, htk⟩ := ht
    have hm : t ∈ l ++ [t] := by simp
    refine ⟨fun v hv => ?_, fun v hv => ?_, fun v hv => ?_⟩
    · rcases List.mem_append.1 hv with hv | hv
      · exact i1 v hv
      · exact hlr.rooms (h3 t hm) v hv
    · rcases List.mem_append.1 hv with hv | hv
      · exact i2 v hv
      · rw [List.mem_singleton] at hv
        subst hv
        have := h1 t hm
        exact ⟨gc, _, _, _, _, rfl, hc, by simp, by omega⟩
    · rcases List.mem_append.1 hv with hv | hv
      · exact i3 v hv
      · rw [List.mem_singleton] at hv
        subst hv
        have := h2 t hm
        refine ⟨gr, _, _, _, _, rfl, hr, ?_, by omega⟩
        have e := congrArg List.length htk
        rw [List.length_take, List.length_append, hlr.len.1, hps, Array.length_toList] at e
        omega

/-! ### errors -/
theorem no_At (a : Option Addr) (w : World) : Sem.run Tryd.prog (Instr.typeAssert (.iface 100 (.pointer a)) 23 76 true) w = .ok (.tuple #[.pointer none, .bool false]) w := by kernel_rfl
set_option maxRecDepth 100000 in
set_option maxHeartbeats 1000000 in
theorem wrong_nil (w : World) :
    Calls Tryd.prog 12 #[.nilIface] w fun e w' => e = .returned (.agg #[.int .i64 0, .int .i64 0]) ∧ Below w.heap.size w w' := by
  go_enter Tryd.func12, Tryd.ntmps12
  go_wp2
  refine bodyPost_ret (v := .agg #[.int .i64 0, .int .i64 0]) (by simp [results, Tryd.results12, go_sem]) rfl ⟨rfl, ?_⟩
  exact (Below.refl _ _).alloc (Nat.le_refl _) _
set_option maxRecDepth 100000 in
set_option maxHeartbeats 1000000 in
theorem wrong_err (a : Nat → Addr) (w : World) (hS : Sents a w) (k : Nat) (hk : k < 10) :
    Calls Tryd.prog 12 #[.iface 100 (.pointer (some (a k)))] w fun e w' => e = .returned (.agg #[.int .i64 ((k : Int) + 1), .int .i64 (-1)]) ∧ Below w.heap.size w w' := by
  have HS := hide hS
  clear hS
  have hy := no_At
  go_enter Tryd.func12, Tryd.ntmps12
  go_wp2_with fail
  refine (number_at a _ (by exact (unhide HS).alloc _) k hk).mono ?_
  rintro e w1 ⟨rfl, rfl⟩
  generalize hn : (k : Int) + 1 = n at *
  have HN := hide hn
  clear hn
  go_wp2
  refine bodyPost_ret (v := .agg #[.int .i64 n, .int .i64 (-1)]) (by simp [results, Tryd.results12, go_sem]) rfl ⟨by rw [unhide HN], ?_⟩
  exact (Below.refl _ _).alloc (Nat.le_refl _) _
theorem p6_range (t : Tb) (ahead : List Tb) : p6 t ahead = 0 ∨ p6 t ahead = 4 ∨ p6 t ahead = 9 ∨ p6 t ahead = 7 ∨ p6 t ahead = 10 := by
  unfold p6
  repeat' split
  all_goals simp
theorem p6from_range (l pre : List Tb) : p6from pre l = 0 ∨ p6from pre l = 4 ∨ p6from pre l = 9 ∨ p6from pre l = 7 ∨ p6from pre l = 10 := by
  induction l generalizing pre with
  | nil => exact Or.inl rfl
  | cons t r ih =>
    rw [p6from]
    split
    · exact ih _
    · exact p6_range _ _
theorem p6all_range (l : List Tb) : p6all l = 0 ∨ p6all l = 4 ∨ p6all l = 9 ∨ p6all l = 7 ∨ p6all l = 10 := by
  unfold p6all
  split
  · simp
  · exact p6from_range _ _
/-- the program's error, told as the document tells it. -/
theorem wrong_p6 (a : Nat → Addr) (l : List Tb) (w : World) (hS : Sents a w) (h : p6all l ≠ 0) :
    Calls Tryd.prog 12 #[errOf a (p6all l)] w fun e w' => e = .returned (.agg #[.int .i64 (p6all l), .int .i64 (-1)]) ∧ Below w.heap.size w w' := by
  have e1 : errOf a (p6all l) = .iface 100 (.pointer (some (a (p6all l - 1).toNat))) := by unfold errOf; rw [if_neg h]
  rw [e1]
  have hr := p6all_range l
  have := wrong_err a w hS (p6all l - 1).toNat (by omega)
  rw [show (((p6all l - 1).toNat : Nat) : Int) + 1 = p6all l from by omega] at this
  exact this
end Go.Proofs.YtfkeddkfegaeiaaDoor
