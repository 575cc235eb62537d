/-
  Part 3.
-/
import Derived.Test.YtfkeddkfegaeiaaDoorRows
import Derived.WalkKit
import Derived.WalkSpells
import Derived.WalkLawsBesides
import Derived.LaidEql
namespace Go.Proofs.YtfkeddkfegaeiaaDoor
open Go.RowKit

theorem comp27 : (Tryd.prog.info? 100).map (·.comparable) = some true := by kernel_rfl
theorem size45 : (Tryd.prog.info? 120).map (·.size) = some 1 := by kernel_rfl

theorem eql_nil (w : World) (v : Value) : (binOp .eql 23 (.iface 100 v) .nilIface).run Tryd.prog w = .ok (.bool false) w := by
  have h : ∀ d : Nat, (Op.equalIn (d + 1) 23 (.iface 100 v) .nilIface).run Tryd.prog w = .ok false w := fun d => by simp [Op.equalIn, run_underlying Tryd.underlying23]
  simp only [binOp]
  simp [Op.equal, Op.maxDepth, h 9999]

/-- the ten sentinels as they lie: variable j holds a pointer to a plain row, and the ten pointers differ. -/
structure Sents (a : Nat → Addr) (w : World) : Prop where
  cell : ∀ j, j < 10 → w.cell? ⟨j, 0, none⟩ = some (.iface 100 (.pointer (some (a j))))
  row : ∀ j, j < 10 → ∃ c t, w.heap[(a j).block]? = some (.cells c t (0, 0))
  ne : ∀ i j, i < 10 → j < 10 → i ≠ j → a i ≠ a j

theorem Sents.same {a : Nat → Addr} {w : World} (_h : Sents a w) (i : Nat) :
    (binOp .eql 23 (.iface 100 (.pointer (some (a i)))) (.iface 100 (.pointer (some (a i))))).run Tryd.prog w = .ok (.bool true) w := by
  obtain ⟨x, hi, hcmp⟩ := Option.map_eq_some_iff.1 comp27
  obtain ⟨y, hj, _⟩ := Option.map_eq_some_iff.1 size45
  exact run_eql_iface_ptr_same w (a i) Tryd.underlying23 Tryd.underlying100 hi hcmp hj

theorem Sents.other {a : Nat → Addr} {w : World} (h : Sents a w) (i j : Nat) (hi : i < 10) (hj : j < 10) (hij : i ≠ j) :
    (binOp .eql 23 (.iface 100 (.pointer (some (a i)))) (.iface 100 (.pointer (some (a j))))).run Tryd.prog w = .ok (.bool false) w := by
  obtain ⟨x, hx, hcmp⟩ := Option.map_eq_some_iff.1 comp27
  obtain ⟨y, hy, hys⟩ := Option.map_eq_some_iff.1 size45
  obtain ⟨c, t, hr⟩ := h.row i hi
  obtain ⟨c', t', hr'⟩ := h.row j hj
  exact run_eql_iface_ptr_other w Tryd.underlying23 Tryd.underlying100 hx hcmp hy (by rw [hys]; decide) (h.ne i j hi hj hij) hr hr'

theorem Sents.alloc {a : Nat → Addr} {w : World} (h : Sents a w) (o : Obj) : Sents a (w.alloc o) := by
  refine ⟨fun j hj => ?_, fun j hj => ?_, h.ne⟩
  · have hc := h.cell j hj
    have hlt : j < w.heap.size := by
      rcases Nat.lt_or_ge j w.heap.size with h' | h'
      · exact h'
      · simp [World.cell?, Array.getElem?_eq_none h'] at hc
    rw [World.cell?_alloc_lt _ _ ⟨j, 0, none⟩ hlt]; exact hc
  · obtain ⟨c, t, hr⟩ := h.row j hj
    have hlt : (a j).block < w.heap.size := by
      rcases Nat.lt_or_ge (a j).block w.heap.size with h' | h'
      · exact h'
      · simp [Array.getElem?_eq_none h'] at hr
    refine ⟨c, t, ?_⟩
    show (w.heap.push o)[(a j).block]? = _
    simp only [Array.getElem?_push, Nat.ne_of_lt hlt, if_false]
    exact hr

set_option maxRecDepth 100000 in
set_option maxHeartbeats 1000000 in
theorem number_at (a : Nat → Addr) (w : World) (h : Sents a w) (k : Nat) (hk : k < 10) :
    Calls Tryd.prog 5 #[.iface 100 (.pointer (some (a k)))] w fun e w' => e = .returned (.int .i64 ((k : Int) + 1)) ∧ w' = w := by
  have g0 := h.cell 0 (by decide)
  have g1 := h.cell 1 (by decide)
  have g2 := h.cell 2 (by decide)
  have g3 := h.cell 3 (by decide)
  have g4 := h.cell 4 (by decide)
  have g5 := h.cell 5 (by decide)
  have g6 := h.cell 6 (by decide)
  have g7 := h.cell 7 (by decide)
  have g8 := h.cell 8 (by decide)
  have g9 := h.cell 9 (by decide)
  have hs := h.same k
  have hn := fun v => eql_nil w v
  have ho := fun j (hj : j < 10) (hn : k ≠ j) => h.other k j hk hj hn
  clear h
  match k, hk with
  | 0, _ =>
    clear ho
    go_enter Tryd.func5, Tryd.ntmps5
    go_wp2
    go_ret
    exact ⟨rfl, rfl⟩
  | 1, _ =>
    have o0 := ho 0 (by decide) (by decide)
    clear ho
    go_enter Tryd.func5, Tryd.ntmps5
    go_wp2
    go_ret
    exact ⟨rfl, rfl⟩
  | 2, _ =>
    have o0 := ho 0 (by decide) (by decide)
    have o1 := ho 1 (by decide) (by decide)
    clear ho
    go_enter Tryd.func5, Tryd.ntmps5
    go_wp2
    go_ret
    exact ⟨rfl, rfl⟩
  | 3, _ =>
    have o0 := ho 0 (by decide) (by decide)
    have o1 := ho 1 (by decide) (by decide)
    have o2 := ho 2 (by decide) (by decide)
    clear ho
    go_enter Tryd.func5, Tryd.ntmps5
    go_wp2
    go_ret
    exact ⟨rfl, rfl⟩
  | 4, _ =>
    have o0 := ho 0 (by decide) (by decide)
    have o1 := ho 1 (by decide) (by decide)
    have o2 := ho 2 (by decide) (by decide)
    have o3 := ho 3 (by decide) (by decide)
    clear ho
    go_enter Tryd.func5, Tryd.ntmps5
    go_wp2
    go_ret
    exact ⟨rfl, rfl⟩
  | 5, _ =>
    have o0 := ho 0 (by decide) (by decide)
    have o1 := ho 1 (by decide) (by decide)
    have o2 := ho 2 (by decide) (by decide)
    have o3 := ho 3 (by decide) (by decide)
    have o4 := ho 4 (by decide) (by decide)
    clear ho
    go_enter Tryd.func5, Tryd.ntmps5
    go_wp2
    go_ret
    exact ⟨rfl, rfl⟩
  | 6, _ =>
    have o0 := ho 0 (by decide) (by decide)
    have o1 := ho 1 (by decide) (by decide)
    have o2 := ho 2 (by decide) (by decide)
    have o3 := ho 3 (by decide) (by decide)
    have o4 := ho 4 (by decide) (by decide)
    have o5 := ho 5 (by decide) (by decide)
    clear ho
    go_enter Tryd.func5, Tryd.ntmps5
    go_wp2
    go_ret
    exact ⟨rfl, rfl⟩
  | 7, _ =>
    have o0 := ho 0 (by decide) (by decide)
    have o1 := ho 1 (by decide) (by decide)
    have o2 := ho 2 (by decide) (by decide)
    have o3 := ho 3 (by decide) (by decide)
    have o4 := ho 4 (by decide) (by decide)
    have o5 := ho 5 (by decide) (by decide)
    have o6 := ho 6 (by decide) (by decide)
    clear ho
    go_enter Tryd.func5, Tryd.ntmps5
    go_wp2
    go_ret
    exact ⟨rfl, rfl⟩
  | 8, _ =>
    have o0 := ho 0 (by decide) (by decide)
    have o1 := ho 1 (by decide) (by decide)
    have o2 := ho 2 (by decide) (by decide)
    have o3 := ho 3 (by decide) (by decide)
    have o4 := ho 4 (by decide) (by decide)
    have o5 := ho 5 (by decide) (by decide)
    have o6 := ho 6 (by decide) (by decide)
    have o7 := ho 7 (by decide) (by decide)
    clear ho
    go_enter Tryd.func5, Tryd.ntmps5
    go_wp2
    go_ret
    exact ⟨rfl, rfl⟩
  | 9, _ =>
    have o0 := ho 0 (by decide) (by decide)
    have o1 := ho 1 (by decide) (by decide)
    have o2 := ho 2 (by decide) (by decide)
    have o3 := ho 3 (by decide) (by decide)
    have o4 := ho 4 (by decide) (by decide)
    have o5 := ho 5 (by decide) (by decide)
    have o6 := ho 6 (by decide) (by decide)
    have o7 := ho 7 (by decide) (by decide)
    have o8 := ho 8 (by decide) (by decide)
    clear ho
    go_enter Tryd.func5, Tryd.ntmps5
    go_wp2
    go_ret
    exact ⟨rfl, rfl⟩

/-- the new row of ten. -/
def ten (a : Nat → Addr) : Array Value := #[.iface 100 (.pointer (some (a 0))), .iface 100 (.pointer (some (a 1))), .iface 100 (.pointer (some (a 2))), .iface 100 (.pointer (some (a 3))), .iface 100 (.pointer (some (a 4))), .iface 100 (.pointer (some (a 5))), .iface 100 (.pointer (some (a 6))), .iface 100 (.pointer (some (a 7))), .iface 100 (.pointer (some (a 8))), .iface 100 (.pointer (some (a 9)))]

theorem ten_get (a : Nat → Addr) (k : Nat) (hk : k < 10) : (ten a)[k]? = some (.iface 100 (.pointer (some (a k)))) := by
  match k, hk with
  | 0, _ | 1, _ | 2, _ | 3, _ | 4, _ | 5, _ | 6, _ | 7, _ | 8, _ | 9, _ => simp [ten]
theorem ten_at (a : Nat → Addr) (k : Nat) (hk : k < 10) (w : World) : (w.alloc (.cells (ten a) 23)).cell? ⟨w.heap.size, k, none⟩ = some (.iface 100 (.pointer (some (a k)))) := by
  match k, hk with
  | 0, _ | 1, _ | 2, _ | 3, _ | 4, _ | 5, _ | 6, _ | 7, _ | 8, _ | 9, _ => simp [ten]

set_option maxRecDepth 100000 in
set_option maxHeartbeats 1000000 in
theorem names_any (a : Nat → Addr) (w : World) (h : Sents a w) :
    Calls Tryd.prog 3 #[] w fun e w' => e = .returned (.bool true) ∧ w' = w.alloc (.cells (ten a) 23) := by
  have g0 := h.cell 0 (by decide)
  have g1 := h.cell 1 (by decide)
  have g2 := h.cell 2 (by decide)
  have g3 := h.cell 3 (by decide)
  have g4 := h.cell 4 (by decide)
  have g5 := h.cell 5 (by decide)
  have g6 := h.cell 6 (by decide)
  have g7 := h.cell 7 (by decide)
  have g8 := h.cell 8 (by decide)
  have g9 := h.cell 9 (by decide)
  go_enter Tryd.func3, Tryd.ntmps3
  go_wp2_with fail
  clear g0 g1 g2 g3 g4 g5 g6 g7 g8 g9
  have h1 := h.alloc (.cells (ten a) 23)
  have hcell : ∀ k, k < 10 → (w.alloc (.cells (ten a) 23)).cell? ⟨w.heap.size, k, none⟩ = some (.iface 100 (.pointer (some (a k)))) := fun k hk => by
    rw [ten_at a k hk w]
  have H1 : Hid (Sents a (w.alloc (.cells (ten a) 23))) := h1
  clear h1 h
  go_loop [2] (fun i => ∃ k : Nat, k ≤ 10 ∧ i = .int .i64 k) (fun i => 10 - (intOf i).toNat)
  case atStart => exact ⟨0, by omega, rfl⟩
  case round =>
    obtain ⟨k, hk, rfl⟩ := hrel
    by_cases hlt : k < 10
    · have hc := hcell k hlt
      unfold ten at hc
      have ht := ten_get a k hlt
      clear hcell
      go_wp2_with (first | (go_at_call 5; go_must (refine (number_at a _ (by exact H1.out) k hlt).mono ?_); rintro e w' ⟨rfl, rfl⟩))
      go_round
      case rel => exact ⟨k + 1, by omega, by go_num⟩
      case measure => simp [intOf]; omega
    · clear hcell
      have hk10 : k = 10 := by omega
      subst hk10
      go_wp2
      go_ret
      exact ⟨rfl, rfl⟩
end Go.Proofs.YtfkeddkfegaeiaaDoor
