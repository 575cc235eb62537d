/-
  Part 29.
-/
import Derived.Test.YtfkeddkfegaeiaaGreatDoorJ28
import Derived.Test.YtfkeddkfegaeiaaGreatDoorJ01
import Derived.Stop.Asserts
import Derived.LaidEql
import Derived.RowKitTokens
namespace Go.Proofs.YtfkeddkfegaeiaaGreatDoor
open Go.RowKit Go.Extern.Stop Go.Stop Go.Extern

theorem noIsW (v : Value) (xT : TypeId) (w : World) : (Instr.typeAssert (.iface 110 v) xT 194 true).run Tryz.prog w = .ok (.tuple #[.nilIface, .bool false]) w := run_typeAssert_lacksB Tryz.underlying194 (by kernel_rfl) (by kernel_rfl) v xT w
theorem hasUnwrapW (v : Value) (xT : TypeId) (w : World) : (Instr.typeAssert (.iface 110 v) xT 197 true).run Tryz.prog w = .ok (.tuple #[.iface 110 v, .bool true]) w := run_typeAssert_hasB Tryz.underlying197 (by kernel_rfl) v xT w


theorem methodUnwrap (v : Value) (w : World) : (Go.method 639 110 v "Unwrap").run Tryz.prog w = .ok (373, v) w := by kernel_rfl

set_option maxRecDepth 100000 in
set_option maxHeartbeats 1000000 in
theorem is_same (a : Addr) (w : World) :
    Calls Tryz.prog 18 #[.iface 496 (.pointer (some a)), .iface 496 (.pointer (some a))] w fun e w' => e = .returned (.bool true) ∧ w' = w := by
  obtain ⟨i, hi, hcmp⟩ := Option.map_eq_some_iff.1 isComp
  obtain ⟨j, hj, hjs⟩ := Option.map_eq_some_iff.1 isSize
  have h8 := @run_callFunc_extern Tryz.prog 42 _ Extern.ReflectliteType.typeOf Tryz.func42 (by kernel_rfl) (by kernel_rfl) (by kernel_rfl) (by kernel_rfl)
  have h32 := @run_callFunc_extern Tryz.prog 376 _ cmpE Tryz.func376 (by kernel_rfl) (by kernel_rfl) (by kernel_rfl) (by kernel_rfl)
  have tT := isTypeOf
  have cT := isComparable
  have mR := isMethodComparable
  have heq := run_eql_iface_ptr_same (P := Tryz.prog) w a Tryz.underlying23 Tryz.underlying496 hi hcmp hj
  go_enter Tryz.func18, Tryz.ntmps18
  go_wp2
  refine wp_loop_rounds 1 ?_
  rw [rounds_succ]
  go_wp2
  go_ret
  exact ⟨rfl, rfl⟩

set_option maxRecDepth 100000 in
set_option maxHeartbeats 1000000 in
theorem is_other (a b : Addr) (ca cb : Array Value) (ta tb : TypeId) (w : World) (hne : a ≠ b) (ha : w.heap[a.block]? = some (.cells ca ta (0, 0))) (hb : w.heap[b.block]? = some (.cells cb tb (0, 0))) :
    Calls Tryz.prog 18 #[.iface 496 (.pointer (some a)), .iface 496 (.pointer (some b))] w fun e w' => e = .returned (.bool false) ∧ w' = w := by
  obtain ⟨i, hi, hcmp⟩ := Option.map_eq_some_iff.1 isComp
  obtain ⟨j, hj, hjs⟩ := Option.map_eq_some_iff.1 isSize
  have h8 := @run_callFunc_extern Tryz.prog 42 _ Extern.ReflectliteType.typeOf Tryz.func42 (by kernel_rfl) (by kernel_rfl) (by kernel_rfl) (by kernel_rfl)
  have h32 := @run_callFunc_extern Tryz.prog 376 _ cmpE Tryz.func376 (by kernel_rfl) (by kernel_rfl) (by kernel_rfl) (by kernel_rfl)
  have tT := isTypeOf
  have cT := isComparable
  have mR := isMethodComparable
  have nE := noIsE
  have uE := noUnwrapE
  have vE := noUnwrapsE
  have nW := noIsW
  have uW := hasUnwrapW
  have mU := methodUnwrap
  have heq := run_eql_iface_ptr_other (P := Tryz.prog) w Tryz.underlying23 Tryz.underlying496 hi hcmp hj (by rw [hjs]; decide) hne ha hb
  go_enter Tryz.func18, Tryz.ntmps18
  go_wp2
  refine wp_loop_rounds 1 ?_
  rw [rounds_succ]
  go_wp2
  go_ret
  exact ⟨rfl, rfl⟩

set_option maxRecDepth 100000 in
set_option maxHeartbeats 1000000 in
theorem is_wrap_same (pb : Nat) (b : Addr) (w : World) (h1 : w.cell? ⟨pb, 1, none⟩ = some (.iface 496 (.pointer (some b)))) :
    Calls Tryz.prog 18 #[.iface 110 (.pointer (some ⟨pb, 0, none⟩)), .iface 496 (.pointer (some b))] w fun e w' => e = .returned (.bool true) ∧ w' = w := by
  obtain ⟨i, hi, hcmp⟩ := Option.map_eq_some_iff.1 isComp
  obtain ⟨j, hj, hjs⟩ := Option.map_eq_some_iff.1 isSize
  have h8 := @run_callFunc_extern Tryz.prog 42 _ Extern.ReflectliteType.typeOf Tryz.func42 (by kernel_rfl) (by kernel_rfl) (by kernel_rfl) (by kernel_rfl)
  have h32 := @run_callFunc_extern Tryz.prog 376 _ cmpE Tryz.func376 (by kernel_rfl) (by kernel_rfl) (by kernel_rfl) (by kernel_rfl)
  have tT := isTypeOf
  have cT := isComparable
  have mR := isMethodComparable
  have nE := noIsE
  have uE := noUnwrapE
  have vE := noUnwrapsE
  have nW := noIsW
  have uW := hasUnwrapW
  have mU := methodUnwrap
  have heq := run_eql_iface_ptr_same (P := Tryz.prog) w b Tryz.underlying23 Tryz.underlying496 hi hcmp hj
  have hty := run_eql_iface_types (P := Tryz.prog) 110 496 (.pointer (some ⟨pb, 0, none⟩)) (.pointer (some b)) Tryz.underlying23 (by decide) w
  go_enter Tryz.func18, Tryz.ntmps18
  go_wp2
  refine wp_loop_rounds 2 ?_
  rw [rounds_succ]
  go_wp2
  rw [rounds_succ]
  go_wp2
  go_ret
  exact ⟨rfl, rfl⟩

set_option maxRecDepth 100000 in
set_option maxHeartbeats 1000000 in
theorem is_wrap_other (pb : Nat) (b a : Addr) (ca cb : Array Value) (ta tb : TypeId) (w : World) (h1 : w.cell? ⟨pb, 1, none⟩ = some (.iface 496 (.pointer (some a)))) (hne : a ≠ b) (ha : w.heap[a.block]? = some (.cells ca ta (0, 0))) (hb : w.heap[b.block]? = some (.cells cb tb (0, 0))) :
    Calls Tryz.prog 18 #[.iface 110 (.pointer (some ⟨pb, 0, none⟩)), .iface 496 (.pointer (some b))] w fun e w' => e = .returned (.bool false) ∧ w' = w := by
  obtain ⟨i, hi, hcmp⟩ := Option.map_eq_some_iff.1 isComp
  obtain ⟨j, hj, hjs⟩ := Option.map_eq_some_iff.1 isSize
  have h8 := @run_callFunc_extern Tryz.prog 42 _ Extern.ReflectliteType.typeOf Tryz.func42 (by kernel_rfl) (by kernel_rfl) (by kernel_rfl) (by kernel_rfl)
  have h32 := @run_callFunc_extern Tryz.prog 376 _ cmpE Tryz.func376 (by kernel_rfl) (by kernel_rfl) (by kernel_rfl) (by kernel_rfl)
  have tT := isTypeOf
  have cT := isComparable
  have mR := isMethodComparable
  have nE := noIsE
  have uE := noUnwrapE
  have vE := noUnwrapsE
  have nW := noIsW
  have uW := hasUnwrapW
  have mU := methodUnwrap
  have heq := run_eql_iface_ptr_other (P := Tryz.prog) w Tryz.underlying23 Tryz.underlying496 hi hcmp hj (by rw [hjs]; decide) hne ha hb
  have hty := run_eql_iface_types (P := Tryz.prog) 110 496 (.pointer (some ⟨pb, 0, none⟩)) (.pointer (some b)) Tryz.underlying23 (by decide) w
  go_enter Tryz.func18, Tryz.ntmps18
  go_wp2
  refine wp_loop_rounds 2 ?_
  rw [rounds_succ]
  go_wp2
  rw [rounds_succ]
  go_wp2
  go_ret
  exact ⟨rfl, rfl⟩

end Go.Proofs.YtfkeddkfegaeiaaGreatDoor
namespace Go.Proofs.YtfkeddkfegaeiaaGreatDoor
open Go.RowKit

theorem eql_nil (w : World) (v : Value) : (binOp .eql 23 (.iface 496 v) .nilIface).run Tryz.prog w = .ok (.bool false) w := by
  have h : ∀ d : Nat, (Op.equalIn (d + 1) 23 (.iface 496 v) .nilIface).run Tryz.prog w = .ok false w := fun d => by simp [Op.equalIn, run_underlying Tryz.underlying23]
  simp only [binOp]
  simp [Op.equal, Op.maxDepth, h 9999]
/-- the variables that hold errors. -/
def tw (j : Nat) : Bool := decide (j < 13) && j != 10
theorem tw_lt {j : Nat} (h : tw j = true) : j < 13 := by
  unfold tw at h
  simp only [Bool.and_eq_true, decide_eq_true_eq] at h
  exact h.1
/-- all twelve errors. -/
structure EnvX (a : Nat → Addr) (B : Nat) (w : World) : Prop where
  env : Env a B w
  cell : ∀ j, tw j = true → w.cell? ⟨j, 0, none⟩ = some (.iface 496 (.pointer (some (a j))))
  below : ∀ j, tw j = true → (a j).block < B
  row : ∀ j, tw j = true → ∃ c t, w.heap[(a j).block]? = some (.cells c t (0, 0))
  ne : ∀ i j, tw i = true → tw j = true → i ≠ j → a i ≠ a j
theorem EnvX.keep {a : Nat → Addr} {B : Nat} {w w' : World} (h : EnvX a B w) (hb : Below B w w') : EnvX a B w' := by
  refine ⟨h.env.keep hb, fun j hj => ?_, h.below, fun j hj => ?_, h.ne⟩
  · rw [hb.cell (p := ⟨j, 0, none⟩) (Nat.lt_of_lt_of_le (tw_lt hj) h.env.low)]; exact h.cell j hj
  · obtain ⟨c, t, hr⟩ := h.row j hj
    exact ⟨c, t, by rw [hb.block _ (h.below j hj)]; exact hr⟩
theorem EnvX.alloc {a : Nat → Addr} {B : Nat} {w : World} (h : EnvX a B w) (o : Obj) : EnvX a B (w.alloc o) := h.keep ((Below.refl _ _).alloc h.env.size _)
theorem err_same (a : Nat → Addr) (w : World) (i : Nat) :
    (binOp .eql 23 (errV a i) (errV a i)).run Tryz.prog w = .ok (.bool true) w := by
  obtain ⟨x, hi, hcmp⟩ := Option.map_eq_some_iff.1 isComp
  obtain ⟨y, hj, _⟩ := Option.map_eq_some_iff.1 isSize
  exact run_eql_iface_ptr_same w (a i) Tryz.underlying23 Tryz.underlying496 hi hcmp hj
theorem EnvX.other {a : Nat → Addr} {B : Nat} {w : World} (h : EnvX a B w) (i j : Nat) (hi : tw i = true) (hj : tw j = true) (hij : i ≠ j) :
    (binOp .eql 23 (errV a i) (errV a j)).run Tryz.prog w = .ok (.bool false) w := by
  obtain ⟨x, hx, hcmp⟩ := Option.map_eq_some_iff.1 isComp
  obtain ⟨y, hy, hys⟩ := Option.map_eq_some_iff.1 isSize
  obtain ⟨c, t, hr⟩ := h.row i hi
  obtain ⟨c', t', hr'⟩ := h.row j hj
  exact run_eql_iface_ptr_other w Tryz.underlying23 Tryz.underlying496 hx hcmp hy (by rw [hys]; decide) (h.ne i j hi hj hij) hr hr'

/-- the document's number of an error. -/
def numN (k : Nat) : Int := if k = eLong then 1 else if k = eByte then 2 else if k = eNumber then 3 else if k = eSyntax then 4 else 9
def Five (k : Nat) : Prop := k = eLong ∨ k = eByte ∨ k = eNumber ∨ k = eSyntax ∨ k = eMany

set_option maxRecDepth 100000 in
set_option maxHeartbeats 1000000 in
theorem number_at (a : Nat → Addr) (B : Nat) (w : World) (h : EnvX a B w) (k : Nat) (hk : Five k) :
    Calls Tryz.prog 41 #[errV a k] w fun e w' => e = .returned (.int .i64 (numN k)) ∧ w' = w := by
  have gErrLong := h.cell 0 (by decide)
  have gErrByte := h.cell 1 (by decide)
  have gErrNumber := h.cell 2 (by decide)
  have gErrSyntax := h.cell 3 (by decide)
  have gErrTable := h.cell 5 (by decide)
  have gErrColumn := h.cell 6 (by decide)
  have gErrTwice := h.cell 7 (by decide)
  have gErrWindow := h.cell 8 (by decide)
  have gErrMany := h.cell 4 (by decide)
  have gErrShape := h.cell 9 (by decide)
  have hs := err_same a w k
  have hn := fun v => eql_nil w v
  rcases hk with rfl | rfl | rfl | rfl | rfl
  · clear h
    go_enter Tryz.func41, Tryz.ntmps41
    go_wp2
    go_ret
    exact ⟨rfl, rfl⟩
  · have oErrLong := h.other eByte 0 (by decide) (by decide) (by decide)
    clear h
    go_enter Tryz.func41, Tryz.ntmps41
    go_wp2
    go_ret
    exact ⟨rfl, rfl⟩
  · have oErrLong := h.other eNumber 0 (by decide) (by decide) (by decide)
    have oErrByte := h.other eNumber 1 (by decide) (by decide) (by decide)
    clear h
    go_enter Tryz.func41, Tryz.ntmps41
    go_wp2
    go_ret
    exact ⟨rfl, rfl⟩
  · have oErrLong := h.other eSyntax 0 (by decide) (by decide) (by decide)
    have oErrByte := h.other eSyntax 1 (by decide) (by decide) (by decide)
    have oErrNumber := h.other eSyntax 2 (by decide) (by decide) (by decide)
    clear h
    go_enter Tryz.func41, Tryz.ntmps41
    go_wp2
    go_ret
    exact ⟨rfl, rfl⟩
  · have oErrLong := h.other eMany 0 (by decide) (by decide) (by decide)
    have oErrByte := h.other eMany 1 (by decide) (by decide) (by decide)
    have oErrNumber := h.other eMany 2 (by decide) (by decide) (by decide)
    have oErrSyntax := h.other eMany 3 (by decide) (by decide) (by decide)
    have oErrTable := h.other eMany 5 (by decide) (by decide) (by decide)
    have oErrColumn := h.other eMany 6 (by decide) (by decide) (by decide)
    have oErrTwice := h.other eMany 7 (by decide) (by decide) (by decide)
    have oErrWindow := h.other eMany 8 (by decide) (by decide) (by decide)
    clear h
    go_enter Tryz.func41, Tryz.ntmps41
    go_wp2
    go_ret
    exact ⟨rfl, rfl⟩

theorem yes_At (a : Option Addr) (w : World) : Sem.run Tryz.prog (Instr.typeAssert (.iface 110 (.pointer a)) 23 110 true) w = .ok (.tuple #[.pointer a, .bool true]) w := by kernel_rfl
theorem no_At (a : Option Addr) (w : World) : Sem.run Tryz.prog (Instr.typeAssert (.iface 496 (.pointer a)) 23 110 true) w = .ok (.tuple #[.pointer none, .bool false]) w := by kernel_rfl

set_option maxRecDepth 100000 in
set_option maxHeartbeats 1000000 in
theorem wrong_at (a : Nat → Addr) (B : Nat) (w : World) (h : EnvX a B w) (b p k : Nat) (hk : Five k) (hat : AtBlk w b p (errV a k)) :
    Calls Tryz.prog 15 #[.iface 110 (.pointer (some ⟨b, 0, none⟩))] w fun e w' => e = .returned (.agg #[.int .i64 (numN k), .int .i64 p]) ∧ Below w.heap.size w w' := by
  have HE := hide h
  obtain ⟨hc, hf⟩ := blk hat
  have zb := lt_of_heap hat
  clear h hat
  have hy := yes_At
  go_enter Tryz.func15, Tryz.ntmps15
  go_wp2_with fail
  refine (number_at a B _ (by exact (unhide HE).alloc _) k hk).mono ?_
  rintro e w1 ⟨rfl, rfl⟩
  generalize hn : numN k = n at *
  have HN := hide hn
  clear hn
  go_wp2
  refine bodyPost_ret (v := .agg #[.int .i64 n, .int .i64 p]) (by simp [results, Tryz.results15, go_sem]) rfl ⟨by rw [unhide HN], ?_⟩
  exact (Below.refl _ _).alloc (Nat.le_refl _) _

set_option maxRecDepth 100000 in
set_option maxHeartbeats 1000000 in
theorem wrong_long (a : Nat → Addr) (B : Nat) (w : World) (h : EnvX a B w) :
    Calls Tryz.prog 15 #[errV a eLong] w fun e w' => e = .returned (.agg #[.int .i64 1, .int .i64 (-1)]) ∧ Below w.heap.size w w' := by
  have HE := hide h
  clear h
  have hy := no_At
  go_enter Tryz.func15, Tryz.ntmps15
  go_wp2_with fail
  refine (number_at a B _ (by exact (unhide HE).alloc _) eLong (Or.inl rfl)).mono ?_
  rintro e w1 ⟨rfl, rfl⟩
  rw [show numN eLong = 1 from rfl]
  go_wp2
  refine bodyPost_ret (v := .agg #[.int .i64 1, .int .i64 (-1)]) (by simp [results, Tryz.results15, go_sem]) rfl ⟨rfl, ?_⟩
  exact (Below.refl _ _).alloc (Nat.le_refl _) _

end Go.Proofs.YtfkeddkfegaeiaaGreatDoor
