/-
  number, wrong, able.
-/
import Derived.Test.YtjnmkmcopfkdfaaGreatDoorAbl
import Derived.Test.YtjnmkmcopfkdfaaGreatDoorIsf
namespace Go.Proofs.YtjnmkmcopfkdfaaGreatDoor
open Go.RowKit

theorem eql_nil (w : World) (v : Value) : (binOp .eql 23 (.iface 224 v) .nilIface).run Tryz.prog w = .ok (.bool false) w := by
  have h : ∀ d : Nat, (Op.equalIn (d + 1) 23 (.iface 224 v) .nilIface).run Tryz.prog w = .ok false w := fun d => by simp [Op.equalIn, run_underlying Tryz.underlying23]
  simp only [binOp]
  simp [Op.equal, Op.maxDepth, h 9999]
theorem Env.same {a : Nat → Addr} {B : Nat} {w : World} (_h : Env a B w) (i : Nat) :
    (binOp .eql 23 (errV a i) (errV a i)).run Tryz.prog w = .ok (.bool true) w := by
  obtain ⟨x, hi, hcmp⟩ := Option.map_eq_some_iff.1 isComp
  obtain ⟨y, hj, _⟩ := Option.map_eq_some_iff.1 isSize
  exact run_eql_iface_ptr_same w (a i) Tryz.underlying23 Tryz.underlying224 hi hcmp hj
theorem Env.other {a : Nat → Addr} {B : Nat} {w : World} (h : Env a B w) (i j : Nat) (hi : i < 12) (hj : j < 12) (hij : i ≠ j) :
    (binOp .eql 23 (errV a i) (errV a j)).run Tryz.prog w = .ok (.bool false) w := by
  obtain ⟨x, hx, hcmp⟩ := Option.map_eq_some_iff.1 isComp
  obtain ⟨y, hy, hys⟩ := Option.map_eq_some_iff.1 isSize
  obtain ⟨c, t, hr⟩ := h.row i hi
  obtain ⟨c', t', hr'⟩ := h.row j hj
  exact run_eql_iface_ptr_other w Tryz.underlying23 Tryz.underlying224 hx hcmp hy (by rw [hys]; decide) (h.ne i j hi hj hij) hr hr'

/-- the document's number of an error. -/
def numN (k : Nat) : Int := if k = eLong then 1 else if k = eByte then 2 else if k = eNumber then 3 else if k = eSyntax then 4 else 9
def Five (k : Nat) : Prop := k = eLong ∨ k = eByte ∨ k = eNumber ∨ k = eSyntax ∨ k = eMany

set_option maxRecDepth 100000 in
set_option maxHeartbeats 1000000 in
theorem number_at (a : Nat → Addr) (B : Nat) (w : World) (h : Env a B w) (k : Nat) (hk : Five k) :
    Calls Tryz.prog 17 #[errV a k] w fun e w' => e = .returned (.int .i64 (numN k)) ∧ w' = w := by
  have gErrLong := h.cell 0 (by decide)
  have gErrByte := h.cell 1 (by decide)
  have gErrNumber := h.cell 2 (by decide)
  have gErrSyntax := h.cell 3 (by decide)
  have gErrTable := h.cell 5 (by decide)
  have gErrColumn := h.cell 6 (by decide)
  have gErrTwice := h.cell 7 (by decide)
  have gErrWindow := h.cell 8 (by decide)
  have gErrMany := h.cell 4 (by decide)
  have gErrShape := h.cell 9 (by decide)
  have hs := h.same k
  have hn := fun v => eql_nil w v
  rcases hk with rfl | rfl | rfl | rfl | rfl
  · clear h
    go_enter Tryz.func17, Tryz.ntmps17
    go_wp2
    go_ret
    exact ⟨rfl, rfl⟩
  · have oErrLong := h.other eByte 0 (by decide) (by decide) (by decide)
    clear h
    go_enter Tryz.func17, Tryz.ntmps17
    go_wp2
    go_ret
    exact ⟨rfl, rfl⟩
  · have oErrLong := h.other eNumber 0 (by decide) (by decide) (by decide)
    have oErrByte := h.other eNumber 1 (by decide) (by decide) (by decide)
    clear h
    go_enter Tryz.func17, Tryz.ntmps17
    go_wp2
    go_ret
    exact ⟨rfl, rfl⟩
  · have oErrLong := h.other eSyntax 0 (by decide) (by decide) (by decide)
    have oErrByte := h.other eSyntax 1 (by decide) (by decide) (by decide)
    have oErrNumber := h.other eSyntax 2 (by decide) (by decide) (by decide)
    clear h
    go_enter Tryz.func17, Tryz.ntmps17
    go_wp2
    go_ret
    exact ⟨rfl, rfl⟩
  · have oErrLong := h.other eMany 0 (by decide) (by decide) (by decide)
    have oErrByte := h.other eMany 1 (by decide) (by decide) (by decide)
    have oErrNumber := h.other eMany 2 (by decide) (by decide) (by decide)
    have oErrSyntax := h.other eMany 3 (by decide) (by decide) (by decide)
    have oErrTable := h.other eMany 5 (by decide) (by decide) (by decide)
    have oErrColumn := h.other eMany 6 (by decide) (by decide) (by decide)
    have oErrTwice := h.other eMany 7 (by decide) (by decide) (by decide)
    have oErrWindow := h.other eMany 8 (by decide) (by decide) (by decide)
    clear h
    go_enter Tryz.func17, Tryz.ntmps17
    go_wp2
    go_ret
    exact ⟨rfl, rfl⟩

theorem yes_At (a : Option Addr) (w : World) : Sem.run Tryz.prog (Instr.typeAssert (.iface 64 (.pointer a)) 23 64 true) w = .ok (.tuple #[.pointer a, .bool true]) w := by kernel_rfl
theorem no_At (a : Option Addr) (w : World) : Sem.run Tryz.prog (Instr.typeAssert (.iface 224 (.pointer a)) 23 64 true) w = .ok (.tuple #[.pointer none, .bool false]) w := by kernel_rfl

set_option maxRecDepth 100000 in
set_option maxHeartbeats 1000000 in
theorem wrong_at (a : Nat → Addr) (B : Nat) (w : World) (h : Env a B w) (b p k : Nat) (hk : Five k) (hat : AtBlk w b p (errV a k)) :
    Calls Tryz.prog 8 #[.iface 64 (.pointer (some ⟨b, 0, none⟩))] w fun e w' => e = .returned (.agg #[.int .i64 (numN k), .int .i64 p]) ∧ Below w.heap.size w w' := by
  have HE := hide h
  obtain ⟨hc, hf⟩ := blk hat
  have zb := lt_of_heap hat
  clear h hat
  have hy := yes_At
  go_enter Tryz.func8, Tryz.ntmps8
  go_wp2_with fail
  refine (number_at a B _ (by exact (unhide HE).alloc _) k hk).mono ?_
  rintro e w1 ⟨rfl, rfl⟩
  generalize hn : numN k = n at *
  have HN := hide hn
  clear hn
  go_wp2
  refine bodyPost_ret (v := .agg #[.int .i64 n, .int .i64 p]) (by simp [results, Tryz.results8, go_sem]) rfl ⟨by rw [unhide HN], ?_⟩
  exact (Below.refl _ _).alloc (Nat.le_refl _) _

set_option maxRecDepth 100000 in
set_option maxHeartbeats 1000000 in
theorem wrong_long (a : Nat → Addr) (B : Nat) (w : World) (h : Env a B w) :
    Calls Tryz.prog 8 #[errV a eLong] w fun e w' => e = .returned (.agg #[.int .i64 1, .int .i64 (-1)]) ∧ Below w.heap.size w w' := by
  have HE := hide h
  clear h
  have hy := no_At
  go_enter Tryz.func8, Tryz.ntmps8
  go_wp2_with fail
  refine (number_at a B _ (by exact (unhide HE).alloc _) eLong (Or.inl rfl)).mono ?_
  rintro e w1 ⟨rfl, rfl⟩
  rw [show numN eLong = 1 from rfl]
  go_wp2
  refine bodyPost_ret (v := .agg #[.int .i64 1, .int .i64 (-1)]) (by simp [results, Tryz.results8, go_sem]) rfl ⟨rfl, ?_⟩
  exact (Below.refl _ _).alloc (Nat.le_refl _) _

theorem TellPost.ok {a : Nat → Addr} {w w' : World} {R : Except (Nat × Nat) (List UInt8)} {e : Ending} {l : List UInt8} (h : TellPost a w R e w') (hR : R = .ok l) : e = .returned (.tuple #[.string ⟨l.toArray⟩, .nilIface]) ∧ Below w.heap.size w w' := by
  subst hR
  exact ⟨h.2, h.1⟩
theorem tell_able (a : Nat → Addr) (B : Nat) (w : World) (h : Env a B w) :
    Calls Tryz.prog 6 #[.string ableS] w fun e w' => e = .returned (.tuple #[.string ⟨ableT.toArray⟩, .nilIface]) ∧ Below w.heap.size w w' :=
  (tell_any ableS a B w h (by decide)).mono fun _ _ hp => hp.ok able_ok

set_option maxRecDepth 100000 in
set_option maxHeartbeats 1000000 in
theorem able_any (a : Nat → Addr) (B : Nat) (w : World) (h : Env a B w) :
    Calls Tryz.prog 9 #[] w fun e w' => e = .returned (.bool true) ∧ Below w.heap.size w w' := by
  have HC := hide (tell_able a B w h)
  clear h
  unfold ableS ableT at HC
  go_enter Tryz.func9, Tryz.ntmps9
  go_wp2_with fail
  refine (unhide HC).mono ?_
  rintro e w1 ⟨rfl, h1⟩
  go_wp2
  go_ret
  exact ⟨rfl, h1⟩
end Go.Proofs.YtjnmkmcopfkdfaaGreatDoor
