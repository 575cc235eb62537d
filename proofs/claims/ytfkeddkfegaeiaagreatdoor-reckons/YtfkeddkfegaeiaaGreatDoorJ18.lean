/-
  Part 18.
-/
import Derived.Test.YtfkeddkfegaeiaaGreatDoorJ01
import Derived.Test.YtfkeddkfegaeiaaGreatDoorRows
import Derived.WalkKit
import Derived.WalkSpells
import Derived.WalkLawsBesides
import Derived.Test.YtfkeddkfegaeiaaGreatDoorJ11
import Derived.Lib.Builder
import Derived.Lib.AppendStr
import Derived.Lib.UnsafeStr
import Derived.Laws.Externs
namespace Go.Proofs.YtfkeddkfegaeiaaGreatDoor
open Go.RowKit

/-- a token as it is told: its text; is it a minus of one factor? -/
abbrev TT := ByteArray × Bool
def tightA (s : ByteArray) : Bool := s.toList == [41] || s.toList == [44] || s.toList == [46]
def tightB (s : ByteArray) : Bool := s.toList == [40] || s.toList == [46] || s.toList == [114, 111, 119, 95, 110, 117, 109, 98, 101, 114] || s.toList == [99, 111, 117, 110, 116] || s.toList == [115, 117, 109] || s.toList == [109, 105, 110] || s.toList == [109, 97, 120]
abbrev Out := List UInt8 × Bool
def gapped (o : Out) (s : ByteArray) : Bool := decide (0 < o.1.length) && !o.2 && !tightA s
def lay (o : Out) (t : TT) : Out := (o.1 ++ (if gapped o t.1 then [32] else []) ++ t.1.data.toList, t.2 || tightB t.1)
def layAll (o : Out) (l : List TT) : Out := l.foldl lay o
def cost (l : List TT) : Nat := (l.map fun t => t.1.size + 1).sum
def tx (s : ByteArray) : TT := (s, false)

theorem layAll_nil (o : Out) : layAll o [] = o := rfl
theorem layAll_append (o : Out) (l m : List TT) : layAll o (l ++ m) = layAll (layAll o l) m := List.foldl_append
theorem layAll_cons (o : Out) (t : TT) (l : List TT) : layAll o (t :: l) = layAll (lay o t) l := rfl
theorem cost_append (l m : List TT) : cost (l ++ m) = cost l + cost m := by simp [cost]
theorem cost_cons (t : TT) (l : List TT) : cost (t :: l) = t.1.size + 1 + cost l := by simp [cost]
theorem cost_nil : cost [] = 0 := rfl
theorem lay_len (o : Out) (t : TT) : (lay o t).1.length ≤ o.1.length + (t.1.size + 1) := by
  unfold lay
  split
  · simp
  · simp
theorem layAll_len (o : Out) : ∀ l : List TT, (layAll o l).1.length ≤ o.1.length + cost l := by
  intro l
  induction l generalizing o with
  | nil => simp [layAll, cost]
  | cons t l ih =>
    rw [layAll_cons, cost_cons]
    have := ih (lay o t)
    have := lay_len o t
    omega
/-- parts with commas between them. -/
def commas : List (List TT) → List TT
  | [] => []
  | [a] => a
  | a :: b :: r => a ++ tx ⟨#[44]⟩ :: commas (b :: r)
theorem commas_snoc : ∀ (l : List (List TT)) (a : List TT), commas (l ++ [a]) = commas l ++ (if l = [] then [] else [tx ⟨#[44]⟩]) ++ a
  | [], a => by simp [commas]
  | [x], a => by simp [commas]
  | x :: y :: r, a => by
    have ih := commas_snoc (y :: r) a
    simp only [List.cons_append] at ih ⊢
    rw [commas, ih, commas]
    simp
end Go.Proofs.YtfkeddkfegaeiaaGreatDoor
namespace Go.Proofs.YtfkeddkfegaeiaaGreatDoor
open Go.RowKit

set_option maxHeartbeats 1000000 in
theorem tightAhead_any (s : ByteArray) (w : World) : Calls Tryz.prog 157 #[.string s] w fun e w' => e = .returned (.bool (tightA s)) ∧ w' = w := by
  cases h1 : (s.toList == [41]) with
  | true =>
    go_enter Tryz.func157, Tryz.ntmps157
    go_wp2
    go_ret
    exact ⟨by simp only [tightA, *, Bool.true_or]; rfl, rfl⟩
  | false =>
    cases h2 : (s.toList == [44]) with
    | true =>
      go_enter Tryz.func157, Tryz.ntmps157
      go_wp2
      go_ret
      exact ⟨by simp only [tightA, *, Bool.true_or, Bool.or_true]; rfl, rfl⟩
    | false =>
      go_enter Tryz.func157, Tryz.ntmps157
      go_wp2
      go_ret
      exact ⟨by simp only [tightA, *, Bool.false_or]; rfl, rfl⟩

set_option maxHeartbeats 1000000 in
theorem tightBehind_any (s : ByteArray) (w : World) : Calls Tryz.prog 160 #[.string s] w fun e w' => e = .returned (.bool (tightB s)) ∧ w' = w := by
  go_enter Tryz.func160, Tryz.ntmps160
  go_wp2
  all_goals first
    | (exfalso; simp_all; done)
    | (go_ret; refine ⟨?_, rfl⟩; simp only [tightB, *, Bool.or_true, Bool.true_or, Bool.or_false]; rfl)
end Go.Proofs.YtfkeddkfegaeiaaGreatDoor
namespace Go.Proofs.YtfkeddkfegaeiaaGreatDoor
open Go.RowKit

/-- what the telling leaves: all but rows of bytes and the teller itself. -/
def tkT (t : TypeId) : Bool := !(t == 5) && !(t == 93)
structure TSt (tl : Nat) (w w' : World) : Prop where
  below : Below tl w w'
  keep : Keeps tkT 0 w w'
theorem TSt.refl (tl : Nat) (w : World) : TSt tl w w := ⟨Below.refl _ _, fun _ _ _ _ _ _ => rfl⟩
theorem TSt.trans {tl : Nat} {a b c : World} (h : TSt tl a b) (k : TSt tl b c) : TSt tl a c := ⟨h.below.trans k.below, h.keep.trans k.keep⟩
theorem TSt.alloc {tl : Nat} {a w : World} (h : TSt tl a w) (hl : tl ≤ w.heap.size) (o : Obj) : TSt tl a (w.alloc o) := h.trans ⟨(Below.refl _ _).alloc hl _, Keeps.ofBelow ((Below.refl _ _).alloc (Nat.le_refl _) _)⟩
theorem TSt.drew {tl : Nat} {a w : World} (h : TSt tl a w) : TSt tl a w.drew := h.trans ⟨(Below.refl _ _).drew, fun _ _ _ _ _ _ => rfl⟩
theorem TSt.new {tl : Nat} {w w' : World} (h : Below w.heap.size w w') (hl : tl ≤ w.heap.size) : TSt tl w w' := ⟨h.mono hl, Keeps.ofBelow h⟩
theorem TSt.kp {tl : Nat} {w w' : World} {cs : Array Value} (hb : w.heap[tl]? = some (.cells cs 93 (0, 0))) (h : Kp tl w w') : TSt tl w w' :=
  ⟨h.below (Nat.le_refl _) (Nat.le_of_lt (lt_of_heap hb)), Keeps.ofKp h (Or.inr fun cs t e => by rw [hb] at e; cases e; rfl)⟩
theorem TSt.grown {tl : Nat} {w w' : World} {v : Value} {n : Nat} {xs : List Value} (hrow : w.ownsRow (tl + 1) 5 1 v n xs) (hg : w.grownBy w' v.ownBlock) (hl : tl ≤ w.heap.size) : TSt tl w w' := by
  refine ⟨(Below.refl tl w).grown hg hl (fun k hk => by have := (hrow.lt k hk).1; omega), fun k cs t _ hk ht => ?_⟩
  refine hg.block k (lt_of_heap hk) (fun e => ?_)
  rcases hrow.2 with ⟨hv, _⟩ | ⟨g, cap, cur, hv, hg1, hg2, _⟩
  · subst hv; cases e
  · subst hv
    simp only [Value.ownBlock, Option.some.injEq] at e
    subst e
    rw [hg2] at hk; cases hk; cases ht

/-- the teller: what it has told, and whether it is tight. -/
def TL (tl : Nat) (W : World) (o : List UInt8) (g : Bool) : Prop := ∃ p v, (p = .pointer none ∨ p = .pointer (some ⟨tl, 0, none⟩)) ∧ W.heap[tl]? = some (.cells #[p, v, .bool g] 93 (0, 0)) ∧ W.ownsRow (tl + 1) 5 1 v o.length (Lib.byteCells o)

theorem sizeBld : (Tryz.prog.info? 91).map (·.size) = some 2 := by kernel_rfl
theorem liesBld : liesAt Tryz.prog Tryz.prog.depth 93 (3 / Tryz.prog.cellsOf 93) 0 91 1 = true := by kernel_rfl
theorem infoU8 : (Tryz.prog.info? 5).map (fun i => (i.zero, i.size, i.bytes)) = some (some (.int .u8 0), 1, 1) := by kernel_rfl

set_option maxHeartbeats 1000000 in
set_option maxRecDepth 100000 in
theorem copyCheck_used (tl : Nat) (w : World) (h0 : w.cell? ⟨tl, 0, none⟩ = some (.pointer (some ⟨tl, 0, none⟩))) :
    Calls Tryz.prog 219 #[.pointer (some ⟨tl, 0, none⟩)] w fun e w' => e = .returned (.tuple #[]) ∧ w' = w := by
  obtain ⟨j, hj, _⟩ := Option.map_eq_some_iff.1 sizeBld
  go_enter Tryz.func219, Tryz.ntmps219
  go_wp2
  rw [Lib.run_neq_ptr_same w _ Tryz.underlying88 hj]
  go_wp2
  go_end0
  exact ⟨rfl, rfl⟩

set_option maxHeartbeats 1000000 in
set_option maxRecDepth 100000 in
theorem copyCheck_fresh (tl : Nat) (w : World) (v x : Value) (hb : w.heap[tl]? = some (.cells #[.pointer none, v, x] 93 (0, 0))) :
    Calls Tryz.prog 219 #[.pointer (some ⟨tl, 0, none⟩)] w fun e w' => e = .returned (.tuple #[]) ∧ w' = w.setCell ⟨tl, 0, none⟩ (.pointer (some ⟨tl, 0, none⟩)) := by
  obtain ⟨j, hj, hjs⟩ := Option.map_eq_some_iff.1 sizeBld
  have h0 : w.cell? ⟨tl, 0, none⟩ = some (.pointer none) := by rw [(blk hb).1]; rfl
  have hfz : w.frozen? ⟨tl, 0, none⟩ = false := (blk hb).2 0
  have hsh : w.shape? tl = some (93, 3) := by simp [World.shape?, hb]
  have HB := hide hb
  clear hb
  go_enter Tryz.func219, Tryz.ntmps219
  go_wp2
  rw [Lib.run_to_unsafe w ⟨tl, 0, none⟩ Tryz.underlying88 Tryz.underlying336 hj (by rw [hjs]; decide) hsh (by show 0 < 3; omega)]
  simp only [Result.andThen]
  rw [Oper.upon_value]
  go_wp2
  rw [run_callFunc_extern Tryz.func276 (by kernel_rfl) (by kernel_rfl) (by kernel_rfl) (e := Extern.AbiNoEscape.same) (by kernel_rfl)]
  rw [Lib.run_noEscape]
  simp only [Result.andThen]
  rw [Oper.upon_value]
  go_wp2
  rw [Lib.run_from_unsafe w ⟨tl, 0, none⟩ Tryz.underlying336 Tryz.underlying88 hj hsh liesBld]
  simp only [Result.andThen]
  rw [Oper.upon_value]
  go_wp2
  go_end0
  exact ⟨rfl, rfl⟩

theorem copyCheck_any (tl : Nat) (w : World) (p v x : Value) (hp : p = .pointer none ∨ p = .pointer (some ⟨tl, 0, none⟩)) (hb : w.heap[tl]? = some (.cells #[p, v, x] 93 (0, 0))) :
    Calls Tryz.prog 219 #[.pointer (some ⟨tl, 0, none⟩)] w fun e w' => e = .returned (.tuple #[]) ∧ w'.heap[tl]? = some (.cells #[.pointer (some ⟨tl, 0, none⟩), v, x] 93 (0, 0)) ∧ Kp tl w w' := by
  rcases hp with rfl | rfl
  · refine (copyCheck_fresh tl w v x hb).mono ?_
    rintro e w' ⟨rfl, rfl⟩
    exact ⟨rfl, heap_set hb _, (Kp.refl _ _).setCell _ _⟩
  · refine (copyCheck_used tl w (by rw [(blk hb).1]; rfl)).mono ?_
    rintro e w' ⟨rfl, rfl⟩
    exact ⟨rfl, hb, Kp.refl _ _⟩

/-- the buffer's row where only the teller's own block turned. -/
theorem row_kp {tl : Nat} {w w' : World} {v : Value} {n : Nat} {xs : List Value} (h : w.ownsRow (tl + 1) 5 1 v n xs) (hk : Kp tl w w') : w'.ownsRow (tl + 1) 5 1 v n xs := ownsRow_kp h hk (Nat.lt_succ_self _)

theorem row_slice {w : World} {base : Nat} {e : TypeId} {size : Nat} {v : Value} {n : Nat} {xs : List Value} (h : w.ownsRow base e size v n xs) : ∃ ao cap, v = .slice ao n cap := by
  rcases h.2 with ⟨hv, h0⟩ | ⟨g, cap, cur, hv, _⟩
  · exact ⟨none, 0, by rw [hv, h0]⟩
  · exact ⟨_, _, hv⟩

set_option maxHeartbeats 1000000 in
set_option maxRecDepth 100000 in
theorem len_any (tl : Nat) (w : World) (o : List UInt8) (g : Bool) (h : TL tl w o g) :
    Calls Tryz.prog 156 #[.pointer (some ⟨tl, 0, none⟩)] w fun e w' => e = .returned (.int .i64 o.length) ∧ w' = w := by
  obtain ⟨p, v, _, hb, hown⟩ := h
  obtain ⟨ao, cap, rfl⟩ := row_slice hown
  obtain ⟨k0, f0⟩ := blk hb
  have z0 := lt_of_heap hb
  clear hown
  go_enter Tryz.func156, Tryz.ntmps156
  go_wp2
  go_ret
  exact ⟨rfl, rfl⟩

theorem byteCells_snoc (o : List UInt8) (c : UInt8) : Lib.byteCells o ++ [.int .u8 c.toNat] = Lib.byteCells (o ++ [c]) := by simp [Lib.byteCells]

/-- a new buffer laid into the teller. -/
theorem TL.put {tl : Nat} {w : World} {v v' : Value} {o : List UInt8} {g : Bool} (hb : w.heap[tl]? = some (.cells #[.pointer (some ⟨tl, 0, none⟩), v, .bool g] 93 (0, 0))) (ho : w.ownsRow (tl + 1) 5 1 v' o.length (Lib.byteCells o)) :
    TL tl (w.setCell ⟨tl, 1, none⟩ v') o g :=
  ⟨_, v', Or.inr rfl, (heap_set hb v').trans rfl, row_kp ho ((Kp.refl _ _).setCell _ _)⟩

set_option maxHeartbeats 2000000 in
set_option maxRecDepth 100000 in
theorem writeByte_any (tl : Nat) (w : World) (o : List UInt8) (g : Bool) (c : UInt8) (h : TL tl w o g) (hlen : o.length + 1 ≤ 140737488355328) :
    Calls Tryz.prog 158 #[.pointer (some ⟨tl, 0, none⟩), .int .u8 c.toNat] w fun e w' => e = .returned .nilIface ∧ TL tl w' (o ++ [c]) g ∧ TSt tl w w' := by
  obtain ⟨i0, hi, hinf⟩ := Option.map_eq_some_iff.1 infoU8
  simp only [Prod.mk.injEq] at hinf
  obtain ⟨hz0, hz1, hz2⟩ := hinf
  obtain ⟨p, v, hp, hb, hown⟩ := h
  have HB := hide hb
  have HO := hide hown
  clear hb hown
  go_enter Tryz.func158, Tryz.ntmps158
  go_wp2_with (go_at_call 219; refine (copyCheck_any tl _ p v (.bool g) hp (unhide HB)).mono ?_)
  rintro e w1 ⟨rfl, hb1, hk1⟩
  have hown1 := row_kp (unhide HO) hk1
  have z1 := lt_of_heap hb1
  have c0 : w1.cell? ⟨tl, 0, none⟩ = some (.pointer (some ⟨tl, 0, none⟩)) := by rw [(blk hb1).1]; rfl
  have c1 : w1.cell? ⟨tl, 1, none⟩ = some v := by rw [(blk hb1).1]; rfl
  have HB1 := hide hb1
  have HK1 := hide hk1
  clear hb1 hk1
  go_wp2_with (at_builtin; refine wpList_append_own _ rfl _ _ 89 rfl (tl + 1) 5 i0 (.int .u8 0) 1 1 Tryz.underlying89 hi hz0 hz1 hz2 rfl (by decide) _ _ _ rfl (hown1.alloc _) ⟨w1.heap.size, 0, none⟩ 1 1 [.int .u8 c.toNat] rfl rfl ?c1 ?c2 ?c3 ?c4 ?c5 ?_)
  case c1 =>
    intro j u hj
    match j, hj with
    | 0, hj => simp at hj; subst hj; simp [Addr.add]
  case c2 => intro u hu; simp at hu; subst hu; rfl
  case c3 => unfold maxLen; omega
  case c4 => omega
  case c5 => simp; omega
  intro v' w2 hown' hgrow _
  have hrowA := hown1.alloc (.cells #[.int .u8 c.toNat] 5)
  have hb2 : w2.heap[tl]? = some (.cells #[.pointer (some ⟨tl, 0, none⟩), v, .bool g] 93 (0, 0)) := by
    rw [hgrow.block tl (by simp; omega) (fun e => by have := (hrowA.lt tl e.symm).1; omega)]
    exact heap_prev (unhide HB1)
  obtain ⟨k2, f2⟩ := blk hb2
  have z2 := lt_of_heap hb2
  have HB2 := hide hb2
  have HO2 := hide hown'
  have HG2 := hide hgrow
  clear hb2 hgrow
  obtain ⟨ga, cap, rfl⟩ := row_slice (unhide HO2)
  clear hown'
  go_wp2
  go_ret
  refine ⟨rfl, TL.put (unhide HB2) (by rw [← byteCells_snoc, List.length_append]; exact unhide HO2), ?_⟩
  have t1 : TSt tl w w1 := TSt.kp (unhide HB) (unhide HK1)
  have t2 : TSt tl w w2 := (t1.alloc (Nat.le_of_lt z1) _).trans (TSt.grown hrowA (unhide HG2) (by simp; omega))
  exact t2.trans (TSt.kp (unhide HB2) ((Kp.refl _ _).setCell _ _))

theorem byteCells_str (o : List UInt8) (s : ByteArray) : Lib.byteCells o ++ Lib.strCells s = Lib.byteCells (o ++ s.data.toList) := by simp [Lib.byteCells, Lib.strCells]

set_option maxHeartbeats 2000000 in
set_option maxRecDepth 100000 in
theorem writeString_any (tl : Nat) (w : World) (o : List UInt8) (g : Bool) (s : ByteArray) (h : TL tl w o g) (hlen : o.length + s.size ≤ 140737488355328) :
    Calls Tryz.prog 159 #[.pointer (some ⟨tl, 0, none⟩), .string s] w fun e w' => e = .returned (.tuple #[.int .i64 s.size, .nilIface]) ∧ TL tl w' (o ++ s.data.toList) g ∧ TSt tl w w' := by
  obtain ⟨i0, hi, hinf⟩ := Option.map_eq_some_iff.1 infoU8
  simp only [Prod.mk.injEq] at hinf
  obtain ⟨hz0, hz1, hz2⟩ := hinf
  obtain ⟨p, v, hp, hb, hown⟩ := h
  have HB := hide hb
  have HO := hide hown
  clear hb hown
  go_enter Tryz.func159, Tryz.ntmps159
  go_wp2_with (go_at_call 219; refine (copyCheck_any tl _ p v (.bool g) hp (unhide HB)).mono ?_)
  rintro e w1 ⟨rfl, hb1, hk1⟩
  have hown1 := row_kp (unhide HO) hk1
  have z1 := lt_of_heap hb1
  have c0 : w1.cell? ⟨tl, 0, none⟩ = some (.pointer (some ⟨tl, 0, none⟩)) := by rw [(blk hb1).1]; rfl
  have c1 : w1.cell? ⟨tl, 1, none⟩ = some v := by rw [(blk hb1).1]; rfl
  have HB1 := hide hb1
  have HK1 := hide hk1
  clear hb1 hk1
  go_wp2_with (at_builtin; refine Lib.wpList_append_own_string _ rfl _ _ 89 9 rfl (tl + 1) 5 i0 Tryz.underlying89 Tryz.underlying9 hi hz0 hz1 hz2 _ _ _ rfl hown1 s rfl ?c3 ?c4 ?c5 ?_)
  case c3 => unfold maxLen; omega
  case c4 => omega
  case c5 => omega
  intro v' w2 hown' hgrow _
  have hb2 : w2.heap[tl]? = some (.cells #[.pointer (some ⟨tl, 0, none⟩), v, .bool g] 93 (0, 0)) := by
    rw [hgrow.block tl z1 (fun e => by have := (hown1.lt tl e.symm).1; omega)]
    exact unhide HB1
  obtain ⟨k2, f2⟩ := blk hb2
  have z2 := lt_of_heap hb2
  have HB2 := hide hb2
  have HO2 := hide hown'
  have HG2 := hide hgrow
  clear hb2 hgrow
  obtain ⟨ga, cap, rfl⟩ := row_slice (unhide HO2)
  clear hown'
  go_wp2
  go_ret2
  refine ⟨rfl, TL.put (unhide HB2) (by rw [← byteCells_str, List.length_append]; exact unhide HO2), ?_⟩
  have t1 : TSt tl w w1 := TSt.kp (unhide HB) (unhide HK1)
  have t2 : TSt tl w w2 := t1.trans (TSt.grown hown1 (unhide HG2) (Nat.le_of_lt z1))
  exact t2.trans (TSt.kp (unhide HB2) ((Kp.refl _ _).setCell _ _))
end Go.Proofs.YtfkeddkfegaeiaaGreatDoor
