/-
  Part 49.
-/
import Derived.Test.YtfkeddkfegaeiaaGreatDoorRcGrP
import Derived.Test.YtfkeddkfegaeiaaGreatDoorRcAskB
namespace Go.Proofs.YtfkeddkfegaeiaaGreatDoor
open Go.RowKit
def rL1 : List (List UInt8 × Tk) := [([], tkW [119, 105, 116, 104]), ([32], tkM [114]), ([], tkW [40]), ([], tkM [97]), ([], tkW [44]), ([32], tkM [98]), ([], tkW [41]), ([32], tkW [97, 115]), ([32], tkW [40]), ([], tkW [115, 101, 108, 101, 99, 116]), ([32], tkM [120]), ([], tkW [46]), ([], tkM [97]), ([], tkW [44]), ([32], tkM [120]), ([], tkW [46]), ([], tkM [98]), ([32], tkW [102, 114, 111, 109]), ([32], tkM [101]), ([32], tkM [120]), ([32], tkW [117, 110, 105, 111, 110]), ([32], tkW [115, 101, 108, 101, 99, 116]), ([32], tkM [114]), ([], tkW [46]), ([], tkM [97]), ([], tkW [44]), ([32], tkM [120]), ([], tkW [46]), ([], tkM [98]), ([32], tkW [102, 114, 111, 109]), ([32], tkM [114]), ([32], tkM [114]), ([], tkW [44]), ([32], tkM [101]), ([32], tkM [120]), ([32], tkW [119, 104, 101, 114, 101]), ([32], tkM [114]), ([], tkW [46]), ([], tkM [98]), ([32], tkW [61]), ([32], tkM [120]), ([], tkW [46]), ([], tkM [97]), ([], tkW [41]), ([32], tkW [115, 101, 108, 101, 99, 116]), ([32], tkM [114]), ([], tkW [46]), ([], tkM [97]), ([], tkW [44]), ([32], tkM [114]), ([], tkW [46]), ([], tkM [98]), ([32], tkW [102, 114, 111, 109]), ([32], tkM [114]), ([32], tkM [114])]
def rL2 : List (List UInt8 × Tk) := [([], tkW [119, 105, 116, 104]), ([32], tkM [114]), ([], tkW [40]), ([], tkM [97]), ([], tkW [44]), ([32], tkM [98]), ([], tkW [41]), ([32], tkW [97, 115]), ([32], tkW [40]), ([], tkW [115, 101, 108, 101, 99, 116]), ([32], tkM [120]), ([], tkW [46]), ([], tkM [97]), ([], tkW [44]), ([32], tkM [120]), ([], tkW [46]), ([], tkM [98]), ([32], tkW [102, 114, 111, 109]), ([32], tkM [101]), ([32], tkM [120]), ([32], tkW [117, 110, 105, 111, 110]), ([32], tkW [115, 101, 108, 101, 99, 116]), ([32], tkM [120]), ([], tkW [46]), ([], tkM [97]), ([], tkW [44]), ([32], tkM [114]), ([], tkW [46]), ([], tkM [98]), ([32], tkW [102, 114, 111, 109]), ([32], tkM [101]), ([32], tkM [120]), ([], tkW [44]), ([32], tkM [114]), ([32], tkM [114]), ([32], tkW [119, 104, 101, 114, 101]), ([32], tkM [120]), ([], tkW [46]), ([], tkM [98]), ([32], tkW [61]), ([32], tkM [114]), ([], tkW [46]), ([], tkM [97]), ([], tkW [41]), ([32], tkW [115, 101, 108, 101, 99, 116]), ([32], tkM [114]), ([], tkW [46]), ([], tkM [97]), ([], tkW [44]), ([32], tkM [114]), ([], tkW [46]), ([], tkM [98]), ([32], tkW [102, 114, 111, 109]), ([32], tkM [114]), ([32], tkM [114])]
def rL3 : List (List UInt8 × Tk) := [([], tkW [119, 105, 116, 104]), ([32], tkM [114]), ([], tkW [40]), ([], tkM [97]), ([], tkW [44]), ([32], tkM [98]), ([], tkW [41]), ([32], tkW [97, 115]), ([32], tkW [40]), ([], tkW [115, 101, 108, 101, 99, 116]), ([32], tkM [120]), ([], tkW [46]), ([], tkM [97]), ([], tkW [44]), ([32], tkM [120]), ([], tkW [46]), ([], tkM [98]), ([32], tkW [102, 114, 111, 109]), ([32], tkM [101]), ([32], tkM [120]), ([32], tkW [117, 110, 105, 111, 110]), ([32], tkW [115, 101, 108, 101, 99, 116]), ([32], tkM [114]), ([], tkW [46]), ([], tkM [97]), ([], tkW [44]), ([32], tkM [115]), ([], tkW [46]), ([], tkM [98]), ([32], tkW [102, 114, 111, 109]), ([32], tkM [114]), ([32], tkM [114]), ([], tkW [44]), ([32], tkM [114]), ([32], tkM [115]), ([32], tkW [119, 104, 101, 114, 101]), ([32], tkM [114]), ([], tkW [46]), ([], tkM [98]), ([32], tkW [61]), ([32], tkM [115]), ([], tkW [46]), ([], tkM [97]), ([32], tkW [97, 110, 100]), ([32], tkM [114]), ([], tkW [46]), ([], tkM [97]), ([32], tkW [60, 62]), ([32], tkM [115]), ([], tkW [46]), ([], tkM [98]), ([32], tkW [43]), ([32], tkD 100), ([], tkW [41]), ([32], tkW [115, 101, 108, 101, 99, 116]), ([32], tkM [114]), ([], tkW [46]), ([], tkM [97]), ([], tkW [44]), ([32], tkM [114]), ([], tkW [46]), ([], tkM [98]), ([32], tkW [102, 114, 111, 109]), ([32], tkM [114]), ([32], tkM [114])]
theorem rL1_tok : TokL rL1 := tokL_of (by kernel_rfl)
theorem rL2_tok : TokL rL2 := tokL_of (by kernel_rfl)
theorem rL1_fit : FitT rL1 := fit_of (by kernel_rfl)
theorem rL2_fit : FitT rL2 := fit_of (by kernel_rfl)
theorem rL3_fit : FitT rL3 := fit_of (by kernel_rfl)
theorem rL3_tok : TokL rL3 := fun x hx => by
  have h : (rL3.all fun x => okTk x || (x.1 == [32] && x.2.text.data.toList == dig 100 && x.2.kind == 3 && x.2.value == 100)) = true := by kernel_rfl
  have := List.all_eq_true.1 h x hx
  simp only [Bool.or_eq_true, Bool.and_eq_true, beq_iff_eq] at this
  rcases this with h | ⟨⟨⟨h1, h2⟩, h3⟩, h4⟩
  · exact okTk_tok h
  · obtain ⟨bl, pl, kd, tx, vl⟩ := x
    obtain ⟨⟨tl⟩⟩ := tx
    simp only at h1 h2 h3 h4
    subst h1 h2 h3 h4
    obtain ⟨q1, q2⟩ : IsTok (tkD 100) ∧ True := ⟨tok_dig (by decide), trivial⟩
    refine ⟨b_32, ?_⟩
    cases q1 with
    | word _ _ _ hk => exact absurd hk (by decide)
    | name _ _ _ _ hk => exact absurd hk (by decide)
    | sign _ hk => exact absurd hk (by decide)
    | num a b c hk => exact .num a b c rfl
section
variable (pl : Nat → Nat) (rows : Rws')
set_option maxRecDepth 100000
theorem ra_ok : okQ pl rL1 = true := by kernel_rfl
theorem ra_wth : (qOf pl rL1).wth = some (wthOf (qOf pl rL1)) := by kernel_rfl
theorem ra_fine : wFineB [tR rows] (wthOf (qOf pl rL1)) = true := by kernel_rfl
theorem ra_main : fineB ([tR rows] ++ [newT (wthOf (qOf pl rL1))]) (qOf pl rL1).main = true := by kernel_rfl
theorem ra_one1 : OneS [tR rows] (wthOf (qOf pl rL1)).first 0 (fun r => [r.getD 0 0, r.getD 1 0]) (fun _ => true) := ⟨⟨⟨#[120]⟩, by kernel_rfl⟩, fun r => by kernel_rfl, fun r => by kernel_rfl⟩
theorem ra_two : TwoS ([tR rows] ++ [newT (wthOf (qOf pl rL1))]) (wthOf (qOf pl rL1)).second 1 0 (fun r => [r.getD 0 0, r.getD 3 0]) (fun r => (r.getD 1 0 == r.getD 2 0) && true) := ⟨⟨⟨#[114]⟩, ⟨#[120]⟩, 2, by kernel_rfl⟩, fun r => by kernel_rfl, fun r => by kernel_rfl⟩
theorem ra_one3 : OneS ([tR rows] ++ [newT (wthOf (qOf pl rL1))]) (qOf pl rL1).main 1 (fun r => [r.getD 0 0, r.getD 1 0]) (fun _ => true) := ⟨⟨⟨#[114]⟩, by kernel_rfl⟩, fun r => by kernel_rfl, fun r => by kernel_rfl⟩
theorem rb_ok : okQ pl rL2 = true := by kernel_rfl
theorem rb_wth : (qOf pl rL2).wth = some (wthOf (qOf pl rL2)) := by kernel_rfl
theorem rb_fine : wFineB [tR rows] (wthOf (qOf pl rL2)) = true := by kernel_rfl
theorem rb_main : fineB ([tR rows] ++ [newT (wthOf (qOf pl rL2))]) (qOf pl rL2).main = true := by kernel_rfl
theorem rb_one1 : OneS [tR rows] (wthOf (qOf pl rL2)).first 0 (fun r => [r.getD 0 0, r.getD 1 0]) (fun _ => true) := ⟨⟨⟨#[120]⟩, by kernel_rfl⟩, fun r => by kernel_rfl, fun r => by kernel_rfl⟩
theorem rb_two : TwoS ([tR rows] ++ [newT (wthOf (qOf pl rL2))]) (wthOf (qOf pl rL2)).second 0 1 (fun r => [r.getD 0 0, r.getD 3 0]) (fun r => (r.getD 1 0 == r.getD 2 0) && true) := ⟨⟨⟨#[120]⟩, ⟨#[114]⟩, 2, by kernel_rfl⟩, fun r => by kernel_rfl, fun r => by kernel_rfl⟩
theorem rb_one3 : OneS ([tR rows] ++ [newT (wthOf (qOf pl rL2))]) (qOf pl rL2).main 1 (fun r => [r.getD 0 0, r.getD 1 0]) (fun _ => true) := ⟨⟨⟨#[114]⟩, by kernel_rfl⟩, fun r => by kernel_rfl, fun r => by kernel_rfl⟩
theorem rc_ok : okQ pl rL3 = true := by kernel_rfl
theorem rc_wth : (qOf pl rL3).wth = some (wthOf (qOf pl rL3)) := by kernel_rfl
theorem rc_fine : wFineB [tR rows] (wthOf (qOf pl rL3)) = true := by kernel_rfl
theorem rc_main : fineB ([tR rows] ++ [newT (wthOf (qOf pl rL3))]) (qOf pl rL3).main = true := by kernel_rfl
theorem rc_one1 : OneS [tR rows] (wthOf (qOf pl rL3)).first 0 (fun r => [r.getD 0 0, r.getD 1 0]) (fun _ => true) := ⟨⟨⟨#[120]⟩, by kernel_rfl⟩, fun r => by kernel_rfl, fun r => by kernel_rfl⟩
theorem rc_two : TwoS ([tR rows] ++ [newT (wthOf (qOf pl rL3))]) (wthOf (qOf pl rL3)).second 1 1 (fun r => [r.getD 0 0, r.getD 3 0]) (fun r => (r.getD 1 0 == r.getD 2 0) && ((r.getD 0 0 != wrap64 (r.getD 3 0 + 100)) && true)) := ⟨⟨⟨#[114]⟩, ⟨#[115]⟩, 2, by kernel_rfl⟩, fun r => by kernel_rfl, fun r => by kernel_rfl⟩
theorem rc_one3 : OneS ([tR rows] ++ [newT (wthOf (qOf pl rL3))]) (qOf pl rL3).main 1 (fun r => [r.getD 0 0, r.getD 1 0]) (fun _ => true) := ⟨⟨⟨#[114]⟩, by kernel_rfl⟩, fun r => by kernel_rfl, fun r => by kernel_rfl⟩
end
end Go.Proofs.YtfkeddkfegaeiaaGreatDoor
namespace Go.Proofs.YtfkeddkfegaeiaaGreatDoor
open Go.RowKit
/-- what can be reached. -/
inductive Rc (rows : Rws') : Int → Int → Prop
  | one {a b : Int} : [a, b] ∈ rows → Rc rows a b
  | step {a b c : Int} : Rc rows a b → Rc rows b c → Rc rows a c
theorem Rc.ends {rows : Rws'} {a b : Int} (h : Rc rows a b) : (∃ r ∈ rows, r.getD 0 0 = a) ∧ ∃ r ∈ rows, r.getD 1 0 = b := by
  induction h with
  | one h => exact ⟨⟨_, h, rfl⟩, _, h, rfl⟩
  | step _ _ ih1 ih2 => exact ⟨ih1.1, ih2.2⟩
theorem Sm.second {n : Int} {rows : Rws'} (h : Sm n rows) {r : List Int} (hr : r ∈ rows) : 0 ≤ r.getD 1 0 ∧ r.getD 1 0 < n := by
  obtain ⟨a, b, rfl, -, -, h3, h4⟩ := h r hr
  exact ⟨h3, h4⟩
theorem Rc.in {rows : Rws'} (hs : Sm 10 rows) {a b : Int} (h : Rc rows a b) : (0 ≤ a ∧ a < 10) ∧ 0 ≤ b ∧ b < 10 := by
  obtain ⟨⟨r, h1, rfl⟩, q, h2, rfl⟩ := h.ends
  exact ⟨hs.first h1, hs.second h2⟩
/-- the pairs of what can be reached. -/
def RcP (rows : Rws') (r : List Int) : Prop := ∃ a b, r = [a, b] ∧ Rc rows a b
theorem sum_const {α : Type} (l : List α) (c : Nat) : (l.map fun _ => c).sum = l.length * c := by
  induction l with
  | nil => simp
  | cons x l ih => rw [List.map_cons, List.sum_cons, ih, List.length_cons, Nat.succ_mul]; omega
theorem few_pairs {rows m : Rws'} (ho : OrdS m) (h : ∀ r ∈ m, RcP rows r) : m.length ≤ rows.length * rows.length := by
  have := len_sub (m := rows.flatMap fun p => rows.map fun q => [p.getD 0 0, q.getD 1 0]) ho.nodup fun r hr => by
    obtain ⟨a, b, rfl, hab⟩ := h r hr
    obtain ⟨⟨p, h1, rfl⟩, q, h2, rfl⟩ := hab.ends
    exact List.mem_flatMap.2 ⟨p, h1, List.mem_map.2 ⟨q, h2, rfl⟩⟩
  have e : (rows.flatMap fun p => rows.map fun q => [p.getD 0 0, q.getD 1 0]).length = rows.length * rows.length := by
    rw [List.length_flatMap]
    simp only [List.length_map]
    exact sum_const rows _
  omega
theorem few_100p {rows m : Rws'} (hs : Sm 10 rows) (ho : OrdS m) (h : ∀ r ∈ m, RcP rows r) : m.length ≤ 100 := by
  have := len_sub (m := (List.range 10).flatMap fun (i : Nat) => (List.range 10).map fun (j : Nat) => [(i : Int), (j : Int)]) ho.nodup fun r hr => by
    obtain ⟨a, b, rfl, hab⟩ := h r hr
    have := hab.in hs
    exact List.mem_flatMap.2 ⟨a.toNat, List.mem_range.2 (by omega), List.mem_map.2 ⟨b.toNat, List.mem_range.2 (by omega), by rw [Int.toNat_of_nonneg this.1.1, Int.toNat_of_nonneg this.2.1]⟩⟩
  have e : ((List.range 10).flatMap fun (i : Nat) => (List.range 10).map fun (j : Nat) => [(i : Int), (j : Int)]).length = 100 := by rfl
  omega
theorem map_pairs {m : Rws'} (h : ∀ r ∈ m, ∃ a b : Int, r = [a, b]) : (m.map fun r => [r.getD 0 0, r.getD 1 0]) = m := by
  conv => rhs; rw [← List.map_id m]
  refine List.map_congr_left fun r hr => ?_
  obtain ⟨a, b, rfl⟩ := h r hr
  rfl
/-- a with whose second select joins pairs comes to what can be reached. -/
theorem r_whole {rows : Rws'} (hs : Sm 10 rows) (hl : rows.length ≤ 30) {x : WithX} {y : SelX} (h1 : OneS [tR rows] x.first 0 (fun r => [r.getD 0 0, r.getD 1 0]) (fun _ => true)) (h3 : OneS ([tR rows] ++ [newT x]) y 1 (fun r => [r.getD 0 0, r.getD 1 0]) (fun _ => true))
    (hN : ∀ m, OrdS m → (∀ r ∈ m, RcP rows r) → selN ([tR rows] ++ [newT x]) ([tR rows] ++ [withT x m]) x.second ≤ 4000)
    (hin : ∀ m, (∀ r ∈ m, RcP rows r) → ∀ r ∈ selL ([tR rows] ++ [newT x]) ([tR rows] ++ [withT x m]) x.second, RcP rows r)
    (hall : ∀ m, (∀ r ∈ m, RcP rows r) → (∀ r ∈ rows, r ∈ m) → (∀ r ∈ selL ([tR rows] ++ [newT x]) ([tR rows] ++ [withT x m]) x.second, r ∈ m) → ∀ a b, Rc rows a b → [a, b] ∈ m) :
    ∃ m, wholeR [tR rows] x y = some m ∧ OrdS m ∧ ∀ r, r ∈ m ↔ RcP rows r := by
  have n1 := h1.num [tR rows]
  have r1 := h1.rows [tR rows]
  have n3 := fun m => h3.num ([tR rows] ++ [withT x m])
  have r3 := fun m => h3.rows ([tR rows] ++ [withT x m])
  have g0 : ([tR rows].getD 0 tb0).rows = rows := rfl
  have g1 : ∀ m, (([tR rows] ++ [withT x m]).getD 1 tb0).rows = m := fun m => rfl
  have hpr : ∀ r ∈ rows, ∃ a b : Int, r = [a, b] := fun r hr => by obtain ⟨a, b, e, -⟩ := hs r hr; exact ⟨a, b, e⟩
  simp only [g0, filter_all, map_pairs hpr] at n1 r1
  simp only [g1, filter_all] at n3 r3
  obtain ⟨m, e, ho, hp, hb, hc⟩ := growR_closed (P := RcP rows) (N1 := selN [tR rows] [tR rows] x.first) (l1 := selL [tR rows] [tR rows] x.first) (N2 := fun m => selN ([tR rows] ++ [newT x]) ([tR rows] ++ [withT x m]) x.second) (l2 := fun m => selL ([tR rows] ++ [newT x]) ([tR rows] ++ [withT x m]) x.second)
    (by rw [n1]; omega) (fun r hr => by
      rw [r1] at hr
      obtain ⟨a, b, rfl⟩ := hpr r hr
      exact ⟨a, b, rfl, .one hr⟩) hin hN (fun m ho hp => by have := few_100p hs ho hp; omega)
  rw [r1] at hb
  have hm1 := few_100p hs ho hp
  refine ⟨m, ?_, ho, fun r => ⟨hp r, ?_⟩⟩
  · rw [wholeR_some (m := m) e, n3, r3, if_neg (by omega), map_pairs fun r hr => by obtain ⟨a, b, rfl, -⟩ := hp r hr; exact ⟨a, b, rfl⟩]
  · rintro ⟨a, b, rfl, hab⟩
    exact hall m hp hb hc a b hab
theorem beq_true {a b : Int} : ((a == b) && true) = true ↔ a = b := by simp
section
variable (pl : Nat → Nat) {rows : Rws'} (hs : Sm 10 rows)
include hs
theorem ra_whole (hl : rows.length ≤ 30) : ∃ m, wholeR [tR rows] (wthOf (qOf pl rL1)) (qOf pl rL1).main = some m ∧ OrdS m ∧ ∀ r, r ∈ m ↔ RcP rows r := by
  have n2 := fun m => (ra_two pl rows).num ([tR rows] ++ [withT (wthOf (qOf pl rL1)) m])
  have r2 := fun m r => (ra_two pl rows).mem ([tR rows] ++ [withT (wthOf (qOf pl rL1)) m]) r
  have g0 : ∀ m, (([tR rows] ++ [withT (wthOf (qOf pl rL1)) m]).getD 0 tb0).rows = rows := fun m => rfl
  have g1 : ∀ m, (([tR rows] ++ [withT (wthOf (qOf pl rL1)) m]).getD 1 tb0).rows = m := fun m => rfl
  simp only [g0, g1, beq_true] at n2 r2
  refine r_whole hs hl (ra_one1 pl rows) (ra_one3 pl rows) (fun m ho hp => ?_) (fun m hp r hr => ?_) (fun m hp hb hc => ?_)
  · rw [n2]
    have := few_100p hs ho hp
    exact Nat.le_trans (Nat.mul_le_mul this hl) (by omega)
  · rw [r2] at hr
    obtain ⟨p, h1, q, h2, h3, rfl⟩ := hr
    obtain ⟨a, b, rfl, hab⟩ := hp p h1
    obtain ⟨c, d, rfl, -⟩ := hs q h2
    obtain rfl : b = c := h3
    exact ⟨a, d, rfl, .step hab (.one h2)⟩
  · have hj : ∀ b c, Rc rows b c → ∀ a, [a, b] ∈ m → [a, c] ∈ m := fun b c h => by
      induction h with
      | @one b c h => exact fun a ha => hc _ ((r2 _ _).2 ⟨[a, b], ha, [b, c], h, rfl, rfl⟩)
      | step _ _ ih1 ih2 => exact fun a ha => ih2 a (ih1 a ha)
    intro a b h
    induction h with
    | one h => exact hb _ h
    | step _ h2 ih1 _ => exact hj _ _ h2 _ ih1
theorem rb_whole (hl : rows.length ≤ 30) : ∃ m, wholeR [tR rows] (wthOf (qOf pl rL2)) (qOf pl rL2).main = some m ∧ OrdS m ∧ ∀ r, r ∈ m ↔ RcP rows r := by
  have n2 := fun m => (rb_two pl rows).num ([tR rows] ++ [withT (wthOf (qOf pl rL2)) m])
  have r2 := fun m r => (rb_two pl rows).mem ([tR rows] ++ [withT (wthOf (qOf pl rL2)) m]) r
  have g0 : ∀ m, (([tR rows] ++ [withT (wthOf (qOf pl rL2)) m]).getD 0 tb0).rows = rows := fun m => rfl
  have g1 : ∀ m, (([tR rows] ++ [withT (wthOf (qOf pl rL2)) m]).getD 1 tb0).rows = m := fun m => rfl
  simp only [g0, g1, beq_true] at n2 r2
  refine r_whole hs hl (rb_one1 pl rows) (rb_one3 pl rows) (fun m ho hp => ?_) (fun m hp r hr => ?_) (fun m hp hb hc => ?_)
  · rw [n2]
    have := few_100p hs ho hp
    exact Nat.le_trans (Nat.mul_le_mul hl this) (by omega)
  · rw [r2] at hr
    obtain ⟨p, h1, q, h2, h3, rfl⟩ := hr
    obtain ⟨c, d, rfl, hcd⟩ := hp q h2
    obtain ⟨a, b, rfl, -⟩ := hs p h1
    obtain rfl : b = c := h3
    exact ⟨a, d, rfl, .step (.one h1) hcd⟩
  · have hj : ∀ a b, Rc rows a b → ∀ c, [b, c] ∈ m → [a, c] ∈ m := fun a b h => by
      induction h with
      | @one a b h => exact fun c hc' => hc _ ((r2 _ _).2 ⟨[a, b], h, [b, c], hc', rfl, rfl⟩)
      | step _ _ ih1 ih2 => exact fun c hc' => ih1 c (ih2 c hc')
    intro a b h
    induction h with
    | one h => exact hb _ h
    | step h1 _ _ ih2 => exact hj _ _ h1 _ ih2
theorem rc_whole (hl : rows.length ≤ 6) : ∃ m, wholeR [tR rows] (wthOf (qOf pl rL3)) (qOf pl rL3).main = some m ∧ OrdS m ∧ ∀ r, r ∈ m ↔ RcP rows r := by
  have n2 := fun m => (rc_two pl rows).num ([tR rows] ++ [withT (wthOf (qOf pl rL3)) m])
  have r2 := fun m r => (rc_two pl rows).mem ([tR rows] ++ [withT (wthOf (qOf pl rL3)) m]) r
  have g1 : ∀ m, (([tR rows] ++ [withT (wthOf (qOf pl rL3)) m]).getD 1 tb0).rows = m := fun m => rfl
  simp only [g1, Bool.and_eq_true, beq_iff_eq, and_true] at n2 r2
  refine r_whole hs (by omega) (rc_one1 pl rows) (rc_one3 pl rows) (fun m ho hp => ?_) (fun m hp r hr => ?_) (fun m hp hb hc => ?_)
  · rw [n2]
    have h1 := few_pairs ho hp
    have h2 : m.length ≤ 36 := Nat.le_trans h1 (Nat.mul_le_mul hl hl)
    exact Nat.le_trans (Nat.mul_le_mul h2 h2) (by omega)
  · rw [r2] at hr
    obtain ⟨p, h1, q, h2, ⟨h3, -⟩, rfl⟩ := hr
    obtain ⟨a, b, rfl, hab⟩ := hp p h1
    obtain ⟨c, d, rfl, hcd⟩ := hp q h2
    obtain rfl : b = c := h3
    exact ⟨a, d, rfl, .step hab hcd⟩
  · intro a b h
    induction h with
    | one h => exact hb _ h
    | @step a b c h1 h2 ih1 ih2 =>
      refine hc _ ((r2 _ _).2 ⟨[a, b], ih1, [b, c], ih2, ⟨rfl, ?_⟩, rfl⟩)
      have e1 := h1.in hs
      have e2 := h2.in hs
      show (a != wrap64 (c + 100)) = true
      rw [wrap_small (by omega) (by omega)]
      simp
      omega
end
inductive PtR (rows : Rws') (k : Nat) : Nat → Nat → Prop
  | one {a b : Nat} : [(a : Int), (b : Int)] ∈ rows → PtR rows k a b
  | step {a c b : Nat} : c < k → PtR rows k a c → PtR rows k c b → PtR rows k a b
theorem PtR.split {rows : Rws'} {k a b : Nat} (h : PtR rows (k + 1) a b) : PtR rows k a b ∨ (PtR rows k a k ∧ PtR rows k k b) := by
  induction h with
  | one h => exact Or.inl (.one h)
  | @step a c b hc _ _ ih1 ih2 =>
    by_cases e : c = k
    · subst e
      refine Or.inr ⟨?_, ?_⟩
      · rcases ih1 with h | h
        · exact h
        · exact h.1
      · rcases ih2 with h | h
        · exact h
        · exact h.2
    · have hk : c < k := by omega
      rcases ih1 with h1 | h1 <;> rcases ih2 with h2 | h2
      · exact Or.inl (.step hk h1 h2)
      · exact Or.inr ⟨.step hk h1 h2.1, h2.2⟩
      · exact Or.inr ⟨h1.1, .step hk h1.2 h2⟩
      · exact Or.inr ⟨h1.1, h2.2⟩
theorem Rc.pt {rows : Rws'} (hs : Sm 10 rows) {a b : Int} (h : Rc rows a b) : PtR rows 10 a.toNat b.toNat := by
  induction h with
  | @one a b h =>
    have := (Rc.one h).in hs
    refine .one ?_
    rw [Int.toNat_of_nonneg this.1.1, Int.toNat_of_nonneg this.2.1]
    exact h
  | step h1 _ ih1 ih2 =>
    have := h1.in hs
    exact .step (by omega) ih1 ih2
theorem PtR.zero {rows : Rws'} {a b : Nat} (h : PtR rows 0 a b) : [(a : Int), (b : Int)] ∈ rows := by
  cases h with
  | one h => exact h
  | step h _ _ => omega
end Go.Proofs.YtfkeddkfegaeiaaGreatDoor
namespace Go.Proofs.YtfkeddkfegaeiaaGreatDoor
open Go.RowKit
/-- a hundred marks: all of a set L, none outside of U. -/
structure CanI (h : List Bool) (L U : Nat → Nat → Prop) : Prop where
  len : h.length = 100
  low : ∀ i j, i < 10 → j < 10 → L i j → h[i * 10 + j]? = some true
  up : ∀ i j, i < 10 → j < 10 → h[i * 10 + j]? = some true → U i j
theorem CanI.start (U : Nat → Nat → Prop) : CanI (List.replicate 100 false) (fun _ _ => False) U := ⟨by simp, fun i j _ _ h => h.elim, fun i j hi hj h => by
  rw [List.getElem?_replicate, if_pos (by omega)] at h
  simp at h⟩
theorem idx_ne {i j a b : Nat} (hj : j < 10) (hb : b < 10) (h : a * 10 + b = i * 10 + j) : a = i ∧ b = j := by omega
/-- one more is marked. -/
theorem CanI.mark {h : List Bool} {L U : Nat → Nat → Prop} (hh : CanI h L U) {a b : Nat} (ha : a < 10) (hb : b < 10) (hu : U a b) : CanI (h.set (a * 10 + b) true) (fun i j => L i j ∨ (i = a ∧ j = b)) U := by
  refine ⟨by rw [List.length_set]; exact hh.len, fun i j hi hj hl => ?_, fun i j hi hj hg => ?_⟩
  · rw [List.getElem?_set]
    by_cases e : a * 10 + b = i * 10 + j
    · rw [if_pos e, if_pos (by rw [hh.len]; omega)]
    · rw [if_neg e]
      rcases hl with hl | ⟨rfl, rfl⟩
      · exact hh.low i j hi hj hl
      · exact (e rfl).elim
  · rw [List.getElem?_set] at hg
    by_cases e : a * 10 + b = i * 10 + j
    · obtain ⟨rfl, rfl⟩ := idx_ne hj hb e
      exact hu
    · rw [if_neg e] at hg
      exact hh.up i j hi hj hg
/-- a mark is made anew, as it should be. -/
theorem CanI.put {h : List Bool} {L U : Nat → Nat → Prop} (hh : CanI h L U) {a b : Nat} (ha : a < 10) (hb : b < 10) {v : Bool} (hv : v = true → U a b) (hk : h[a * 10 + b]? = some true → v = true) {L' : Nat → Nat → Prop} (hL : ∀ i j, i < 10 → j < 10 → L' i j → L i j ∨ (i = a ∧ j = b ∧ v = true)) : CanI (h.set (a * 10 + b) v) L' U := by
  refine ⟨by rw [List.length_set]; exact hh.len, fun i j hi hj hl => ?_, fun i j hi hj hg => ?_⟩
  · rw [List.getElem?_set]
    by_cases e : a * 10 + b = i * 10 + j
    · obtain ⟨rfl, rfl⟩ := idx_ne hj hb e
      rw [if_pos rfl, if_pos (by rw [hh.len]; omega)]
      rcases hL _ _ hi hj hl with h1 | ⟨-, -, h1⟩
      · rw [hk (hh.low _ _ hi hj h1)]
      · rw [h1]
    · rw [if_neg e]
      rcases hL i j hi hj hl with h1 | ⟨rfl, rfl, -⟩
      · exact hh.low i j hi hj h1
      · exact (e rfl).elim
  · rw [List.getElem?_set] at hg
    by_cases e : a * 10 + b = i * 10 + j
    · obtain ⟨rfl, rfl⟩ := idx_ne hj hb e
      rw [if_pos rfl, if_pos (by rw [hh.len]; omega)] at hg
      exact hv (by simpa using hg)
    · rw [if_neg e] at hg
      exact hh.up i j hi hj hg
theorem CanI.weak {h : List Bool} {L L' U : Nat → Nat → Prop} (hh : CanI h L U) (e : ∀ i j, i < 10 → j < 10 → L' i j → L i j) : CanI h L' U := ⟨hh.len, fun i j hi hj hl => hh.low i j hi hj (e i j hi hj hl), hh.up⟩
/-- what is marked in round k, when so many are done. -/
def RdK (rows : Rws') (k n : Nat) (i j : Nat) : Prop := PtR rows k i j ∨ (i * 10 + j < n ∧ PtR rows (k + 1) i j)
def RcU (rows : Rws') (i j : Nat) : Prop := Rc rows i j
theorem can_round {h : List Bool} {rows : Rws'} {k i j : Nat} (hk : k < 10) (hi : i < 10) (hj : j < 10) (hh : CanI h (RdK rows k (i * 10 + j)) (RcU rows)) {x y z : Bool} (hx : h[i * 10 + j]? = some x) (hy : h[i * 10 + k]? = some y) (hz : h[k * 10 + j]? = some z) : CanI (h.set (i * 10 + j) (x || (y && z))) (RdK rows k (i * 10 + j + 1)) (RcU rows) := by
  refine hh.put hi hj (fun hv => ?_) (fun e => ?_) fun a b ha hb hl => ?_
  · rw [Bool.or_eq_true, Bool.and_eq_true] at hv
    rcases hv with rfl | ⟨rfl, rfl⟩
    · exact hh.up _ _ hi hj hx
    · exact Rc.step (hh.up _ _ hi hk hy) (hh.up _ _ hk hj hz)
  · rw [hx] at e
    injection e with e
    rw [e]; rfl
  · rcases hl with hl | ⟨hn, hl⟩
    · exact Or.inl (Or.inl hl)
    · by_cases e : a * 10 + b < i * 10 + j
      · exact Or.inl (Or.inr ⟨e, hl⟩)
      · rcases hl.split with h1 | ⟨h1, h2⟩
        · exact Or.inl (Or.inl h1)
        · obtain ⟨rfl, rfl⟩ := idx_ne (i := i) (j := j) (a := a) (b := b) hj hb (by omega)
          have e1 := hh.low _ _ hi hk (Or.inl h1)
          have e2 := hh.low _ _ hk hj (Or.inl h2)
          rw [hy] at e1
          rw [hz] at e2
          injection e1 with e1
          injection e2 with e2
          exact Or.inr ⟨rfl, rfl, by rw [e1, e2]; simp⟩
/-- the rows that are wanted, of the first marks. -/
def wantQ (h : List Bool) (k : Nat) : Rws' := ((List.range k).filter fun i => h.getD i false).map fun (i : Nat) => [((i / 10 : Nat) : Int), ((i % 10 : Nat) : Int)]
theorem wantQ_succ (h : List Bool) (k : Nat) : wantQ h (k + 1) = wantQ h k ++ if h.getD k false = true then [[((k / 10 : Nat) : Int), ((k % 10 : Nat) : Int)]] else [] := by
  unfold wantQ
  rw [List.range_succ, List.filter_append, List.map_append]
  congr 1
  by_cases e : h.getD k false = true
  · rw [List.filter_cons, if_pos e, if_pos e]; rfl
  · rw [List.filter_cons, if_neg e, if_neg e]; rfl
theorem wantQ_len (h : List Bool) (k : Nat) : (wantQ h k).length ≤ k := by
  unfold wantQ
  rw [List.length_map]
  exact Nat.le_trans (List.length_filter_le _ _) (by simp)
theorem cmpL_two {a b c d : Int} (h : a < c ∨ (a = c ∧ b < d)) : cmpL [a, b] [c, d] < 0 := by
  unfold cmpL
  rcases h with h | ⟨rfl, h⟩
  · have : cmpI a c < 0 := by unfold cmpI; split <;> omega
    rw [if_neg (by omega)]
    exact this
  · have : cmpI a a = 0 := by unfold cmpI; rw [if_neg (by omega), if_neg (by omega)]
    rw [if_pos this]
    unfold cmpL
    have : cmpI b d < 0 := by unfold cmpI; split <;> omega
    rw [if_neg (by omega)]
    exact this
theorem wantQ_ord (h : List Bool) (k : Nat) : OrdS (wantQ h k) := by
  unfold OrdS wantQ
  rw [List.pairwise_map]
  exact (List.Pairwise.filter _ List.pairwise_lt_range).imp fun {a b} hab => cmpL_two (by omega)
theorem wantQ_eq {h : List Bool} {rows : Rws'} (hs : Sm 10 rows) (hh : CanI h (PtR rows 10) (RcU rows)) {m : Rws'} (ho : OrdS m) (hm : ∀ r, r ∈ m ↔ RcP rows r) : m = wantQ h 100 := by
  refine ss_ext ho (wantQ_ord h 100) fun r => ?_
  rw [hm]
  unfold wantQ
  rw [List.mem_map]
  constructor
  · rintro ⟨a, b, rfl, hab⟩
    have h1 := hab.in hs
    have h2 := hh.low a.toNat b.toNat (by omega) (by omega) (hab.pt hs)
    refine ⟨a.toNat * 10 + b.toNat, List.mem_filter.2 ⟨List.mem_range.2 (by omega), ?_⟩, ?_⟩
    · rw [List.getD_eq_getElem?_getD, h2]
      rfl
    · rw [show (a.toNat * 10 + b.toNat) / 10 = a.toNat by omega, show (a.toNat * 10 + b.toNat) % 10 = b.toNat by omega, Int.toNat_of_nonneg h1.1.1, Int.toNat_of_nonneg h1.2.1]
  · rintro ⟨k, hk, rfl⟩
    rw [List.mem_filter, List.mem_range] at hk
    refine ⟨_, _, rfl, hh.up (k / 10) (k % 10) (by omega) (by omega) ?_⟩
    rw [show k / 10 * 10 + k % 10 = k by omega]
    have h1 : k < h.length := by rw [hh.len]; exact hk.1
    have := hk.2
    rw [List.getD_eq_getElem?_getD, List.getElem?_eq_getElem h1] at this
    rw [List.getElem?_eq_getElem h1]
    simpa using this
end Go.Proofs.YtfkeddkfegaeiaaGreatDoor
