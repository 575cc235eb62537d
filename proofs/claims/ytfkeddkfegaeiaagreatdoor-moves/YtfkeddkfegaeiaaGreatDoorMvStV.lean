/-
  Part 47.
-/
import Derived.Test.YtfkeddkfegaeiaaGreatDoorMvStU
import Derived.Test.YtfkeddkfegaeiaaGreatDoorMvTkB
namespace Go.Proofs.YtfkeddkfegaeiaaGreatDoor
open Go.RowKit
def mP1 : List (List UInt8 × Tk) := [([], tkW [115, 101, 108, 101, 99, 116]), ([32], tkM [120]), ([], tkW [46]), ([], tkM [98]), ([], tkW [44]), ([32], tkM [120]), ([], tkW [46]), ([], tkM [97]), ([], tkW [44]), ([32], tkW [114, 111, 119, 95, 110, 117, 109, 98, 101, 114]), ([], tkW [40]), ([], tkW [41]), ([32], tkW [111, 118, 101, 114]), ([32], tkW [40]), ([], tkW [112, 97, 114, 116, 105, 116, 105, 111, 110]), ([32], tkW [98, 121]), ([32], tkM [120]), ([], tkW [46]), ([], tkM [97]), ([32], tkW [111, 114, 100, 101, 114]), ([32], tkW [98, 121]), ([32], tkM [120]), ([], tkW [46]), ([], tkM [98]), ([], tkW [41]), ([], tkW [44]), ([32], tkW [99, 111, 117, 110, 116]), ([], tkW [40]), ([], tkW [41]), ([32], tkW [111, 118, 101, 114]), ([32], tkW [40]), ([], tkW [112, 97, 114, 116, 105, 116, 105, 111, 110]), ([32], tkW [98, 121]), ([32], tkM [120]), ([], tkW [46]), ([], tkM [97]), ([32], tkW [111, 114, 100, 101, 114]), ([32], tkW [98, 121]), ([32], tkM [120]), ([], tkW [46]), ([], tkM [98]), ([32], tkW [114, 111, 119, 115])]
def mP2 : List (List UInt8 × Tk) := [([32], tkW [112, 114, 101, 99, 101, 100, 105, 110, 103]), ([], tkW [41]), ([], tkW [44]), ([32], tkW [115, 117, 109]), ([], tkW [40]), ([], tkM [120]), ([], tkW [46]), ([], tkM [99]), ([], tkW [41]), ([32], tkW [111, 118, 101, 114]), ([32], tkW [40]), ([], tkW [112, 97, 114, 116, 105, 116, 105, 111, 110]), ([32], tkW [98, 121]), ([32], tkM [120]), ([], tkW [46]), ([], tkM [97]), ([32], tkW [111, 114, 100, 101, 114]), ([32], tkW [98, 121]), ([32], tkM [120]), ([], tkW [46]), ([], tkM [98]), ([32], tkW [114, 111, 119, 115])]
def mP3 : List (List UInt8 × Tk) := [([32], tkW [112, 114, 101, 99, 101, 100, 105, 110, 103]), ([], tkW [41]), ([], tkW [44]), ([32], tkW [109, 105, 110]), ([], tkW [40]), ([], tkM [120]), ([], tkW [46]), ([], tkM [99]), ([], tkW [41]), ([32], tkW [111, 118, 101, 114]), ([32], tkW [40]), ([], tkW [112, 97, 114, 116, 105, 116, 105, 111, 110]), ([32], tkW [98, 121]), ([32], tkM [120]), ([], tkW [46]), ([], tkM [97]), ([32], tkW [111, 114, 100, 101, 114]), ([32], tkW [98, 121]), ([32], tkM [120]), ([], tkW [46]), ([], tkM [98]), ([32], tkW [114, 111, 119, 115])]
def mP4 : List (List UInt8 × Tk) := [([32], tkW [112, 114, 101, 99, 101, 100, 105, 110, 103]), ([], tkW [41]), ([32], tkW [102, 114, 111, 109]), ([32], tkM [101]), ([32], tkM [120])]
def mQ1 : List (List UInt8 × Tk) := [([], tkW [115, 101, 108, 101, 99, 116]), ([32], tkM [120]), ([], tkW [46]), ([], tkM [98]), ([], tkW [44]), ([32], tkW [109, 97, 120]), ([], tkW [40]), ([], tkM [120]), ([], tkW [46]), ([], tkM [99]), ([], tkW [41]), ([32], tkW [111, 118, 101, 114]), ([32], tkW [40]), ([], tkW [112, 97, 114, 116, 105, 116, 105, 111, 110]), ([32], tkW [98, 121]), ([32], tkM [120]), ([], tkW [46]), ([], tkM [97]), ([32], tkW [111, 114, 100, 101, 114]), ([32], tkW [98, 121]), ([32], tkM [120]), ([], tkW [46]), ([], tkM [98]), ([32], tkW [114, 111, 119, 115])]
def mQ2 : List (List UInt8 × Tk) := [([32], tkW [112, 114, 101, 99, 101, 100, 105, 110, 103]), ([], tkW [41]), ([], tkW [44]), ([32], tkW [115, 117, 109]), ([], tkW [40]), ([], tkM [120]), ([], tkW [46]), ([], tkM [99]), ([], tkW [41]), ([32], tkW [111, 118, 101, 114]), ([32], tkW [40]), ([], tkW [111, 114, 100, 101, 114]), ([32], tkW [98, 121]), ([32], tkM [120]), ([], tkW [46]), ([], tkM [98]), ([], tkW [41]), ([32], tkW [102, 114, 111, 109]), ([32], tkM [101]), ([32], tkM [120])]
def mL1 (n : Nat) : List (List UInt8 × Tk) := mP1 ++ ([32], tkD n) :: (mP2 ++ ([32], tkD n) :: (mP3 ++ ([32], tkD n) :: mP4))
def mL2 (n : Nat) : List (List UInt8 × Tk) := mQ1 ++ ([32], tkD n) :: mQ2
theorem mL1_tok {n : Nat} (hn : n < 1000) : TokL (mL1 n) := tokL_app (tokL_of (by kernel_rfl)) (tokL_cons b_32 (tok_dig hn) (tokL_app (tokL_of (by kernel_rfl)) (tokL_cons b_32 (tok_dig hn) (tokL_app (tokL_of (by kernel_rfl)) (tokL_cons b_32 (tok_dig hn) (tokL_of (by kernel_rfl)))))))
theorem mL2_tok {n : Nat} (hn : n < 1000) : TokL (mL2 n) := tokL_app (tokL_of (by kernel_rfl)) (tokL_cons b_32 (tok_dig hn) (tokL_of (by kernel_rfl)))
theorem mL1_fit {n : Nat} : FitT (mL1 n) :=
  fit_app (l := mP1) (fit_of (by kernel_rfl)) ⟨gap_no, fit_app (l := mP2) (fit_of (by kernel_rfl)) ⟨gap_no, fit_app (l := mP3) (fit_of (by kernel_rfl)) ⟨gap_no, fit_of (l := mP4) (by kernel_rfl)⟩ (fun _ _ => gap_no)⟩ (fun _ _ => gap_no)⟩ (fun _ _ => gap_no)
theorem mL2_fit {n : Nat} : FitT (mL2 n) :=
  fit_app (l := mQ1) (fit_of (by kernel_rfl)) ⟨gap_no, fit_of (l := mQ2) (by kernel_rfl)⟩ (fun _ _ => gap_no)
/-- the table that is asked. -/
def tM (rows : Rws') : Tb := ⟨⟨#[101]⟩, [⟨#[97]⟩, ⟨#[98]⟩, ⟨#[99]⟩], rows⟩
def winQ (i : ItemA) : Option (Nat × Nat × Option Int) := i.win.map fun q => (q.part.length, q.ord.length, q.rows.map (·.value))
theorem winB_of {l : List ItemA} {m : List (Option (Nat × Nat × Option Int))} (h : l.map winQ = m) (hm : ∀ x ∈ m, ∀ a b v, x = some (a, b, v) → a ≤ 100 ∧ b ≤ 100 ∧ ∀ z, v = some z → 0 ≤ z ∧ z ≤ 9223372036854775807) : ∀ i ∈ l, ∀ q, i.win = some q → WinB q := fun i hi q hq => by
  have h1 : winQ i ∈ m := by rw [← h]; exact List.mem_map_of_mem hi
  obtain ⟨a1, a2, a3⟩ := hm _ h1 q.part.length q.ord.length (q.rows.map (·.value)) (by unfold winQ; rw [hq]; rfl)
  exact ⟨a1, a2, fun t ht => a3 t.value (by rw [ht]; rfl)⟩
abbrev Fcol (k : Nat) : List Int → Int := fun r => r.getD k 0
section
variable (pl : Nat → Nat) (n : Nat) (rows : Rws')
set_option maxRecDepth 100000
theorem m1_ok : okQ pl (mL1 n) = true := by kernel_rfl
theorem m2_ok : okQ pl (mL2 n) = true := by kernel_rfl
theorem m1_wth : (qOf pl (mL1 n)).wth = none := by kernel_rfl
theorem m2_wth : (qOf pl (mL2 n)).wth = none := by kernel_rfl
theorem m1_win : (qOf pl (mL1 n)).main.items.map winQ = [none, none, some (1, 1, none), some (1, 1, some (n : Int)), some (1, 1, some (n : Int)), some (1, 1, some (n : Int))] := by kernel_rfl
theorem m2_win : (qOf pl (mL2 n)).main.items.map winQ = [none, some (1, 1, some (n : Int)), some (0, 1, none)] := by kernel_rfl
theorem m1_len : (qOf pl (mL1 n)).main.items.length = 6 ∧ (qOf pl (mL1 n)).main.srcs.length = 1 ∧ (qOf pl (mL1 n)).main.tests = [] := ⟨by kernel_rfl, by kernel_rfl, by kernel_rfl⟩
theorem m2_len : (qOf pl (mL2 n)).main.items.length = 3 ∧ (qOf pl (mL2 n)).main.srcs.length = 1 ∧ (qOf pl (mL2 n)).main.tests = [] := ⟨by kernel_rfl, by kernel_rfl, by kernel_rfl⟩
theorem m1_fs : foldS [tM rows] (qOf pl (mL1 n)).main.srcs = ⟨[⟨⟨#[120]⟩, 0, 0⟩], 3, none⟩ := by kernel_rfl
theorem m2_fs : foldS [tM rows] (qOf pl (mL2 n)).main.srcs = ⟨[⟨⟨#[120]⟩, 0, 0⟩], 3, none⟩ := by kernel_rfl
theorem m1_er : (qOf pl (mL1 n)).main.items.foldl (fun a e => orE a (eoW [tM rows] e [⟨⟨#[120]⟩, 0, 0⟩])) none = none := by kernel_rfl
theorem m2_er : (qOf pl (mL2 n)).main.items.foldl (fun a e => orE a (eoW [tM rows] e [⟨⟨#[120]⟩, 0, 0⟩])) none = none := by kernel_rfl
theorem m1_fo : (qOf pl (mL1 n)).main.items.map (fun e => foW [tM rows] e [⟨⟨#[120]⟩, 0, 0⟩]) = [fun rs => rs.map (Fcol 1), fun rs => rs.map (Fcol 0), winF [Fcol 0] [Fcol 1] (fun _ => 0) (fun p _ => p) 9223372036854775807, winF [Fcol 0] [Fcol 1] (fun _ => 0) (fun _ f => (f.length : Int)) (n : Int), winF [Fcol 0] [Fcol 1] (Fcol 2) (fun _ f => sumW f) (n : Int), winF [Fcol 0] [Fcol 1] (Fcol 2) (fun _ f => minL f) (n : Int)] := by kernel_rfl
theorem m2_fo : (qOf pl (mL2 n)).main.items.map (fun e => foW [tM rows] e [⟨⟨#[120]⟩, 0, 0⟩]) = [fun rs => rs.map (Fcol 1), winF [Fcol 0] [Fcol 1] (Fcol 2) (fun _ f => maxL f) (n : Int), winF [] [Fcol 1] (Fcol 2) (fun _ f => sumW f) 9223372036854775807] := by kernel_rfl
end
end Go.Proofs.YtfkeddkfegaeiaaGreatDoor
namespace Go.Proofs.YtfkeddkfegaeiaaGreatDoor
open Go.RowKit
def aAt (rows : Rws') (i : Nat) : Int := (rows.getD i []).getD 0 0
def bAt (rows : Rws') (i : Nat) : Int := (rows.getD i []).getD 1 0
def cAt (rows : Rws') (i : Nat) : Int := (rows.getD i []).getD 2 0
/-- the rows' numbers by their second numbers, below b. -/
def ordI (rows : Rws') (b : Nat) : List Nat := (List.range b).flatMap fun (k : Nat) => (List.range rows.length).filter fun j => bAt rows j == (k : Int)
def vis (rows : Rws') (b i : Nat) : List Nat := ordI rows b ++ (List.range i).filter fun j => bAt rows j == (b : Int)
structure Dst (rows : Rws') : Prop where
  one : ∀ i j, i < rows.length → j < rows.length → bAt rows i = bAt rows j → i = j
  lo : ∀ i, i < rows.length → 0 ≤ bAt rows i ∧ bAt rows i < 41
theorem vis_zero (rows : Rws') (b : Nat) : vis rows b 0 = ordI rows b := by simp [vis]
theorem vis_full (rows : Rws') (b : Nat) : vis rows b rows.length = ordI rows (b + 1) := by
  unfold vis ordI
  rw [List.range_succ, List.flatMap_append]
  simp
theorem vis_yes {rows : Rws'} {b i : Nat} (h : bAt rows i = (b : Int)) : vis rows b (i + 1) = vis rows b i ++ [i] := by
  unfold vis
  rw [List.range_succ, List.filter_append, List.append_assoc]
  simp [h]
theorem vis_no {rows : Rws'} {b i : Nat} (h : bAt rows i ≠ (b : Int)) : vis rows b (i + 1) = vis rows b i := by
  unfold vis
  rw [List.range_succ, List.filter_append]
  simp [h]
theorem mem_ordI {rows : Rws'} {b j : Nat} : j ∈ ordI rows b ↔ j < rows.length ∧ 0 ≤ bAt rows j ∧ bAt rows j < (b : Int) := by
  unfold ordI
  rw [List.mem_flatMap]
  constructor
  · rintro ⟨k, hk, hj⟩
    rw [List.mem_filter, List.mem_range, beq_iff_eq] at hj
    have := List.mem_range.1 hk
    exact ⟨hj.1, by omega, by omega⟩
  · rintro ⟨h1, h2, h3⟩
    refine ⟨(bAt rows j).toNat, List.mem_range.2 (by omega), ?_⟩
    rw [List.mem_filter, List.mem_range, beq_iff_eq]
    exact ⟨h1, by omega⟩
theorem ord_srt {rows : Rws'} (hd : Dst rows) (b : Nat) : (ordI rows b).Pairwise fun i j => bAt rows i < bAt rows j := by
  unfold ordI
  rw [List.pairwise_flatMap]
  refine ⟨fun k _ => ?_, ?_⟩
  · refine List.Pairwise.imp_of_mem ?_ (List.Pairwise.filter _ List.pairwise_lt_range)
    intro i j hi hj hij
    rw [List.mem_filter, List.mem_range, beq_iff_eq] at hi hj
    have := hd.one i j hi.1 hj.1 (hi.2.trans hj.2.symm)
    omega
  · refine List.Pairwise.imp ?_ List.pairwise_lt_range
    intro k k' hk i hi j hj
    rw [List.mem_filter, List.mem_range, beq_iff_eq] at hi hj
    omega
theorem ord_at {rows : Rws'} (hd : Dst rows) {b i : Nat} (hi : i < rows.length) (hb : bAt rows i = (b : Int)) : ordI rows (b + 1) = vis rows b i ++ [i] := by
  rw [← vis_full]
  unfold vis
  rw [List.append_assoc]
  congr 1
  refine srt_one (T := fun a b : Nat => a < b) (fun x h => by omega) (fun x y z h1 h2 => by omega) _ _ (List.Pairwise.filter _ List.pairwise_lt_range) ?_ fun x => ?_
  · rw [List.pairwise_append]
    refine ⟨List.Pairwise.filter _ List.pairwise_lt_range, List.pairwise_singleton _ _, fun x hx y hy => ?_⟩
    rw [List.mem_filter, List.mem_range] at hx
    rw [List.mem_singleton] at hy
    omega
  · rw [List.mem_append, List.mem_filter, List.mem_filter, List.mem_range, List.mem_range, List.mem_singleton, beq_iff_eq]
    constructor
    · rintro ⟨h1, h2⟩
      exact Or.inr (hd.one x i h1 hi (h2.trans hb.symm))
    · rintro (⟨h1, h2⟩ | rfl)
      · exact ⟨by omega, h2⟩
      · exact ⟨hi, hb⟩
theorem cmp_one (x y : Int) : cmpL [x] [y] < 0 ↔ x < y := by
  show (if cmpI x y = 0 then (0 : Int) else cmpI x y) < 0 ↔ x < y
  unfold cmpI
  split <;> split <;> omega
theorem kt_same {rows : Rws'} {ps : List (List Int → Int)} {i j : Nat} (hp : (keyOf ps [Fcol 1] rows i).1 = (keyOf ps [Fcol 1] rows j).1) : KT (keyOf ps [Fcol 1] rows i) (keyOf ps [Fcol 1] rows j) ↔ bAt rows i < bAt rows j ∨ (bAt rows i = bAt rows j ∧ i < j) := by
  unfold KT
  rw [hp, cmpL_self]
  show ((0 : Int) < 0 ∨ ((keyOf ps [Fcol 1] rows j).1 = (keyOf ps [Fcol 1] rows j).1 ∧ (cmpL [bAt rows i] [bAt rows j] < 0 ∨ ([bAt rows i] = [bAt rows j] ∧ i < j)))) ↔ _ 
  rw [cmp_one]
  simp
def upL (rows : Rws') (i : Nat) : List Nat := (ordI rows ((bAt rows i).toNat + 1)).filter fun j => aAt rows j == aAt rows i
theorem up_one {rows : Rws'} (hd : Dst rows) {i : Nat} (hi : i < rows.length) : IsUp [Fcol 0] [Fcol 1] rows i (upL rows i) := by
  have hk : ∀ j, (keyOf [Fcol 0] [Fcol 1] rows j).1 = [aAt rows j] := fun j => rfl
  refine ⟨?_, fun j => ?_⟩
  · refine List.Pairwise.imp_of_mem ?_ (List.Pairwise.filter _ (ord_srt hd _))
    intro x y hx hy h
    unfold upL at hx hy
    rw [List.mem_filter, beq_iff_eq] at hx hy
    exact (kt_same (by rw [hk, hk, hx.2, hy.2])).2 (Or.inl h)
  · unfold upL
    rw [List.mem_filter, mem_ordI, beq_iff_eq, hk, hk]
    have h0 := hd.lo i hi
    constructor
    · rintro ⟨⟨h1, h2, h3⟩, h4⟩
      refine ⟨h1, by rw [h4], ?_⟩
      by_cases e : bAt rows j = bAt rows i
      · exact Or.inl (hd.one j i h1 hi e)
      · exact Or.inr ((kt_same (by rw [hk, hk, h4])).2 (Or.inl (by omega)))
    · rintro ⟨h1, h2, h3⟩
      have h2' : aAt rows j = aAt rows i := by simpa using h2
      refine ⟨⟨h1, (hd.lo j h1).1, ?_⟩, h2'⟩
      rcases h3 with rfl | h3
      · omega
      · have := (kt_same (by rw [hk, hk, h2'])).1 h3
        omega
theorem up_two {rows : Rws'} (hd : Dst rows) {i : Nat} (hi : i < rows.length) : IsUp [] [Fcol 1] rows i (ordI rows ((bAt rows i).toNat + 1)) := by
  refine ⟨?_, fun j => ?_⟩
  · refine List.Pairwise.imp ?_ (ord_srt hd _)
    intro x y h
    exact (kt_same (i := x) (j := y) rfl).2 (Or.inl h)
  · rw [mem_ordI]
    have h0 := hd.lo i hi
    constructor
    · rintro ⟨h1, h2, h3⟩
      refine ⟨h1, rfl, ?_⟩
      by_cases e : bAt rows j = bAt rows i
      · exact Or.inl (hd.one j i h1 hi e)
      · exact Or.inr ((kt_same (i := j) (j := i) rfl).2 (Or.inl (by omega)))
    · rintro ⟨h1, -, h3⟩
      refine ⟨h1, (hd.lo j h1).1, ?_⟩
      rcases h3 with rfl | h3
      · omega
      · have := (kt_same (i := j) (j := i) rfl).1 h3
        omega
/-- the third numbers of a row's part, up to it; of its frame. -/
def upC (rows : Rws') (i : Nat) : List Int := (upL rows i).map (cAt rows)
def frC (m : Nat) (rows : Rws') (i : Nat) : List Int := (upC rows i).drop ((upC rows i).length - (m + 1))
def rowW (m : Nat) (rows : Rws') (i : Nat) : List Int := [bAt rows i, aAt rows i, ((upC rows i).length : Nat), ((frC m rows i).length : Nat), sumW (frC m rows i), minL (frC m rows i)]
def rowM (m : Nat) (rows : Rws') (i : Nat) : List Int := [bAt rows i, maxL (frC m rows i), sumW ((ordI rows ((bAt rows i).toNat + 1)).map (cAt rows))]
theorem winF_at {ps os : List (List Int → Int)} {f : List Int → Int} {F : Int → List Int → Int} {ah : Int} {rows : Rws'} {i : Nat} (hi : i < rows.length) {L : List Nat} (h : IsUp ps os rows i L) : (winF ps os f F ah rows).getD i 0 = F ((L.length : Nat) : Int) ((L.map fun j => f (rows.getD j [])).drop (L.length - 1 - ah.toNat)) := by
  unfold winF
  rw [List.getD_eq_getElem?_getD, List.getElem?_map, List.getElem?_range hi]
  show F ((upN ps os f rows i).length : Nat) ((upN ps os f rows i).drop ((upN ps os f rows i).length - 1 - ah.toNat)) = _
  unfold upN
  rw [upI_eq h, List.length_map]
theorem map_at {rows : Rws'} {i : Nat} (hi : i < rows.length) (k : Nat) : (rows.map (Fcol k)).getD i 0 = (rows.getD i []).getD k 0 := by
  have e : rows.getD i [] = rows[i] := by rw [List.getD_eq_getElem?_getD, List.getElem?_eq_getElem hi]; rfl
  rw [e, List.getD_eq_getElem?_getD, List.getElem?_map, List.getElem?_eq_getElem hi]; rfl
theorem turn1 {rows : Rws'} (hd : Dst rows) (n : Nat) : turned rows.length (([fun rs => rs.map (Fcol 1), fun rs => rs.map (Fcol 0), winF [Fcol 0] [Fcol 1] (fun _ => 0) (fun p _ => p) 9223372036854775807, winF [Fcol 0] [Fcol 1] (fun _ => 0) (fun _ f => (f.length : Int)) (n : Int), winF [Fcol 0] [Fcol 1] (Fcol 2) (fun _ f => sumW f) (n : Int), winF [Fcol 0] [Fcol 1] (Fcol 2) (fun _ f => minL f) (n : Int)] : List (List (List Int) → List Int)).map fun f => f rows) = (List.range rows.length).map (rowW n rows) := by
  unfold turned
  refine List.map_congr_left fun i hi => ?_
  have hi := List.mem_range.1 hi
  have hu := up_one hd hi
  have e1 : (upL rows i).length - 1 - (n : Int).toNat = (upL rows i).length - (n + 1) := by omega
  have e2 : (upL rows i).map (fun j => (Fcol 2) (rows.getD j [])) = upC rows i := rfl
  have e3 : (upC rows i).length = (upL rows i).length := by unfold upC; rw [List.length_map]
  simp only [List.map_cons, List.map_nil, winF_at hi hu, map_at hi, e1]
  unfold rowW frC
  rw [e3, ← e2]
  simp [bAt, aAt]
theorem turn2 {rows : Rws'} (hd : Dst rows) (h9 : rows.length ≤ 200) (n : Nat) : turned rows.length (([fun rs => rs.map (Fcol 1), winF [Fcol 0] [Fcol 1] (Fcol 2) (fun _ f => maxL f) (n : Int), winF [] [Fcol 1] (Fcol 2) (fun _ f => sumW f) 9223372036854775807] : List (List (List Int) → List Int)).map fun f => f rows) = (List.range rows.length).map (rowM n rows) := by
  unfold turned
  refine List.map_congr_left fun i hi => ?_
  have hi := List.mem_range.1 hi
  have hu := up_one hd hi
  have hu2 := up_two hd hi
  have e1 : (upL rows i).length - 1 - (n : Int).toNat = (upL rows i).length - (n + 1) := by omega
  have e2 : (upL rows i).map (fun j => (Fcol 2) (rows.getD j [])) = upC rows i := rfl
  have e3 : (upC rows i).length = (upL rows i).length := by unfold upC; rw [List.length_map]
  have hl : (ordI rows ((bAt rows i).toNat + 1)).length ≤ rows.length := by
    have h1 := len_subN (l := ordI rows ((bAt rows i).toNat + 1)) (m := List.range rows.length) ((ord_srt hd _).imp fun h e => by rw [e] at h; omega) (fun x hx => List.mem_range.2 (mem_ordI.1 hx).1)
    simpa using h1
  have e4 : (ordI rows ((bAt rows i).toNat + 1)).length - 1 - (9223372036854775807 : Int).toNat = 0 := by
    have : (9223372036854775807 : Int).toNat = 9223372036854775807 := rfl
    omega
  simp only [List.map_cons, List.map_nil, winF_at hi hu, winF_at hi hu2, map_at hi, e1, e4, List.drop_zero]
  unfold rowM frC
  rw [e3, ← e2]
  rfl
theorem sorted_of {rows : Rws'} (hd : Dst rows) (g : Nat → List Int) (hg : ∀ i, (g i).getD 0 0 = bAt rows i ∧ g i ≠ []) : sortL ((List.range rows.length).map g) = (ordI rows 41).map g := by
  refine (sortL_of ?_ ?_).symm
  · refine List.Perm.map g ((List.perm_ext_iff_of_nodup ((ord_srt hd _).imp fun h e => by rw [e] at h; omega) List.nodup_range).2 fun x => ?_)
    rw [mem_ordI, List.mem_range]
    exact ⟨fun h => h.1, fun h => ⟨h, hd.lo x h⟩⟩
  · rw [List.pairwise_map]
    refine (ord_srt hd 41).imp ?_
    intro x y h
    obtain ⟨h1, h2⟩ := hg x
    obtain ⟨h3, h4⟩ := hg y
    cases ex : g x with
    | nil => exact absurd ex h2
    | cons u r =>
      cases ey : g y with
      | nil => exact absurd ey h4
      | cons v s =>
        rw [ex] at h1
        rw [ey] at h3
        have hu : u = bAt rows x := h1
        have hv : v = bAt rows y := h3
        have hc : cmpI u v = -1 := by rw [hu, hv]; unfold cmpI; rw [if_pos h]
        show (if cmpI u v = 0 then cmpL r s else cmpI u v) ≤ 0
        rw [hc, if_neg (by decide)]; decide
theorem chosen_all (rows : Rws') : chosenN [tM rows] [⟨⟨#[120]⟩, 0, 0⟩] [] rows.length = rows := by
  unfold chosenN
  rw [show rowsOf [tM rows] [⟨⟨#[120]⟩, 0, 0⟩] = [rows] from rfl, tog_one]
  simp
theorem made_all (rows : Rws') : rows.length = mulN (rowsOf [tM rows] [⟨⟨#[120]⟩, 0, 0⟩]) := (mul_one' rows).symm
theorem m1_asked {rows : Rws'} (hd : Dst rows) (h9 : rows.length ≤ 200) {n : Nat} (hn : n < 1000) {s : ByteArray} (hs : s.data.toList = spr (mL1 n)) (hz : s.size ≤ 1000) : ∃ X fs, AskdV [tM rows] s X fs rows.length rows ((List.range rows.length).map (rowW n rows)) := by
  obtain ⟨pl, hr⟩ := read_mk hs (mL1_tok hn) mL1_fit
  rw [read_q (m1_ok pl n)] at hr
  obtain ⟨q1, q2, q3⟩ := m1_len pl n
  refine ⟨qOf pl (mL1 n), ⟨[⟨⟨#[120]⟩, 0, 0⟩], 3, none⟩, hz, hr, m1_wth pl n, winB_of (m1_win pl n) ?_, by rw [q1]; decide, by rw [q2]; decide, by rw [q3]; decide, ⟨(m1_fs pl n rows).symm, made_all rows, ?_, ?_, ?_⟩, by omega⟩
  · intro x hx a b v e
    subst e
    simp only [List.mem_cons, List.mem_nil_iff, or_false, Option.some.injEq, Prod.mk.injEq, reduceCtorEq, false_or] at hx
    rcases hx with ⟨rfl, rfl, rfl⟩ | ⟨rfl, rfl, rfl⟩ | ⟨rfl, rfl, rfl⟩ | ⟨rfl, rfl, rfl⟩ <;> refine ⟨by decide, by decide, fun z hz => ?_⟩ <;> cases hz <;> omega
  · rw [q3]; exact (chosen_all rows).symm
  · rw [m1_fo pl n rows]; exact (turn1 hd n).symm
  · rw [q3, List.foldl_nil]; exact (m1_er pl n rows).symm
theorem m2_asked {rows : Rws'} (hd : Dst rows) (h9 : rows.length ≤ 200) {n : Nat} (hn : n < 1000) {s : ByteArray} (hs : s.data.toList = spr (mL2 n)) (hz : s.size ≤ 1000) : ∃ X fs, AskdV [tM rows] s X fs rows.length rows ((List.range rows.length).map (rowM n rows)) := by
  obtain ⟨pl, hr⟩ := read_mk hs (mL2_tok hn) mL2_fit
  rw [read_q (m2_ok pl n)] at hr
  obtain ⟨q1, q2, q3⟩ := m2_len pl n
  refine ⟨qOf pl (mL2 n), ⟨[⟨⟨#[120]⟩, 0, 0⟩], 3, none⟩, hz, hr, m2_wth pl n, winB_of (m2_win pl n) ?_, by rw [q1]; decide, by rw [q2]; decide, by rw [q3]; decide, ⟨(m2_fs pl n rows).symm, made_all rows, ?_, ?_, ?_⟩, by omega⟩
  · intro x hx a b v e
    subst e
    simp only [List.mem_cons, List.mem_nil_iff, or_false, Option.some.injEq, Prod.mk.injEq, reduceCtorEq, false_or] at hx
    rcases hx with ⟨rfl, rfl, rfl⟩ | ⟨rfl, rfl, rfl⟩ <;> refine ⟨by decide, by decide, fun z hz => ?_⟩ <;> cases hz <;> omega
  · rw [q3]; exact (chosen_all rows).symm
  · rw [m2_fo pl n rows]; exact (turn2 hd h9 n).symm
  · rw [q3, List.foldl_nil]; exact (m2_er pl n rows).symm
end Go.Proofs.YtfkeddkfegaeiaaGreatDoor
