/-
  Part 47.
-/
import Derived.Test.YtfkeddkfegaeiaaGreatDoorCtPlCk
import Derived.Test.YtfkeddkfegaeiaaGreatDoorCtPlCj
import Derived.Test.YtfkeddkfegaeiaaGreatDoorCtRkA
namespace Go.Proofs.YtfkeddkfegaeiaaGreatDoor
open Go.RowKit
theorem addO_ok {P : List Int → Prop} {N : Nat} {l m : Rws'} (hN : N ≤ 4000) (hl : ∀ r ∈ l, P r) (hm : ∀ r ∈ m, P r) (h2 : ∀ m, OrdS m → (∀ r ∈ m, P r) → m.length ≤ 200) : addO N l m = some (addR l m) ∧ ∀ r ∈ addR l m, P r := by
  have hp : ∀ r ∈ addR l m, P r := fun r hr => (mem_addR.1 hr).elim (hl r) (hm r)
  have := h2 _ (addR_ss l m) hp
  exact ⟨by unfold addO; rw [if_neg (by omega), if_neg (by omega)], hp⟩
/-- a table that grows inside a bounded set comes to an end, and is closed. -/
theorem growF_closed {P : List Int → Prop} {N2 : Rws' → Nat} {l2 : Rws' → Rws'} (hP : ∀ m, (∀ r ∈ m, P r) → ∀ r ∈ l2 m, P r) (hN : ∀ m, OrdS m → (∀ r ∈ m, P r) → N2 m ≤ 4000) (h2 : ∀ m, OrdS m → (∀ r ∈ m, P r) → m.length ≤ 200) :
    ∀ (n : Nat) (m : Rws'), OrdS m → (∀ r ∈ m, P r) → 200 - m.length ≤ n → ∃ m', growF N2 l2 (n + 1) m = some m' ∧ OrdS m' ∧ (∀ r ∈ m', P r) ∧ (∀ r ∈ m, r ∈ m') ∧ ∀ r ∈ l2 m', r ∈ m' := by
  intro n
  induction n with
  | zero =>
    intro m ho hp hn
    obtain ⟨ha, hp'⟩ := addO_ok (hN m ho hp) (hP m hp) hp h2
    have hq : (addR (l2 m) m).length = m.length := by
      have h3 := addR_len (l := l2 m) ho
      have h4 := h2 _ (addR_ss (l2 m) m) hp'
      omega
    have hs := addR_same ho hq
    have he : addR (l2 m) m = m := ss_ext (addR_ss _ _) ho fun x => by rw [mem_addR]; exact ⟨fun h => h.elim (hs x) id, Or.inr⟩
    rw [growF_some ha, if_pos hq, he]
    exact ⟨m, rfl, ho, hp, fun _ h => h, hs⟩
  | succ n ih =>
    intro m ho hp hn
    obtain ⟨ha, hp'⟩ := addO_ok (hN m ho hp) (hP m hp) hp h2
    rw [growF_some ha]
    by_cases hq : (addR (l2 m) m).length = m.length
    · have hs := addR_same ho hq
      have he : addR (l2 m) m = m := ss_ext (addR_ss _ _) ho fun x => by rw [mem_addR]; exact ⟨fun h => h.elim (hs x) id, Or.inr⟩
      rw [if_pos hq, he]
      exact ⟨m, rfl, ho, hp, fun _ h => h, hs⟩
    · have h3 := addR_len (l := l2 m) ho
      obtain ⟨m', q1, q2, q3, q4, q5⟩ := ih (addR (l2 m) m) (addR_ss _ _) hp' (by omega)
      rw [if_neg hq]
      exact ⟨m', q1, q2, q3, fun r hr => q4 r (mem_addR.2 (Or.inr hr)), q5⟩
theorem growR_closed {P : List Int → Prop} {N1 : Nat} {l1 : Rws'} {N2 : Rws' → Nat} {l2 : Rws' → Rws'} (hN1 : N1 ≤ 4000) (h1 : ∀ r ∈ l1, P r) (hP : ∀ m, (∀ r ∈ m, P r) → ∀ r ∈ l2 m, P r) (hN : ∀ m, OrdS m → (∀ r ∈ m, P r) → N2 m ≤ 4000) (h2 : ∀ m, OrdS m → (∀ r ∈ m, P r) → m.length ≤ 200) :
    ∃ m', growR N1 l1 N2 l2 = some m' ∧ OrdS m' ∧ (∀ r ∈ m', P r) ∧ (∀ r ∈ l1, r ∈ m') ∧ ∀ r ∈ l2 m', r ∈ m' := by
  obtain ⟨ha, hp⟩ := addO_ok (m := []) hN1 h1 (fun r hr => by simp at hr) h2
  obtain ⟨m', q1, q2, q3, q4, q5⟩ := growF_closed hP hN h2 200 (addR l1 []) (addR_ss _ _) hp (by omega)
  refine ⟨m', ?_, q2, q3, fun r hr => q4 r (mem_addR.2 (Or.inl hr)), q5⟩
  unfold growR
  rw [ha]
  exact q1
/-- a table that grows each time comes to too many. -/
theorem growF_many {Q : Nat → Rws' → Prop} {N2 : Rws' → Nat} {l2 : Rws' → Rws'} (hQ : ∀ n m, Q (n + 1) m → OrdS m → Q n (addR (l2 m) m) ∧ ∃ r ∈ l2 m, r ∉ m) :
    ∀ (n : Nat) (m : Rws'), OrdS m → m.length ≤ 200 → 200 < n + m.length → Q n m → growF N2 l2 n m = none := by
  intro n
  induction n with
  | zero => intro m _ h1 h2; omega
  | succ n ih =>
    intro m ho h1 h2 hq
    obtain ⟨hq2, r, hr, hrm⟩ := hQ n m hq ho
    cases ha : addO (N2 m) (l2 m) m with
    | none => exact growF_none ha
    | some m' =>
      obtain ⟨-, rfl, hl⟩ := addO_some ha
      have h3 := addR_len (l := l2 m) ho
      have hne : (addR (l2 m) m).length ≠ m.length := fun e => hrm (addR_same ho e r hr)
      rw [growF_some ha, if_neg hne]
      exact ih _ (addR_ss _ _) hl (by omega) hq2
theorem growR_many {Q : Nat → Rws' → Prop} {N1 : Nat} {l1 : Rws'} {N2 : Rws' → Nat} {l2 : Rws' → Rws'} (hQ : ∀ n m, Q (n + 1) m → OrdS m → Q n (addR (l2 m) m) ∧ ∃ r ∈ l2 m, r ∉ m) (h0 : Q 201 (addR l1 [])) : growR N1 l1 N2 l2 = none := by
  unfold growR
  cases ha : addO N1 l1 [] with
  | none => rfl
  | some m =>
    obtain ⟨-, rfl, hl⟩ := addO_some ha
    exact growF_many hQ 201 _ (addR_ss _ _) hl (by omega) h0
theorem turned_map {α : Type} (ch : Rws') (fs : List α) (f : α → List Int → Int) : turned ch.length (fs.map fun e => ch.map (f e)) = ch.map fun r => fs.map fun e => f e r := by
  unfold turned
  apply List.ext_getElem
  · simp
  · intro i h1 h2
    simp only [List.length_map, List.length_range] at h1
    simp [List.getD_eq_getElem?_getD, List.getElem?_map, List.getElem?_eq_getElem h1]
theorem selL_map (Tm T : List Tb) (x : SelX) : selL Tm T x = (selC Tm T x).map fun r => x.items.map fun e => evE (colAt Tm (foldS Tm x.srcs).ss) e.val r := by
  unfold selL fnsX
  rw [List.map_map]
  exact turned_map (selC Tm T x) x.items fun e => evE (colAt Tm (foldS Tm x.srcs).ss) e.val
theorem mul_one' (R : Rws') : mulN [R] = R.length := by simp [mulN]
theorem mul_two' (R S : Rws') : mulN [R, S] = R.length * S.length := by simp [mulN]
theorem tog_one (R : Rws') : (List.range R.length).map (togR [R]) = R := by
  apply List.ext_getElem
  · simp
  · intro i h1 h2
    simp only [List.getElem_map, List.getElem_range, togR, madeN, List.map_nil, List.foldl_nil, Nat.div_one, List.append_nil, Nat.mod_eq_of_lt h2]
    rw [List.getD_eq_getElem?_getD, List.getElem?_eq_getElem h2]
    rfl
/-- a select of one source: what its items come to, what it asks. -/
structure OneS (Tm : List Tb) (x : SelX) (j : Nat) (f : List Int → List Int) (g : List Int → Bool) : Prop where
  ss : ∃ al, (foldS Tm x.srcs).ss = [⟨al, j, 0⟩]
  it : ∀ r, (x.items.map fun e => evE (colAt Tm (foldS Tm x.srcs).ss) e.val r) = f r
  ts : ∀ r, ((tnsX Tm x).all fun t => t r) = g r
theorem OneS.num {Tm : List Tb} {x : SelX} {j : Nat} {f : List Int → List Int} {g : List Int → Bool} (h : OneS Tm x j f g) (T : List Tb) : selN Tm T x = (T.getD j tb0).rows.length := by
  obtain ⟨al, hs⟩ := h.ss
  unfold selN
  rw [hs]
  exact mul_one' _
theorem OneS.rows {Tm : List Tb} {x : SelX} {j : Nat} {f : List Int → List Int} {g : List Int → Bool} (h : OneS Tm x j f g) (T : List Tb) : selL Tm T x = ((T.getD j tb0).rows.filter g).map f := by
  rw [selL_map, show (fun r => x.items.map fun e => evE (colAt Tm (foldS Tm x.srcs).ss) e.val r) = f from funext h.it]
  congr 1
  unfold selC
  rw [h.num T]
  obtain ⟨al, hs⟩ := h.ss
  unfold chosenN
  rw [hs]
  rw [show rowsOf T [⟨al, j, 0⟩] = [(T.getD j tb0).rows] from rfl, tog_one, show (fun r => (tnsX Tm x).all fun t => t r) = g from funext h.ts]
/-- a select of two sources. -/
structure TwoS (Tm : List Tb) (x : SelX) (j k : Nat) (f : List Int → List Int) (g : List Int → Bool) : Prop where
  ss : ∃ al bl n, (foldS Tm x.srcs).ss = [⟨al, j, 0⟩, ⟨bl, k, n⟩]
  it : ∀ r, (x.items.map fun e => evE (colAt Tm (foldS Tm x.srcs).ss) e.val r) = f r
  ts : ∀ r, ((tnsX Tm x).all fun t => t r) = g r
theorem TwoS.num {Tm : List Tb} {x : SelX} {j k : Nat} {f : List Int → List Int} {g : List Int → Bool} (h : TwoS Tm x j k f g) (T : List Tb) : selN Tm T x = (T.getD j tb0).rows.length * (T.getD k tb0).rows.length := by
  obtain ⟨al, bl, n, hs⟩ := h.ss
  unfold selN
  rw [hs]
  exact mul_two' _ _
end Go.Proofs.YtfkeddkfegaeiaaGreatDoor
namespace Go.Proofs.YtfkeddkfegaeiaaGreatDoor
open Go.RowKit
def fineB (T : List Tb) (x : SelX) : Bool := x.items.all (fun i => i.win.isNone) && decide (0 < x.items.length) && decide (x.items.length ≤ 6) && decide (0 < x.srcs.length) && decide (x.srcs.length ≤ 3) && decide (x.tests.length ≤ 1000) &&
  (x.tests.foldl (fun a u => orE a (tsErr T (foldS T x.srcs).ss u)) (x.items.foldl (fun a e => orE a (eoV T e (foldS T x.srcs).ss)) (foldS T x.srcs).er)).isNone
theorem fine_of {T : List Tb} {x : SelX} (h : fineB T x = true) : SelFine T x := by
  unfold fineB at h
  simp only [Bool.and_eq_true, List.all_eq_true, Option.isNone_iff_eq_none, decide_eq_true_eq] at h
  obtain ⟨⟨⟨⟨⟨⟨h1, h2⟩, h3⟩, h4⟩, h5⟩, h6⟩, h7⟩ := h
  exact ⟨h1, h2, h3, h4, h5, h6, h7⟩
def ndB : List ByteArray → List Tk → Bool
  | _, [] => true
  | acc, c :: r => !Lib.containsS acc c.text && ndB (acc ++ [c.text]) r
theorem nd_of : ∀ (l : List Tk) (acc : List ByteArray), ndB acc l = true → ∀ pre c suf, l = pre ++ c :: suf → Lib.containsS (acc ++ pre.map (·.text)) c.text = false
  | [], _, _, pre, c, suf, e => by cases pre <;> cases e
  | x :: l, acc, h, [], c, suf, e => by
    unfold ndB at h
    simp only [Bool.and_eq_true, Bool.not_eq_true'] at h
    injection e with e1 e2
    subst e1
    simpa using h.1
  | x :: l, acc, h, p :: pre, c, suf, e => by
    unfold ndB at h
    simp only [Bool.and_eq_true, Bool.not_eq_true'] at h
    injection e with e1 e2
    subst e1
    have := nd_of l (acc ++ [x.text]) h.2 pre c suf e2
    simpa [List.append_assoc] using this
def wFineB (T0 : List Tb) (x : WithX) : Bool := decide (0 < x.cols.length) && decide (x.cols.length ≤ 6) && (tabNo T0 x.name.text).isNone && ndB [] x.cols && fineB T0 x.first && decide (x.first.items.length = x.cols.length) && fineB (T0 ++ [newT x]) x.second && decide (x.second.items.length = x.cols.length)
theorem wfine_of {T0 : List Tb} {x : WithX} (h : wFineB T0 x = true) : WithFine T0 x := by
  unfold wFineB at h
  simp only [Bool.and_eq_true, Option.isNone_iff_eq_none, decide_eq_true_eq] at h
  obtain ⟨⟨⟨⟨⟨⟨⟨h1, h2⟩, h3⟩, h4⟩, h5⟩, h6⟩, h7⟩, h8⟩ := h
  exact ⟨h1, h2, h3, fun pre c suf e => by simpa using nd_of x.cols [] h4 pre c suf e, fine_of h5, h6, fine_of h7, h8⟩
end Go.Proofs.YtfkeddkfegaeiaaGreatDoor
namespace Go.Proofs.YtfkeddkfegaeiaaGreatDoor
open Go.RowKit
def cA : List (List UInt8 × Tk) := [([], tkW [119, 105, 116, 104]), ([32], tkM [114]), ([], tkW [40]), ([], tkM [110]), ([], tkW [41]), ([32], tkW [97, 115]), ([32], tkW [40]), ([], tkW [115, 101, 108, 101, 99, 116]), ([32], tkM [120]), ([], tkW [46]), ([], tkM [97]), ([32], tkW [102, 114, 111, 109]), ([32], tkM [101]), ([32], tkM [120]), ([32], tkW [117, 110, 105, 111, 110]), ([32], tkW [115, 101, 108, 101, 99, 116]), ([32], tkM [114]), ([], tkW [46]), ([], tkM [110]), ([32], tkW [43])]
def cB : List (List UInt8 × Tk) := [([32], tkW [102, 114, 111, 109]), ([32], tkM [114]), ([32], tkM [114]), ([32], tkW [119, 104, 101, 114, 101]), ([32], tkM [114]), ([], tkW [46]), ([], tkM [110]), ([32], tkW [60])]
def cC : List (List UInt8 × Tk) := [([], tkW [41]), ([32], tkW [115, 101, 108, 101, 99, 116]), ([32], tkM [114]), ([], tkW [46]), ([], tkM [110]), ([32], tkW [102, 114, 111, 109]), ([32], tkM [114]), ([32], tkM [114])]
def cD : List (List UInt8 × Tk) := [([32], tkW [102, 114, 111, 109]), ([32], tkM [114]), ([32], tkM [114]), ([], tkW [41]), ([32], tkW [115, 101, 108, 101, 99, 116]), ([32], tkM [114]), ([], tkW [46]), ([], tkM [110]), ([32], tkW [102, 114, 111, 109]), ([32], tkM [114]), ([32], tkM [114])]
/-- counting up to a bound; counting without one. -/
def cL (d t : Nat) : List (List UInt8 × Tk) := cA ++ ([32], tkD d) :: (cB ++ ([32], tkD t) :: cC)
def cL2 : List (List UInt8 × Tk) := cA ++ ([32], tkD 1) :: cD
theorem cA_tok : TokL cA := tokL_of (by kernel_rfl)
theorem cB_tok : TokL cB := tokL_of (by kernel_rfl)
theorem cC_tok : TokL cC := tokL_of (by kernel_rfl)
theorem cD_tok : TokL cD := tokL_of (by kernel_rfl)
theorem cL_tok {d t : Nat} (hd : d < 1000) (ht : t < 1000) : TokL (cL d t) := tokL_app cA_tok (tokL_cons b_32 (tok_dig hd) (tokL_app cB_tok (tokL_cons b_32 (tok_dig ht) cC_tok)))
theorem cL2_tok : TokL cL2 := tokL_app cA_tok (tokL_cons b_32 (tok_dig (by decide)) cD_tok)
theorem cL_fit {d t : Nat} (ht : t < 1000) : FitT (cL d t) :=
  fit_app (fit_of (by kernel_rfl)) ⟨gap_no, fit_app (l := cB) (fit_of (by kernel_rfl)) ⟨fun _ => ok_soft (tok_dig ht) (by rfl), fit_of (l := cC) (by kernel_rfl)⟩ (fun _ _ => gap_no)⟩ (fun _ _ => gap_no)
theorem cL2_fit : FitT cL2 := fit_of (by kernel_rfl)
/-- the table that is asked. -/
def tR (rows : Rws') : Tb := ⟨⟨#[101]⟩, [⟨#[97]⟩, ⟨#[98]⟩], rows⟩
section
variable (pl : Nat → Nat) (d t : Nat) (rows : Rws')
set_option maxRecDepth 100000
theorem c_ok : okQ pl (cL d t) = true := by kernel_rfl
theorem c_wth : (qOf pl (cL d t)).wth = some (wthOf (qOf pl (cL d t))) := by kernel_rfl
theorem c_fine : wFineB [tR rows] (wthOf (qOf pl (cL d t))) = true := by kernel_rfl
theorem c_main : fineB ([tR rows] ++ [newT (wthOf (qOf pl (cL d t)))]) (qOf pl (cL d t)).main = true := by kernel_rfl
theorem c_one1 : OneS [tR rows] (wthOf (qOf pl (cL d t))).first 0 (fun r => [r.getD 0 0]) (fun _ => true) := ⟨⟨⟨#[120]⟩, by kernel_rfl⟩, fun r => by kernel_rfl, fun r => by kernel_rfl⟩
theorem c_one2 : OneS ([tR rows] ++ [newT (wthOf (qOf pl (cL d t)))]) (wthOf (qOf pl (cL d t))).second 1 (fun r => [wrap64 (r.getD 0 0 + (d : Int))]) (fun r => decide (r.getD 0 0 < (t : Int)) && true) := ⟨⟨⟨#[114]⟩, by kernel_rfl⟩, fun r => by kernel_rfl, fun r => by kernel_rfl⟩
theorem c_one3 : OneS ([tR rows] ++ [newT (wthOf (qOf pl (cL d t)))]) (qOf pl (cL d t)).main 1 (fun r => [r.getD 0 0]) (fun _ => true) := ⟨⟨⟨#[114]⟩, by kernel_rfl⟩, fun r => by kernel_rfl, fun r => by kernel_rfl⟩
theorem u_ok : okQ pl cL2 = true := by kernel_rfl
theorem u_wth : (qOf pl cL2).wth = some (wthOf (qOf pl cL2)) := by kernel_rfl
theorem u_fine : wFineB [tR rows] (wthOf (qOf pl cL2)) = true := by kernel_rfl
theorem u_main : fineB ([tR rows] ++ [newT (wthOf (qOf pl cL2))]) (qOf pl cL2).main = true := by kernel_rfl
theorem u_one1 : OneS [tR rows] (wthOf (qOf pl cL2)).first 0 (fun r => [r.getD 0 0]) (fun _ => true) := ⟨⟨⟨#[120]⟩, by kernel_rfl⟩, fun r => by kernel_rfl, fun r => by kernel_rfl⟩
theorem u_one2 : OneS ([tR rows] ++ [newT (wthOf (qOf pl cL2))]) (wthOf (qOf pl cL2)).second 1 (fun r => [wrap64 (r.getD 0 0 + 1)]) (fun _ => true) := ⟨⟨⟨#[114]⟩, by kernel_rfl⟩, fun r => by kernel_rfl, fun r => by kernel_rfl⟩
theorem u_one3 : OneS ([tR rows] ++ [newT (wthOf (qOf pl cL2))]) (qOf pl cL2).main 1 (fun r => [r.getD 0 0]) (fun _ => true) := ⟨⟨⟨#[114]⟩, by kernel_rfl⟩, fun r => by kernel_rfl, fun r => by kernel_rfl⟩
end
end Go.Proofs.YtfkeddkfegaeiaaGreatDoor
namespace Go.Proofs.YtfkeddkfegaeiaaGreatDoor
open Go.RowKit
/-- what Answer leaves, where all names are found. -/
def AnsW (a : Nat → Addr) (w : World) (res : Option Rws') (es : List (ItemA × Value × Option Addr)) (e : Ending) (w' : World) : Prop := Below w.heap.size w w' ∧
  (res = none → e = .returned (.tuple #[.agg #[.slice none 0 0, .slice none 0 0], errV a eMany])) ∧
  ∀ l, res = some l → ∃ gc gr, e = .returned (.tuple #[.agg #[.slice (some ⟨gc, 0, none⟩) es.length es.length, .slice (some ⟨gr, 0, none⟩) l.length l.length], .nilIface]) ∧ w.heap.size ≤ gc ∧ w.heap.size ≤ gr ∧ w'.heap[gc]? = some (.cells (namesV es).toArray 9 (0, 0)) ∧ RowsB w' gr 32 l.length (sortL l)
theorem wholeR_len {T0 : List Tb} {x : WithX} {y : SelX} {l : Rws'} (h : wholeR T0 x y = some l) : l.length ≤ 4000 := by
  unfold wholeR at h
  split at h
  · cases h
  · split at h
    · cases h
    · injection h with h
      subst h
      exact Nat.le_trans (selL_len _ _ _) (by omega)
set_option maxRecDepth 100000 in
set_option maxHeartbeats 4000000 in
theorem answer_with (a : Nat → Addr) (w : World) (B : Nat) (hE : EnvX a B w) (q lo : Nat) (X : QueryX) (hq : QueryOk w lo (.pointer (some ⟨q, 0, none⟩)) X) (x : WithX) (hwt : X.wth = some x)
    (tb tof tc : Nat) (T : List Tb) (hT : TabsAt w (.slice (some ⟨tb, tof, none⟩) T.length tc) T) (h0 : 0 < T.length) (hf9 : T.length < 1000) (hc6 : ∀ t ∈ T, t.cols.length ≤ 6) (h200 : ∀ t ∈ T, t.rows.length ≤ 200) (hsh : ∀ t ∈ T, ∀ r ∈ t.rows, r.length = t.cols.length)
    (hx : WithFine T x) (hy : SelFine (T ++ [newT x]) X.main) :
    ∃ es : List (ItemA × Value × Option Addr), es.map (·.1) = X.main.items ∧ Calls Tryz.prog 51 #[.pointer (some ⟨q, 0, none⟩), .slice (some ⟨tb, tof, none⟩) T.length tc] w fun e w' => AnsW a w (wholeR T x X.main) es e w' := by
  obtain ⟨q', vw, vm, e0, -, hqb, hvw, hsel⟩ := hq
  injection e0 with e0
  injection e0 with e0
  injection e0 with e0
  subst e0
  rw [hwt] at hvw
  have hvw' : WithOk w lo vw x := hvw
  obtain ⟨b, vi, vs, vt, es, us, rfl, hb, hs, hi, hil, hsp, hone, ht, htl, hex, e1, e2, e3, hie⟩ := sel_open hsel hy
  refine ⟨es, hie, ?_⟩
  have hi0 : 0 < es.length := by rw [hil]; exact hy.i0
  have hi6 : es.length ≤ 6 := by rw [hil]; exact hy.i6
  obtain ⟨W0, hW0⟩ : ∃ W0, W0 = w.alloc (.cells #[.slice none 0 0, .slice none 0 0] 68) := ⟨_, rfl⟩
  have hb0 : Below w.heap.size w W0 := by rw [hW0]; exact (Below.refl _ _).alloc (Nat.le_refl _) _
  have hx0 : W0.heap[w.heap.size]? = some (.cells #[.slice none 0 0, .slice none 0 0] 68 (0, 0)) := by rw [hW0]; exact heap_last rfl
  have hEW := hE.keep (hb0.mono hE.env.size)
  have HM := hide (meaning_with a W0 hEW.up q lo _ vw _ ((hb0.block q (lt_of_heap hqb)).trans hqb) tb tof tc T (hT.keep hb0) h0 hf9 hc6 x (hvw'.keep (Nat.le_refl _) (Keeps.ofBelow hb0)) hx X.main (hsel.keep (Nat.le_refl _) (Keeps.ofBelow hb0)) hy)
  have HWR : Hid (∀ w1 wb, MeanW a W0 tb tof tc T x X.main (.returned (.tuple #[.pointer (some ⟨wb, 0, none⟩), .nilIface])) w1 → Calls Tryz.prog 82 #[.pointer (some ⟨wb, 0, none⟩)] w1 fun e w' => WhDone a W0 (wholeR T x X.main) e w') := fun w1 wb hm => by
    obtain ⟨hb1, wb', gb, tb', tc', f1, f2, fm, cur, cv, G, X', he, m1, m2, m3, m4, m5, m6, m7, m8, m9, m10⟩ := hm
    simp only [Ending.returned.injEq, Value.tuple.injEq, Array.mk.injEq, List.cons.injEq, Value.pointer.injEq, Option.some.injEq, Addr.mk.injEq, and_true] at he
    subst he
    exact wrows_with a W0 w1 B (hEW.keep (hb1.mono hEW.env.size)) hEW.env.size tb tof tc T (hT.keep hb0) h200 hsh x hx X.main hy wb gb tb' tc' f1 f2 fm cur cv G X' m1 m2 m3 m4 m5 m6 m7 m8 m9 m10
  have HLEN : Hid (∀ l, wholeR T x X.main = some l → l.length ≤ 4000) := fun l h => wholeR_len h
  generalize wholeR T x X.main = res at *
  have HB0 := hide hb0
  have HX0 := hide hx0
  have zx0 := lt_of_heap hx0
  have zq := lt_of_heap hqb
  obtain ⟨kq, -⟩ := blk hqb
  have q2 : w.cell? ⟨q, 2, none⟩ = some (.pointer (some ⟨b, 0, none⟩)) := kq 2
  have HB := hide hb
  have HI := hide hi
  have HON := hide hone
  have HWW := hide hW0
  clear hE hEW hT hb hs hi hsp hone ht htl hex hc6 hqb kq h200 hsh hx0 hb0 hW0 hvw hvw' hsel hx hy e1 e2 e3 hie hil
  go_enter Tryz.func51, Tryz.ntmps51
  go_wp2_with fail
  rw [← unhide HWW]
  refine (unhide HM).mono ?_
  intro e w1 hmw
  obtain ⟨hb1, wb, gb, tb', tc', f1, f2, fm, cur, cv, G, X', rfl, -⟩ := id hmw
  have HWR1 := hide ((unhide HWR) w1 wb hmw)
  have hz12 := hb1.size
  clear HM HWR hmw hb1
  go_wp2_with fail
  refine (unhide HWR1).mono ?_
  rintro e w2 ⟨hb2, hno, hok⟩
  have HB2 := hide hb2
  have hx2 := (hb2.block _ zx0).trans (unhide HX0)
  have HX2 := hide hx2
  clear HWR1
  cases res with
  | none =>
    obtain rfl := hno rfl
    obtain ⟨kx, fx⟩ := blk hx2
    have zx2 := lt_of_heap hx2
    have x0 : w2.cell? ⟨w.heap.size, 0, none⟩ = some (.slice none 0 0) := kx 0
    have x1 : w2.cell? ⟨w.heap.size, 1, none⟩ = some (.slice none 0 0) := kx 1
    have xf0 : w2.frozen? ⟨w.heap.size, 0, none⟩ = false := fx 0
    have xf1 : w2.frozen? ⟨w.heap.size, 1, none⟩ = false := fx 1
    have HBE : Hid (Below w.heap.size w ((w2.setCell ⟨w.heap.size, 0, none⟩ (.slice none 0 0)).setCell ⟨w.heap.size, 1, none⟩ (.slice none 0 0))) := (((unhide HB0).trans ((unhide HB2).mono (unhide HB0).size)).setCell (Nat.le_refl _) _).setCell (Nat.le_refl _) _
    clear hx2 kx fx hno hok hb2
    go_wp2
    refine bodyPost_ret (v := .tuple #[.agg #[.slice none 0 0, .slice none 0 0], errV a eMany]) (by simp [results, Tryz.results51, go_sem, *]) rfl ⟨unhide HBE, fun _ => rfl, fun l e => by cases e⟩
  | some l =>
    obtain ⟨gr, rfl, hgr, hrb⟩ := hok l rfl
    have hlN := (unhide HLEN) l rfl
    have HSR := hide (sortRows_any w2 gr l.length 32 l hrb (by omega))
    clear hrb hx2 hno hok hb2
    go_wp2_with fail
    refine (unhide HSR).mono ?_
    rintro e w3 ⟨rfl, hg3, hrb3⟩
    have hb3 : Below w.heap.size w w3 := ((unhide HB0).trans ((unhide HB2).mono (unhide HB0).size)).grown hg3 (by have := (unhide HB0).size; have := (unhide HB2).size; omega) (fun k e => by injection e with e; have := (unhide HB0).size; omega)
    have hx3 := (hg3.block w.heap.size (by have := (unhide HB2).size; omega) (fun e => by injection e with e; omega)).trans (unhide HX2)
    have HCO := hide (columns_any w3 b lo _ vi vs vt ((hb3.block b (lt_of_heap (unhide HB))).trans (unhide HB)) es (owns_below (unhide HI) hb3) hi0 hi6 (unhide HON))
    have q23 := (hb3.cell (p := ⟨q, 2, none⟩) zq).trans q2
    have zq3 : q < w3.heap.size := Nat.lt_of_lt_of_le zq hb3.size
    have HB3 := hide hb3
    have HX3 := hide hx3
    have HR3 := hide hrb3
    have zgr : gr < w3.heap.size := by obtain ⟨cur, h9, -⟩ := hrb3; exact lt_of_heap h9
    clear hb3 hx3 hrb3 hg3 HSR
    go_wp2_with fail
    refine (unhide HCO).mono ?_
    rintro e w4 ⟨gc, rfl, hb4, hgc, hnm⟩
    have hx4 := (hb4.block _ (lt_of_heap (unhide HX3))).trans (unhide HX3)
    obtain ⟨kx, fx⟩ := blk hx4
    have zx4 := lt_of_heap hx4
    have x0 : w4.cell? ⟨w.heap.size, 0, none⟩ = some (.slice none 0 0) := kx 0
    have x1 : w4.cell? ⟨w.heap.size, 1, none⟩ = some (.slice none 0 0) := kx 1
    have xf0 : w4.frozen? ⟨w.heap.size, 0, none⟩ = false := fx 0
    have xf1 : w4.frozen? ⟨w.heap.size, 1, none⟩ = false := fx 1
    have HB4 : Hid (Below w.heap.size w w4) := (unhide HB3).trans (hb4.mono (unhide HB3).size)
    have HX4 := hide hx4
    have HR4 : Hid (RowsB w4 gr 32 l.length (sortL l)) := (unhide HR3).turn (x := w3.heap.size) hb4.size (fun k hk _ => hb4.block k hk) (by omega) (fun o z e => by have := World.block_lt_of_cell? w3 _ e; simp at this)
    have HNM := hide hnm
    have hgc2 : w.heap.size < gc := by have := lt_of_heap (unhide HX3); omega
    have hgr2 : w.heap.size < gr := by have := (unhide HB0).size; omega
    have zgc := lt_of_heap hnm
    clear hb4 hx4 kx fx hnm HCO q23
    go_wp2
    refine bodyPost_ret (v := .tuple #[.agg #[.slice (some ⟨gc, 0, none⟩) es.length es.length, .slice (some ⟨gr, 0, none⟩) l.length l.length], .nilIface]) (by simp [results, Tryz.results51, go_sem, *]) rfl ⟨((unhide HB4).setCell (Nat.le_refl _) _).setCell (Nat.le_refl _) _, (fun e => by cases e), fun l' e => ?_⟩
    injection e with e
    subst e
    refine ⟨gc, gr, rfl, by omega, by omega, ?_, ?_⟩
    · rw [Below.heap_setCell _ _ _ _ (by show gc ≠ w.heap.size; omega), Below.heap_setCell _ _ _ _ (by show gc ≠ w.heap.size; omega)]
      exact unhide HNM
    · refine (unhide HR4).turn (x := w.heap.size) (by simp [World.setCell]) (fun k hk hne => ?_) (by omega) (two_slices (unhide HX4) (fun z e => by cases e) (fun z e => by cases e))
      rw [Below.heap_setCell _ _ _ _ hne, Below.heap_setCell _ _ _ _ hne]
end Go.Proofs.YtfkeddkfegaeiaaGreatDoor
