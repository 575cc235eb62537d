/-
  Part 47.
-/
import Derived.Test.YtfkeddkfegaeiaaGreatDoorRcPlCk
import Derived.Test.YtfkeddkfegaeiaaGreatDoorRcPlCj
import Derived.Test.YtfkeddkfegaeiaaGreatDoorRcRkC
import Derived.Test.YtfkeddkfegaeiaaGreatDoorRcRdgA
namespace Go.Proofs.YtfkeddkfegaeiaaGreatDoor
open Go.RowKit
theorem addO_ok {P : List Int → Prop} {N : Nat} {l m : Rws'} (hN : N ≤ 4000) (hl : ∀ r ∈ l, P r) (hm : ∀ r ∈ m, P r) (h2 : ∀ m, OrdS m → (∀ r ∈ m, P r) → m.length ≤ 200) : addO N l m = some (addR l m) ∧ ∀ r ∈ addR l m, P r := by
  have hp : ∀ r ∈ addR l m, P r := fun r hr => (mem_addR.1 hr).elim (hl r) (hm r)
  have := h2 _ (addR_ss l m) hp
  exact ⟨by unfold addO; rw [if_neg (by omega), if_neg (by omega)], hp⟩
/-- a table that grows inside a bounded set comes to an end, and is closed. -/
theorem growF_closed {P : List Int → Prop} {N2 : Rws' → Nat} {l2 : Rws' → Rws'} (hP : ∀ m, (∀ r ∈ m, P r) → ∀ r ∈ l2 m, P r) (hN : ∀ m, OrdS m → (∀ r ∈ m, P r) → N2 m ≤ 4000) (h2 : ∀ m, OrdS m → (∀ r ∈ m, P r) → m.length ≤ 200) :
    ∀ (n : Nat) (m : Rws'), OrdS m → (∀ r ∈ m, P r) → 200 - m.length ≤ n → ∃ m', growF N2 l2 (n + 1) m = some m' ∧ OrdS m' ∧ (∀ r ∈ m', P r) ∧ (∀ r ∈ m, r ∈ m') ∧ ∀ r ∈ l2 m', r ∈ m' := by
  intro n
  induction n with
  | zero =>
    intro m ho hp hn
    obtain ⟨ha, hp'⟩ := addO_ok (hN m ho hp) (hP m hp) hp h2
    have hq : (addR (l2 m) m).length = m.length := by
      have h3 := addR_len (l := l2 m) ho
      have h4 := h2 _ (addR_ss (l2 m) m) hp'
      omega
    have hs := addR_same ho hq
    have he : addR (l2 m) m = m := ss_ext (addR_ss _ _) ho fun x => by rw [mem_addR]; exact ⟨fun h => h.elim (hs x) id, Or.inr⟩
    rw [growF_some ha, if_pos hq, he]
    exact ⟨m, rfl, ho, hp, fun _ h => h, hs⟩
  | succ n ih =>
    intro m ho hp hn
    obtain ⟨ha, hp'⟩ := addO_ok (hN m ho hp) (hP m hp) hp h2
    rw [growF_some ha]
    by_cases hq : (addR (l2 m) m).length = m.length
    · have hs := addR_same ho hq
      have he : addR (l2 m) m = m := ss_ext (addR_ss _ _) ho fun x => by rw [mem_addR]; exact ⟨fun h => h.elim (hs x) id, Or.inr⟩
      rw [if_pos hq, he]
      exact ⟨m, rfl, ho, hp, fun _ h => h, hs⟩
    · have h3 := addR_len (l := l2 m) ho
      obtain ⟨m', q1, q2, q3, q4, q5⟩ := ih (addR (l2 m) m) (addR_ss _ _) hp' (by omega)
      rw [if_neg hq]
      exact ⟨m', q1, q2, q3, fun r hr => q4 r (mem_addR.2 (Or.inr hr)), q5⟩
theorem growR_closed {P : List Int → Prop} {N1 : Nat} {l1 : Rws'} {N2 : Rws' → Nat} {l2 : Rws' → Rws'} (hN1 : N1 ≤ 4000) (h1 : ∀ r ∈ l1, P r) (hP : ∀ m, (∀ r ∈ m, P r) → ∀ r ∈ l2 m, P r) (hN : ∀ m, OrdS m → (∀ r ∈ m, P r) → N2 m ≤ 4000) (h2 : ∀ m, OrdS m → (∀ r ∈ m, P r) → m.length ≤ 200) :
    ∃ m', growR N1 l1 N2 l2 = some m' ∧ OrdS m' ∧ (∀ r ∈ m', P r) ∧ (∀ r ∈ l1, r ∈ m') ∧ ∀ r ∈ l2 m', r ∈ m' := by
  obtain ⟨ha, hp⟩ := addO_ok (m := []) hN1 h1 (fun r hr => by simp at hr) h2
  obtain ⟨m', q1, q2, q3, q4, q5⟩ := growF_closed hP hN h2 200 (addR l1 []) (addR_ss _ _) hp (by omega)
  refine ⟨m', ?_, q2, q3, fun r hr => q4 r (mem_addR.2 (Or.inl hr)), q5⟩
  unfold growR
  rw [ha]
  exact q1
theorem turned_map {α : Type} (ch : Rws') (fs : List α) (f : α → List Int → Int) : turned ch.length (fs.map fun e => ch.map (f e)) = ch.map fun r => fs.map fun e => f e r := by
  unfold turned
  apply List.ext_getElem
  · simp
  · intro i h1 h2
    simp only [List.length_map, List.length_range] at h1
    simp [List.getD_eq_getElem?_getD, List.getElem?_map, List.getElem?_eq_getElem h1]
theorem selL_map (Tm T : List Tb) (x : SelX) : selL Tm T x = (selC Tm T x).map fun r => x.items.map fun e => evE (colAt Tm (foldS Tm x.srcs).ss) e.val r := by
  unfold selL fnsX
  rw [List.map_map]
  exact turned_map (selC Tm T x) x.items fun e => evE (colAt Tm (foldS Tm x.srcs).ss) e.val
theorem mul_one' (R : Rws') : mulN [R] = R.length := by simp [mulN]
theorem mul_two' (R S : Rws') : mulN [R, S] = R.length * S.length := by simp [mulN]
theorem tog_one (R : Rws') : (List.range R.length).map (togR [R]) = R := by
  apply List.ext_getElem
  · simp
  · intro i h1 h2
    simp only [List.getElem_map, List.getElem_range, togR, madeN, List.map_nil, List.foldl_nil, Nat.div_one, List.append_nil, Nat.mod_eq_of_lt h2]
    rw [List.getD_eq_getElem?_getD, List.getElem?_eq_getElem h2]
    rfl
theorem made_nil : madeN [] = 1 := rfl
theorem mem_tog_two (R S : Rws') (r : List Int) : r ∈ (List.range (R.length * S.length)).map (togR [R, S]) ↔ ∃ a ∈ R, ∃ b ∈ S, r = a ++ b := by
  rw [List.mem_map]
  constructor
  · rintro ⟨n, hn, rfl⟩
    rw [List.mem_range] at hn
    have hS : 0 < S.length := by
      rcases Nat.eq_zero_or_pos S.length with h | h
      · rw [h] at hn; simp at hn
      · exact h
    have hR : n / S.length < R.length := by
      rw [Nat.div_lt_iff_lt_mul hS]
      exact hn
    have hm := Nat.mod_lt n hS
    refine ⟨R[n / S.length], List.getElem_mem _, S[n % S.length], List.getElem_mem _, ?_⟩
    have e1 : madeN [S] = S.length := by simp [madeN]
    simp only [togR, e1, made_nil, Nat.div_one, List.append_nil, Nat.mod_eq_of_lt hR]
    rw [List.getD_eq_getElem?_getD, List.getElem?_eq_getElem hR, List.getD_eq_getElem?_getD, List.getElem?_eq_getElem hm]
    rfl
  · rintro ⟨a, ha, b, hb, rfl⟩
    obtain ⟨i, hi, rfl⟩ := List.getElem_of_mem ha
    obtain ⟨j, hj, rfl⟩ := List.getElem_of_mem hb
    have hS : 0 < S.length := by omega
    refine ⟨i * S.length + j, ?_, ?_⟩
    · rw [List.mem_range]
      have : (i + 1) * S.length ≤ R.length * S.length := Nat.mul_le_mul_right _ hi
      rw [Nat.succ_mul] at this
      omega
    · have e1 : madeN [S] = S.length := by simp [madeN]
      have e2 : (i * S.length + j) / S.length = i := by
        rw [Nat.mul_comm, Nat.mul_add_div hS, Nat.div_eq_of_lt hj]; rfl
      have e3 : (i * S.length + j) % S.length = j := by
        rw [Nat.mul_comm, Nat.mul_add_mod, Nat.mod_eq_of_lt hj]
      simp only [togR, e1, e2, made_nil, Nat.div_one, List.append_nil, Nat.mod_eq_of_lt hi, e3]
      rw [List.getD_eq_getElem?_getD, List.getElem?_eq_getElem hi, List.getD_eq_getElem?_getD, List.getElem?_eq_getElem hj]
      rfl
/-- a select of one source: what its items come to, what it asks. -/
structure OneS (Tm : List Tb) (x : SelX) (j : Nat) (f : List Int → List Int) (g : List Int → Bool) : Prop where
  ss : ∃ al, (foldS Tm x.srcs).ss = [⟨al, j, 0⟩]
  it : ∀ r, (x.items.map fun e => evE (colAt Tm (foldS Tm x.srcs).ss) e.val r) = f r
  ts : ∀ r, ((tnsX Tm x).all fun t => t r) = g r
theorem OneS.num {Tm : List Tb} {x : SelX} {j : Nat} {f : List Int → List Int} {g : List Int → Bool} (h : OneS Tm x j f g) (T : List Tb) : selN Tm T x = (T.getD j tb0).rows.length := by
  obtain ⟨al, hs⟩ := h.ss
  unfold selN
  rw [hs]
  exact mul_one' _
theorem OneS.rows {Tm : List Tb} {x : SelX} {j : Nat} {f : List Int → List Int} {g : List Int → Bool} (h : OneS Tm x j f g) (T : List Tb) : selL Tm T x = ((T.getD j tb0).rows.filter g).map f := by
  rw [selL_map, show (fun r => x.items.map fun e => evE (colAt Tm (foldS Tm x.srcs).ss) e.val r) = f from funext h.it]
  congr 1
  unfold selC
  rw [h.num T]
  obtain ⟨al, hs⟩ := h.ss
  unfold chosenN
  rw [hs]
  rw [show rowsOf T [⟨al, j, 0⟩] = [(T.getD j tb0).rows] from rfl, tog_one, show (fun r => (tnsX Tm x).all fun t => t r) = g from funext h.ts]
/-- a select of two sources. -/
structure TwoS (Tm : List Tb) (x : SelX) (j k : Nat) (f : List Int → List Int) (g : List Int → Bool) : Prop where
  ss : ∃ al bl n, (foldS Tm x.srcs).ss = [⟨al, j, 0⟩, ⟨bl, k, n⟩]
  it : ∀ r, (x.items.map fun e => evE (colAt Tm (foldS Tm x.srcs).ss) e.val r) = f r
  ts : ∀ r, ((tnsX Tm x).all fun t => t r) = g r
theorem TwoS.num {Tm : List Tb} {x : SelX} {j k : Nat} {f : List Int → List Int} {g : List Int → Bool} (h : TwoS Tm x j k f g) (T : List Tb) : selN Tm T x = (T.getD j tb0).rows.length * (T.getD k tb0).rows.length := by
  obtain ⟨al, bl, n, hs⟩ := h.ss
  unfold selN
  rw [hs]
  exact mul_two' _ _
theorem TwoS.mem {Tm : List Tb} {x : SelX} {j k : Nat} {f : List Int → List Int} {g : List Int → Bool} (h : TwoS Tm x j k f g) (T : List Tb) (r : List Int) : r ∈ selL Tm T x ↔ ∃ a ∈ (T.getD j tb0).rows, ∃ b ∈ (T.getD k tb0).rows, g (a ++ b) = true ∧ r = f (a ++ b) := by
  rw [selL_map, show (fun r => x.items.map fun e => evE (colAt Tm (foldS Tm x.srcs).ss) e.val r) = f from funext h.it, List.mem_map]
  unfold selC
  rw [h.num T]
  obtain ⟨al, bl, n, hs⟩ := h.ss
  unfold chosenN
  rw [hs, show rowsOf T [⟨al, j, 0⟩, ⟨bl, k, n⟩] = [(T.getD j tb0).rows, (T.getD k tb0).rows] from rfl, show (fun r => (tnsX Tm x).all fun t => t r) = g from funext h.ts]
  constructor
  · rintro ⟨y, hy, rfl⟩
    rw [List.mem_filter, mem_tog_two] at hy
    obtain ⟨⟨a, ha, b, hb, rfl⟩, hg⟩ := hy
    exact ⟨a, ha, b, hb, hg, rfl⟩
  · rintro ⟨a, ha, b, hb, hg, rfl⟩
    exact ⟨a ++ b, by rw [List.mem_filter, mem_tog_two]; exact ⟨⟨a, ha, b, hb, rfl⟩, hg⟩, rfl⟩
end Go.Proofs.YtfkeddkfegaeiaaGreatDoor
namespace Go.Proofs.YtfkeddkfegaeiaaGreatDoor
open Go.RowKit
def fineB (T : List Tb) (x : SelX) : Bool := x.items.all (fun i => i.win.isNone) && decide (0 < x.items.length) && decide (x.items.length ≤ 6) && decide (0 < x.srcs.length) && decide (x.srcs.length ≤ 3) && decide (x.tests.length ≤ 1000) &&
  (x.tests.foldl (fun a u => orE a (tsErr T (foldS T x.srcs).ss u)) (x.items.foldl (fun a e => orE a (eoV T e (foldS T x.srcs).ss)) (foldS T x.srcs).er)).isNone
theorem fine_of {T : List Tb} {x : SelX} (h : fineB T x = true) : SelFine T x := by
  unfold fineB at h
  simp only [Bool.and_eq_true, List.all_eq_true, Option.isNone_iff_eq_none, decide_eq_true_eq] at h
  obtain ⟨⟨⟨⟨⟨⟨h1, h2⟩, h3⟩, h4⟩, h5⟩, h6⟩, h7⟩ := h
  exact ⟨h1, h2, h3, h4, h5, h6, h7⟩
def ndB : List ByteArray → List Tk → Bool
  | _, [] => true
  | acc, c :: r => !Lib.containsS acc c.text && ndB (acc ++ [c.text]) r
theorem nd_of : ∀ (l : List Tk) (acc : List ByteArray), ndB acc l = true → ∀ pre c suf, l = pre ++ c :: suf → Lib.containsS (acc ++ pre.map (·.text)) c.text = false
  | [], _, _, pre, c, suf, e => by cases pre <;> cases e
  | x :: l, acc, h, [], c, suf, e => by
    unfold ndB at h
    simp only [Bool.and_eq_true, Bool.not_eq_true'] at h
    injection e with e1 e2
    subst e1
    simpa using h.1
  | x :: l, acc, h, p :: pre, c, suf, e => by
    unfold ndB at h
    simp only [Bool.and_eq_true, Bool.not_eq_true'] at h
    injection e with e1 e2
    subst e1
    have := nd_of l (acc ++ [x.text]) h.2 pre c suf e2
    simpa [List.append_assoc] using this
def wFineB (T0 : List Tb) (x : WithX) : Bool := decide (0 < x.cols.length) && decide (x.cols.length ≤ 6) && (tabNo T0 x.name.text).isNone && ndB [] x.cols && fineB T0 x.first && decide (x.first.items.length = x.cols.length) && fineB (T0 ++ [newT x]) x.second && decide (x.second.items.length = x.cols.length)
theorem wfine_of {T0 : List Tb} {x : WithX} (h : wFineB T0 x = true) : WithFine T0 x := by
  unfold wFineB at h
  simp only [Bool.and_eq_true, Option.isNone_iff_eq_none, decide_eq_true_eq] at h
  obtain ⟨⟨⟨⟨⟨⟨⟨h1, h2⟩, h3⟩, h4⟩, h5⟩, h6⟩, h7⟩, h8⟩ := h
  exact ⟨h1, h2, h3, fun pre c suf e => by simpa using nd_of x.cols [] h4 pre c suf e, fine_of h5, h6, fine_of h7, h8⟩
end Go.Proofs.YtfkeddkfegaeiaaGreatDoor
namespace Go.Proofs.YtfkeddkfegaeiaaGreatDoor
open Go.RowKit
/-- the table that is asked. -/
def tR (rows : Rws') : Tb := ⟨⟨#[101]⟩, [⟨#[97]⟩, ⟨#[98]⟩], rows⟩
section
variable (pl : Nat → Nat) (d t : Nat) (rows : Rws')
set_option maxRecDepth 100000
end
end Go.Proofs.YtfkeddkfegaeiaaGreatDoor
namespace Go.Proofs.YtfkeddkfegaeiaaGreatDoor
open Go.RowKit
/-- what Answer leaves, where all names are found. -/
def AnsW (a : Nat → Addr) (w : World) (res : Option Rws') (es : List (ItemA × Value × Option Addr)) (e : Ending) (w' : World) : Prop := Below w.heap.size w w' ∧
  (res = none → e = .returned (.tuple #[.agg #[.slice none 0 0, .slice none 0 0], errV a eMany])) ∧
  ∀ l, res = some l → ∃ gc gr, e = .returned (.tuple #[.agg #[.slice (some ⟨gc, 0, none⟩) es.length es.length, .slice (some ⟨gr, 0, none⟩) l.length l.length], .nilIface]) ∧ w.heap.size ≤ gc ∧ w.heap.size ≤ gr ∧ w'.heap[gc]? = some (.cells (namesV es).toArray 9 (0, 0)) ∧ RowsB w' gr 32 l.length (sortL l)
theorem wholeR_len {T0 : List Tb} {x : WithX} {y : SelX} {l : Rws'} (h : wholeR T0 x y = some l) : l.length ≤ 4000 := by
  unfold wholeR at h
  split at h
  · cases h
  · split at h
    · cases h
    · injection h with h
      subst h
      exact Nat.le_trans (selL_len _ _ _) (by omega)
set_option maxRecDepth 100000 in
set_option maxHeartbeats 4000000 in
theorem answer_with (a : Nat → Addr) (w : World) (B : Nat) (hE : EnvX a B w) (q lo : Nat) (X : QueryX) (hq : QueryOk w lo (.pointer (some ⟨q, 0, none⟩)) X) (x : WithX) (hwt : X.wth = some x)
    (tb tof tc : Nat) (T : List Tb) (hT : TabsAt w (.slice (some ⟨tb, tof, none⟩) T.length tc) T) (h0 : 0 < T.length) (hf9 : T.length < 1000) (hc6 : ∀ t ∈ T, t.cols.length ≤ 6) (h200 : ∀ t ∈ T, t.rows.length ≤ 200) (hsh : ∀ t ∈ T, ∀ r ∈ t.rows, r.length = t.cols.length)
    (hx : WithFine T x) (hy : SelFine (T ++ [newT x]) X.main) :
    ∃ es : List (ItemA × Value × Option Addr), es.map (·.1) = X.main.items ∧ Calls Tryz.prog 51 #[.pointer (some ⟨q, 0, none⟩), .slice (some ⟨tb, tof, none⟩) T.length tc] w fun e w' => AnsW a w (wholeR T x X.main) es e w' := by
  obtain ⟨q', vw, vm, e0, -, hqb, hvw, hsel⟩ := hq
  injection e0 with e0
  injection e0 with e0
  injection e0 with e0
  subst e0
  rw [hwt] at hvw
  have hvw' : WithOk w lo vw x := hvw
  obtain ⟨b, vi, vs, vt, es, us, rfl, hb, hs, hi, hil, hsp, hone, ht, htl, hex, e1, e2, e3, hie⟩ := sel_open hsel hy
  refine ⟨es, hie, ?_⟩
  have hi0 : 0 < es.length := by rw [hil]; exact hy.i0
  have hi6 : es.length ≤ 6 := by rw [hil]; exact hy.i6
  obtain ⟨W0, hW0⟩ : ∃ W0, W0 = w.alloc (.cells #[.slice none 0 0, .slice none 0 0] 68) := ⟨_, rfl⟩
  have hb0 : Below w.heap.size w W0 := by rw [hW0]; exact (Below.refl _ _).alloc (Nat.le_refl _) _
  have hx0 : W0.heap[w.heap.size]? = some (.cells #[.slice none 0 0, .slice none 0 0] 68 (0, 0)) := by rw [hW0]; exact heap_last rfl
  have hEW := hE.keep (hb0.mono hE.env.size)
  have HM := hide (meaning_with a W0 hEW.up q lo _ vw _ ((hb0.block q (lt_of_heap hqb)).trans hqb) tb tof tc T (hT.keep hb0) h0 hf9 hc6 x (hvw'.keep (Nat.le_refl _) (Keeps.ofBelow hb0)) hx X.main (hsel.keep (Nat.le_refl _) (Keeps.ofBelow hb0)) hy)
  have HWR : Hid (∀ w1 wb, MeanW a W0 tb tof tc T x X.main (.returned (.tuple #[.pointer (some ⟨wb, 0, none⟩), .nilIface])) w1 → Calls Tryz.prog 82 #[.pointer (some ⟨wb, 0, none⟩)] w1 fun e w' => WhDone a W0 (wholeR T x X.main) e w') := fun w1 wb hm => by
    obtain ⟨hb1, wb', gb, tb', tc', f1, f2, fm, cur, cv, G, X', he, m1, m2, m3, m4, m5, m6, m7, m8, m9, m10⟩ := hm
    simp only [Ending.returned.injEq, Value.tuple.injEq, Array.mk.injEq, List.cons.injEq, Value.pointer.injEq, Option.some.injEq, Addr.mk.injEq, and_true] at he
    subst he
    exact wrows_with a W0 w1 B (hEW.keep (hb1.mono hEW.env.size)) hEW.env.size tb tof tc T (hT.keep hb0) h200 hsh x hx X.main hy wb gb tb' tc' f1 f2 fm cur cv G X' m1 m2 m3 m4 m5 m6 m7 m8 m9 m10
  have HLEN : Hid (∀ l, wholeR T x X.main = some l → l.length ≤ 4000) := fun l h => wholeR_len h
  generalize wholeR T x X.main = res at *
  have HB0 := hide hb0
  have HX0 := hide hx0
  have zx0 := lt_of_heap hx0
  have zq := lt_of_heap hqb
  obtain ⟨kq, -⟩ := blk hqb
  have q2 : w.cell? ⟨q, 2, none⟩ = some (.pointer (some ⟨b, 0, none⟩)) := kq 2
  have HB := hide hb
  have HI := hide hi
  have HON := hide hone
  have HWW := hide hW0
  clear hE hEW hT hb hs hi hsp hone ht htl hex hc6 hqb kq h200 hsh hx0 hb0 hW0 hvw hvw' hsel hx hy e1 e2 e3 hie hil
  go_enter Tryz.func51, Tryz.ntmps51
  go_wp2_with fail
  rw [← unhide HWW]
  refine (unhide HM).mono ?_
  intro e w1 hmw
  obtain ⟨hb1, wb, gb, tb', tc', f1, f2, fm, cur, cv, G, X', rfl, -⟩ := id hmw
  have HWR1 := hide ((unhide HWR) w1 wb hmw)
  have hz12 := hb1.size
  clear HM HWR hmw hb1
  go_wp2_with fail
  refine (unhide HWR1).mono ?_
  rintro e w2 ⟨hb2, hno, hok⟩
  have HB2 := hide hb2
  have hx2 := (hb2.block _ zx0).trans (unhide HX0)
  have HX2 := hide hx2
  clear HWR1
  cases res with
  | none =>
    obtain rfl := hno rfl
    obtain ⟨kx, fx⟩ := blk hx2
    have zx2 := lt_of_heap hx2
    have x0 : w2.cell? ⟨w.heap.size, 0, none⟩ = some (.slice none 0 0) := kx 0
    have x1 : w2.cell? ⟨w.heap.size, 1, none⟩ = some (.slice none 0 0) := kx 1
    have xf0 : w2.frozen? ⟨w.heap.size, 0, none⟩ = false := fx 0
    have xf1 : w2.frozen? ⟨w.heap.size, 1, none⟩ = false := fx 1
    have HBE : Hid (Below w.heap.size w ((w2.setCell ⟨w.heap.size, 0, none⟩ (.slice none 0 0)).setCell ⟨w.heap.size, 1, none⟩ (.slice none 0 0))) := (((unhide HB0).trans ((unhide HB2).mono (unhide HB0).size)).setCell (Nat.le_refl _) _).setCell (Nat.le_refl _) _
    clear hx2 kx fx hno hok hb2
    go_wp2
    refine bodyPost_ret (v := .tuple #[.agg #[.slice none 0 0, .slice none 0 0], errV a eMany]) (by simp [results, Tryz.results51, go_sem, *]) rfl ⟨unhide HBE, fun _ => rfl, fun l e => by cases e⟩
  | some l =>
    obtain ⟨gr, rfl, hgr, hrb⟩ := hok l rfl
    have hlN := (unhide HLEN) l rfl
    have HSR := hide (sortRows_any w2 gr l.length 32 l hrb (by omega))
    clear hrb hx2 hno hok hb2
    go_wp2_with fail
    refine (unhide HSR).mono ?_
    rintro e w3 ⟨rfl, hg3, hrb3⟩
    have hb3 : Below w.heap.size w w3 := ((unhide HB0).trans ((unhide HB2).mono (unhide HB0).size)).grown hg3 (by have := (unhide HB0).size; have := (unhide HB2).size; omega) (fun k e => by injection e with e; have := (unhide HB0).size; omega)
    have hx3 := (hg3.block w.heap.size (by have := (unhide HB2).size; omega) (fun e => by injection e with e; omega)).trans (unhide HX2)
    have HCO := hide (columns_any w3 b lo _ vi vs vt ((hb3.block b (lt_of_heap (unhide HB))).trans (unhide HB)) es (owns_below (unhide HI) hb3) hi0 hi6 (unhide HON))
    have q23 := (hb3.cell (p := ⟨q, 2, none⟩) zq).trans q2
    have zq3 : q < w3.heap.size := Nat.lt_of_lt_of_le zq hb3.size
    have HB3 := hide hb3
    have HX3 := hide hx3
    have HR3 := hide hrb3
    have zgr : gr < w3.heap.size := by obtain ⟨cur, h9, -⟩ := hrb3; exact lt_of_heap h9
    clear hb3 hx3 hrb3 hg3 HSR
    go_wp2_with fail
    refine (unhide HCO).mono ?_
    rintro e w4 ⟨gc, rfl, hb4, hgc, hnm⟩
    have hx4 := (hb4.block _ (lt_of_heap (unhide HX3))).trans (unhide HX3)
    obtain ⟨kx, fx⟩ := blk hx4
    have zx4 := lt_of_heap hx4
    have x0 : w4.cell? ⟨w.heap.size, 0, none⟩ = some (.slice none 0 0) := kx 0
    have x1 : w4.cell? ⟨w.heap.size, 1, none⟩ = some (.slice none 0 0) := kx 1
    have xf0 : w4.frozen? ⟨w.heap.size, 0, none⟩ = false := fx 0
    have xf1 : w4.frozen? ⟨w.heap.size, 1, none⟩ = false := fx 1
    have HB4 : Hid (Below w.heap.size w w4) := (unhide HB3).trans (hb4.mono (unhide HB3).size)
    have HX4 := hide hx4
    have HR4 : Hid (RowsB w4 gr 32 l.length (sortL l)) := (unhide HR3).turn (x := w3.heap.size) hb4.size (fun k hk _ => hb4.block k hk) (by omega) (fun o z e => by have := World.block_lt_of_cell? w3 _ e; simp at this)
    have HNM := hide hnm
    have hgc2 : w.heap.size < gc := by have := lt_of_heap (unhide HX3); omega
    have hgr2 : w.heap.size < gr := by have := (unhide HB0).size; omega
    have zgc := lt_of_heap hnm
    clear hb4 hx4 kx fx hnm HCO q23
    go_wp2
    refine bodyPost_ret (v := .tuple #[.agg #[.slice (some ⟨gc, 0, none⟩) es.length es.length, .slice (some ⟨gr, 0, none⟩) l.length l.length], .nilIface]) (by simp [results, Tryz.results51, go_sem, *]) rfl ⟨((unhide HB4).setCell (Nat.le_refl _) _).setCell (Nat.le_refl _) _, (fun e => by cases e), fun l' e => ?_⟩
    injection e with e
    subst e
    refine ⟨gc, gr, rfl, by omega, by omega, ?_, ?_⟩
    · rw [Below.heap_setCell _ _ _ _ (by show gc ≠ w.heap.size; omega), Below.heap_setCell _ _ _ _ (by show gc ≠ w.heap.size; omega)]
      exact unhide HNM
    · refine (unhide HR4).turn (x := w.heap.size) (by simp [World.setCell]) (fun k hk hne => ?_) (by omega) (two_slices (unhide HX4) (fun z e => by cases e) (fun z e => by cases e))
      rw [Below.heap_setCell _ _ _ _ hne, Below.heap_setCell _ _ _ _ hne]
end Go.Proofs.YtfkeddkfegaeiaaGreatDoor
namespace Go.Proofs.YtfkeddkfegaeiaaGreatDoor
open Go.RowKit Go.MuLone Go.Maps Go.WideMaps
/-- what Ask leaves, where all names are found. -/
def AskW (a : Nat → Addr) (w : World) (qb mb : Nat) (res : Option Rws') (its : List ItemA) (e : Ending) (w' : World) : Prop := Off2 qb mb w w' ∧
  (res = none → e = .returned (.tuple #[.agg #[.slice none 0 0, .slice none 0 0], errV a eMany])) ∧
  ∀ l, res = some l → ∃ gc gr es, es.map (·.1) = its ∧ e = .returned (.tuple #[.agg #[.slice (some ⟨gc, 0, none⟩) es.length es.length, .slice (some ⟨gr, 0, none⟩) l.length l.length], .nilIface]) ∧ w.heap.size ≤ gc ∧ w.heap.size ≤ gr ∧ w'.heap[gc]? = some (.cells (namesV es).toArray 9 (0, 0)) ∧ RowsB w' gr 32 l.length (sortL l)
set_option maxRecDepth 100000 in
set_option maxHeartbeats 4000000 in
theorem ask_with (a : Nat → Addr) (B : Nat) (w : World) (hE : EnvX a B w) (qb mb n : Nat) (hBq : B ≤ qb) (hBm : B ≤ mb) (D : DataW Value) (s : ByteArray) (hs : s.size ≤ 1000) (X : QueryX) (hX : readP s = .ok X) (tb tof tc : Nat) (T : List Tb) (y m : Int) (hm : 0 ≤ m ∧ m < 1000000000) (hn : n < 1000000000) (hne : mb ≠ qb)
    (hq : w.heap[qb]? = some (.cells (qCells (.slice (some ⟨tb, tof, none⟩) T.length tc) 0 y mb m) 140 (0, 0))) (hown : w.ownsMap Tryz.prog 9 RvM mb n D) (hnew : Maps.has D (.string s.data.toList) = false) (hat : ∀ z, D.atKey (.string s.data.toList) z = z)
    (x : WithX) (hwt : X.wth = some x) (hT : ∀ W, Off2 qb mb w W → TabsAt W (.slice (some ⟨tb, tof, none⟩) T.length tc) T) (h0 : 0 < T.length) (hf9 : T.length < 1000) (hc6 : ∀ t ∈ T, t.cols.length ≤ 6) (h200 : ∀ t ∈ T, t.rows.length ≤ 200) (hsh : ∀ t ∈ T, ∀ r ∈ t.rows, r.length = t.cols.length)
    (hx : WithFine T x) (hy : SelFine (T ++ [newT x]) X.main) :
    Calls Tryz.prog 25 #[.pointer (some ⟨qb, 0, none⟩), .string s] w fun e w' => AskW a w qb mb (wholeR T x X.main) X.main.items e w' := by
  obtain ⟨W0, hW0⟩ : ∃ W0, W0 = w.alloc (.cells #[.slice none 0 0, .slice none 0 0] 68) := ⟨_, rfl⟩
  have hb0 : Below w.heap.size w W0 := by rw [hW0]; exact (Below.refl _ _).alloc (Nat.le_refl _) _
  have hx0 : W0.heap[w.heap.size]? = some (.cells #[.slice none 0 0, .slice none 0 0] 68 (0, 0)) := by rw [hW0]; exact heap_last rfl
  have zq := lt_of_heap hq
  have zm := hown.lt
  have HE0 := hide (hE.keep (hb0.mono hE.env.size))
  have HP := hide (parts_new a B W0 (unhide HE0) qb mb n hBq hBm D s hs X hX _ y m hm hn hne ((hb0.block qb zq).trans hq) (owns_mapB hown hb0) hnew hat)
  have HAN : Hid (∀ w1 b, Off2 qb mb W0 w1 → QueryOk w1 W0.heap.size (.pointer (some ⟨b, 0, none⟩)) X → ∃ es : List (ItemA × Value × Option Addr), es.map (·.1) = X.main.items ∧ Calls Tryz.prog 51 #[.pointer (some ⟨b, 0, none⟩), .slice (some ⟨tb, tof, none⟩) T.length tc] w1 fun e w' => AnsW a w1 (wholeR T x X.main) es e w') := fun w1 b h1 h2 =>
    answer_with a w1 B ((unhide HE0).keep (h1.below (unhide HE0).env.size hBq hBm)) b W0.heap.size X h2 x hwt tb tof tc T (hT w1 ((Below.off2 hb0).trans h1)) h0 hf9 hc6 h200 hsh hx hy
  generalize wholeR T x X.main = res at *
  have HF0 : Hid (Off2 qb mb w W0) := Below.off2 hb0
  have HX0 := hide hx0
  have zx0 := lt_of_heap hx0
  have HWW := hide hW0
  clear hE hX hq hown hnew hat hwt hT hc6 h200 hsh hx hy hb0 hx0 hW0
  go_enter Tryz.func25, Tryz.ntmps25
  go_wp2_with fail
  rw [← unhide HWW]
  refine (unhide HP).mono ?_
  rintro e w1 ⟨b, rfl, hqo, hq1, hmap1, hoff1⟩
  obtain ⟨es, hes, hcall⟩ := (unhide HAN) w1 b hoff1 hqo
  have HC := hide hcall
  have hx1 := (hoff1.block _ zx0 (by omega) (by omega)).trans (unhide HX0)
  have HX1 := hide hx1
  have zx1 := lt_of_heap hx1
  have HF1 : Hid (Off2 qb mb w w1) := (unhide HF0).trans hoff1
  obtain ⟨kq, -⟩ := blk hq1
  have k0 : w1.cell? ⟨qb, 0, none⟩ = some (.slice (some ⟨tb, tof, none⟩) T.length tc) := kq 0
  have zq1 := lt_of_heap hq1
  have hz01 := hoff1.size
  clear hqo hq1 hmap1 hoff1 hcall hx1 kq HP HAN
  go_wp2_with fail
  refine (unhide HC).mono ?_
  rintro e w2 ⟨hb2, hmany, hgood⟩
  have hx2 := (hb2.block _ zx1).trans (unhide HX1)
  have HX2 := hide hx2
  obtain ⟨kx, fx⟩ := blk hx2
  have zx2 := lt_of_heap hx2
  have x0 : w2.cell? ⟨w.heap.size, 0, none⟩ = some (.slice none 0 0) := kx 0
  have x1 : w2.cell? ⟨w.heap.size, 1, none⟩ = some (.slice none 0 0) := kx 1
  have xf0 : w2.frozen? ⟨w.heap.size, 0, none⟩ = false := fx 0
  have xf1 : w2.frozen? ⟨w.heap.size, 1, none⟩ = false := fx 1
  have HF2 : Hid (∀ u v, Off2 qb mb w ((w2.setCell ⟨w.heap.size, 0, none⟩ u).setCell ⟨w.heap.size, 1, none⟩ v)) := fun u v => by
    have h1 := (unhide HF1).trans (Below.off2 hb2)
    refine ⟨h1.os, h1.tape, h1.output, by simpa [World.setCell] using h1.size, fun k hk e1 e2 => ?_⟩
    rw [Below.heap_setCell _ _ _ _ (by show k ≠ w.heap.size; omega), Below.heap_setCell _ _ _ _ (by show k ≠ w.heap.size; omega)]
    exact h1.block k hk e1 e2
  have hzw : w.heap.size < w1.heap.size := zx1
  clear hb2 hx2 kx fx HC k0
  cases res with
  | none =>
    obtain rfl := hmany rfl
    clear hmany hgood
    go_wp2
    exact bodyPost_ret (v := .tuple #[.agg #[.slice none 0 0, .slice none 0 0], errV a eMany]) (by simp [results, Tryz.results25, go_sem, *]) rfl ⟨(unhide HF2) _ _, fun _ => rfl, fun l e => by cases e⟩
  | some l =>
    obtain ⟨gc, gr, rfl, hgc, hgr, hnm, hrb⟩ := hgood l rfl
    have HNM := hide hnm
    have HRB := hide hrb
    have HES := hide hes
    clear hmany hgood hnm hrb hes
    go_wp2
    refine bodyPost_ret (v := .tuple #[.agg #[.slice (some ⟨gc, 0, none⟩) es.length es.length, .slice (some ⟨gr, 0, none⟩) l.length l.length], .nilIface]) (by simp [results, Tryz.results25, go_sem, *]) rfl ⟨(unhide HF2) _ _, (fun e => by cases e), fun l' e => ?_⟩
    injection e with e
    subst e
    refine ⟨gc, gr, es, unhide HES, rfl, by omega, by omega, ?_, ?_⟩
    · rw [Below.heap_setCell _ _ _ _ (by show gc ≠ w.heap.size; omega), Below.heap_setCell _ _ _ _ (by show gc ≠ w.heap.size; omega)]
      exact unhide HNM
    · refine (unhide HRB).turn (x := w.heap.size) (by simp [World.setCell]) (fun k hk hne => ?_) (by omega) (two_slices (unhide HX2) (fun z e => by cases e) (fun z e => by cases e))
      rw [Below.heap_setCell _ _ _ _ hne, Below.heap_setCell _ _ _ _ hne]
end Go.Proofs.YtfkeddkfegaeiaaGreatDoor
