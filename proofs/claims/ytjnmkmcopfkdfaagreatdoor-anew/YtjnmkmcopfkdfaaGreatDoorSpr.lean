/-
  What is told is read again, whatever blanks stand in it.
-/
import Derived.Test.YtjnmkmcopfkdfaaGreatDoorTel
import Derived.Test.YtjnmkmcopfkdfaaGreatDoorSim
namespace Go.Proofs.YtjnmkmcopfkdfaaGreatDoor

def spr (l : List (List UInt8 × Tk)) : List UInt8 := l.flatMap fun x => x.1 ++ x.2.text.data.toList
theorem spr_cons (x : List UInt8 × Tk) (r : List (List UInt8 × Tk)) : spr (x :: r) = x.1 ++ (x.2.text.data.toList ++ spr r) := by simp [spr]
def Fits : List (List UInt8 × Tk) → Prop
  | [] => True
  | [_] => True
  | x :: y :: r => (y.1 = [] → okNext x.2.text.data.toList (y.2.text.data.toList.headD 0) = true) ∧ Fits (y :: r)
def Blank (l : List UInt8) : Prop := ∀ c, c ∈ l → blankI c.toNat = true
def strip (t : Tk) : Nat × ByteArray := (t.kind, t.text)

set_option maxRecDepth 100000 in
theorem letter_blank (c : UInt8) : (!(letterI c.toNat && blankI c.toNat)) = true := byte_all (fun c => !(letterI c.toNat && blankI c.toNat)) (by decide) c
set_option maxRecDepth 100000 in
theorem digit_blank (c : UInt8) : (!(digitI c.toNat && blankI c.toNat)) = true := byte_all (fun c => !(digitI c.toNat && blankI c.toNat)) (by decide) c
/-- blanks, and what is tight ahead. -/
def softB (c : UInt8) : Bool := blankI c.toNat || c == 41 || c == 44 || c == 46
set_option maxRecDepth 100000 in
theorem soft_letter (c : UInt8) : (!softB c || !letterI c.toNat) = true := byte_all (fun c => !softB c || !letterI c.toNat) (by decide) c
set_option maxRecDepth 100000 in
theorem soft_digit (c : UInt8) : (!softB c || !digitI c.toNat) = true := byte_all (fun c => !softB c || !digitI c.toNat) (by decide) c
set_option maxRecDepth 100000 in
theorem soft_sign (c : UInt8) : (!softB c || signL.all fun l => okNext l c) = true := byte_all (fun c => !softB c || signL.all fun l => okNext l c) (by decide) c
theorem IsTok.ne {t : Tk} (h : IsTok t) : t.text.data.toList ≠ [] := by
  rcases h with ⟨h1, _, _, _, _⟩ | ⟨h1, _, _, _, _, _⟩ | ⟨h1, _, _, _⟩ | ⟨h1, _, _⟩
  · exact h1
  · exact h1
  · exact h1
  · intro e; rw [e] at h1; revert h1; decide
theorem ok_soft {t : Tk} (h : IsTok t) {c : UInt8} (hc : softB c = true) : okNext t.text.data.toList c = true := by
  have hl := soft_letter c
  have hd := soft_digit c
  have hs := soft_sign c
  rw [hc] at hl hd hs
  simp only [Bool.not_true, Bool.false_or] at hl hd hs
  rcases h with ⟨h1, h2, _, _, _⟩ | ⟨h1, h2, _, _, _, _⟩ | ⟨h1, h2, _, _⟩ | ⟨h1, _, _⟩
  · unfold okNext; rw [if_pos (h2 _ (head_mem h1))]; exact hl
  · unfold okNext; rw [if_pos (h2 _ (head_mem h1))]; exact hl
  · have h4 := h2 _ (head_mem h1)
    have hn : ¬ letterI (t.text.data.toList.headD 0).toNat = true := fun e => by have := letter_digit (t.text.data.toList.headD 0); rw [e, h4] at this; cases this
    unfold okNext; rw [if_neg hn, if_pos h4]; exact hd
  · exact List.all_eq_true.1 hs _ h1
theorem sign_blank : ∀ l, l ∈ signL → blankI (l.headD 0).toNat = false := by decide
theorem sign_32 : ∀ l, l ∈ signL → ∀ c, c ∈ l → c ≠ 32 := by decide
theorem tok_nb {t : Tk} (h : IsTok t) : blankI (t.text.data.toList.headD 0).toNat = false := by
  rcases h with ⟨h1, h2, _, _, _⟩ | ⟨h1, h2, _, _, _, _⟩ | ⟨h1, h2, _, _⟩ | ⟨h1, _, _⟩
  · have := letter_blank (t.text.data.toList.headD 0); rw [h2 _ (head_mem h1)] at this; simpa using this
  · have := letter_blank (t.text.data.toList.headD 0); rw [h2 _ (head_mem h1)] at this; simpa using this
  · have := digit_blank (t.text.data.toList.headD 0); rw [h2 _ (head_mem h1)] at this; simpa using this
  · exact sign_blank _ h1
theorem tok_32 {t : Tk} (h : IsTok t) : ∀ c, c ∈ t.text.data.toList → c ≠ 32 := fun c hc => by
  rcases h with ⟨_, h2, _, _, _⟩ | ⟨_, h2, _, _, _, _⟩ | ⟨_, h2, _, _⟩ | ⟨h1, _, _⟩
  · intro e; have := h2 c hc; rw [e] at this; revert this; decide
  · intro e; have := h2 c hc; rw [e] at this; revert this; decide
  · intro e; have := h2 c hc; rw [e] at this; revert this; decide
  · exact sign_32 _ h1 c hc
theorem rest_list (s : ByteArray) (a : Nat) : (s.extract a s.size).data.toList = s.data.toList.drop a := by
  simp only [ByteArray.data_extract, Array.toList_extract, List.extract_eq_take_drop]
  exact List.take_of_length_le (by rw [List.length_drop, sizeL]; exact Nat.le_refl _)
theorem drop_pre {s : ByteArray} {pre b : List UInt8} (h : s.data.toList = pre ++ b) : (s.extract pre.length s.size).data.toList = b := by
  rw [rest_list, h, List.drop_left]
theorem size_list (s : ByteArray) {l : List UInt8} (h : s.data.toList = l) : s.size = l.length := by rw [← sizeL, h]

theorem scan_spr (s : ByteArray) : ∀ (l : List (List UInt8 × Tk)) (pre : List UInt8) (f : Nat), s.data.toList = pre ++ spr l → (∀ x, x ∈ l → Blank x.1 ∧ IsTok x.2) → Fits l → s.size < f + pre.length →
    ∃ us, scanFrom s f pre.length = .ok (us ++ [tkEnd s.size]) ∧ us.map strip = l.map fun x => strip x.2
  | [], pre, f, hs, _, _, hf => by
    have hz := size_list s hs
    simp only [spr, List.flatMap_nil, List.append_nil] at hz
    match f, hf with
    | 0, hf => omega
    | f + 1, _ =>
      refine ⟨[], ?_, rfl⟩
      unfold scanFrom
      have hd := drop_pre hs
      rw [hd]
      simp only [spr, List.flatMap_nil]
      rw [show lead blankI [] = 0 from rfl, Nat.add_zero, if_pos hz.symm, hz]
      rfl
  | x :: r, pre, f, hs, hx, hF, hf => by
    obtain ⟨hb, ht⟩ := hx x List.mem_cons_self
    rw [spr_cons] at hs
    have hz := size_list s hs
    simp only [List.length_append] at hz
    have htl : 0 < x.2.text.data.toList.length := List.length_pos_iff.2 ht.ne
    match f, hf with
    | 0, hf => omega
    | f + 1, hf =>
      have hlead : lead blankI (x.1 ++ (x.2.text.data.toList ++ spr r)) = x.1.length := by
        refine lead_app hb (fun c r' e => ?_)
        have := tok_nb ht
        rw [← head_app (tail := spr r) ht.ne, e] at this
        exact this
      have hs2 : s.data.toList = (pre ++ x.1) ++ (x.2.text.data.toList ++ spr r) := by rw [hs]; simp
      have hr := rescan (s := s) (j := pre.length + x.1.length) (t := x.2) (tail := spr r) ht (by rw [← List.length_append]; exact drop_pre hs2) (fun c r' e => by
        match r, hF, e, hx with
        | [], _, e, _ => cases e
        | y :: r2, hF, e, hx =>
          obtain ⟨hb2, ht2⟩ := hx y (List.mem_cons_of_mem _ List.mem_cons_self)
          rw [spr_cons] at e
          cases hy : y.1 with
          | nil =>
            rw [hy, List.nil_append] at e
            have h1 := hF.1 hy
            rw [← head_app (tail := spr r2) ht2.ne, e] at h1
            exact h1
          | cons d q =>
            rw [hy, List.cons_append] at e
            have hdc : d = c := by injection e
            subst hdc
            refine ok_soft ht ?_
            unfold softB
            rw [hb2 d (by rw [hy]; exact List.mem_cons_self)]
            rfl)
      have hs3 : s.data.toList = (pre ++ x.1 ++ x.2.text.data.toList) ++ spr r := by rw [hs]; simp
      have hF2 : Fits r := by
        cases r with
        | nil => trivial
        | cons y r2 => exact hF.2
      have hlen : (pre ++ x.1 ++ x.2.text.data.toList).length = pre.length + x.1.length + x.2.text.size := by simp only [List.length_append]; rw [← sizeL x.2.text]
      obtain ⟨us, h1, h2⟩ := scan_spr s r (pre ++ x.1 ++ x.2.text.data.toList) f hs3 (fun y hy => hx y (List.mem_cons_of_mem _ hy)) hF2 (by rw [hlen, ← sizeL x.2.text]; omega)
      refine ⟨⟨pre.length + x.1.length, x.2.kind, x.2.text, x.2.value⟩ :: us, ?_, ?_⟩
      · unfold scanFrom
        rw [drop_pre hs, hlead]
        simp only
        rw [if_neg (by omega), hr]
        simp only
        rw [hlen] at h1
        rw [h1]
        rfl
      · simp only [List.map_cons, h2]
        rfl

/-! ### what is told, by gaps and tokens -/
def ttOf (x : Tk × Bool) : TT := (x.1.text, x.2)
def sgap (p : TT) (b : ByteArray) : Bool := !(p.2 || tightB p.1) && !tightA b
def wGaps (sp : Nat → List UInt8) : Nat → TT → List (Tk × Bool) → List (List UInt8 × Tk)
  | _, _, [] => []
  | n, p, x :: r => if sgap p x.1.text then (sp n, x.1) :: wGaps sp (n + 1) (ttOf x) r else ([], x.1) :: wGaps sp n (ttOf x) r
def s32 : Nat → List UInt8 := fun _ => [32]
theorem lay_gaps : ∀ (k : List (Tk × Bool)) (n : Nat) (p : TT) (o : Out), o.1 ≠ [] → o.2 = (p.2 || tightB p.1) → (layAll o (k.map ttOf)).1 = o.1 ++ spr (wGaps s32 n p k)
  | [], _, _, o, _, _ => by simp [wGaps, spr, layAll]
  | x :: r, n, p, o, ho, hp => by
    have hl : 0 < o.1.length := List.length_pos_iff.2 ho
    have hg : gapped o (ttOf x).1 = sgap p x.1.text := by
      unfold gapped sgap ttOf
      rw [decide_eq_true hl, hp]
      simp
    rw [List.map_cons, layAll_cons, wGaps]
    by_cases h : sgap p x.1.text = true
    · rw [if_pos h, spr_cons, lay_gaps r (n + 1) (ttOf x) (lay o (ttOf x)) (by unfold lay; simp [ho]) rfl]
      unfold lay
      rw [hg, if_pos h]
      simp [ttOf, s32]
    · rw [if_neg h, spr_cons, lay_gaps r n (ttOf x) (lay o (ttOf x)) (by unfold lay; simp [ho]) rfl]
      unfold lay
      rw [hg, if_neg h]
      simp [ttOf]
/-- every space turned to the blanks of its number. -/
def expand (sp : Nat → List UInt8) : Nat → List UInt8 → List UInt8
  | _, [] => []
  | n, c :: r => if c = 32 then sp n ++ expand sp (n + 1) r else c :: expand sp n r
theorem expand_text (sp : Nat → List UInt8) (n : Nat) (b : List UInt8) : ∀ (a : List UInt8), (∀ c, c ∈ a → c ≠ 32) → expand sp n (a ++ b) = a ++ expand sp n b
  | [], _ => rfl
  | c :: r, h => by
    rw [List.cons_append, expand, if_neg (h c List.mem_cons_self), expand_text sp n b r (fun d hd => h d (List.mem_cons_of_mem _ hd)), List.cons_append]
theorem expand_gaps (sp : Nat → List UInt8) : ∀ (k : List (Tk × Bool)) (n : Nat) (p : TT), (∀ x, x ∈ k → IsTok x.1) → expand sp n (spr (wGaps s32 n p k)) = spr (wGaps sp n p k)
  | [], _, _, _ => rfl
  | x :: r, n, p, h => by
    have ht := tok_32 (h x List.mem_cons_self)
    have hr := fun n => expand_gaps sp r n (ttOf x) (fun y hy => h y (List.mem_cons_of_mem _ hy))
    rw [wGaps, wGaps]
    by_cases hg : sgap p x.1.text = true
    · rw [if_pos hg, if_pos hg, spr_cons, spr_cons]
      show expand sp n (32 :: (x.1.text.data.toList ++ spr (wGaps s32 (n + 1) (ttOf x) r))) = _
      rw [expand, if_pos rfl, expand_text _ _ _ _ ht, hr]
    · rw [if_neg hg, if_neg hg, spr_cons, spr_cons]
      simp only [List.nil_append]
      rw [expand_text _ _ _ _ ht, hr]
def sane : Bool → List UInt8 → Bool
  | p, [] => !p
  | p, c :: r => if c = 32 then !p && sane true r else sane false r
theorem sane_text (b : List UInt8) : ∀ (a : List UInt8) (p : Bool), a ≠ [] → (∀ c, c ∈ a → c ≠ 32) → sane p (a ++ b) = sane false b
  | [], _, h, _ => (h rfl).elim
  | [c], p, _, h => by
    rw [List.cons_append, sane, if_neg (h c List.mem_cons_self)]
    rfl
  | c :: d :: r, p, _, h => by
    rw [List.cons_append, sane, if_neg (h c List.mem_cons_self)]
    exact sane_text b (d :: r) false (by simp) (fun e he => h e (List.mem_cons_of_mem _ he))
theorem sane_gaps : ∀ (k : List (Tk × Bool)) (n : Nat) (p : TT), (∀ x, x ∈ k → IsTok x.1) → sane false (spr (wGaps s32 n p k)) = true
  | [], _, _, _ => rfl
  | x :: r, n, p, h => by
    have h0 := h x List.mem_cons_self
    have ht := tok_32 h0
    have hr := fun n => sane_gaps r n (ttOf x) (fun y hy => h y (List.mem_cons_of_mem _ hy))
    rw [wGaps]
    by_cases hg : sgap p x.1.text = true
    · rw [if_pos hg, spr_cons]
      show sane false (32 :: (x.1.text.data.toList ++ spr (wGaps s32 (n + 1) (ttOf x) r))) = true
      rw [sane, if_pos rfl, sane_text _ _ _ h0.ne ht, hr]
      rfl
    · rw [if_neg hg, spr_cons]
      simp only [List.nil_append]
      rw [sane_text _ _ _ h0.ne ht, hr]

/-! ### gaps that are none -/
set_option maxRecDepth 100000 in
theorem free_next (c : UInt8) : (okNext [40] c && okNext [46] c && okNext [45] c) = true := byte_all (fun c => okNext [40] c && okNext [46] c && okNext [45] c) (by decide) c
theorem tightB_cases {x : ByteArray} (h : tightB x = true) : x.data.toList = [40] ∨ x.data.toList = [46] ∨ isCallB x = true := by
  unfold tightB at h
  rw [ByteArray.toList_eq] at h
  simp only [Bool.or_eq_true, beq_iff_eq] at h
  rcases h with ((((((h | h) | h) | h) | h) | h) | h)
  · exact Or.inl h
  · exact Or.inr (Or.inl h)
  all_goals exact Or.inr (Or.inr (by unfold isCallB xCalls; rw [h]; rfl))
theorem tightA_cases {x : ByteArray} (h : tightA x = true) : softB (x.data.toList.headD 0) = true := by
  unfold tightA at h
  rw [ByteArray.toList_eq] at h
  simp only [Bool.or_eq_true, beq_iff_eq] at h
  rcases h with (h | h) | h <;> rw [h] <;> decide
theorem ok_adj {x : Tk} {g : Bool} {y : ByteArray} (hx : IsTok x) (hg : sgap (x.text, g) y = false) (hc : isCallB x.text = true → y.data.toList = [40]) (hm : g = true → x.text.data.toList = [45]) : okNext x.text.data.toList (y.data.toList.headD 0) = true := by
  have hf := free_next (y.data.toList.headD 0)
  simp only [Bool.and_eq_true] at hf
  unfold sgap at hg
  simp only [Bool.and_eq_false_iff, Bool.not_eq_false', Bool.or_eq_true] at hg
  rcases hg with (h | h) | h
  · rw [hm h]; exact hf.2
  · rcases tightB_cases h with h | h | h
    · rw [h]; exact hf.1.1
    · rw [h]; exact hf.1.2
    · rw [hc h]
      unfold okNext
      rw [if_pos (call_head _ h)]
      decide
  · exact ok_soft hx (tightA_cases h)
theorem fits_gaps {sp : Nat → List UInt8} (hsp : ∀ n, sp n ≠ []) : ∀ (k : List (Tk × Bool)) (n : Nat) (x : Tk × Bool) (g : List UInt8), (∀ y, y ∈ x :: k → IsTok y.1) → Good ((x :: k).map ttOf) → Fits ((g, x.1) :: wGaps sp n (ttOf x) k)
  | [], _, _, _, _, _ => trivial
  | y :: r, n, x, g, h, hG => by
    have hr : ∀ n g, Fits ((g, y.1) :: wGaps sp n (ttOf y) r) := fun n g => fits_gaps hsp r n y g (fun z hz => h z (List.mem_cons_of_mem _ hz)) hG.2.2
    rw [wGaps]
    by_cases hg : sgap (ttOf x) y.1.text = true
    · rw [if_pos hg]
      exact ⟨fun e => (hsp n e).elim, hr _ _⟩
    · rw [if_neg hg]
      exact ⟨fun _ => ok_adj (g := x.2) (h x List.mem_cons_self) (show sgap (ttOf x) y.1.text = false from by simpa using hg) hG.1 hG.2.1, hr _ _⟩
theorem gaps_tok {sp : Nat → List UInt8} (hsp : ∀ n, Blank (sp n)) : ∀ (k : List (Tk × Bool)) (n : Nat) (p : TT), (∀ y, y ∈ k → IsTok y.1) → ∀ z, z ∈ wGaps sp n p k → Blank z.1 ∧ IsTok z.2
  | [], _, _, _, z, hz => by cases hz
  | x :: r, n, p, h, z, hz => by
    rw [wGaps] at hz
    by_cases hg : sgap p x.1.text = true
    · rw [if_pos hg] at hz
      rcases List.mem_cons.1 hz with rfl | hz
      · exact ⟨hsp n, h x List.mem_cons_self⟩
      · exact gaps_tok hsp r _ _ (fun y hy => h y (List.mem_cons_of_mem _ hy)) z hz
    · rw [if_neg hg] at hz
      rcases List.mem_cons.1 hz with rfl | hz
      · exact ⟨fun c hc => (by cases hc), h x List.mem_cons_self⟩
      · exact gaps_tok hsp r _ _ (fun y hy => h y (List.mem_cons_of_mem _ hy)) z hz
theorem gaps_toks (sp : Nat → List UInt8) : ∀ (k : List (Tk × Bool)) (n : Nat) (p : TT), (wGaps sp n p k).map (fun x => strip x.2) = k.map fun x => strip x.1
  | [], _, _ => rfl
  | x :: r, n, p => by
    rw [wGaps]
    split <;> simp only [List.map_cons, gaps_toks sp r]

theorem zip_tt : ∀ (m : List TT) (l : List Tk), m.map (·.1) = l.map (·.text) → (l.zip (m.map (·.2))).map ttOf = m ∧ (l.zip (m.map (·.2))).map (·.1) = l
  | [], [], _ => ⟨rfl, rfl⟩
  | [], _ :: _, h => by cases h
  | _ :: _, [], h => by cases h
  | a :: m, t :: l, h => by
    simp only [List.map_cons, List.cons.injEq] at h
    obtain ⟨h1, h2⟩ := zip_tt m l h.2
    refine ⟨?_, ?_⟩
    · simp only [List.map_cons, List.zip_cons_cons, h1]
      rw [show ttOf (t, a.2) = a from by unfold ttOf; rw [← h.1]]
    · simp only [List.map_cons, List.zip_cons_cons, h2]
theorem simT_of {l us : List Tk} {e e' : Tk} (h : us.map strip = l.map strip) (he : strip e = strip e') : SimT (l ++ [e]) (us ++ [e']) := by
  have hm : (l ++ [e]).map strip = (us ++ [e']).map strip := by simp [h, he]
  have hlen : (l ++ [e]).length = (us ++ [e']).length := by have := congrArg List.length hm; simpa using this
  have key : ∀ i, strip (tkAt (l ++ [e]) i) = strip (tkAt (us ++ [e']) i) := fun i => by
    have := congrArg (fun x => x[i]?) hm
    simp only [List.getElem?_map] at this
    unfold tkAt
    rw [List.getD_eq_getElem?_getD, List.getD_eq_getElem?_getD]
    rcases Nat.lt_or_ge i (l ++ [e]).length with h1 | h1
    · rw [List.getElem?_eq_getElem h1, List.getElem?_eq_getElem (by omega)] at this ⊢
      simpa using this
    · rw [List.getElem?_eq_none h1, List.getElem?_eq_none (by omega)]
  exact ⟨hlen, fun i => congrArg (·.1) (key i), fun i => congrArg (·.2) (key i)⟩

theorem anew_plain {text : ByteArray} {T : List UInt8} (h : tellP text = .ok T) : sane true T = true ∧ ∀ sp : Nat → List UInt8, (∀ n, sp n ≠ [] ∧ Blank (sp n)) → ∀ s : ByteArray, s.data.toList = expand sp 0 T → tellP s = .ok T := by
  unfold tellP readP at h
  cases hsc : scanP text with
  | error e => rw [hsc] at h; cases h
  | ok ts =>
    rw [hsc] at h
    simp only at h
    cases hr : readT ts with
    | error e => rw [hr] at h; cases h
    | ok x =>
      rw [hr] at h
      have hT : tellQ x = T := by cases h; rfl
      obtain ⟨l, hl⟩ := scanP_shape hsc
      obtain ⟨_, _, _, _, heq, hG⟩ := readT_ok hl hr
      obtain ⟨z1, z2⟩ := zip_tt (tkQuery x) l heq
      have hne := tkQuery_ne x
      generalize hk : l.zip ((tkQuery x).map (·.2)) = k at z1 z2
      have htok : ∀ y, y ∈ k → IsTok y.1 := fun y hy => hl.tok _ (by rw [← z2]; exact List.mem_map_of_mem hy)
      match k, z1, z2, htok with
      | [], z1, _, _ => exact (hne z1.symm).elim
      | y :: r, z1, z2, htok =>
        have hy := htok y List.mem_cons_self
        have hrt : ∀ z, z ∈ r → IsTok z.1 := fun z hz => htok z (List.mem_cons_of_mem _ hz)
        have hTe : T = y.1.text.data.toList ++ spr (wGaps s32 0 (ttOf y) r) := by
          rw [← hT]
          unfold tellQ
          rw [← z1, List.map_cons, layAll_cons]
          have hlay : lay ([], false) (ttOf y) = (y.1.text.data.toList, (ttOf y).2 || tightB (ttOf y).1) := by
            unfold lay gapped
            simp [ttOf]
          rw [hlay, lay_gaps r 0 (ttOf y) _ hy.ne rfl]
        refine ⟨by rw [hTe, sane_text _ _ _ hy.ne (tok_32 hy), sane_gaps r 0 (ttOf y) hrt], fun sp hsp s hs => ?_⟩
        rw [hTe, expand_text _ _ _ _ (tok_32 hy), expand_gaps sp r 0 (ttOf y) hrt] at hs
        have hs2 : s.data.toList = [] ++ spr (([], y.1) :: wGaps sp 0 (ttOf y) r) := by rw [spr_cons, hs]; rfl
        obtain ⟨us, hu1, hu2⟩ := scan_spr s _ [] (s.size + 1) hs2 (fun z hz => by
          rcases List.mem_cons.1 hz with rfl | hz
          · exact ⟨fun c hc => (by cases hc), hy⟩
          · exact gaps_tok (fun n => (hsp n).2) r _ _ hrt z hz) (fits_gaps (fun n => (hsp n).1) r 0 y [] htok (by rw [z1]; exact hG)) (by show s.size < s.size + 1 + 0; omega)
        have hsim : SimT ts (us ++ [tkEnd s.size]) := by
          rw [hl.eq]
          refine simT_of ?_ rfl
          rw [hu2, List.map_cons, gaps_toks, ← z2, List.map_map]
          rfl
        obtain ⟨q, hq1, hq2⟩ := sim_read hsim hr
        have hsp' : scanP s = .ok (us ++ [tkEnd s.size]) := hu1
        unfold tellP readP
        rw [hsp']
        simp only
        rw [hq1]
        simp only
        rw [← hT]
        unfold tellQ
        rw [hq2]
end Go.Proofs.YtjnmkmcopfkdfaaGreatDoor
