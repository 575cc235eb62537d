/-
  What a token is, and where it is found again.
-/
import Derived.Test.YtjnmkmcopfkdfaaGreatDoorLin
namespace Go.Proofs.YtjnmkmcopfkdfaaGreatDoor

def signL : List (List UInt8) := [[40], [41], [44], [46], [43], [45], [42], [61], [60], [62], [60, 62], [60, 61], [62, 61]]
inductive IsTok (t : Tk) : Prop
  | word (h1 : t.text.data.toList ≠ []) (h2 : ∀ c, c ∈ t.text.data.toList → letterI c.toNat = true) (h3 : wordB t.text.data.toList = true) (hk : t.kind = 1) (hv : t.value = 0)
  | name (h1 : t.text.data.toList ≠ []) (h2 : ∀ c, c ∈ t.text.data.toList → letterI c.toNat = true) (h3 : wordB t.text.data.toList = false) (h4 : t.text.size ≤ 8) (hk : t.kind = 2) (hv : t.value = 0)
  | num (h1 : t.text.data.toList ≠ []) (h2 : ∀ c, c ∈ t.text.data.toList → digitI c.toNat = true) (h3 : numOf t.text.data.toList = some t.value) (hk : t.kind = 3)
  | sign (h1 : t.text.data.toList ∈ signL) (hk : t.kind = 1) (hv : t.value = 0)

theorem byte_all (p : UInt8 → Bool) (h : ∀ n, n < 256 → p (UInt8.ofNat n) = true) (c : UInt8) : p c = true := by
  have := h c.toNat (UInt8.toNat_lt c)
  rwa [UInt8.ofNat_toNat] at this
theorem cut_list (r : ByteArray) (n : Nat) : (r.extract 0 n).data.toList = r.data.toList.take n := by
  simp [ByteArray.data_extract]
theorem take_lead (p : Int → Bool) (l : List UInt8) : l.take (lead p l) = l.takeWhile fun c => p c.toNat := by
  unfold lead
  exact (List.prefix_iff_eq_take.1 (List.takeWhile_prefix _)).symm
theorem while_all (p : Int → Bool) (l : List UInt8) : ∀ c, c ∈ l.takeWhile (fun c => p c.toNat) → p c.toNat = true := by
  induction l with
  | nil => intro c hc; cases hc
  | cons a r ih =>
    intro c hc
    rw [List.takeWhile_cons] at hc
    by_cases ha : p a.toNat = true
    · rw [if_pos ha] at hc
      rcases List.mem_cons.1 hc with rfl | hc
      · exact ha
      · exact ih c hc
    · rw [if_neg ha] at hc; cases hc
theorem while_self {p : Int → Bool} : ∀ {l : List UInt8}, (∀ c, c ∈ l → p c.toNat = true) → l.takeWhile (fun c => p c.toNat) = l
  | [], _ => rfl
  | a :: r, h => by rw [List.takeWhile_cons, if_pos (h a List.mem_cons_self), while_self (fun c hc => h c (List.mem_cons_of_mem _ hc))]
set_option maxRecDepth 100000 in
theorem sign_in (c : UInt8) : (decide (Lib.indexByte signs1 c < 0) || signL.contains [c]) = true := byte_all (fun c => decide (Lib.indexByte signs1 c < 0) || signL.contains [c]) (by decide) c
theorem ne_of_size {r : ByteArray} (h : 0 < r.size) : r.data.toList ≠ [] := fun e => by
  have := sizeL r
  rw [e] at this
  simp at this
  omega

theorem isTok_of_scan {s : ByteArray} {i : Nat} {t : Tk} (hi : i < s.size) (h : scanOneP s i = .ok t) : IsTok t := by
  have hz := (tok_size s i t hi h).1
  unfold scanOneP at h
  simp only at h
  generalize s.extract i s.size = rest at h
  split at h
  · split at h
    · rename_i h1 h2
      cases h
      refine .word (ne_of_size hz) (fun c hc => ?_) h2 rfl rfl
      rw [cut_list, take_lead] at hc
      exact while_all _ _ c hc
    · split at h
      · cases h
      · rename_i h1 h2 h3
        cases h
        refine .name (ne_of_size hz) (fun c hc => ?_) (by simpa using h2) (Nat.le_of_not_lt h3) rfl rfl
        rw [cut_list, take_lead] at hc
        exact while_all _ _ c hc
  · split at h
    · split at h
      · rename_i h1 h2 v h3
        cases h
        refine .num (ne_of_size hz) (fun c hc => ?_) h3 rfl
        rw [cut_list, take_lead] at hc
        exact while_all _ _ c hc
      · cases h
    · split at h
      · cases h
      · rename_i h1 h2 h3
        cases h
        refine .sign ?_ rfl rfl
        have hn := ne_of_size hz
        show (rest.extract 0 (signLen rest.data.toList)).data.toList ∈ signL
        change (rest.extract 0 (signLen rest.data.toList)).data.toList ≠ [] at hn
        rw [cut_list] at hn ⊢
        generalize rest.data.toList = l at *
        unfold signLen at hn h3 ⊢
        by_cases h4 : sign2 l = true
        · rw [if_pos h4]
          unfold sign2 at h4
          simp only [Bool.or_eq_true, beq_iff_eq] at h4
          rcases h4 with (h4 | h4) | h4 <;> rw [h4] <;> decide
        · rw [if_neg h4] at hn h3 ⊢
          by_cases h5 : Lib.indexByte signs1 (l.headD 0) < 0
          · rw [if_pos h5] at h3; exact (h3 rfl).elim
          · rw [if_neg h5] at hn ⊢
            cases l with
            | nil => exact (hn rfl).elim
            | cons c r =>
              have := sign_in c
              rw [Bool.or_eq_true] at this
              rcases this with h6 | h6
              · exact (h5 (by simpa using h6)).elim
              · simpa using h6

/-! ### found again -/
def okNext (l : List UInt8) (c : UInt8) : Bool :=
  if letterI (l.headD 0).toNat then !letterI c.toNat else if digitI (l.headD 0).toNat then !digitI c.toNat else !(l.length == 1 && sign2 (l ++ [c]))
theorem lead_app {p : Int → Bool} {a tail : List UInt8} (ha : ∀ c, c ∈ a → p c.toNat = true) (ht : ∀ c r, tail = c :: r → p c.toNat = false) : lead p (a ++ tail) = a.length := by
  unfold lead
  rw [List.takeWhile_append]
  have h1 : a.takeWhile (fun c => p c.toNat) = a := while_self ha
  rw [h1, if_pos rfl]
  cases tail with
  | nil => simp
  | cons c r =>
    rw [List.takeWhile_cons, ht c r rfl]
    simp
theorem cut_eq {rest text : ByteArray} {tail : List UInt8} (h : rest.data.toList = text.data.toList ++ tail) : rest.extract 0 text.data.toList.length = text := by
  apply Go.WideShapes.bytes_inj
  rw [cut_list, h, List.take_left']
  rfl
theorem head_app {a tail : List UInt8} (h : a ≠ []) : (a ++ tail).headD 0 = a.headD 0 := by
  cases a with
  | nil => exact (h rfl).elim
  | cons c r => rfl
theorem head_mem {a : List UInt8} (h : a ≠ []) : a.headD 0 ∈ a := by
  cases a with
  | nil => exact (h rfl).elim
  | cons c r => simp
set_option maxRecDepth 100000 in
theorem letter_digit (c : UInt8) : (!(letterI c.toNat && digitI c.toNat)) = true := byte_all (fun c => !(letterI c.toNat && digitI c.toNat)) (by decide) c
def signOk (l : List UInt8) : Bool := !letterI (l.headD 0).toNat && !digitI (l.headD 0).toNat && !(l == []) && (if l.length == 1 then !sign2 l && !decide (Lib.indexByte signs1 (l.headD 0) < 0) else sign2 l && l.length == 2)
theorem signL_ok : ∀ l, l ∈ signL → signOk l = true := by decide
theorem sign2_two (a c : UInt8) (r : List UInt8) : sign2 (a :: c :: r) = sign2 [a, c] := rfl

theorem rescan {s : ByteArray} {j : Nat} {t : Tk} {tail : List UInt8} (ht : IsTok t) (hL : (s.extract j s.size).data.toList = t.text.data.toList ++ tail) (hn : ∀ c r, tail = c :: r → okNext t.text.data.toList c = true) : scanOneP s j = .ok ⟨j, t.kind, t.text, t.value⟩ := by
  unfold scanOneP
  simp only
  generalize s.extract j s.size = rest at *
  have hcut := cut_eq hL
  rcases ht with ⟨h1, h2, h3, hk, hv⟩ | ⟨h1, h2, h3, h4, hk, hv⟩ | ⟨h1, h2, h3, hk⟩ | ⟨h1, hk, hv⟩
  · have hl := h2 _ (head_mem h1)
    have hld : lead letterI rest.data.toList = t.text.data.toList.length := by
      rw [hL]
      exact lead_app h2 (fun c r e => by have := hn c r e; unfold okNext at this; rw [if_pos hl] at this; simpa using this)
    rw [hld, hcut, hL, head_app h1, if_pos hl, if_pos h3, hk, hv]
  · have hl := h2 _ (head_mem h1)
    have hld : lead letterI rest.data.toList = t.text.data.toList.length := by
      rw [hL]
      exact lead_app h2 (fun c r e => by have := hn c r e; unfold okNext at this; rw [if_pos hl] at this; simpa using this)
    rw [hld, hcut, hL, head_app h1, if_pos hl, if_neg (by rw [h3]; decide), if_neg (by omega), hk, hv]
  · have hd := h2 _ (head_mem h1)
    have hl : ¬ letterI (t.text.data.toList.headD 0).toNat = true := fun e => by have := letter_digit (t.text.data.toList.headD 0); rw [e, hd] at this; cases this
    have hld : lead digitI rest.data.toList = t.text.data.toList.length := by
      rw [hL]
      exact lead_app h2 (fun c r e => by have := hn c r e; unfold okNext at this; rw [if_neg hl, if_pos hd] at this; simpa using this)
    rw [hld, hcut, hL, head_app h1, if_neg hl, if_pos hd, h3, hk]
  · have ho := signL_ok _ h1
    unfold signOk at ho
    simp only [Bool.and_eq_true, Bool.not_eq_true', beq_eq_false_iff_ne, ne_eq] at ho
    obtain ⟨⟨⟨hl, hd⟩, hne⟩, hs⟩ := ho
    have hsl : signLen rest.data.toList = t.text.data.toList.length := by
      rw [hL]
      generalize t.text.data.toList = l at *
      match l, hne, hs with
      | [a], _, hs =>
        simp only [List.length_singleton, BEq.rfl, if_true, Bool.and_eq_true, Bool.not_eq_true', List.headD_cons] at hs
        have h2 : sign2 ([a] ++ tail) = false := by
          cases tail with
          | nil => exact hs.1
          | cons c r =>
            have := hn c r rfl
            unfold okNext at this
            rw [if_neg (by rw [hl]; decide), if_neg (by rw [hd]; decide)] at this
            show sign2 (a :: c :: r) = false
            rw [sign2_two]
            simpa using this
        unfold signLen
        rw [if_neg (by rw [h2]; decide), if_neg (show ¬ Lib.indexByte signs1 (([a] ++ tail).headD 0) < 0 from of_decide_eq_false hs.2)]
        rfl
      | [a, b], _, hs =>
        simp only [List.length_cons, List.length_nil, Nat.zero_add, Nat.reduceAdd, Nat.reduceBEq, Bool.false_eq_true, if_false, Bool.and_eq_true] at hs
        unfold signLen
        rw [if_pos (show sign2 ([a, b] ++ tail) = true from hs.1)]
        rfl
      | a :: b :: c :: r, _, hs =>
        simp at hs
    rw [hsl, hcut, hL, head_app hne, if_neg (by rw [hl]; decide), if_neg (by rw [hd]; decide), if_neg (by intro e; exact hne (List.length_eq_zero_iff.1 e)), hk, hv]
end Go.Proofs.YtjnmkmcopfkdfaaGreatDoor
