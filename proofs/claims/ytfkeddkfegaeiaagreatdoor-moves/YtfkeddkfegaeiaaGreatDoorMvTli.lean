/-
  Part 16.
-/
import Derived.Test.YtfkeddkfegaeiaaGreatDoorMvWth
import Derived.KernelRfl
namespace Go.Proofs.YtfkeddkfegaeiaaGreatDoor
open Go.RowKit
theorem ItV.isI {w : World} {lo : Nat} {v wv : Value} {x : Option WinA} {l : List Nd} (h : ItV w lo v wv x l) : IsI v := by
  match x, h with
  | none, h => obtain ⟨u, z, e⟩ := ExIn.isI (h.2 : ExIn w (fun k => lo ≤ k) v l); exact Or.inr ⟨u, z, e⟩
  | some q, h => exact Or.inl h.1
end Go.Proofs.YtfkeddkfegaeiaaGreatDoor
namespace Go.Proofs.YtfkeddkfegaeiaaGreatDoor
open Go.RowKit
theorem SelOk.ts {tl lo : Nat} {w w' : World} {v : Value} {x : SelX} (h : SelOk w lo v x) (ht : TSt tl w w') : SelOk w' lo v x := h.keep (Nat.le_refl _) (ht.keeps (tkT_of rfl rfl))
end Go.Proofs.YtfkeddkfegaeiaaGreatDoor
namespace Go.Proofs.YtfkeddkfegaeiaaGreatDoor
/-- the tokens' texts from a on, up to b. -/
def seg (ts : List Tk) (a b : Nat) : List ByteArray := ((ts.map (·.text)).drop a).take (b - a)
theorem seg_add {ts : List Tk} {a b c : Nat} (h1 : a ≤ b) (h2 : b ≤ c) : seg ts a b ++ seg ts b c = seg ts a c := by
  unfold seg
  rw [show (ts.map (·.text)).drop b = ((ts.map (·.text)).drop a).drop (b - a) by rw [List.drop_drop]; congr 1; omega]
  rw [show c - a = (b - a) + (c - b) by omega, List.take_add]
theorem seg_nil (ts : List Tk) (a : Nat) : seg ts a a = [] := by simp [seg]
def isCallB (x : ByteArray) : Bool := xCalls.any fun y => y.data.toList == x.data.toList
abbrev One (x : ByteArray) (g : Bool) : Prop := isCallB x = false ∧ (g = true → x.data.toList = [45])
/-- the word of a call stands ahead of its bracket; only a minus is tight of itself. -/
def Good : List TT → Prop
  | [] => True
  | [a] => One a.1 a.2
  | a :: b :: r => (isCallB a.1 = true → b.1.data.toList = [40]) ∧ (a.2 = true → a.1.data.toList = [45]) ∧ Good (b :: r)
theorem good_one {a : TT} {r : List TT} (h : One a.1 a.2) (hr : Good r) : Good (a :: r) := by
  cases r with
  | nil => exact h
  | cons b r => exact ⟨fun hc => (by rw [h.1] at hc; cases hc), h.2, hr⟩
theorem good_append : ∀ {m n : List TT}, Good m → Good n → Good (m ++ n)
  | [], _, _, hn => hn
  | [_], _, hm, hn => good_one hm hn
  | _ :: b :: r, _, hm, hn => ⟨hm.1, hm.2.1, good_append (m := b :: r) hm.2.2 hn⟩
structure Lin (ts : List Tk) (st st' : St) (m : List TT) : Prop where
  le : st.nx ≤ st'.nx
  eq : m.map (·.1) = seg ts st.nx st'.nx
  good : Good m
theorem Lin.refl {ts : List Tk} (st : St) : Lin ts st st [] := ⟨Nat.le_refl _, by rw [seg_nil]; rfl, trivial⟩
theorem Lin.trans {ts : List Tk} {a b c : St} {m n : List TT} (h : Lin ts a b m) (k : Lin ts b c n) : Lin ts a c (m ++ n) :=
  ⟨Nat.le_trans h.le k.le, by rw [List.map_append, h.eq, k.eq, seg_add h.le k.le], good_append h.good k.good⟩
theorem fail_nn {ts : List Tk} {st : St} {k : Nat} (h : (failP ts st k).er = none) : False := by
  unfold failP at h
  cases hr : st.er with
  | none => rw [hr] at h; cases h
  | some x => rw [hr] at h; cases h
end Go.Proofs.YtfkeddkfegaeiaaGreatDoor
namespace Go.Proofs.YtfkeddkfegaeiaaGreatDoor
def signL : List (List UInt8) := [[40], [41], [44], [46], [43], [45], [42], [61], [60], [62], [60, 62], [60, 61], [62, 61]]
inductive IsTok (t : Tk) : Prop
  | word (h1 : t.text.data.toList ≠ []) (h2 : ∀ c, c ∈ t.text.data.toList → letterI c.toNat = true) (h3 : wordB t.text.data.toList = true) (hk : t.kind = 1) (hv : t.value = 0)
  | name (h1 : t.text.data.toList ≠ []) (h2 : ∀ c, c ∈ t.text.data.toList → letterI c.toNat = true) (h3 : wordB t.text.data.toList = false) (h4 : t.text.size ≤ 8) (hk : t.kind = 2) (hv : t.value = 0)
  | num (h1 : t.text.data.toList ≠ []) (h2 : ∀ c, c ∈ t.text.data.toList → digitI c.toNat = true) (h3 : numOf t.text.data.toList = some t.value) (hk : t.kind = 3)
  | sign (h1 : t.text.data.toList ∈ signL) (hk : t.kind = 1) (hv : t.value = 0)
theorem byte_all (p : UInt8 → Bool) (h : ∀ n, n < 256 → p (UInt8.ofNat n) = true) (c : UInt8) : p c = true := by
  have := h c.toNat (UInt8.toNat_lt c)
  rwa [UInt8.ofNat_toNat] at this
theorem cut_list (r : ByteArray) (n : Nat) : (r.extract 0 n).data.toList = r.data.toList.take n := by
  simp [ByteArray.data_extract]
theorem take_lead (p : Int → Bool) (l : List UInt8) : l.take (lead p l) = l.takeWhile fun c => p c.toNat := by
  unfold lead
  exact (List.prefix_iff_eq_take.1 (List.takeWhile_prefix _)).symm
theorem while_all (p : Int → Bool) (l : List UInt8) : ∀ c, c ∈ l.takeWhile (fun c => p c.toNat) → p c.toNat = true := by
  induction l with
  | nil => intro c hc; cases hc
  | cons a r ih =>
    intro c hc
    rw [List.takeWhile_cons] at hc
    by_cases ha : p a.toNat = true
    · rw [if_pos ha] at hc
      rcases List.mem_cons.1 hc with rfl | hc
      · exact ha
      · exact ih c hc
    · rw [if_neg ha] at hc; cases hc
theorem while_self {p : Int → Bool} : ∀ {l : List UInt8}, (∀ c, c ∈ l → p c.toNat = true) → l.takeWhile (fun c => p c.toNat) = l
  | [], _ => rfl
  | a :: r, h => by rw [List.takeWhile_cons, if_pos (h a List.mem_cons_self), while_self (fun c hc => h c (List.mem_cons_of_mem _ hc))]
set_option maxRecDepth 100000 in
theorem sign_in (c : UInt8) : (decide (Lib.indexByte signs1 c < 0) || signL.contains [c]) = true := byte_all (fun c => decide (Lib.indexByte signs1 c < 0) || signL.contains [c]) (by decide) c
theorem ne_of_size {r : ByteArray} (h : 0 < r.size) : r.data.toList ≠ [] := fun e => by
  have := sizeL r
  rw [e] at this
  simp at this
  omega
theorem isTok_of_scan {s : ByteArray} {i : Nat} {t : Tk} (hi : i < s.size) (h : scanOneP s i = .ok t) : IsTok t := by
  have hz := (tok_size s i t hi h).1
  unfold scanOneP at h
  simp only at h
  generalize s.extract i s.size = rest at h
  split at h
  · split at h
    · rename_i h1 h2
      cases h
      refine .word (ne_of_size hz) (fun c hc => ?_) h2 rfl rfl
      rw [cut_list, take_lead] at hc
      exact while_all _ _ c hc
    · split at h
      · cases h
      · rename_i h1 h2 h3
        cases h
        refine .name (ne_of_size hz) (fun c hc => ?_) (by simpa using h2) (Nat.le_of_not_lt h3) rfl rfl
        rw [cut_list, take_lead] at hc
        exact while_all _ _ c hc
  · split at h
    · split at h
      · rename_i h1 h2 v h3
        cases h
        refine .num (ne_of_size hz) (fun c hc => ?_) h3 rfl
        rw [cut_list, take_lead] at hc
        exact while_all _ _ c hc
      · cases h
    · split at h
      · cases h
      · rename_i h1 h2 h3
        cases h
        refine .sign ?_ rfl rfl
        have hn := ne_of_size hz
        show (rest.extract 0 (signLen rest.data.toList)).data.toList ∈ signL
        change (rest.extract 0 (signLen rest.data.toList)).data.toList ≠ [] at hn
        rw [cut_list] at hn ⊢
        generalize rest.data.toList = l at *
        unfold signLen at hn h3 ⊢
        by_cases h4 : sign2 l = true
        · rw [if_pos h4]
          unfold sign2 at h4
          simp only [Bool.or_eq_true, beq_iff_eq] at h4
          rcases h4 with (h4 | h4) | h4 <;> rw [h4] <;> decide
        · rw [if_neg h4] at hn h3 ⊢
          by_cases h5 : Lib.indexByte signs1 (l.headD 0) < 0
          · rw [if_pos h5] at h3; exact (h3 rfl).elim
          · rw [if_neg h5] at hn ⊢
            cases l with
            | nil => exact (hn rfl).elim
            | cons c r =>
              have := sign_in c
              rw [Bool.or_eq_true] at this
              rcases this with h6 | h6
              · exact (h5 (by simpa using h6)).elim
              · simpa using h6
def okNext (l : List UInt8) (c : UInt8) : Bool :=
  if letterI (l.headD 0).toNat then !letterI c.toNat else if digitI (l.headD 0).toNat then !digitI c.toNat else !(l.length == 1 && sign2 (l ++ [c]))
theorem lead_app {p : Int → Bool} {a tail : List UInt8} (ha : ∀ c, c ∈ a → p c.toNat = true) (ht : ∀ c r, tail = c :: r → p c.toNat = false) : lead p (a ++ tail) = a.length := by
  unfold lead
  rw [List.takeWhile_append]
  have h1 : a.takeWhile (fun c => p c.toNat) = a := while_self ha
  rw [h1, if_pos rfl]
  cases tail with
  | nil => simp
  | cons c r =>
    rw [List.takeWhile_cons, ht c r rfl]
    simp
theorem cut_eq {rest text : ByteArray} {tail : List UInt8} (h : rest.data.toList = text.data.toList ++ tail) : rest.extract 0 text.data.toList.length = text := by
  apply Go.WideShapes.bytes_inj
  rw [cut_list, h, List.take_left']
  rfl
theorem head_app {a tail : List UInt8} (h : a ≠ []) : (a ++ tail).headD 0 = a.headD 0 := by
  cases a with
  | nil => exact (h rfl).elim
  | cons c r => rfl
theorem head_mem {a : List UInt8} (h : a ≠ []) : a.headD 0 ∈ a := by
  cases a with
  | nil => exact (h rfl).elim
  | cons c r => simp
set_option maxRecDepth 100000 in
theorem letter_digit (c : UInt8) : (!(letterI c.toNat && digitI c.toNat)) = true := byte_all (fun c => !(letterI c.toNat && digitI c.toNat)) (by decide) c
def signOk (l : List UInt8) : Bool := !letterI (l.headD 0).toNat && !digitI (l.headD 0).toNat && !(l == []) && (if l.length == 1 then !sign2 l && !decide (Lib.indexByte signs1 (l.headD 0) < 0) else sign2 l && l.length == 2)
theorem signL_ok : ∀ l, l ∈ signL → signOk l = true := by decide
theorem sign2_two (a c : UInt8) (r : List UInt8) : sign2 (a :: c :: r) = sign2 [a, c] := rfl
theorem rescan {s : ByteArray} {j : Nat} {t : Tk} {tail : List UInt8} (ht : IsTok t) (hL : (s.extract j s.size).data.toList = t.text.data.toList ++ tail) (hn : ∀ c r, tail = c :: r → okNext t.text.data.toList c = true) : scanOneP s j = .ok ⟨j, t.kind, t.text, t.value⟩ := by
  unfold scanOneP
  simp only
  generalize s.extract j s.size = rest at *
  have hcut := cut_eq hL
  rcases ht with ⟨h1, h2, h3, hk, hv⟩ | ⟨h1, h2, h3, h4, hk, hv⟩ | ⟨h1, h2, h3, hk⟩ | ⟨h1, hk, hv⟩
  · have hl := h2 _ (head_mem h1)
    have hld : lead letterI rest.data.toList = t.text.data.toList.length := by
      rw [hL]
      exact lead_app h2 (fun c r e => by have := hn c r e; unfold okNext at this; rw [if_pos hl] at this; simpa using this)
    rw [hld, hcut, hL, head_app h1, if_pos hl, if_pos h3, hk, hv]
  · have hl := h2 _ (head_mem h1)
    have hld : lead letterI rest.data.toList = t.text.data.toList.length := by
      rw [hL]
      exact lead_app h2 (fun c r e => by have := hn c r e; unfold okNext at this; rw [if_pos hl] at this; simpa using this)
    rw [hld, hcut, hL, head_app h1, if_pos hl, if_neg (by rw [h3]; decide), if_neg (by omega), hk, hv]
  · have hd := h2 _ (head_mem h1)
    have hl : ¬ letterI (t.text.data.toList.headD 0).toNat = true := fun e => by have := letter_digit (t.text.data.toList.headD 0); rw [e, hd] at this; cases this
    have hld : lead digitI rest.data.toList = t.text.data.toList.length := by
      rw [hL]
      exact lead_app h2 (fun c r e => by have := hn c r e; unfold okNext at this; rw [if_neg hl, if_pos hd] at this; simpa using this)
    rw [hld, hcut, hL, head_app h1, if_neg hl, if_pos hd, h3, hk]
  · have ho := signL_ok _ h1
    unfold signOk at ho
    simp only [Bool.and_eq_true, Bool.not_eq_true', beq_eq_false_iff_ne, ne_eq] at ho
    obtain ⟨⟨⟨hl, hd⟩, hne⟩, hs⟩ := ho
    have hsl : signLen rest.data.toList = t.text.data.toList.length := by
      rw [hL]
      generalize t.text.data.toList = l at *
      match l, hne, hs with
      | [a], _, hs =>
        simp only [List.length_singleton, BEq.rfl, if_true, Bool.and_eq_true, Bool.not_eq_true', List.headD_cons] at hs
        have h2 : sign2 ([a] ++ tail) = false := by
          cases tail with
          | nil => exact hs.1
          | cons c r =>
            have := hn c r rfl
            unfold okNext at this
            rw [if_neg (by rw [hl]; decide), if_neg (by rw [hd]; decide)] at this
            show sign2 (a :: c :: r) = false
            rw [sign2_two]
            simpa using this
        unfold signLen
        rw [if_neg (by rw [h2]; decide), if_neg (show ¬ Lib.indexByte signs1 (([a] ++ tail).headD 0) < 0 from of_decide_eq_false hs.2)]
        rfl
      | [a, b], _, hs =>
        simp only [List.length_cons, List.length_nil, Nat.zero_add, Nat.reduceAdd, Nat.reduceBEq, Bool.false_eq_true, if_false, Bool.and_eq_true] at hs
        unfold signLen
        rw [if_pos (show sign2 ([a, b] ++ tail) = true from hs.1)]
        rfl
      | a :: b :: c :: r, _, hs =>
        simp at hs
    rw [hsl, hcut, hL, head_app hne, if_neg (by rw [hl]; decide), if_neg (by rw [hd]; decide), if_neg (by intro e; exact hne (List.length_eq_zero_iff.1 e)), hk, hv]
end Go.Proofs.YtfkeddkfegaeiaaGreatDoor
namespace Go.Proofs.YtfkeddkfegaeiaaGreatDoor
open Go.RowKit
theorem scanOne_kind {s : ByteArray} {i : Nat} {t : Tk} (h : scanOneP s i = .ok t) : t.kind ≠ 0 ∧ t.place = i := by
  unfold scanOneP at h
  simp only at h
  split at h
  · split at h
    · cases h; exact ⟨by simp, rfl⟩
    · split at h
      · cases h
      · cases h; exact ⟨by simp, rfl⟩
  · split at h
    · split at h
      · cases h; exact ⟨by simp, rfl⟩
      · cases h
    · split at h
      · cases h
      · cases h; exact ⟨by simp, rfl⟩
structure Scd (s : ByteArray) (i : Nat) (ts l : List Tk) : Prop where
  eq : ts = l ++ [tkEnd s.size]
  tok : ∀ t ∈ l, IsTok t
  all : ∀ t ∈ l, t.kind ≠ 0 ∧ 0 < t.text.size ∧ t.place ≤ s.size
  sum : (l.map fun t => t.text.size).sum + i ≤ s.size
theorem skip_le (s : ByteArray) (i : Nat) (hi : i ≤ s.size) : i + lead blankI (s.extract i s.size).data.toList ≤ s.size := by
  have h1 := lead_le blankI (s.extract i s.size).data.toList
  rw [sizeL, rest_size] at h1
  omega
theorem scan_shape (s : ByteArray) : ∀ (f i : Nat), i ≤ s.size → s.size < f + i → ∀ ts, scanFrom s f i = .ok ts → ∃ l, Scd s i ts l
  | 0, i, hi, hf, _, _ => by omega
  | f + 1, i, hi, hf, ts, h => by
    have hj := skip_le s i hi
    unfold scanFrom at h
    simp only at h
    generalize hjj : i + lead blankI (s.extract i s.size).data.toList = j at h hj
    have hij : i ≤ j := by omega
    by_cases he : j = s.size
    · rw [if_pos he] at h
      cases h
      exact ⟨[], by rw [he]; rfl, fun t ht => (by cases ht), fun t ht => (by cases ht), by simpa using hi⟩
    · rw [if_neg he] at h
      cases ho : scanOneP s j with
      | error e => rw [ho] at h; cases h
      | ok t =>
        rw [ho] at h
        simp only at h
        have hz := tok_size s j t (by omega) ho
        have hk := scanOne_kind ho
        cases hr : scanFrom s f (j + t.text.size) with
        | error e => rw [hr] at h; cases h
        | ok r =>
          rw [hr] at h
          cases h
          obtain ⟨l, h1, h0, h2, h3⟩ := scan_shape s f (j + t.text.size) hz.2 (by omega) r hr
          refine ⟨t :: l, by rw [h1]; rfl, fun u hu => ?_, fun u hu => ?_, ?_⟩
          · rcases List.mem_cons.1 hu with rfl | hu
            · exact isTok_of_scan (by omega) ho
            · exact h0 u hu
          · rcases List.mem_cons.1 hu with rfl | hu
            · exact ⟨hk.1, hz.1, by rw [hk.2]; omega⟩
            · exact h2 u hu
          · simp only [List.map_cons, List.sum_cons]
            omega
theorem tkAt_left {l : List Tk} {e : Tk} {i : Nat} (h : i < l.length) : tkAt (l ++ [e]) i ∈ l := by
  unfold tkAt
  rw [List.getD_eq_getElem?_getD, List.getElem?_append_left h, List.getElem?_eq_getElem h]
  exact List.getElem_mem h
theorem tkAt_end (l : List Tk) (e : Tk) : tkAt (l ++ [e]) l.length = e := by
  unfold tkAt
  rw [List.getD_eq_getElem?_getD, List.getElem?_append_right (Nat.le_refl _)]
  simp
theorem Scd.last {s : ByteArray} {i : Nat} {ts l : List Tk} (h : Scd s i ts l) : Lst ts := fun j hj hk => by
  rw [h.eq] at hj hk ⊢
  simp only [List.length_append, List.length_singleton] at hj ⊢
  rcases Nat.lt_or_ge j l.length with hlt | hge
  · omega
  · have : j = l.length := by omega
    subst this
    rw [tkAt_end] at hk
    exact (hk rfl).elim
theorem Scd.zero {s : ByteArray} {i : Nat} {ts l : List Tk} (h : Scd s i ts l) {j : Nat} (hj : j < ts.length) (hk : (tkAt ts j).kind = 0) : j = l.length := by
  rw [h.eq] at hj hk
  simp only [List.length_append, List.length_singleton] at hj
  rcases Nat.lt_or_ge j l.length with hlt | hge
  · exact ((h.all _ (tkAt_left hlt)).1 hk).elim
  · omega
theorem Scd.place {s : ByteArray} {i : Nat} {ts l : List Tk} (h : Scd s i ts l) {j : Nat} (hj : j < ts.length) : (tkAt ts j).place ≤ s.size := by
  rw [h.eq] at hj ⊢
  simp only [List.length_append, List.length_singleton] at hj
  rcases Nat.lt_or_ge j l.length with hlt | hge
  · exact (h.all _ (tkAt_left hlt)).2.2
  · have : j = l.length := by omega
    subst this
    rw [tkAt_end]
    exact Nat.le_refl _
theorem sum_len : ∀ (l : List Tk), (∀ t ∈ l, 0 < t.text.size) → l.length ≤ (l.map fun t => t.text.size).sum
  | [], _ => by simp
  | t :: r, h => by
    have h1 := sum_len r (fun u hu => h u (List.mem_cons_of_mem _ hu))
    have h2 := h t List.mem_cons_self
    simp only [List.length_cons, List.map_cons, List.sum_cons]
    omega
theorem Scd.len {s : ByteArray} {i : Nat} {ts l : List Tk} (h : Scd s i ts l) : l.length ≤ s.size ∧ ts.length = l.length + 1 := by
  have h1 := sum_len l (fun t ht => (h.all t ht).2.1)
  have h2 := h.sum
  exact ⟨by omega, by rw [h.eq]; simp⟩
def endP (ts : List Tk) (st : St) : St := if (tkAt ts st.nx).kind = 0 then st else failP ts st eSyntax
def st0 : St := ⟨0, 0, none⟩
def readT (ts : List Tk) : Except (Nat × Nat) QueryX := match (endP ts (queryP ts st0).2).er with
  | some e => .error e
  | none => .ok (queryP ts st0).1
def readP (s : ByteArray) : Except (Nat × Nat) QueryX := match scanP s with
  | .error e => .error e
  | .ok ts => readT ts
theorem scanP_shape {s : ByteArray} {ts : List Tk} (h : scanP s = .ok ts) : ∃ l, Scd s 0 ts l := scan_shape s (s.size + 1) 0 (Nat.zero_le _) (by omega) ts h
theorem Scd.pos {s : ByteArray} {i : Nat} {ts l : List Tk} (h : Scd s i ts l) : 0 < ts.length := by have := h.len; omega
end Go.Proofs.YtfkeddkfegaeiaaGreatDoor
namespace Go.Proofs.YtfkeddkfegaeiaaGreatDoor
open Go.RowKit
def resP : Option (Nat × Nat) → QueryX → Except (Nat × Nat) QueryX
  | some e, _ => .error e
  | none, x => .ok x
theorem readT_eq {ts : List Tk} {X : QueryX × St} (hX : X = queryP ts st0) : readT ts = resP (endP ts X.2).er X.1 := by
  subst hX
  unfold readT
  cases (endP ts (queryP ts st0).2).er <;> rfl
theorem readT_zero {ts : List Tk} {X : QueryX × St} (hX : X = queryP ts st0) (hk : (tkAt ts X.2.nx).kind = 0) : readT ts = resP X.2.er X.1 := by
  rw [readT_eq hX]
  unfold endP
  rw [if_pos hk]
theorem readT_more {ts : List Tk} {X : QueryX × St} (hX : X = queryP ts st0) (hk : ¬ (tkAt ts X.2.nx).kind = 0) : readT ts = resP (failP ts X.2 eSyntax).er X.1 := by
  rw [readT_eq hX]
  unfold endP
  rw [if_neg hk]
def ReadPost (a : Nat → Addr) (w : World) (R : Except (Nat × Nat) QueryX) (e : Ending) (w' : World) : Prop := Below w.heap.size w w' ∧ match R with
  | .ok x => ∃ v, e = .returned (.tuple #[v, .nilIface]) ∧ QueryOk w' w.heap.size v x
  | .error (p, k) => ∃ b, e = .returned (.tuple #[.pointer none, .iface 110 (.pointer (some ⟨b, 0, none⟩))]) ∧ AtBlk w' b p (errV a k)
set_option maxHeartbeats 1000000 in
set_option maxRecDepth 100000 in
theorem read_ok (s : ByteArray) (a : Nat → Addr) (B : Nat) (w : World) (hE : Env a B w) (hs : s.size ≤ 1000) (ts l : List Tk) (h : scanP s = .ok ts) (hl : Scd s 0 ts l) (R : Except (Nat × Nat) QueryX) (HR : Hid (R = readT ts)) :
    Calls Tryz.prog 36 #[.string s] w fun e w' => ReadPost a w R e w' := by
  have HE := hide hE
  clear hE
  obtain ⟨R0, HR0⟩ : ∃ R, Hid (R = scanP s) := ⟨_, rfl⟩
  have hR0 : R0 = .ok ts := (unhide HR0).trans h
  go_enter Tryz.func36, Tryz.ntmps36
  go_wp2_with fail
  refine (scan_walk s a B _ (by exact HE) hs R0 HR0).mono ?_
  rintro e w1 h1
  rw [hR0] at h1
  obtain ⟨v, rfl, h2, h3⟩ := h1
  have hlen : ts.length ≤ 1001 := by have := hl.len; omega
  rcases h2.2 with ⟨_, h0⟩ | ⟨g, cap, cur, hv, hg0, hg, c1, c2, c3, c4⟩
  · have := hl.pos; omega
  subst hv
  have HE1 := hide ((unhide HE).keep (h3.mono (unhide HE).size))
  have H3 := hide h3
  have HG := hide hg
  have HC4 := hide c4
  have zg := lt_of_heap hg
  have HL := hide hl
  clear h2 h3 hg c4 HE HR0 hR0 h hl c3
  have hRS : RS ⟨a, B, w1.heap.size, g, cap, ts⟩ (w1.alloc (.cells #[.slice (some ⟨g, 0, none⟩) ts.length cap, .int .i64 0, .int .i64 0, .nilIface] 167)) st0 .nilIface := by
    refine ⟨(unhide HE1).alloc _, (unhide HE1).size, by show g ≠ w1.heap.size; omega, by show ts.length ≤ 1001; omega, (unhide HL).last, (unhide HL).pos, by decide, heap_last rfl, ⟨cur, heap_prev (unhide HG), unhide HC4⟩, rfl⟩
  have HRS := hide hRS
  clear hRS
  obtain ⟨X, HX⟩ : ∃ X, Hid (X = queryP ts st0) := ⟨_, rfl⟩
  go_wp2_with fail
  refine (query_any ⟨a, B, w1.heap.size, g, cap, ts⟩ _ st0 .nilIface X (by exact unhide HRS) rfl HX).mono ?_
  rintro e w2 ⟨b, rfl, hb, ⟨⟨ev2, hs2⟩, hk2⟩, hok⟩
  have HS2 := hide hs2
  have HB2 : Hid (Below w.heap.size w w2) := (unhide H3).trans ((((Below.refl _ _).alloc (Nat.le_refl _) _).mono (unhide H3).size).trans (hk2.below (unhide H3).size (by simp; have := (unhide H3).size; omega)))
  have HOK : Hid (X.2.er = none → QueryOk w2 w.heap.size (.pointer (some ⟨b, 0, none⟩)) X.1) := fun he => by
    obtain ⟨b', vw, vm, h1, h2, h3, h4, h5⟩ := hok he
    have hz : w.heap.size ≤ (w1.alloc (.cells #[.slice (some ⟨g, 0, none⟩) ts.length cap, .int .i64 0, .int .i64 0, .nilIface] 167)).heap.size := by simp; have := (unhide H3).size; omega
    exact ⟨b', vw, vm, h1, Nat.le_trans hz h2, h3, h4.keep hz (Keeps.ofBelow (Below.refl _ _)), h5.keep hz (Keeps.ofBelow (Below.refl _ _))⟩
  clear hs2 hk2 hok hb HRS
  have hfk := field_kind
  have z2 : w1.heap.size < w2.heap.size := lt_of_heap (unhide HS2).reader
  have HRB : w.heap.size ≤ w1.heap.size := (unhide H3).size
  generalize hrb : w1.heap.size = rb at *
  clear hrb HE1 H3 HG HC4 zg hg0
  have HXL : Hid (X.2.nx < ts.length) := (unhide HS2).nx
  go_wp2_with fail
  refine (peek_any ⟨a, B, rb, g, cap, ts⟩ _ X.2 ev2 (by exact unhide HS2)).mono ?_
  rintro e w3 ⟨rfl, hb3⟩
  have HS3 := hide ((unhide HS2).keep hb3)
  have HB3 := hide ((unhide HB2).trans (hb3.mono (unhide HB2).size))
  have HOK3 : Hid (X.2.er = none → QueryOk w3 w.heap.size (.pointer (some ⟨b, 0, none⟩)) X.1) := fun he => by
    obtain ⟨b', vw, vm, h1, h2, h3, h4, h5⟩ := (unhide HOK) he
    exact ⟨b', vw, vm, h1, h2, (hb3.block _ (lt_of_heap h3)).trans h3, h4.keep (Nat.le_refl _) (Keeps.ofBelow hb3), h5.keep (Nat.le_refl _) (Keeps.ofBelow hb3)⟩
  clear hb3 HS2 HB2 HOK z2
  have z3 : rb < w3.heap.size := lt_of_heap (unhide HS3).reader
  by_cases hk : (tkAt ts X.2.nx).kind = 0
  · have hkk : (((tkAt ts X.2.nx).kind : Int) != 0) = false := by rw [hk]; rfl
    have HEND : Hid (R = resP X.2.er X.1) := (unhide HR).trans (readT_zero (unhide HX) hk)
    clear hk HR HX
    generalize tkAt ts X.2.nx = t at *
    obtain ⟨r0, r1, r2, r3, hfr, hrb⟩ := (unhide HS3).facts
    have HERR := hide (unhide HS3).err
    cases her : X.2.er with
    | none =>
      rw [her] at HERR HEND
      have hev : ev2 = .nilIface := unhide HERR
      subst hev
      have HQ := hide ((unhide HOK3) her)
      clear HOK3 HERR her
      go_wp2
      go_ret2
      rw [unhide HEND]
      exact ⟨unhide HB3, _, rfl, unhide HQ⟩
    | some x =>
      obtain ⟨p, k⟩ := x
      rw [her] at HERR HEND
      obtain ⟨be, hev, hne, hat⟩ := unhide HERR
      subst hev
      have HAT := hide hat
      clear HOK3 HERR her hat hne
      go_wp2
      go_region
      go_wp2
      go_ret2
      rw [unhide HEND]
      exact ⟨(unhide HB3).drew, be, rfl, unhide HAT⟩
  · have hkk : (((tkAt ts X.2.nx).kind : Int) != 0) = true := by simp; omega
    have HEND : Hid (R = resP (failP ts X.2 eSyntax).er X.1) := (unhide HR).trans (readT_more (unhide HX) hk)
    clear hk HR HX HOK3
    generalize tkAt ts X.2.nx = t at *
    have hgl := (unhide HS3).env.cell 3 (by decide)
    go_wp2_with fail
    refine (fail_any ⟨a, B, rb, g, cap, ts⟩ _ X.2 ev2 eSyntax (by exact unhide HS3)).mono ?_
    rintro e w4 ⟨rfl, ⟨ev4, hs4⟩, hk4⟩
    have HB4 := hide ((unhide HB3).trans ((hk4.below HRB (by have := (unhide HB3).size; omega))))
    obtain ⟨r0, r1, r2, r3, hfr, hrb⟩ := hs4.facts
    have HERR := hide hs4.err
    clear hs4 hk4
    cases her : (failP ts X.2 eSyntax).er with
    | none => exact (fail_nn her).elim
    | some x =>
      obtain ⟨p, k⟩ := x
      rw [her] at HERR HEND
      obtain ⟨be, hev, hne, hat⟩ := unhide HERR
      subst hev
      have HAT := hide hat
      clear HERR her hat hne
      go_wp2
      go_region
      go_wp2
      go_ret2
      rw [unhide HEND]
      exact ⟨(unhide HB4).drew, be, rfl, unhide HAT⟩
end Go.Proofs.YtfkeddkfegaeiaaGreatDoor
namespace Go.Proofs.YtfkeddkfegaeiaaGreatDoor
open Go.RowKit
theorem QueryOk.keepB {w w' : World} {lo : Nat} {v : Value} {x : QueryX} (h : QueryOk w lo v x) (hb : Below w.heap.size w w') : QueryOk w' lo v x := by
  obtain ⟨b', vw, vm, h1, h2, h3, h4, h5⟩ := h
  exact ⟨b', vw, vm, h1, h2, (hb.block _ (lt_of_heap h3)).trans h3, h4.keep (Nat.le_refl _) (Keeps.ofBelow hb), h5.keep (Nat.le_refl _) (Keeps.ofBelow hb)⟩
def TellPost (a : Nat → Addr) (w : World) (R : Except (Nat × Nat) (List UInt8)) (e : Ending) (w' : World) : Prop := Below w.heap.size w w' ∧ match R with
  | .ok l => e = .returned (.tuple #[.string ⟨l.toArray⟩, .nilIface])
  | .error (p, k) => ∃ b, e = .returned (.tuple #[.string ⟨#[]⟩, .iface 110 (.pointer (some ⟨b, 0, none⟩))]) ∧ AtBlk w' b p (errV a k)
end Go.Proofs.YtfkeddkfegaeiaaGreatDoor
namespace Go.Proofs.YtfkeddkfegaeiaaGreatDoor
open Go.RowKit
theorem TellPost.err {a : Nat → Addr} {w w' : World} {R : Except (Nat × Nat) (List UInt8)} {e : Ending} {p k : Nat} (h : TellPost a w R e w') (hR : R = .error (p, k)) : ∃ b, e = .returned (.tuple #[.string ⟨#[]⟩, .iface 110 (.pointer (some ⟨b, 0, none⟩))]) ∧ AtBlk w' b p (errV a k) ∧ Below w.heap.size w w' := by
  subst hR
  obtain ⟨b, h1, h2⟩ := h.2
  exact ⟨b, h1, h2, h.1⟩
theorem TellPost.ok {a : Nat → Addr} {w w' : World} {R : Except (Nat × Nat) (List UInt8)} {e : Ending} {l : List UInt8} (h : TellPost a w R e w') (hR : R = .ok l) : e = .returned (.tuple #[.string ⟨l.toArray⟩, .nilIface]) ∧ Below w.heap.size w w' := by
  subst hR
  exact ⟨h.2, h.1⟩
end Go.Proofs.YtfkeddkfegaeiaaGreatDoor
