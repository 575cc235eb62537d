/-
  Part 27.
-/
import Derived.Test.YtfkeddkfegaeiaaGreatDoorJ26
namespace Go.Proofs.YtfkeddkfegaeiaaGreatDoor
open Go.RowKit

theorem scanOne_kind {s : ByteArray} {i : Nat} {t : Tk} (h : scanOneP s i = .ok t) : t.kind ≠ 0 ∧ t.place = i := by
  unfold scanOneP at h
  simp only at h
  split at h
  · split at h
    · cases h; exact ⟨by simp, rfl⟩
    · split at h
      · cases h
      · cases h; exact ⟨by simp, rfl⟩
  · split at h
    · split at h
      · cases h; exact ⟨by simp, rfl⟩
      · cases h
    · split at h
      · cases h
      · cases h; exact ⟨by simp, rfl⟩
theorem scanOne_bad {s : ByteArray} {i p k : Nat} (h : scanOneP s i = .error (p, k)) : p = i ∧ (k = eSyntax ∨ k = eNumber ∨ k = eByte) := by
  unfold scanOneP at h
  simp only at h
  split at h
  · split at h
    · cases h
    · split at h
      · cases h; exact ⟨rfl, Or.inl rfl⟩
      · cases h
  · split at h
    · split at h
      · cases h
      · cases h; exact ⟨rfl, Or.inr (Or.inl rfl)⟩
    · split at h
      · cases h; exact ⟨rfl, Or.inr (Or.inr rfl)⟩
      · cases h

structure Scd (s : ByteArray) (i : Nat) (ts l : List Tk) : Prop where
  eq : ts = l ++ [tkEnd s.size]
  tok : ∀ t ∈ l, IsTok t
  all : ∀ t ∈ l, t.kind ≠ 0 ∧ 0 < t.text.size ∧ t.place ≤ s.size
  sum : (l.map fun t => t.text.size).sum + i ≤ s.size
theorem skip_le (s : ByteArray) (i : Nat) (hi : i ≤ s.size) : i + lead blankI (s.extract i s.size).data.toList ≤ s.size := by
  have h1 := lead_le blankI (s.extract i s.size).data.toList
  rw [sizeL, rest_size] at h1
  omega
theorem scan_shape (s : ByteArray) : ∀ (f i : Nat), i ≤ s.size → s.size < f + i → ∀ ts, scanFrom s f i = .ok ts → ∃ l, Scd s i ts l
  | 0, i, hi, hf, _, _ => by omega
  | f + 1, i, hi, hf, ts, h => by
    have hj := skip_le s i hi
    unfold scanFrom at h
    simp only at h
    generalize hjj : i + lead blankI (s.extract i s.size).data.toList = j at h hj
    have hij : i ≤ j := by omega
    by_cases he : j = s.size
    · rw [if_pos he] at h
      cases h
      exact ⟨[], by rw [he]; rfl, fun t ht => (by cases ht), fun t ht => (by cases ht), by simpa using hi⟩
    · rw [if_neg he] at h
      cases ho : scanOneP s j with
      | error e => rw [ho] at h; cases h
      | ok t =>
        rw [ho] at h
        simp only at h
        have hz := tok_size s j t (by omega) ho
        have hk := scanOne_kind ho
        cases hr : scanFrom s f (j + t.text.size) with
        | error e => rw [hr] at h; cases h
        | ok r =>
          rw [hr] at h
          cases h
          obtain ⟨l, h1, h0, h2, h3⟩ := scan_shape s f (j + t.text.size) hz.2 (by omega) r hr
          refine ⟨t :: l, by rw [h1]; rfl, fun u hu => ?_, fun u hu => ?_, ?_⟩
          · rcases List.mem_cons.1 hu with rfl | hu
            · exact isTok_of_scan (by omega) ho
            · exact h0 u hu
          · rcases List.mem_cons.1 hu with rfl | hu
            · exact ⟨hk.1, hz.1, by rw [hk.2]; omega⟩
            · exact h2 u hu
          · simp only [List.map_cons, List.sum_cons]
            omega
theorem scan_errs (s : ByteArray) (p k : Nat) : ∀ (f i : Nat), i ≤ s.size → scanFrom s f i = .error (p, k) → p ≤ s.size ∧ (k = eSyntax ∨ k = eNumber ∨ k = eByte)
  | 0, i, hi, h => by cases h
  | f + 1, i, hi, h => by
    have hj := skip_le s i hi
    unfold scanFrom at h
    simp only at h
    generalize hjj : i + lead blankI (s.extract i s.size).data.toList = j at h hj
    by_cases he : j = s.size
    · rw [if_pos he] at h; cases h
    · rw [if_neg he] at h
      cases ho : scanOneP s j with
      | error e =>
        rw [ho] at h
        cases h
        have := scanOne_bad ho
        exact ⟨by omega, this.2⟩
      | ok t =>
        rw [ho] at h
        simp only at h
        have hz := tok_size s j t (by omega) ho
        cases hr : scanFrom s f (j + t.text.size) with
        | error e => rw [hr] at h; cases h; exact scan_errs s p k f _ hz.2 hr
        | ok r => rw [hr] at h; cases h

theorem tkAt_left {l : List Tk} {e : Tk} {i : Nat} (h : i < l.length) : tkAt (l ++ [e]) i ∈ l := by
  unfold tkAt
  rw [List.getD_eq_getElem?_getD, List.getElem?_append_left h, List.getElem?_eq_getElem h]
  exact List.getElem_mem h
theorem tkAt_end (l : List Tk) (e : Tk) : tkAt (l ++ [e]) l.length = e := by
  unfold tkAt
  rw [List.getD_eq_getElem?_getD, List.getElem?_append_right (Nat.le_refl _)]
  simp
theorem Scd.last {s : ByteArray} {i : Nat} {ts l : List Tk} (h : Scd s i ts l) : Lst ts := fun j hj hk => by
  rw [h.eq] at hj hk ⊢
  simp only [List.length_append, List.length_singleton] at hj ⊢
  rcases Nat.lt_or_ge j l.length with hlt | hge
  · omega
  · have : j = l.length := by omega
    subst this
    rw [tkAt_end] at hk
    exact (hk rfl).elim
theorem Scd.txt {s : ByteArray} {i : Nat} {ts l : List Tk} (h : Scd s i ts l) : Txt ts := fun j hj hk => by
  have hlt : j + 1 < ts.length := h.last j hj hk
  rw [h.eq] at hlt ⊢
  simp only [List.length_append, List.length_singleton] at hlt
  exact (h.all _ (tkAt_left (by omega))).2.1
theorem call_word (x : ByteArray) (h : isCallB x = true) : wordB x.data.toList = true := by
  unfold isCallB xCalls at h
  simp only [List.any_cons, List.any_nil, Bool.or_false, Bool.or_eq_true, beq_iff_eq] at h
  rcases h with h | h | h | h | h <;> rw [← h] <;> decide
theorem call_head (x : ByteArray) (h : isCallB x = true) : letterI (x.data.toList.headD 0).toNat = true := by
  unfold isCallB xCalls at h
  simp only [List.any_cons, List.any_nil, Bool.or_false, Bool.or_eq_true, beq_iff_eq] at h
  rcases h with h | h | h | h | h <;> rw [← h] <;> decide
theorem tok_call {t : Tk} (h : IsTok t) (hk : t.kind = 2 ∨ t.kind = 3) : isCallB t.text = false := by
  cases hc : isCallB t.text with
  | false => rfl
  | true =>
    rcases h with ⟨_, _, _, h, _⟩ | ⟨_, _, h3, _, h, _⟩ | ⟨h1, h2, _, h⟩ | ⟨_, h, _⟩
    · omega
    · rw [call_word _ hc] at h3; cases h3
    · have h4 := call_head _ hc
      have h5 := h2 _ (head_mem h1)
      have := letter_digit (t.text.data.toList.headD 0)
      rw [h4, h5] at this
      cases this
    · omega
theorem tkAt_over {ts : List Tk} {i : Nat} (h : ts.length ≤ i) : tkAt ts i = tkEnd 0 := by
  unfold tkAt
  rw [List.getD_eq_getElem?_getD, List.getElem?_eq_none h]
  rfl
theorem Scd.lw {s : ByteArray} {i : Nat} {ts l : List Tk} (h : Scd s i ts l) : Lw ts := by
  refine ⟨h.last, fun j hk => ?_, h.txt⟩
  have hj : j < l.length := by
    rcases Nat.lt_or_ge j l.length with hlt | hge
    · exact hlt
    · rcases Nat.lt_or_ge j ts.length with h1 | h1
      · have e : j = l.length := by rw [h.eq] at h1; simp only [List.length_append, List.length_singleton] at h1; omega
        rw [h.eq, e, tkAt_end] at hk
        rcases hk with hk | hk <;> cases hk
      · rw [tkAt_over h1] at hk
        rcases hk with hk | hk <;> cases hk
  rw [h.eq] at hk ⊢
  exact tok_call (h.tok _ (tkAt_left hj)) hk
theorem Scd.zero {s : ByteArray} {i : Nat} {ts l : List Tk} (h : Scd s i ts l) {j : Nat} (hj : j < ts.length) (hk : (tkAt ts j).kind = 0) : j = l.length := by
  rw [h.eq] at hj hk
  simp only [List.length_append, List.length_singleton] at hj
  rcases Nat.lt_or_ge j l.length with hlt | hge
  · exact ((h.all _ (tkAt_left hlt)).1 hk).elim
  · omega
theorem Scd.place {s : ByteArray} {i : Nat} {ts l : List Tk} (h : Scd s i ts l) {j : Nat} (hj : j < ts.length) : (tkAt ts j).place ≤ s.size := by
  rw [h.eq] at hj ⊢
  simp only [List.length_append, List.length_singleton] at hj
  rcases Nat.lt_or_ge j l.length with hlt | hge
  · exact (h.all _ (tkAt_left hlt)).2.2
  · have : j = l.length := by omega
    subst this
    rw [tkAt_end]
    exact Nat.le_refl _
theorem sum_len : ∀ (l : List Tk), (∀ t ∈ l, 0 < t.text.size) → l.length ≤ (l.map fun t => t.text.size).sum
  | [], _ => by simp
  | t :: r, h => by
    have h1 := sum_len r (fun u hu => h u (List.mem_cons_of_mem _ hu))
    have h2 := h t List.mem_cons_self
    simp only [List.length_cons, List.map_cons, List.sum_cons]
    omega
theorem Scd.len {s : ByteArray} {i : Nat} {ts l : List Tk} (h : Scd s i ts l) : l.length ≤ s.size ∧ ts.length = l.length + 1 := by
  have h1 := sum_len l (fun t ht => (h.all t ht).2.1)
  have h2 := h.sum
  exact ⟨by omega, by rw [h.eq]; simp⟩
theorem seg_all (l : List Tk) (e : Tk) : seg (l ++ [e]) 0 l.length = l.map (·.text) := by
  unfold seg
  simp
theorem cost_of : ∀ (m : List TT) (l : List Tk), m.map (·.1) = l.map (·.text) → cost m = (l.map fun t => t.text.size).sum + l.length
  | [], [], _ => rfl
  | [], _ :: _, h => by cases h
  | _ :: _, [], h => by cases h
  | a :: m, t :: l, h => by
    simp only [List.map_cons, List.cons.injEq] at h
    have := cost_of m l h.2
    rw [cost_cons, this, h.1]
    simp only [List.map_cons, List.sum_cons, List.length_cons]
    omega

/-! ### the whole reading -/
def endP (ts : List Tk) (st : St) : St := if (tkAt ts st.nx).kind = 0 then st else failP ts st eSyntax
def st0 : St := ⟨0, 0, none⟩
def readT (ts : List Tk) : Except (Nat × Nat) QueryX := match (endP ts (queryP ts st0).2).er with
  | some e => .error e
  | none => .ok (queryP ts st0).1
def readP (s : ByteArray) : Except (Nat × Nat) QueryX := match scanP s with
  | .error e => .error e
  | .ok ts => readT ts
theorem onw_end {ts : List Tk} {st : St} (h : st.nx < ts.length) : Onw ts st (endP ts st) := by
  unfold endP
  split
  · exact Onw.refl h
  · exact onw_fail h _
theorem scanP_shape {s : ByteArray} {ts : List Tk} (h : scanP s = .ok ts) : ∃ l, Scd s 0 ts l := scan_shape s (s.size + 1) 0 (Nat.zero_le _) (by omega) ts h
theorem Scd.pos {s : ByteArray} {i : Nat} {ts l : List Tk} (h : Scd s i ts l) : 0 < ts.length := by have := h.len; omega
theorem readT_ok {s : ByteArray} {ts l : List Tk} {x : QueryX} (hs : Scd s 0 ts l) (h : readT ts = .ok x) : (queryP ts st0).2.er = none ∧ (queryP ts st0).1 = x ∧ (queryP ts st0).2.nx = l.length ∧ x.Full ∧ (tkQuery x).map (·.1) = l.map (·.text) ∧ Good (tkQuery x) := by
  have ho := onw_query hs.last (st := st0) hs.pos
  have he := onw_end ho.lt
  unfold readT at h
  cases hr : (endP ts (queryP ts st0).2).er with
  | some e => rw [hr] at h; cases h
  | none =>
    rw [hr] at h
    have e0 := he.er hr
    have hk : (tkAt ts (queryP ts st0).2.nx).kind = 0 := by
      unfold endP at hr
      by_cases hk : (tkAt ts (queryP ts st0).2.nx).kind = 0
      · exact hk
      · rw [if_neg hk] at hr; exact (fail_nn hr).elim
    have hn := hs.zero ho.lt hk
    have hx : (queryP ts st0).1 = x := by cases h; rfl
    have hL := lin_query hs.lw hs.txt (st := st0) hs.pos e0
    refine ⟨e0, hx, hn, by rw [← hx]; exact hL.1, ?_, by rw [← hx]; exact hL.2.good⟩
    have h2 := hL.2.eq
    rw [hn] at h2
    rw [← hx, h2]
    rw [hs.eq]
    exact seg_all l _
theorem readT_err {s : ByteArray} {ts l : List Tk} {p k : Nat} (hs : Scd s 0 ts l) (h : readT ts = .error (p, k)) : p ≤ s.size ∧ (k = eSyntax ∨ k = eMany) := by
  have ho := onw_query hs.last (st := st0) hs.pos
  have he := ho.trans (onw_end ho.lt)
  unfold readT at h
  cases hr : (endP ts (queryP ts st0).2).er with
  | none => rw [hr] at h; cases h
  | some e =>
    rw [hr] at h
    have h1 : e = (p, k) := by cases h; rfl
    subst h1
    rcases he.erp _ hr with h2 | ⟨⟨i, hi, hp⟩, hk⟩
    · cases h2
    · exact ⟨by rw [show p = (tkAt ts i).place from hp]; exact hs.place hi, hk⟩
theorem readP_err {s : ByteArray} {p k : Nat} (h : readP s = .error (p, k)) : p ≤ s.size ∧ (k = eSyntax ∨ k = eNumber ∨ k = eByte ∨ k = eMany) := by
  unfold readP at h
  cases hs : scanP s with
  | error e =>
    rw [hs] at h
    have h1 : e = (p, k) := by cases h; rfl
    subst h1
    have := scan_errs s p k _ 0 (Nat.zero_le _) hs
    exact ⟨this.1, by rcases this.2 with h | h | h <;> simp [h]⟩
  | ok ts =>
    rw [hs] at h
    obtain ⟨l, hl⟩ := scanP_shape hs
    have := readT_err hl h
    exact ⟨this.1, by rcases this.2 with h | h <;> simp [h]⟩
end Go.Proofs.YtfkeddkfegaeiaaGreatDoor
namespace Go.Proofs.YtfkeddkfegaeiaaGreatDoor
open Go.RowKit

def resP : Option (Nat × Nat) → QueryX → Except (Nat × Nat) QueryX
  | some e, _ => .error e
  | none, x => .ok x
theorem readT_eq {ts : List Tk} {X : QueryX × St} (hX : X = queryP ts st0) : readT ts = resP (endP ts X.2).er X.1 := by
  subst hX
  unfold readT
  cases (endP ts (queryP ts st0).2).er <;> rfl
theorem readT_zero {ts : List Tk} {X : QueryX × St} (hX : X = queryP ts st0) (hk : (tkAt ts X.2.nx).kind = 0) : readT ts = resP X.2.er X.1 := by
  rw [readT_eq hX]
  unfold endP
  rw [if_pos hk]
theorem readT_more {ts : List Tk} {X : QueryX × St} (hX : X = queryP ts st0) (hk : ¬ (tkAt ts X.2.nx).kind = 0) : readT ts = resP (failP ts X.2 eSyntax).er X.1 := by
  rw [readT_eq hX]
  unfold endP
  rw [if_neg hk]
def ReadPost (a : Nat → Addr) (w : World) (R : Except (Nat × Nat) QueryX) (e : Ending) (w' : World) : Prop := Below w.heap.size w w' ∧ match R with
  | .ok x => ∃ v, e = .returned (.tuple #[v, .nilIface]) ∧ QueryOk w' w.heap.size v x
  | .error (p, k) => ∃ b, e = .returned (.tuple #[.pointer none, .iface 110 (.pointer (some ⟨b, 0, none⟩))]) ∧ AtBlk w' b p (errV a k)

set_option maxHeartbeats 1000000 in
set_option maxRecDepth 100000 in
theorem read_scan (s : ByteArray) (a : Nat → Addr) (B : Nat) (w : World) (hE : Env a B w) (hs : s.size ≤ 1000) (p k : Nat) (h : scanP s = .error (p, k)) :
    Calls Tryz.prog 36 #[.string s] w fun e w' => ReadPost a w (.error (p, k)) e w' := by
  have HE := hide hE
  clear hE
  obtain ⟨R, HR⟩ : ∃ R, Hid (R = scanP s) := ⟨_, rfl⟩
  have hR : R = .error (p, k) := (unhide HR).trans h
  go_enter Tryz.func36, Tryz.ntmps36
  go_wp2_with fail
  refine (scan_walk s a B _ (by exact HE) hs R HR).mono ?_
  rintro e w1 h1
  rw [hR] at h1
  obtain ⟨b, rfl, h2, h3, h4, h5⟩ := h1
  have H4 := hide h4
  have H5 := hide h5
  clear h4 h5
  go_wp2
  go_ret2
  exact ⟨unhide H5, b, rfl, unhide H4⟩

theorem read_long (s : ByteArray) (a : Nat → Addr) (B : Nat) (w : World) (hE : Env a B w) (hs : 1000 < s.size) :
    Calls Tryz.prog 36 #[.string s] w fun e w' => e = .returned (.tuple #[.pointer none, errV a eLong]) ∧ Below w.heap.size w w' := by
  have HE := hide hE
  clear hE
  go_enter Tryz.func36, Tryz.ntmps36
  go_wp2_with fail
  refine (scan_long s a B _ (by exact HE) hs).mono ?_
  rintro e w1 ⟨rfl, h5⟩
  have H5 := hide h5
  clear h5
  go_wp2
  go_ret2
  exact ⟨rfl, unhide H5⟩

set_option maxHeartbeats 1000000 in
set_option maxRecDepth 100000 in
theorem read_ok (s : ByteArray) (a : Nat → Addr) (B : Nat) (w : World) (hE : Env a B w) (hs : s.size ≤ 1000) (ts l : List Tk) (h : scanP s = .ok ts) (hl : Scd s 0 ts l) (R : Except (Nat × Nat) QueryX) (HR : Hid (R = readT ts)) :
    Calls Tryz.prog 36 #[.string s] w fun e w' => ReadPost a w R e w' := by
  have HE := hide hE
  clear hE
  obtain ⟨R0, HR0⟩ : ∃ R, Hid (R = scanP s) := ⟨_, rfl⟩
  have hR0 : R0 = .ok ts := (unhide HR0).trans h
  go_enter Tryz.func36, Tryz.ntmps36
  go_wp2_with fail
  refine (scan_walk s a B _ (by exact HE) hs R0 HR0).mono ?_
  rintro e w1 h1
  rw [hR0] at h1
  obtain ⟨v, rfl, h2, h3⟩ := h1
  have hlen : ts.length ≤ 1001 := by have := hl.len; omega
  rcases h2.2 with ⟨_, h0⟩ | ⟨g, cap, cur, hv, hg0, hg, c1, c2, c3, c4⟩
  · have := hl.pos; omega
  subst hv
  have HE1 := hide ((unhide HE).keep (h3.mono (unhide HE).size))
  have H3 := hide h3
  have HG := hide hg
  have HC4 := hide c4
  have zg := lt_of_heap hg
  have HL := hide hl
  clear h2 h3 hg c4 HE HR0 hR0 h hl c3
  have hRS : RS ⟨a, B, w1.heap.size, g, cap, ts⟩ (w1.alloc (.cells #[.slice (some ⟨g, 0, none⟩) ts.length cap, .int .i64 0, .int .i64 0, .nilIface] 167)) st0 .nilIface := by
    refine ⟨(unhide HE1).alloc _, (unhide HE1).size, by show g ≠ w1.heap.size; omega, by show ts.length ≤ 1001; omega, (unhide HL).last, (unhide HL).pos, by decide, heap_last rfl, ⟨cur, heap_prev (unhide HG), unhide HC4⟩, rfl⟩
  have HRS := hide hRS
  clear hRS
  obtain ⟨X, HX⟩ : ∃ X, Hid (X = queryP ts st0) := ⟨_, rfl⟩
  go_wp2_with fail
  refine (query_any ⟨a, B, w1.heap.size, g, cap, ts⟩ _ st0 .nilIface X (by exact unhide HRS) rfl HX).mono ?_
  rintro e w2 ⟨b, rfl, hb, ⟨⟨ev2, hs2⟩, hk2⟩, hok⟩
  have HS2 := hide hs2
  have HB2 : Hid (Below w.heap.size w w2) := (unhide H3).trans ((((Below.refl _ _).alloc (Nat.le_refl _) _).mono (unhide H3).size).trans (hk2.below (unhide H3).size (by simp; have := (unhide H3).size; omega)))
  have HOK : Hid (X.2.er = none → QueryOk w2 w.heap.size (.pointer (some ⟨b, 0, none⟩)) X.1) := fun he => by
    obtain ⟨b', vw, vm, h1, h2, h3, h4, h5⟩ := hok he
    have hz : w.heap.size ≤ (w1.alloc (.cells #[.slice (some ⟨g, 0, none⟩) ts.length cap, .int .i64 0, .int .i64 0, .nilIface] 167)).heap.size := by simp; have := (unhide H3).size; omega
    exact ⟨b', vw, vm, h1, Nat.le_trans hz h2, h3, h4.keep hz (Keeps.ofBelow (Below.refl _ _)), h5.keep hz (Keeps.ofBelow (Below.refl _ _))⟩
  clear hs2 hk2 hok hb HRS
  have hfk := field_kind
  have z2 : w1.heap.size < w2.heap.size := lt_of_heap (unhide HS2).reader
  have HRB : w.heap.size ≤ w1.heap.size := (unhide H3).size
  generalize hrb : w1.heap.size = rb at *
  clear hrb HE1 H3 HG HC4 zg hg0
  have HXL : Hid (X.2.nx < ts.length) := (unhide HS2).nx
  go_wp2_with fail
  refine (peek_any ⟨a, B, rb, g, cap, ts⟩ _ X.2 ev2 (by exact unhide HS2)).mono ?_
  rintro e w3 ⟨rfl, hb3⟩
  have HS3 := hide ((unhide HS2).keep hb3)
  have HB3 := hide ((unhide HB2).trans (hb3.mono (unhide HB2).size))
  have HOK3 : Hid (X.2.er = none → QueryOk w3 w.heap.size (.pointer (some ⟨b, 0, none⟩)) X.1) := fun he => by
    obtain ⟨b', vw, vm, h1, h2, h3, h4, h5⟩ := (unhide HOK) he
    exact ⟨b', vw, vm, h1, h2, (hb3.block _ (lt_of_heap h3)).trans h3, h4.keep (Nat.le_refl _) (Keeps.ofBelow hb3), h5.keep (Nat.le_refl _) (Keeps.ofBelow hb3)⟩
  clear hb3 HS2 HB2 HOK z2
  have z3 : rb < w3.heap.size := lt_of_heap (unhide HS3).reader
  by_cases hk : (tkAt ts X.2.nx).kind = 0
  · have hkk : (((tkAt ts X.2.nx).kind : Int) != 0) = false := by rw [hk]; rfl
    have HEND : Hid (R = resP X.2.er X.1) := (unhide HR).trans (readT_zero (unhide HX) hk)
    clear hk HR HX
    generalize tkAt ts X.2.nx = t at *
    obtain ⟨r0, r1, r2, r3, hfr, hrb⟩ := (unhide HS3).facts
    have HERR := hide (unhide HS3).err
    cases her : X.2.er with
    | none =>
      rw [her] at HERR HEND
      have hev : ev2 = .nilIface := unhide HERR
      subst hev
      have HQ := hide ((unhide HOK3) her)
      clear HOK3 HERR her
      go_wp2
      go_ret2
      rw [unhide HEND]
      exact ⟨unhide HB3, _, rfl, unhide HQ⟩
    | some x =>
      obtain ⟨p, k⟩ := x
      rw [her] at HERR HEND
      obtain ⟨be, hev, hne, hat⟩ := unhide HERR
      subst hev
      have HAT := hide hat
      clear HOK3 HERR her hat hne
      go_wp2
      go_region
      go_wp2
      go_ret2
      rw [unhide HEND]
      exact ⟨(unhide HB3).drew, be, rfl, unhide HAT⟩
  · have hkk : (((tkAt ts X.2.nx).kind : Int) != 0) = true := by simp; omega
    have HEND : Hid (R = resP (failP ts X.2 eSyntax).er X.1) := (unhide HR).trans (readT_more (unhide HX) hk)
    clear hk HR HX HOK3
    generalize tkAt ts X.2.nx = t at *
    have hgl := (unhide HS3).env.cell 3 (by decide)
    go_wp2_with fail
    refine (fail_any ⟨a, B, rb, g, cap, ts⟩ _ X.2 ev2 eSyntax (by exact unhide HS3)).mono ?_
    rintro e w4 ⟨rfl, ⟨ev4, hs4⟩, hk4⟩
    have HB4 := hide ((unhide HB3).trans ((hk4.below HRB (by have := (unhide HB3).size; omega))))
    obtain ⟨r0, r1, r2, r3, hfr, hrb⟩ := hs4.facts
    have HERR := hide hs4.err
    clear hs4 hk4
    cases her : (failP ts X.2 eSyntax).er with
    | none => exact (fail_nn her).elim
    | some x =>
      obtain ⟨p, k⟩ := x
      rw [her] at HERR HEND
      obtain ⟨be, hev, hne, hat⟩ := unhide HERR
      subst hev
      have HAT := hide hat
      clear HERR her hat hne
      go_wp2
      go_region
      go_wp2
      go_ret2
      rw [unhide HEND]
      exact ⟨(unhide HB4).drew, be, rfl, unhide HAT⟩
end Go.Proofs.YtfkeddkfegaeiaaGreatDoor
