/-
  Part 26.
-/
import Derived.Test.YtfkeddkfegaeiaaGreatDoorJ25
namespace Go.Proofs.YtfkeddkfegaeiaaGreatDoor

/-- the tokens' texts from a on, up to b. -/
def seg (ts : List Tk) (a b : Nat) : List ByteArray := ((ts.map (·.text)).drop a).take (b - a)
theorem seg_add {ts : List Tk} {a b c : Nat} (h1 : a ≤ b) (h2 : b ≤ c) : seg ts a b ++ seg ts b c = seg ts a c := by
  unfold seg
  rw [show (ts.map (·.text)).drop b = ((ts.map (·.text)).drop a).drop (b - a) by rw [List.drop_drop]; congr 1; omega]
  rw [show c - a = (b - a) + (c - b) by omega, List.take_add]
theorem seg_nil (ts : List Tk) (a : Nat) : seg ts a a = [] := by simp [seg]
theorem seg_one {ts : List Tk} {a : Nat} (h : a < ts.length) : seg ts a (a + 1) = [(tkAt ts a).text] := by
  unfold seg
  rw [show a + 1 - a = 1 by omega, List.take_one]
  simp [tkAt, h]

/-! ### what may stand behind what -/
def isCallB (x : ByteArray) : Bool := xCalls.any fun y => y.data.toList == x.data.toList
abbrev One (x : ByteArray) (g : Bool) : Prop := isCallB x = false ∧ (g = true → x.data.toList = [45])
/-- the word of a call stands ahead of its bracket; only a minus is tight of itself. -/
def Good : List TT → Prop
  | [] => True
  | [a] => One a.1 a.2
  | a :: b :: r => (isCallB a.1 = true → b.1.data.toList = [40]) ∧ (a.2 = true → a.1.data.toList = [45]) ∧ Good (b :: r)
theorem good_one {a : TT} {r : List TT} (h : One a.1 a.2) (hr : Good r) : Good (a :: r) := by
  cases r with
  | nil => exact h
  | cons b r => exact ⟨fun hc => (by rw [h.1] at hc; cases hc), h.2, hr⟩
theorem good_append : ∀ {m n : List TT}, Good m → Good n → Good (m ++ n)
  | [], _, _, hn => hn
  | [_], _, hm, hn => good_one hm hn
  | _ :: b :: r, _, hm, hn => ⟨hm.1, hm.2.1, good_append (m := b :: r) hm.2.2 hn⟩
theorem good_call {x y : TT} {r : List TT} (hx : x.2 = false) (hy : y.1.data.toList = [40]) (hr : Good (y :: r)) : Good (x :: y :: r) := ⟨fun _ => hy, fun e => (by rw [hx] at e; cases e), hr⟩
/-- every token has a text, but the end. -/
def Txt (ts : List Tk) : Prop := ∀ i, i < ts.length → (tkAt ts i).kind ≠ 0 → 0 < (tkAt ts i).text.size
/-- what holds of the tokens that a scan gives. -/
structure Lw (ts : List Tk) : Prop where
  last : Lst ts
  wrd : ∀ i, (tkAt ts i).kind = 2 ∨ (tkAt ts i).kind = 3 → isCallB (tkAt ts i).text = false
  txt : Txt ts

structure Lin (ts : List Tk) (st st' : St) (m : List TT) : Prop where
  le : st.nx ≤ st'.nx
  eq : m.map (·.1) = seg ts st.nx st'.nx
  good : Good m
theorem Lin.refl {ts : List Tk} (st : St) : Lin ts st st [] := ⟨Nat.le_refl _, by rw [seg_nil]; rfl, trivial⟩
theorem Lin.trans {ts : List Tk} {a b c : St} {m n : List TT} (h : Lin ts a b m) (k : Lin ts b c n) : Lin ts a c (m ++ n) :=
  ⟨Nat.le_trans h.le k.le, by rw [List.map_append, h.eq, k.eq, seg_add h.le k.le], good_append h.good k.good⟩
theorem Lin.cast {ts : List Tk} {a b : St} {m n : List TT} (h : Lin ts a b m) (e : m = n) : Lin ts a b n := e ▸ h
theorem lin_adv {ts : List Tk} {st : St} (h : st.nx < ts.length) (g : Bool) (ho : One (tkAt ts st.nx).text g) : Lin ts st (adv st) [((tkAt ts st.nx).text, g)] :=
  ⟨Nat.le_succ _, by show [(tkAt ts st.nx).text] = seg ts st.nx (st.nx + 1); rw [seg_one h], ho⟩
theorem fail_nn {ts : List Tk} {st : St} {k : Nat} (h : (failP ts st k).er = none) : False := by
  unfold failP at h
  cases hr : st.er with
  | none => rw [hr] at h; cases h
  | some x => rw [hr] at h; cases h
theorem hit_mem {ts : List Tk} {st : St} {xs : List ByteArray} (h : hitP ts st xs = true) : (tkAt ts st.nx).text ∈ xs := by
  unfold hitP at h
  rw [Bool.and_eq_true] at h
  exact (Lib.containsS_iff _ _).1 h.2
theorem hit_one {ts : List Tk} {st : St} {x : ByteArray} (h : hitP ts st [x] = true) : (tkAt ts st.nx).text = x := by
  simpa using hit_mem h
theorem lin_hit {ts : List Tk} {st : St} (h : st.nx < ts.length) {x : ByteArray} (hh : hitP ts st [x] = true) (g : Bool) (ho : One x g := by decide) : Lin ts st (adv st) [(x, g)] := by
  have := lin_adv h g (by rw [hit_one hh]; exact ho)
  rwa [hit_one hh] at this
theorem want_hit {ts : List Tk} {st : St} {xs : List ByteArray} (he : (wantP ts st xs).er = none) : hitP ts st xs = true := by
  unfold wantP at he
  by_cases hh : hitP ts st xs = true
  · exact hh
  · rw [if_neg hh] at he; exact (fail_nn he).elim
theorem lin_wantT {ts : List Tk} {st : St} (h : st.nx < ts.length) {xs : List ByteArray} (hxs : ∀ x, x ∈ xs → One x false) (he : (wantP ts st xs).er = none) : Lin ts st (wantP ts st xs) [tx (wantT ts st xs)] := by
  have hh := want_hit he
  unfold wantP wantT
  rw [if_pos hh, if_pos hh]
  exact lin_adv h false (hxs _ (hit_mem hh))
theorem lin_want {ts : List Tk} {st : St} (h : st.nx < ts.length) {x : ByteArray} (he : (wantP ts st [x]).er = none) (ho : One x false := by decide) : Lin ts st (wantP ts st [x]) [tx x] := by
  have hh := want_hit he
  unfold wantP
  rw [if_pos hh]
  exact lin_hit h hh false ho
theorem wk_hit {ts : List Tk} {st : St} {k : Nat} (he : (wkP ts st k).er = none) : (tkAt ts st.nx).kind = k := by
  unfold wkP at he
  by_cases hh : (tkAt ts st.nx).kind = k
  · exact hh
  · rw [if_neg hh] at he; exact (fail_nn he).elim
theorem lin_wk {ts : List Tk} (hl : Lw ts) {st : St} (h : st.nx < ts.length) {k : Nat} (hk : k = 2 ∨ k = 3) (he : (wkP ts st k).er = none) : Lin ts st (wkP ts st k) [tx (wkT ts st k).text] := by
  have hh := wk_hit he
  unfold wkP wkT
  rw [if_pos hh, if_pos hh]
  exact lin_adv h false ⟨hl.wrd _ (by rw [hh]; exact hk), fun e => by cases e⟩

/-! ### exprs -/
def LinX (ts : List Tk) (f : St → Rx) : Prop := ∀ st, st.nx < ts.length → (f st).2.er = none → WfE (f st).1 ∧ Lin ts st (f st).2 (tkE (f st).1)
theorem lin_loop {ts : List Tk} (hl : Lw ts) {one : St → Rx} (ho : OnwF ts one) (hx : LinX ts one) (xs : List ByteArray) (hxs : ∀ x, x ∈ xs → One x false) (pl : Nat) (st0 : St) : ∀ (f : Nat) (l : List Nd) (st : St), st.nx < ts.length → WfE l → Lin ts st0 st (tkE l) → (chainLoop ts one xs pl f l st).2.er = none →
    WfE (chainLoop ts one xs pl f l st).1 ∧ Lin ts st0 (chainLoop ts one xs pl f l st).2 (tkE (chainLoop ts one xs pl f l st).1)
  | 0, l, st, _, hw, hL, _ => ⟨hw, hL⟩
  | f + 1, l, st, h, hw, hL, he => by
    unfold chainLoop at he ⊢
    by_cases hh : hitP ts st xs = true
    · rw [if_pos hh] at he ⊢
      have h1 := onw_adv hl.last h (hit_kind hh)
      have h2 := ho _ h1.lt
      have h3 := onw_loop hl.last ho xs pl f (ndPair pl (tkAt ts st.nx).text :: (l ++ (one (adv st)).1)) _ h2.lt
      have h4 := hx _ h1.lt (h3.er he)
      have h5 := wf_pair hw h4.1 pl (tkAt ts st.nx).text
      refine lin_loop hl ho hx xs hxs pl st0 f _ _ h2.lt h5.1 ?_ he
      rw [h5.2]
      exact ((hL.trans (lin_adv h false (hxs _ (hit_mem hh)))).trans h4.2).cast (by simp [tx])
    · rw [if_neg hh] at he ⊢
      exact ⟨hw, hL⟩
theorem lin_chain {ts : List Tk} (hl : Lw ts) {one : St → Rx} (ho : OnwF ts one) (hx : LinX ts one) (xs : List ByteArray) (hxs : ∀ x, x ∈ xs → One x false) : LinX ts (chainP ts one xs) := fun st h he => by
  have h1 := ho st h
  have h2 := onw_loop hl.last ho xs (tkAt ts st.nx).place ts.length (one st).1 _ h1.lt
  have h3 := hx st h (h2.er he)
  exact lin_loop hl ho hx xs hxs _ st _ _ _ h1.lt h3.1 h3.2 he
theorem lin_exprOf {ts : List Tk} (hl : Lw ts) {fac : St → Rx} (ho : OnwF ts fac) (hx : LinX ts fac) : LinX ts (exprOf ts fac) := lin_chain hl (onw_chain hl.last ho _) (lin_chain hl ho hx _ (by decide)) _ (by decide)
theorem lin_deep {ts : List Tk} {one : St → Rx} (hx : LinX ts one) : LinX ts (deepP one) := fun st h he => by
  have := hx { st with dp := st.dp + 1 } h he
  exact ⟨this.1, this.2.le, this.2.eq, this.2.good⟩
theorem lin_factor {ts : List Tk} (hl : Lw ts) : ∀ n, LinX ts (factorP ts n)
  | 0 => fun _ _ he => (fail_nn he).elim
  | n + 1 => fun st h he => by
    unfold factorP at he ⊢
    by_cases hm : hitP ts st xMin = true
    · rw [if_pos hm] at he ⊢
      have h1 := onw_adv hl.last h (hit_kind hm)
      have h2 := lin_deep (lin_factor hl n) _ h1.lt he
      have h3 := wf_minus h2.1 (tkAt ts st.nx).place
      refine ⟨h3.1, ?_⟩
      rw [h3.2]
      exact (lin_hit h hm true).trans h2.2
    · rw [if_neg hm] at he ⊢
      by_cases hb : hitP ts st xOpen = true
      · rw [if_pos hb] at he ⊢
        have h1 := onw_adv hl.last h (hit_kind hb)
        have ho := onw_deep (onw_expr hl.last (onw_factor hl.last n)) _ h1.lt
        have h2 := lin_deep (lin_exprOf hl (onw_factor hl.last n) (lin_factor hl n)) _ h1.lt ((onw_want hl.last ho.lt _).er he)
        have h3 := wf_br h2.1 (tkAt ts st.nx).place
        refine ⟨h3.1, ?_⟩
        rw [h3.2]
        exact (((lin_hit h hb false).trans h2.2).trans (lin_want ho.lt he)).cast (by simp [tx])
      · rw [if_neg hb] at he ⊢
        by_cases hk : (tkAt ts st.nx).kind = 3
        · rw [if_pos hk] at he ⊢
          refine ⟨(wf_num _).1, ?_⟩
          rw [(wf_num _).2]
          exact lin_wk hl h (by decide) he
        · rw [if_neg hk] at he ⊢
          refine ⟨(wf_col _ _).1, ?_⟩
          rw [(wf_col _ _).2]
          have h1 := onw_wk hl.last h (k := 2) (by decide)
          have h2 := onw_want hl.last h1.lt [⟨#[46]⟩]
          have h3 := onw_wk hl.last h2.lt (k := 2) (by decide)
          have e2 := h3.er he
          exact (((lin_wk hl h (by decide) (h2.er e2)).trans (lin_want h1.lt e2)).trans (lin_wk hl h2.lt (by decide) he)).cast rfl
theorem lin_exprP {ts : List Tk} (hl : Lw ts) : LinX ts (exprP ts) := lin_exprOf hl (onw_factor hl.last 17) (lin_factor hl 17)

/-! ### lists -/
def LinG {α : Type} (ts : List Tk) (tk : α → List TT) (f : St → α × St) : Prop := ∀ st, st.nx < ts.length → (f st).2.er = none → Lin ts st (f st).2 (tk (f st).1)
theorem lin_listLoop {α : Type} {ts : List Tk} {tk : α → List TT} (hl : Lw ts) {one : St → α × St} (ho : OnwG ts one) (hx : LinG ts tk one) (most : Nat) (st0 : St) : ∀ (f : Nat) (l : List α) (st : St), st.nx < ts.length → l ≠ [] → Lin ts st0 st (commas (l.map tk)) → (listLoop ts one most f l st).2.er = none →
    (listLoop ts one most f l st).1 ≠ [] ∧ Lin ts st0 (listLoop ts one most f l st).2 (commas ((listLoop ts one most f l st).1.map tk))
  | 0, l, st, _, hn, hL, _ => ⟨hn, hL⟩
  | f + 1, l, st, h, hn, hL, he => by
    unfold listLoop at he ⊢
    by_cases hh : hitP ts st xComma = true
    · rw [if_pos hh] at he ⊢
      have h1 := onw_adv hl.last h (hit_kind hh)
      have h2 := onw_many (st := adv st) h1.lt most l.length
      have h3 := ho _ h2.lt
      have h4 := onw_listLoop hl.last ho most f (l ++ [(one (many ts most l.length (adv st))).1]) _ h3.lt
      have e3 := h4.er he
      have e2 := h3.er e3
      have hm : many ts most l.length (adv st) = adv st := by
        unfold many at e2 ⊢
        by_cases hq : l.length = most
        · rw [if_pos hq] at e2; exact (fail_nn e2).elim
        · rw [if_neg hq]
      rw [hm] at he h3 e3 ⊢
      refine lin_listLoop hl ho hx most st0 f _ _ h3.lt (by simp) ?_ he
      rw [List.map_append, List.map_cons, List.map_nil, commas_snoc, if_neg (by simpa using hn)]
      exact (hL.trans (lin_hit h hh false)).trans (hx _ h1.lt e3)
    · rw [if_neg hh] at he ⊢
      exact ⟨hn, hL⟩
theorem lin_list {α : Type} {ts : List Tk} {tk : α → List TT} (hl : Lw ts) {one : St → α × St} (ho : OnwG ts one) (hx : LinG ts tk one) (most : Nat) {st : St} (h : st.nx < ts.length) (he : (listP ts one most st).2.er = none) :
    (listP ts one most st).1 ≠ [] ∧ Lin ts st (listP ts one most st).2 (commas ((listP ts one most st).1.map tk)) := by
  have h1 := ho st h
  have h2 := onw_listLoop hl.last ho most ts.length [(one st).1] _ h1.lt
  exact lin_listLoop hl ho hx most st _ _ _ h1.lt (by simp) (by simpa [commas] using hx st h (h2.er he)) he
theorem lin_name {ts : List Tk} (hl : Lw ts) : LinG ts tkName (nameP ts) := fun _ h he => lin_wk hl h (by decide) he
theorem lin_src {ts : List Tk} (hl : Lw ts) : LinG ts tkSrc (srcP ts) := fun st h he => by
  have h1 := onw_wk hl.last h (k := 2) (by decide)
  have h2 := onw_wk hl.last h1.lt (k := 2) (by decide)
  exact (lin_wk hl h (by decide) (h2.er he)).trans (lin_wk hl h1.lt (by decide) he)
theorem lin_x {ts : List Tk} (hl : Lw ts) : LinG ts tkE (exprP ts) := fun st h he => (lin_exprP hl st h he).2

/-! ### windows, items -/
theorem lin_beh {ts : List Tk} (hl : Lw ts) {st : St} (h : st.nx < ts.length) (x : ByteArray) (ho : One x false) (he : (behP ts st x).2.er = none) : Lin ts st (behP ts st x).2 (tkBy x (behP ts st x).1) := by
  unfold behP at he ⊢
  by_cases hh : hitP ts st [x] = true
  · rw [if_pos hh] at he ⊢
    have h1 := onw_adv hl.last h (hit_kind hh)
    have h2 := onw_want hl.last h1.lt [⟨#[98, 121]⟩]
    have h3 := onw_list hl.last (onw_exprP hl.last) 1000 _ h2.lt
    have h4 := lin_list hl (onw_exprP hl.last) (lin_x hl) 1000 h2.lt he
    unfold tkBy
    rw [if_neg h4.1]
    exact (((lin_hit h hh false ho).trans (lin_want h1.lt (h3.er he))).trans h4.2).cast rfl
  · rw [if_neg hh]
    exact Lin.refl _
theorem lin_wOf {ts : List Tk} (hl : Lw ts) {st : St} (h : st.nx < ts.length) (call : ByteArray) (he : (wOf ts st call).2.er = none) : Lin ts st (wOf ts st call).2 ([tx ⟨#[40]⟩] ++ tkOf (wOf ts st call).1) := by
  have h1 := onw_want hl.last h [⟨#[40]⟩]
  unfold wOf at he ⊢
  by_cases hh : takesOf call = true
  · rw [if_pos hh] at he ⊢
    have h2 := onw_exprP hl.last _ h1.lt
    exact (lin_want h (h2.er he)).trans (lin_x hl _ h1.lt he)
  · rw [if_neg hh] at he ⊢
    exact (lin_want h he).cast rfl
theorem lin_wOpen {ts : List Tk} (hl : Lw ts) {st : St} (h : st.nx < ts.length) (he : (wOpen ts st).er = none) : Lin ts st (wOpen ts st) [tx ⟨#[41]⟩, tx ⟨#[111, 118, 101, 114]⟩, tx ⟨#[40]⟩] := by
  have h1 := onw_want hl.last h [⟨#[41]⟩]
  have h2 := onw_want hl.last h1.lt [⟨#[111, 118, 101, 114]⟩]
  have h3 := onw_want hl.last h2.lt [⟨#[40]⟩]
  have e2 := h3.er he
  exact ((lin_want h (h2.er e2)).trans (lin_want h1.lt e2)).trans (lin_want h2.lt he)
theorem lin_wRows {ts : List Tk} (hl : Lw ts) {st : St} (h : st.nx < ts.length) (he : (wRows ts st).2.er = none) : Lin ts st (wRows ts st).2 (tkRows (wRows ts st).1) := by
  unfold wRows at he ⊢
  by_cases hh : hitP ts st [⟨#[114, 111, 119, 115]⟩] = true
  · rw [if_pos hh] at he ⊢
    have h1 := onw_adv hl.last h (hit_kind hh)
    have h2 := onw_wk hl.last h1.lt (k := 3) (by decide)
    have h3 := onw_want hl.last h2.lt [⟨#[112, 114, 101, 99, 101, 100, 105, 110, 103]⟩]
    exact ((lin_hit h hh false).trans (lin_wk hl h1.lt (by decide) (h3.er he))).trans (lin_want h2.lt he)
  · rw [if_neg hh]
    exact Lin.refl _
theorem lin_win {ts : List Tk} (hl : Lw ts) {st : St} (h : st.nx < ts.length) (p : Nat) (call : ByteArray) (he : (winP ts st p call).2.er = none) : ∃ m, Lin ts st (winP ts st p call).2 (tx ⟨#[40]⟩ :: m) ∧ tkWin (winP ts st p call).1 = tx call :: tx ⟨#[40]⟩ :: m := by
  have h1 := onw_wOf hl.last h call
  have h2 := onw_wOpen hl.last h1.lt
  have h3 : Onw ts _ (wPart ts (wOpen ts (wOf ts st call).2)).2 := onw_beh hl.last h2.lt _
  have h4 : Onw ts _ (wOrd ts (wPart ts (wOpen ts (wOf ts st call).2)).2).2 := onw_beh hl.last h3.lt _
  have h5 := onw_wRows hl.last h4.lt
  have h6 := onw_want hl.last h5.lt [⟨#[41]⟩]
  have e5 := h6.er he
  have e4 := h5.er e5
  have e3 := h4.er e4
  have e2 := h3.er e3
  have e1 := h2.er e2
  refine ⟨_, ((((((lin_wOf hl h call e1).trans (lin_wOpen hl h1.lt e2)).trans (lin_beh hl h2.lt _ (by decide) e3)).trans (lin_beh hl h3.lt _ (by decide) e4)).trans (lin_wRows hl h4.lt e5)).trans (lin_want h5.lt he)).cast (by simp only [List.append_assoc, List.cons_append, List.nil_append]; rfl), ?_⟩
  simp only [tkWin, winP, wPart, wOrd]
  simp
theorem lin_itOf {ts : List Tk} (hl : Lw ts) {st : St} (h : st.nx < ts.length) (he : (itOf ts st).2.er = none) (p ap : Nat) (s : ByteArray) : Lin ts st (itOf ts st).2 (tkWhat ⟨p, (itOf ts st).1.1, (itOf ts st).1.2, ap, s⟩) := by
  unfold itOf at he ⊢
  by_cases hh : hitP ts st xCalls = true
  · rw [if_pos hh] at he ⊢
    have h1 := onw_adv hl.last h (hit_kind hh)
    obtain ⟨m, h2, h3⟩ := lin_win hl h1.lt _ _ he
    refine Lin.cast ?_ h3.symm
    exact ⟨Nat.le_trans (Nat.le_succ _) h2.le, by rw [List.map_cons, h2.eq, show (tx (tkAt ts st.nx).text).1 = (tkAt ts st.nx).text from rfl, ← seg_add (Nat.le_succ st.nx) h2.le, seg_one h]; rfl, good_call rfl rfl h2.good⟩
  · rw [if_neg hh] at he ⊢
    exact lin_x hl st h he
theorem lin_itAs {ts : List Tk} (hl : Lw ts) (hx : Txt ts) {st : St} (h : st.nx < ts.length) (he : (itAs ts st).2.er = none) : Lin ts st (itAs ts st).2 (tkAs (itAs ts st).1.2) := by
  unfold itAs at he ⊢
  by_cases hh : hitP ts st [⟨#[97, 115]⟩] = true
  · rw [if_pos hh] at he ⊢
    have h1 := onw_adv hl.last h (hit_kind hh)
    have hk := wk_hit he
    have ht := hx _ h1.lt (by rw [hk]; decide)
    have hn : ((wkT ts (adv st) 2).text.toList == []) = false := by
      unfold wkT
      rw [if_pos hk]
      have := toList_size (tkAt ts (adv st).nx).text
      cases hq : (tkAt ts (adv st).nx).text.toList with
      | nil => rw [hq] at this; simp at this; omega
      | cons a r => rfl
    show Lin ts st (wkP ts (adv st) 2) (tkAs (wkT ts (adv st) 2).text)
    unfold tkAs
    rw [hn]
    exact (lin_hit h hh false).trans (lin_wk hl h1.lt (by decide) he)
  · rw [if_neg hh]
    exact (Lin.refl _).cast (by simp [tkAs, ByteArray.toList_eq])
theorem lin_item {ts : List Tk} (hl : Lw ts) (hx : Txt ts) : LinG ts tkItem (itemP ts) := fun st h he => by
  have h1 := onw_itOf hl.last h
  have h2 := onw_itAs hl.last h1.lt
  exact (lin_itOf hl h (h2.er he) _ _ _).trans (lin_itAs hl hx h1.lt he)

/-! ### tests, selects -/
theorem lin_test {ts : List Tk} (hl : Lw ts) : LinG ts tkTest (testP ts) := fun st h he => by
  have h1 := onw_exprP hl.last _ h
  have h2 := onw_want hl.last h1.lt xCmp
  have h3 := onw_exprP hl.last _ h2.lt
  have e2 := h3.er he
  exact (((lin_x hl _ h (h2.er e2)).trans (lin_wantT h1.lt (by decide) e2)).trans (lin_x hl _ h2.lt he)).cast (by simp [tkTest, testP])
theorem lin_and {ts : List Tk} (hl : Lw ts) (st0 : St) : ∀ (f : Nat) (l : List TestA) (st : St), st.nx < ts.length → l ≠ [] → Lin ts st0 st (tkTests l) → (andLoop ts f l st).2.er = none → Lin ts st0 (andLoop ts f l st).2 (tkTests (andLoop ts f l st).1)
  | 0, l, st, _, _, hL, _ => hL
  | f + 1, l, st, h, hn, hL, he => by
    unfold andLoop at he ⊢
    by_cases hh : hitP ts st [⟨#[97, 110, 100]⟩] = true
    · rw [if_pos hh] at he ⊢
      have h1 := onw_adv hl.last h (hit_kind hh)
      have h2 := onw_test hl.last _ h1.lt
      have h3 := onw_and hl.last f (l ++ [(testP ts (adv st)).1]) _ h2.lt
      refine lin_and hl st0 f _ _ h2.lt (by simp) ?_ he
      rw [tkTests_snoc, if_neg hn]
      exact hL.trans ((lin_hit h hh false).trans (lin_test hl _ h1.lt (h3.er he)))
    · rw [if_neg hh] at he ⊢
      exact hL
theorem lin_where {ts : List Tk} (hl : Lw ts) {st : St} (h : st.nx < ts.length) (he : (whereP ts st).2.er = none) : Lin ts st (whereP ts st).2 (tkTests (whereP ts st).1) := by
  unfold whereP at he ⊢
  by_cases hh : hitP ts st [⟨#[119, 104, 101, 114, 101]⟩] = true
  · rw [if_pos hh] at he ⊢
    have h1 := onw_adv hl.last h (hit_kind hh)
    have h2 := onw_test hl.last _ h1.lt
    have h3 := onw_and hl.last ts.length [(testP ts (adv st)).1] _ h2.lt
    refine lin_and hl st _ _ _ h2.lt (by simp) ?_ he
    exact ((lin_hit h hh false).trans (lin_test hl _ h1.lt (h3.er he))).cast (by simp [tkTests, tx])
  · rw [if_neg hh]
    exact (Lin.refl _).cast rfl
theorem ne_len {α : Type} {l : List α} (h : l ≠ []) : 0 < l.length := List.length_pos_iff.2 h
theorem lin_sel {ts : List Tk} (hl : Lw ts) (hx : Txt ts) {st : St} (h : st.nx < ts.length) (he : (selP ts st).2.er = none) : (selP ts st).1.Full ∧ Lin ts st (selP ts st).2 (tkSel (selP ts st).1) := by
  have h1 := onw_want hl.last h [⟨#[115, 101, 108, 101, 99, 116]⟩]
  have h2 : Onw ts _ (selI ts st).2 := onw_list hl.last (onw_item hl.last) 6 _ h1.lt
  have h3 := onw_want hl.last h2.lt [⟨#[102, 114, 111, 109]⟩]
  have h4 : Onw ts _ (selS ts (selI ts st).2).2 := onw_list hl.last (onw_src hl.last) 3 _ h3.lt
  have h5 := onw_where hl.last h4.lt
  have e4 := h5.er he
  have e3 := h4.er e4
  have e2 := h3.er e3
  have e1 := h2.er e2
  have k2 := lin_list hl (onw_item hl.last) (lin_item hl hx) 6 h1.lt e2
  have k4 := lin_list hl (onw_src hl.last) (lin_src hl) 3 h3.lt e4
  exact ⟨⟨ne_len k2.1, ne_len k4.1⟩, ((((lin_want h e1).trans k2.2).trans (lin_want h2.lt e3)).trans k4.2).trans (lin_where hl h4.lt he)⟩

theorem lin_with {ts : List Tk} (hl : Lw ts) (hx : Txt ts) {st : St} (h : st.nx < ts.length) (p : Nat) (he : (withP ts st p).2.er = none) : (withP ts st p).1.Full ∧ ∃ m, Lin ts st (withP ts st p).2 m ∧ tkWith (withP ts st p).1 = tx ⟨#[119, 105, 116, 104]⟩ :: m := by
  have h1 := onw_wk hl.last h (k := 2) (by decide)
  have h2 := onw_want hl.last h1.lt [⟨#[40]⟩]
  have h3 : Onw ts _ (wtCols ts st).2 := onw_list hl.last (onw_name hl.last) 6 _ h2.lt
  have h4 := onw_want hl.last h3.lt [⟨#[41]⟩]
  have h5 := onw_want hl.last h4.lt [⟨#[97, 115]⟩]
  have h6 : Onw ts _ (wtOpen ts (wtCols ts st).2) := onw_want hl.last h5.lt [⟨#[40]⟩]
  have h7 : Onw ts _ (wtA ts st).2 := onw_sel hl.last h6.lt
  have h8 := onw_want hl.last h7.lt [⟨#[117, 110, 105, 111, 110]⟩]
  have h9 : Onw ts _ (wtB ts (wtA ts st).2).2 := onw_sel hl.last h8.lt
  have h10 := onw_want hl.last h9.lt [⟨#[41]⟩]
  have e9 := h10.er he
  have e8 := h9.er e9
  have e7 := h8.er e8
  have e6 := h7.er e7
  have e5 := h6.er e6
  have e4 := h5.er e5
  have e3 := h4.er e4
  have e2 := h3.er e3
  have e1 := h2.er e2
  have k3 := lin_list hl (onw_name hl.last) (lin_name hl) 6 h2.lt e3
  have k7 := lin_sel hl hx h6.lt e7
  have k9 := lin_sel hl hx h8.lt e9
  refine ⟨⟨ne_len k3.1, k7.1, k9.1⟩, _, ((((((((lin_wk hl h (by decide) e1).trans (lin_want h1.lt e2)).trans k3.2).trans (((lin_want h3.lt e4).trans (lin_want h4.lt e5)).trans (lin_want h5.lt e6))).trans k7.2).trans (lin_want h7.lt e8)).trans k9.2).trans (lin_want h9.lt he)), ?_⟩
  simp only [tkWith, withP]
  simp [wtCols, wtA, wtB]
theorem lin_query {ts : List Tk} (hl : Lw ts) (hx : Txt ts) {st : St} (h : st.nx < ts.length) (he : (queryP ts st).2.er = none) : (queryP ts st).1.Full ∧ Lin ts st (queryP ts st).2 (tkQuery (queryP ts st).1) := by
  have h1 := onw_qHead hl.last h
  have h2 := onw_sel hl.last h1.lt
  have k2 := lin_sel hl hx h1.lt he
  have e1 := h2.er he
  have hq : (∀ y, (qHead ts st).1 = some y → y.Full) ∧ Lin ts st (qHead ts st).2 (tkWo (qHead ts st).1) := by
    unfold qHead at e1 ⊢
    by_cases hh : hitP ts st [⟨#[119, 105, 116, 104]⟩] = true
    · rw [if_pos hh] at e1 ⊢
      have h3 := onw_adv hl.last h (hit_kind hh)
      obtain ⟨k3, m, k4, k5⟩ := lin_with hl hx h3.lt _ e1
      refine ⟨fun y hy => by cases hy; exact k3, ?_⟩
      exact ((lin_hit h hh false).trans k4).cast k5.symm
    · rw [if_neg hh]
      exact ⟨fun y hy => (by cases hy), Lin.refl _⟩
  exact ⟨⟨hq.1, k2.1⟩, hq.2.trans k2.2⟩
end Go.Proofs.YtfkeddkfegaeiaaGreatDoor
namespace Go.Proofs.YtfkeddkfegaeiaaGreatDoor

def signL : List (List UInt8) := [[40], [41], [44], [46], [43], [45], [42], [61], [60], [62], [60, 62], [60, 61], [62, 61]]
inductive IsTok (t : Tk) : Prop
  | word (h1 : t.text.data.toList ≠ []) (h2 : ∀ c, c ∈ t.text.data.toList → letterI c.toNat = true) (h3 : wordB t.text.data.toList = true) (hk : t.kind = 1) (hv : t.value = 0)
  | name (h1 : t.text.data.toList ≠ []) (h2 : ∀ c, c ∈ t.text.data.toList → letterI c.toNat = true) (h3 : wordB t.text.data.toList = false) (h4 : t.text.size ≤ 8) (hk : t.kind = 2) (hv : t.value = 0)
  | num (h1 : t.text.data.toList ≠ []) (h2 : ∀ c, c ∈ t.text.data.toList → digitI c.toNat = true) (h3 : numOf t.text.data.toList = some t.value) (hk : t.kind = 3)
  | sign (h1 : t.text.data.toList ∈ signL) (hk : t.kind = 1) (hv : t.value = 0)

theorem byte_all (p : UInt8 → Bool) (h : ∀ n, n < 256 → p (UInt8.ofNat n) = true) (c : UInt8) : p c = true := by
  have := h c.toNat (UInt8.toNat_lt c)
  rwa [UInt8.ofNat_toNat] at this
theorem cut_list (r : ByteArray) (n : Nat) : (r.extract 0 n).data.toList = r.data.toList.take n := by
  simp [ByteArray.data_extract]
theorem take_lead (p : Int → Bool) (l : List UInt8) : l.take (lead p l) = l.takeWhile fun c => p c.toNat := by
  unfold lead
  exact (List.prefix_iff_eq_take.1 (List.takeWhile_prefix _)).symm
theorem while_all (p : Int → Bool) (l : List UInt8) : ∀ c, c ∈ l.takeWhile (fun c => p c.toNat) → p c.toNat = true := by
  induction l with
  | nil => intro c hc; cases hc
  | cons a r ih =>
    intro c hc
    rw [List.takeWhile_cons] at hc
    by_cases ha : p a.toNat = true
    · rw [if_pos ha] at hc
      rcases List.mem_cons.1 hc with rfl | hc
      · exact ha
      · exact ih c hc
    · rw [if_neg ha] at hc; cases hc
theorem while_self {p : Int → Bool} : ∀ {l : List UInt8}, (∀ c, c ∈ l → p c.toNat = true) → l.takeWhile (fun c => p c.toNat) = l
  | [], _ => rfl
  | a :: r, h => by rw [List.takeWhile_cons, if_pos (h a List.mem_cons_self), while_self (fun c hc => h c (List.mem_cons_of_mem _ hc))]
set_option maxRecDepth 100000 in
theorem sign_in (c : UInt8) : (decide (Lib.indexByte signs1 c < 0) || signL.contains [c]) = true := byte_all (fun c => decide (Lib.indexByte signs1 c < 0) || signL.contains [c]) (by decide) c
theorem ne_of_size {r : ByteArray} (h : 0 < r.size) : r.data.toList ≠ [] := fun e => by
  have := sizeL r
  rw [e] at this
  simp at this
  omega

theorem isTok_of_scan {s : ByteArray} {i : Nat} {t : Tk} (hi : i < s.size) (h : scanOneP s i = .ok t) : IsTok t := by
  have hz := (tok_size s i t hi h).1
  unfold scanOneP at h
  simp only at h
  generalize s.extract i s.size = rest at h
  split at h
  · split at h
    · rename_i h1 h2
      cases h
      refine .word (ne_of_size hz) (fun c hc => ?_) h2 rfl rfl
      rw [cut_list, take_lead] at hc
      exact while_all _ _ c hc
    · split at h
      · cases h
      · rename_i h1 h2 h3
        cases h
        refine .name (ne_of_size hz) (fun c hc => ?_) (by simpa using h2) (Nat.le_of_not_lt h3) rfl rfl
        rw [cut_list, take_lead] at hc
        exact while_all _ _ c hc
  · split at h
    · split at h
      · rename_i h1 h2 v h3
        cases h
        refine .num (ne_of_size hz) (fun c hc => ?_) h3 rfl
        rw [cut_list, take_lead] at hc
        exact while_all _ _ c hc
      · cases h
    · split at h
      · cases h
      · rename_i h1 h2 h3
        cases h
        refine .sign ?_ rfl rfl
        have hn := ne_of_size hz
        show (rest.extract 0 (signLen rest.data.toList)).data.toList ∈ signL
        change (rest.extract 0 (signLen rest.data.toList)).data.toList ≠ [] at hn
        rw [cut_list] at hn ⊢
        generalize rest.data.toList = l at *
        unfold signLen at hn h3 ⊢
        by_cases h4 : sign2 l = true
        · rw [if_pos h4]
          unfold sign2 at h4
          simp only [Bool.or_eq_true, beq_iff_eq] at h4
          rcases h4 with (h4 | h4) | h4 <;> rw [h4] <;> decide
        · rw [if_neg h4] at hn h3 ⊢
          by_cases h5 : Lib.indexByte signs1 (l.headD 0) < 0
          · rw [if_pos h5] at h3; exact (h3 rfl).elim
          · rw [if_neg h5] at hn ⊢
            cases l with
            | nil => exact (hn rfl).elim
            | cons c r =>
              have := sign_in c
              rw [Bool.or_eq_true] at this
              rcases this with h6 | h6
              · exact (h5 (by simpa using h6)).elim
              · simpa using h6

/-! ### found again -/
def okNext (l : List UInt8) (c : UInt8) : Bool :=
  if letterI (l.headD 0).toNat then !letterI c.toNat else if digitI (l.headD 0).toNat then !digitI c.toNat else !(l.length == 1 && sign2 (l ++ [c]))
theorem lead_app {p : Int → Bool} {a tail : List UInt8} (ha : ∀ c, c ∈ a → p c.toNat = true) (ht : ∀ c r, tail = c :: r → p c.toNat = false) : lead p (a ++ tail) = a.length := by
  unfold lead
  rw [List.takeWhile_append]
  have h1 : a.takeWhile (fun c => p c.toNat) = a := while_self ha
  rw [h1, if_pos rfl]
  cases tail with
  | nil => simp
  | cons c r =>
    rw [List.takeWhile_cons, ht c r rfl]
    simp
theorem cut_eq {rest text : ByteArray} {tail : List UInt8} (h : rest.data.toList = text.data.toList ++ tail) : rest.extract 0 text.data.toList.length = text := by
  apply Go.WideShapes.bytes_inj
  rw [cut_list, h, List.take_left']
  rfl
theorem head_app {a tail : List UInt8} (h : a ≠ []) : (a ++ tail).headD 0 = a.headD 0 := by
  cases a with
  | nil => exact (h rfl).elim
  | cons c r => rfl
theorem head_mem {a : List UInt8} (h : a ≠ []) : a.headD 0 ∈ a := by
  cases a with
  | nil => exact (h rfl).elim
  | cons c r => simp
set_option maxRecDepth 100000 in
theorem letter_digit (c : UInt8) : (!(letterI c.toNat && digitI c.toNat)) = true := byte_all (fun c => !(letterI c.toNat && digitI c.toNat)) (by decide) c
def signOk (l : List UInt8) : Bool := !letterI (l.headD 0).toNat && !digitI (l.headD 0).toNat && !(l == []) && (if l.length == 1 then !sign2 l && !decide (Lib.indexByte signs1 (l.headD 0) < 0) else sign2 l && l.length == 2)
theorem signL_ok : ∀ l, l ∈ signL → signOk l = true := by decide
theorem sign2_two (a c : UInt8) (r : List UInt8) : sign2 (a :: c :: r) = sign2 [a, c] := rfl

theorem rescan {s : ByteArray} {j : Nat} {t : Tk} {tail : List UInt8} (ht : IsTok t) (hL : (s.extract j s.size).data.toList = t.text.data.toList ++ tail) (hn : ∀ c r, tail = c :: r → okNext t.text.data.toList c = true) : scanOneP s j = .ok ⟨j, t.kind, t.text, t.value⟩ := by
  unfold scanOneP
  simp only
  generalize s.extract j s.size = rest at *
  have hcut := cut_eq hL
  rcases ht with ⟨h1, h2, h3, hk, hv⟩ | ⟨h1, h2, h3, h4, hk, hv⟩ | ⟨h1, h2, h3, hk⟩ | ⟨h1, hk, hv⟩
  · have hl := h2 _ (head_mem h1)
    have hld : lead letterI rest.data.toList = t.text.data.toList.length := by
      rw [hL]
      exact lead_app h2 (fun c r e => by have := hn c r e; unfold okNext at this; rw [if_pos hl] at this; simpa using this)
    rw [hld, hcut, hL, head_app h1, if_pos hl, if_pos h3, hk, hv]
  · have hl := h2 _ (head_mem h1)
    have hld : lead letterI rest.data.toList = t.text.data.toList.length := by
      rw [hL]
      exact lead_app h2 (fun c r e => by have := hn c r e; unfold okNext at this; rw [if_pos hl] at this; simpa using this)
    rw [hld, hcut, hL, head_app h1, if_pos hl, if_neg (by rw [h3]; decide), if_neg (by omega), hk, hv]
  · have hd := h2 _ (head_mem h1)
    have hl : ¬ letterI (t.text.data.toList.headD 0).toNat = true := fun e => by have := letter_digit (t.text.data.toList.headD 0); rw [e, hd] at this; cases this
    have hld : lead digitI rest.data.toList = t.text.data.toList.length := by
      rw [hL]
      exact lead_app h2 (fun c r e => by have := hn c r e; unfold okNext at this; rw [if_neg hl, if_pos hd] at this; simpa using this)
    rw [hld, hcut, hL, head_app h1, if_neg hl, if_pos hd, h3, hk]
  · have ho := signL_ok _ h1
    unfold signOk at ho
    simp only [Bool.and_eq_true, Bool.not_eq_true', beq_eq_false_iff_ne, ne_eq] at ho
    obtain ⟨⟨⟨hl, hd⟩, hne⟩, hs⟩ := ho
    have hsl : signLen rest.data.toList = t.text.data.toList.length := by
      rw [hL]
      generalize t.text.data.toList = l at *
      match l, hne, hs with
      | [a], _, hs =>
        simp only [List.length_singleton, BEq.rfl, if_true, Bool.and_eq_true, Bool.not_eq_true', List.headD_cons] at hs
        have h2 : sign2 ([a] ++ tail) = false := by
          cases tail with
          | nil => exact hs.1
          | cons c r =>
            have := hn c r rfl
            unfold okNext at this
            rw [if_neg (by rw [hl]; decide), if_neg (by rw [hd]; decide)] at this
            show sign2 (a :: c :: r) = false
            rw [sign2_two]
            simpa using this
        unfold signLen
        rw [if_neg (by rw [h2]; decide), if_neg (show ¬ Lib.indexByte signs1 (([a] ++ tail).headD 0) < 0 from of_decide_eq_false hs.2)]
        rfl
      | [a, b], _, hs =>
        simp only [List.length_cons, List.length_nil, Nat.zero_add, Nat.reduceAdd, Nat.reduceBEq, Bool.false_eq_true, if_false, Bool.and_eq_true] at hs
        unfold signLen
        rw [if_pos (show sign2 ([a, b] ++ tail) = true from hs.1)]
        rfl
      | a :: b :: c :: r, _, hs =>
        simp at hs
    rw [hsl, hcut, hL, head_app hne, if_neg (by rw [hl]; decide), if_neg (by rw [hd]; decide), if_neg (by intro e; exact hne (List.length_eq_zero_iff.1 e)), hk, hv]
end Go.Proofs.YtfkeddkfegaeiaaGreatDoor
