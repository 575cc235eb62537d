/-
  A reading hangs on the tokens' kinds and texts alone, not on their places.
-/
import Derived.Test.YtjnmkmcopfkdfaaGreatDoorRdr
namespace Go.Proofs.YtjnmkmcopfkdfaaGreatDoor

structure SimT (ts us : List Tk) : Prop where
  len : ts.length = us.length
  kind : ∀ i, (tkAt ts i).kind = (tkAt us i).kind
  text : ∀ i, (tkAt ts i).text = (tkAt us i).text
structure Sm (a b : St) : Prop where
  nx : a.nx = b.nx
  dp : a.dp = b.dp
  er : a.er.isSome = b.er.isSome
theorem Sm.none {a b : St} (h : Sm a b) : a.er = none ↔ b.er = none := by
  have := h.er
  cases ha : a.er <;> cases hb : b.er <;> simp_all
theorem sm_adv {a b : St} (h : Sm a b) : Sm (adv a) (adv b) := ⟨by show a.nx + 1 = b.nx + 1; rw [h.nx], h.dp, h.er⟩
theorem fail_some (ts : List Tk) (st : St) (k : Nat) : (failP ts st k).er.isSome = true := by
  cases hr : (failP ts st k).er with
  | none => exact (fail_nn hr).elim
  | some x => rfl
theorem sm_fail {ts us : List Tk} (hs : SimT ts us) {a b : St} (h : Sm a b) (k : Nat) : Sm (failP ts a k) (failP us b k) :=
  ⟨by show ts.length - 1 = us.length - 1; rw [hs.len], h.dp, by rw [fail_some, fail_some]⟩
theorem sm_hit {ts us : List Tk} (hs : SimT ts us) {a b : St} (h : Sm a b) (xs : List ByteArray) : hitP ts a xs = hitP us b xs := by
  unfold hitP
  rw [h.nx, hs.kind, hs.text]
theorem sm_text {ts us : List Tk} (hs : SimT ts us) {a b : St} (h : Sm a b) : (tkAt ts a.nx).text = (tkAt us b.nx).text := by rw [h.nx, hs.text]
theorem sm_kind {ts us : List Tk} (hs : SimT ts us) {a b : St} (h : Sm a b) : (tkAt ts a.nx).kind = (tkAt us b.nx).kind := by rw [h.nx, hs.kind]
theorem sm_want {ts us : List Tk} (hs : SimT ts us) {a b : St} (h : Sm a b) (xs : List ByteArray) : Sm (wantP ts a xs) (wantP us b xs) := by
  unfold wantP
  rw [sm_hit hs h]
  split
  · exact sm_adv h
  · exact sm_fail hs h _
theorem sm_wantT {ts us : List Tk} (hs : SimT ts us) {a b : St} (h : Sm a b) (xs : List ByteArray) : wantT ts a xs = wantT us b xs := by
  unfold wantT
  rw [sm_hit hs h, sm_text hs h]
theorem sm_wk {ts us : List Tk} (hs : SimT ts us) {a b : St} (h : Sm a b) (k : Nat) : Sm (wkP ts a k) (wkP us b k) := by
  unfold wkP
  rw [sm_kind hs h]
  split
  · exact sm_adv h
  · exact sm_fail hs h _
theorem sm_wkT {ts us : List Tk} (hs : SimT ts us) {a b : St} (h : Sm a b) (k : Nat) : (wkT ts a k).text = (wkT us b k).text := by
  unfold wkT
  rw [sm_kind hs h]
  split
  · exact sm_text hs h
  · rfl

/-! ### exprs -/
def ndKey (n : Nd) : Nat × ByteArray × ByteArray := (n.tag, n.s1, n.s2)
theorem step_key {n m : Nd} (h : ndKey n = ndKey m) (S : List (List TT)) : tkStep n S = tkStep m S := by
  obtain ⟨t, p, a, b, q, r, v⟩ := n
  obtain ⟨t', p', a', b', q', r', v'⟩ := m
  simp only [ndKey, Prod.mk.injEq] at h
  obtain ⟨rfl, rfl, rfl⟩ := h
  rfl
theorem tkS_key : ∀ (l m : List Nd), l.map ndKey = m.map ndKey → ∀ S, tkS l S = tkS m S
  | [], [], _, _ => rfl
  | [], _ :: _, h, _ => by cases h
  | _ :: _, [], h, _ => by cases h
  | n :: l, k :: m, h, S => by
    simp only [List.map_cons, List.cons.injEq] at h
    show tkStep n (tkS l S) = tkStep k (tkS m S)
    rw [tkS_key l m h.2 S, step_key h.1]
theorem tkE_key {l m : List Nd} (h : l.map ndKey = m.map ndKey) : tkE l = tkE m := by
  unfold tkE
  rw [tkS_key l m h]
def SimX (f g : St → Rx) : Prop := ∀ a b, Sm a b → (f a).1.map ndKey = (g b).1.map ndKey ∧ Sm (f a).2 (g b).2
theorem sim_loop {ts us : List Tk} (hs : SimT ts us) {f g : St → Rx} (hx : SimX f g) (xs : List ByteArray) (p q : Nat) : ∀ (n : Nat) (l m : List Nd) (a b : St), l.map ndKey = m.map ndKey → Sm a b →
    (chainLoop ts f xs p n l a).1.map ndKey = (chainLoop us g xs q n m b).1.map ndKey ∧ Sm (chainLoop ts f xs p n l a).2 (chainLoop us g xs q n m b).2
  | 0, l, m, a, b, hl, h => ⟨hl, h⟩
  | n + 1, l, m, a, b, hl, h => by
    unfold chainLoop
    rw [sm_hit hs h]
    split
    · have h1 := hx _ _ (sm_adv h)
      refine sim_loop hs hx xs p q n _ _ _ _ ?_ h1.2
      simp only [List.map_cons, List.map_append, hl, h1.1, ndPair, ndKey, sm_text hs h]
    · exact ⟨hl, h⟩
theorem sim_chain {ts us : List Tk} (hs : SimT ts us) {f g : St → Rx} (hx : SimX f g) (xs : List ByteArray) : SimX (chainP ts f xs) (chainP us g xs) := fun a b h => by
  have h1 := hx a b h
  unfold chainP
  rw [hs.len]
  exact sim_loop hs hx xs _ _ _ _ _ _ _ h1.1 h1.2
theorem sim_exprOf {ts us : List Tk} (hs : SimT ts us) {f g : St → Rx} (hx : SimX f g) : SimX (exprOf ts f) (exprOf us g) := sim_chain hs (sim_chain hs hx _) _
theorem sim_deep {f g : St → Rx} (hx : SimX f g) : SimX (deepP f) (deepP g) := fun a b h => by
  have h1 := hx { a with dp := a.dp + 1 } { b with dp := b.dp + 1 } ⟨h.nx, by show a.dp + 1 = b.dp + 1; rw [h.dp], h.er⟩
  exact ⟨h1.1, h1.2.nx, by show (f _).2.dp - 1 = (g _).2.dp - 1; rw [h1.2.dp], h1.2.er⟩
theorem sim_factor {ts us : List Tk} (hs : SimT ts us) : ∀ n, SimX (factorP ts n) (factorP us n)
  | 0 => fun a b h => ⟨rfl, sm_fail hs h _⟩
  | n + 1 => fun a b h => by
    unfold factorP
    rw [sm_hit hs h, sm_hit hs h, sm_kind hs h]
    split
    · have h1 := sim_deep (sim_factor hs n) _ _ (sm_adv h)
      exact ⟨by simp only [List.map_cons, h1.1, ndMinus, ndKey], h1.2⟩
    · split
      · have h1 := sim_deep (sim_exprOf hs (sim_factor hs n)) _ _ (sm_adv h)
        exact ⟨by simp only [List.map_cons, h1.1, ndBr, ndKey], sm_want hs h1.2 _⟩
      · split
        · exact ⟨by simp only [List.map_cons, List.map_nil, ndNum, ndKey, sm_wkT hs h], sm_wk hs h _⟩
        · have h1 := sm_wk hs h 2
          have h2 := sm_want hs h1 [⟨#[46]⟩]
          exact ⟨by simp only [List.map_cons, List.map_nil, ndCol, ndKey, sm_wkT hs h, sm_wkT hs h2], sm_wk hs h2 _⟩
theorem sim_exprP {ts us : List Tk} (hs : SimT ts us) : SimX (exprP ts) (exprP us) := sim_exprOf hs (sim_factor hs 17)

/-! ### lists -/
def SimG {α β : Type} (tk : α → β) (f g : St → α × St) : Prop := ∀ a b, Sm a b → tk (f a).1 = tk (g b).1 ∧ Sm (f a).2 (g b).2
theorem sm_many {ts us : List Tk} (hs : SimT ts us) {a b : St} (h : Sm a b) (most : Nat) {n m : Nat} (e : n = m) : Sm (many ts most n a) (many us most m b) := by
  subst e
  unfold many
  split
  · exact sm_fail hs h _
  · exact h
theorem sim_listLoop {α β : Type} {tk : α → β} {ts us : List Tk} (hs : SimT ts us) {f g : St → α × St} (hx : SimG tk f g) (most : Nat) : ∀ (n : Nat) (l m : List α) (a b : St), l.map tk = m.map tk → Sm a b →
    (listLoop ts f most n l a).1.map tk = (listLoop us g most n m b).1.map tk ∧ Sm (listLoop ts f most n l a).2 (listLoop us g most n m b).2
  | 0, l, m, a, b, hl, h => ⟨hl, h⟩
  | n + 1, l, m, a, b, hl, h => by
    unfold listLoop
    rw [sm_hit hs h]
    split
    · have hlen : l.length = m.length := by have := congrArg List.length hl; simpa using this
      have h1 := hx _ _ (sm_many hs (sm_adv h) most hlen)
      refine sim_listLoop hs hx most n _ _ _ _ ?_ h1.2
      simp only [List.map_append, List.map_cons, List.map_nil, hl, h1.1]
    · exact ⟨hl, h⟩
theorem sim_list {α β : Type} {tk : α → β} {ts us : List Tk} (hs : SimT ts us) {f g : St → α × St} (hx : SimG tk f g) (most : Nat) {a b : St} (h : Sm a b) :
    (listP ts f most a).1.map tk = (listP us g most b).1.map tk ∧ Sm (listP ts f most a).2 (listP us g most b).2 := by
  have h1 := hx a b h
  unfold listP
  rw [hs.len]
  exact sim_listLoop hs hx most _ _ _ _ _ (by simp only [List.map_cons, List.map_nil, h1.1]) h1.2
theorem sim_name {ts us : List Tk} (hs : SimT ts us) : SimG tkName (nameP ts) (nameP us) := fun _ _ h => ⟨by simp only [tkName, nameP, sm_wkT hs h], sm_wk hs h _⟩
theorem sim_src {ts us : List Tk} (hs : SimT ts us) : SimG tkSrc (srcP ts) (srcP us) := fun _ _ h => ⟨by simp only [tkSrc, srcP, sm_wkT hs h, sm_wkT hs (sm_wk hs h 2)], sm_wk hs (sm_wk hs h 2) _⟩
theorem sim_x {ts us : List Tk} (hs : SimT ts us) : SimG tkE (exprP ts) (exprP us) := fun a b h => ⟨tkE_key (sim_exprP hs a b h).1, (sim_exprP hs a b h).2⟩

/-! ### windows, items -/
theorem by_of {x : ByteArray} {l m : List (List Nd)} (h : l.map tkE = m.map tkE) : tkBy x l = tkBy x m := by
  unfold tkBy
  have hn : l = [] ↔ m = [] := by
    have := congrArg List.length h
    simp only [List.length_map] at this
    rw [← List.length_eq_zero_iff, ← List.length_eq_zero_iff, this]
  rw [h]
  by_cases e : l = []
  · rw [if_pos e, if_pos (hn.1 e)]
  · rw [if_neg e, if_neg (fun e' => e (hn.2 e'))]
theorem sim_beh {ts us : List Tk} (hs : SimT ts us) {a b : St} (h : Sm a b) (x : ByteArray) : tkBy x (behP ts a x).1 = tkBy x (behP us b x).1 ∧ Sm (behP ts a x).2 (behP us b x).2 := by
  unfold behP
  rw [sm_hit hs h]
  split
  · have h1 := sim_list hs (sim_x hs) 1000 (sm_want hs (sm_adv h) [⟨#[98, 121]⟩])
    exact ⟨by_of h1.1, h1.2⟩
  · exact ⟨rfl, h⟩
theorem sim_wOf {ts us : List Tk} (hs : SimT ts us) {a b : St} (h : Sm a b) (call : ByteArray) : tkOf (wOf ts a call).1 = tkOf (wOf us b call).1 ∧ Sm (wOf ts a call).2 (wOf us b call).2 := by
  unfold wOf
  split
  · exact sim_x hs _ _ (sm_want hs h _)
  · exact ⟨rfl, sm_want hs h _⟩
theorem sm_wOpen {ts us : List Tk} (hs : SimT ts us) {a b : St} (h : Sm a b) : Sm (wOpen ts a) (wOpen us b) := sm_want hs (sm_want hs (sm_want hs h _) _) _
theorem sim_wRows {ts us : List Tk} (hs : SimT ts us) {a b : St} (h : Sm a b) : tkRows (wRows ts a).1 = tkRows (wRows us b).1 ∧ Sm (wRows ts a).2 (wRows us b).2 := by
  unfold wRows
  rw [sm_hit hs h]
  split
  · exact ⟨by simp only [tkRows, sm_wkT hs (sm_adv h)], sm_want hs (sm_wk hs (sm_adv h) 3) _⟩
  · exact ⟨rfl, h⟩
theorem sim_win {ts us : List Tk} (hs : SimT ts us) {a b : St} (h : Sm a b) (p q : Nat) {c d : ByteArray} (e : c = d) : tkWin (winP ts a p c).1 = tkWin (winP us b q d).1 ∧ Sm (winP ts a p c).2 (winP us b q d).2 := by
  subst e
  have h1 := sim_wOf hs h c
  have h2 := sm_wOpen hs h1.2
  have h3 := sim_beh hs h2 ⟨#[112, 97, 114, 116, 105, 116, 105, 111, 110]⟩
  have h4 := sim_beh hs h3.2 ⟨#[111, 114, 100, 101, 114]⟩
  have h5 := sim_wRows hs h4.2
  refine ⟨?_, sm_want hs h5.2 _⟩
  simp only [tkWin, winP, wPart, wOrd]
  rw [h1.1, h3.1, h4.1, h5.1]
theorem sim_itOf {ts us : List Tk} (hs : SimT ts us) {a b : St} (h : Sm a b) (p q ap aq : Nat) (s t : ByteArray) : tkWhat ⟨p, (itOf ts a).1.1, (itOf ts a).1.2, ap, s⟩ = tkWhat ⟨q, (itOf us b).1.1, (itOf us b).1.2, aq, t⟩ ∧ Sm (itOf ts a).2 (itOf us b).2 := by
  unfold itOf
  rw [sm_hit hs h]
  split
  · exact sim_win hs (sm_adv h) _ _ (sm_text hs h)
  · exact sim_x hs _ _ h
theorem sim_itAs {ts us : List Tk} (hs : SimT ts us) {a b : St} (h : Sm a b) : (itAs ts a).1.2 = (itAs us b).1.2 ∧ Sm (itAs ts a).2 (itAs us b).2 := by
  unfold itAs
  rw [sm_hit hs h]
  split
  · exact ⟨sm_wkT hs (sm_adv h) 2, sm_wk hs (sm_adv h) 2⟩
  · exact ⟨rfl, h⟩
theorem sim_item {ts us : List Tk} (hs : SimT ts us) : SimG tkItem (itemP ts) (itemP us) := fun a b h => by
  have h1 := sim_itOf hs h (tkAt ts a.nx).place (tkAt us b.nx).place (itAs ts (itOf ts a).2).1.1 (itAs us (itOf us b).2).1.1 (itAs ts (itOf ts a).2).1.2 (itAs us (itOf us b).2).1.2
  have h2 := sim_itAs hs h1.2
  refine ⟨?_, h2.2⟩
  show tkWhat _ ++ tkAs _ = tkWhat _ ++ tkAs _
  rw [show tkWhat (itemP ts a).1 = tkWhat (itemP us b).1 from h1.1, show (itemP ts a).1.asT = (itemP us b).1.asT from h2.1]

/-! ### tests, selects -/
theorem sim_test {ts us : List Tk} (hs : SimT ts us) : SimG tkTest (testP ts) (testP us) := fun a b h => by
  have h1 := sim_x hs a b h
  have h2 := sm_want hs h1.2 xCmp
  have h3 := sim_x hs _ _ h2
  refine ⟨?_, h3.2⟩
  simp only [tkTest, testP]
  rw [h1.1, h3.1, sm_wantT hs h1.2]
theorem tests_of : ∀ {l m : List TestA}, l.map tkTest = m.map tkTest → tkTests l = tkTests m
  | [], [], _ => rfl
  | [], _ :: _, h => by cases h
  | _ :: _, [], h => by cases h
  | x :: l, y :: m, h => by
    simp only [List.map_cons, List.cons.injEq] at h
    simp only [tkTests, h.1]
    congr 1
    have e : ∀ k : List TestA, k.flatMap (fun y => [tx ⟨#[97, 110, 100]⟩] ++ tkTest y) = (k.map tkTest).flatMap (fun y => [tx ⟨#[97, 110, 100]⟩] ++ y) := fun k => by rw [List.flatMap_map]
    rw [e, e, h.2]
theorem sim_and {ts us : List Tk} (hs : SimT ts us) : ∀ (n : Nat) (l m : List TestA) (a b : St), l.map tkTest = m.map tkTest → Sm a b →
    (andLoop ts n l a).1.map tkTest = (andLoop us n m b).1.map tkTest ∧ Sm (andLoop ts n l a).2 (andLoop us n m b).2
  | 0, l, m, a, b, hl, h => ⟨hl, h⟩
  | n + 1, l, m, a, b, hl, h => by
    unfold andLoop
    rw [sm_hit hs h]
    split
    · have h1 := sim_test hs _ _ (sm_adv h)
      refine sim_and hs n _ _ _ _ ?_ h1.2
      simp only [List.map_append, List.map_cons, List.map_nil, hl, h1.1]
    · exact ⟨hl, h⟩
theorem sim_where {ts us : List Tk} (hs : SimT ts us) {a b : St} (h : Sm a b) : tkTests (whereP ts a).1 = tkTests (whereP us b).1 ∧ Sm (whereP ts a).2 (whereP us b).2 := by
  unfold whereP
  rw [sm_hit hs h, hs.len]
  split
  · have h1 := sim_test hs _ _ (sm_adv h)
    have h2 := sim_and hs us.length [(testP ts (adv a)).1] [(testP us (adv b)).1] _ _ (by simp only [List.map_cons, List.map_nil, h1.1]) h1.2
    exact ⟨tests_of h2.1, h2.2⟩
  · exact ⟨rfl, h⟩
theorem sim_sel {ts us : List Tk} (hs : SimT ts us) {a b : St} (h : Sm a b) : tkSel (selP ts a).1 = tkSel (selP us b).1 ∧ Sm (selP ts a).2 (selP us b).2 := by
  have h1 := sm_want hs h [⟨#[115, 101, 108, 101, 99, 116]⟩]
  have h2 : (selI ts a).1.map tkItem = (selI us b).1.map tkItem ∧ Sm (selI ts a).2 (selI us b).2 := sim_list hs (sim_item hs) 6 h1
  have h3 := sm_want hs h2.2 [⟨#[102, 114, 111, 109]⟩]
  have h4 : (selS ts (selI ts a).2).1.map tkSrc = (selS us (selI us b).2).1.map tkSrc ∧ Sm (selS ts (selI ts a).2).2 (selS us (selI us b).2).2 := sim_list hs (sim_src hs) 3 h3
  have h5 := sim_where hs h4.2
  refine ⟨?_, h5.2⟩
  simp only [tkSel, selP]
  rw [h2.1, h4.1, h5.1]
theorem sim_with {ts us : List Tk} (hs : SimT ts us) {a b : St} (h : Sm a b) (p q : Nat) : tkWith (withP ts a p).1 = tkWith (withP us b q).1 ∧ Sm (withP ts a p).2 (withP us b q).2 := by
  have h1 := sm_want hs (sm_wk hs h 2) [⟨#[40]⟩]
  have h2 : (wtCols ts a).1.map tkName = (wtCols us b).1.map tkName ∧ Sm (wtCols ts a).2 (wtCols us b).2 := sim_list hs (sim_name hs) 6 h1
  have h3 : Sm (wtOpen ts (wtCols ts a).2) (wtOpen us (wtCols us b).2) := sm_want hs (sm_want hs (sm_want hs h2.2 _) _) _
  have h4 : tkSel (wtA ts a).1 = tkSel (wtA us b).1 ∧ Sm (wtA ts a).2 (wtA us b).2 := sim_sel hs h3
  have h5 := sm_want hs h4.2 [⟨#[117, 110, 105, 111, 110]⟩]
  have h6 : tkSel (wtB ts (wtA ts a).2).1 = tkSel (wtB us (wtA us b).2).1 ∧ Sm (wtB ts (wtA ts a).2).2 (wtB us (wtA us b).2).2 := sim_sel hs h5
  refine ⟨?_, sm_want hs h6.2 _⟩
  simp only [tkWith, withP]
  rw [h2.1, h4.1, h6.1, sm_wkT hs h]
theorem sim_head {ts us : List Tk} (hs : SimT ts us) {a b : St} (h : Sm a b) : tkWo (qHead ts a).1 = tkWo (qHead us b).1 ∧ Sm (qHead ts a).2 (qHead us b).2 := by
  unfold qHead
  rw [sm_hit hs h]
  split
  · exact sim_with hs (sm_adv h) _ _
  · exact ⟨rfl, h⟩
theorem sim_query {ts us : List Tk} (hs : SimT ts us) {a b : St} (h : Sm a b) : tkQuery (queryP ts a).1 = tkQuery (queryP us b).1 ∧ Sm (queryP ts a).2 (queryP us b).2 := by
  have h1 := sim_head hs h
  have h2 := sim_sel hs h1.2
  refine ⟨?_, h2.2⟩
  show tkWo _ ++ tkSel _ = tkWo _ ++ tkSel _
  rw [show tkWo (queryP ts a).1.wth = tkWo (queryP us b).1.wth from h1.1, show tkSel (queryP ts a).1.main = tkSel (queryP us b).1.main from h2.1]
theorem sm_end {ts us : List Tk} (hs : SimT ts us) {a b : St} (h : Sm a b) : Sm (endP ts a) (endP us b) := by
  unfold endP
  rw [sm_kind hs h]
  split
  · exact h
  · exact sm_fail hs h _
theorem sim_read {ts us : List Tk} (hs : SimT ts us) {x : QueryX} (h : readT ts = .ok x) : ∃ y, readT us = .ok y ∧ tkQuery y = tkQuery x := by
  have h0 : Sm st0 st0 := ⟨rfl, rfl, rfl⟩
  have h1 := sim_query hs h0
  have h2 := sm_end hs h1.2
  unfold readT at h ⊢
  cases hr : (endP ts (queryP ts st0).2).er with
  | some e => rw [hr] at h; cases h
  | none =>
    rw [hr] at h
    rw [h2.none.1 hr]
    cases h
    exact ⟨_, rfl, h1.1.symm⟩
end Go.Proofs.YtjnmkmcopfkdfaaGreatDoor
