/-
  Part 33.
-/
import Derived.Test.YtfkeddkfegaeiaaGreatDoorJ27
import Derived.Test.YtfkeddkfegaeiaaGreatDoorJ28
namespace Go.Proofs.YtfkeddkfegaeiaaGreatDoor

structure SimT (ts us : List Tk) : Prop where
  len : ts.length = us.length
  kind : ∀ i, (tkAt ts i).kind = (tkAt us i).kind
  text : ∀ i, (tkAt ts i).text = (tkAt us i).text
structure Sm (a b : St) : Prop where
  nx : a.nx = b.nx
  dp : a.dp = b.dp
  er : a.er.isSome = b.er.isSome
theorem Sm.none {a b : St} (h : Sm a b) : a.er = none ↔ b.er = none := by
  have := h.er
  cases ha : a.er <;> cases hb : b.er <;> simp_all
theorem sm_adv {a b : St} (h : Sm a b) : Sm (adv a) (adv b) := ⟨by show a.nx + 1 = b.nx + 1; rw [h.nx], h.dp, h.er⟩
theorem fail_some (ts : List Tk) (st : St) (k : Nat) : (failP ts st k).er.isSome = true := by
  cases hr : (failP ts st k).er with
  | none => exact (fail_nn hr).elim
  | some x => rfl
theorem sm_fail {ts us : List Tk} (hs : SimT ts us) {a b : St} (h : Sm a b) (k : Nat) : Sm (failP ts a k) (failP us b k) :=
  ⟨by show ts.length - 1 = us.length - 1; rw [hs.len], h.dp, by rw [fail_some, fail_some]⟩
theorem sm_hit {ts us : List Tk} (hs : SimT ts us) {a b : St} (h : Sm a b) (xs : List ByteArray) : hitP ts a xs = hitP us b xs := by
  unfold hitP
  rw [h.nx, hs.kind, hs.text]
theorem sm_text {ts us : List Tk} (hs : SimT ts us) {a b : St} (h : Sm a b) : (tkAt ts a.nx).text = (tkAt us b.nx).text := by rw [h.nx, hs.text]
theorem sm_kind {ts us : List Tk} (hs : SimT ts us) {a b : St} (h : Sm a b) : (tkAt ts a.nx).kind = (tkAt us b.nx).kind := by rw [h.nx, hs.kind]
theorem sm_want {ts us : List Tk} (hs : SimT ts us) {a b : St} (h : Sm a b) (xs : List ByteArray) : Sm (wantP ts a xs) (wantP us b xs) := by
  unfold wantP
  rw [sm_hit hs h]
  split
  · exact sm_adv h
  · exact sm_fail hs h _
theorem sm_wantT {ts us : List Tk} (hs : SimT ts us) {a b : St} (h : Sm a b) (xs : List ByteArray) : wantT ts a xs = wantT us b xs := by
  unfold wantT
  rw [sm_hit hs h, sm_text hs h]
theorem sm_wk {ts us : List Tk} (hs : SimT ts us) {a b : St} (h : Sm a b) (k : Nat) : Sm (wkP ts a k) (wkP us b k) := by
  unfold wkP
  rw [sm_kind hs h]
  split
  · exact sm_adv h
  · exact sm_fail hs h _
theorem sm_wkT {ts us : List Tk} (hs : SimT ts us) {a b : St} (h : Sm a b) (k : Nat) : (wkT ts a k).text = (wkT us b k).text := by
  unfold wkT
  rw [sm_kind hs h]
  split
  · exact sm_text hs h
  · rfl

/-! ### exprs -/
def ndKey (n : Nd) : Nat × ByteArray × ByteArray := (n.tag, n.s1, n.s2)
theorem step_key {n m : Nd} (h : ndKey n = ndKey m) (S : List (List TT)) : tkStep n S = tkStep m S := by
  obtain ⟨t, p, a, b, q, r, v⟩ := n
  obtain ⟨t', p', a', b', q', r', v'⟩ := m
  simp only [ndKey, Prod.mk.injEq] at h
  obtain ⟨rfl, rfl, rfl⟩ := h
  rfl
theorem tkS_key : ∀ (l m : List Nd), l.map ndKey = m.map ndKey → ∀ S, tkS l S = tkS m S
  | [], [], _, _ => rfl
  | [], _ :: _, h, _ => by cases h
  | _ :: _, [], h, _ => by cases h
  | n :: l, k :: m, h, S => by
    simp only [List.map_cons, List.cons.injEq] at h
    show tkStep n (tkS l S) = tkStep k (tkS m S)
    rw [tkS_key l m h.2 S, step_key h.1]
theorem tkE_key {l m : List Nd} (h : l.map ndKey = m.map ndKey) : tkE l = tkE m := by
  unfold tkE
  rw [tkS_key l m h]
def SimX (f g : St → Rx) : Prop := ∀ a b, Sm a b → (f a).1.map ndKey = (g b).1.map ndKey ∧ Sm (f a).2 (g b).2
theorem sim_loop {ts us : List Tk} (hs : SimT ts us) {f g : St → Rx} (hx : SimX f g) (xs : List ByteArray) (p q : Nat) : ∀ (n : Nat) (l m : List Nd) (a b : St), l.map ndKey = m.map ndKey → Sm a b →
    (chainLoop ts f xs p n l a).1.map ndKey = (chainLoop us g xs q n m b).1.map ndKey ∧ Sm (chainLoop ts f xs p n l a).2 (chainLoop us g xs q n m b).2
  | 0, l, m, a, b, hl, h => ⟨hl, h⟩
  | n + 1, l, m, a, b, hl, h => by
    unfold chainLoop
    rw [sm_hit hs h]
    split
    · have h1 := hx _ _ (sm_adv h)
      refine sim_loop hs hx xs p q n _ _ _ _ ?_ h1.2
      simp only [List.map_cons, List.map_append, hl, h1.1, ndPair, ndKey, sm_text hs h]
    · exact ⟨hl, h⟩
theorem sim_chain {ts us : List Tk} (hs : SimT ts us) {f g : St → Rx} (hx : SimX f g) (xs : List ByteArray) : SimX (chainP ts f xs) (chainP us g xs) := fun a b h => by
  have h1 := hx a b h
  unfold chainP
  rw [hs.len]
  exact sim_loop hs hx xs _ _ _ _ _ _ _ h1.1 h1.2
theorem sim_exprOf {ts us : List Tk} (hs : SimT ts us) {f g : St → Rx} (hx : SimX f g) : SimX (exprOf ts f) (exprOf us g) := sim_chain hs (sim_chain hs hx _) _
theorem sim_deep {f g : St → Rx} (hx : SimX f g) : SimX (deepP f) (deepP g) := fun a b h => by
  have h1 := hx { a with dp := a.dp + 1 } { b with dp := b.dp + 1 } ⟨h.nx, by show a.dp + 1 = b.dp + 1; rw [h.dp], h.er⟩
  exact ⟨h1.1, h1.2.nx, by show (f _).2.dp - 1 = (g _).2.dp - 1; rw [h1.2.dp], h1.2.er⟩
theorem sim_factor {ts us : List Tk} (hs : SimT ts us) : ∀ n, SimX (factorP ts n) (factorP us n)
  | 0 => fun a b h => ⟨rfl, sm_fail hs h _⟩
  | n + 1 => fun a b h => by
    unfold factorP
    rw [sm_hit hs h, sm_hit hs h, sm_kind hs h]
    split
    · have h1 := sim_deep (sim_factor hs n) _ _ (sm_adv h)
      exact ⟨by simp only [List.map_cons, h1.1, ndMinus, ndKey], h1.2⟩
    · split
      · have h1 := sim_deep (sim_exprOf hs (sim_factor hs n)) _ _ (sm_adv h)
        exact ⟨by simp only [List.map_cons, h1.1, ndBr, ndKey], sm_want hs h1.2 _⟩
      · split
        · exact ⟨by simp only [List.map_cons, List.map_nil, ndNum, ndKey, sm_wkT hs h], sm_wk hs h _⟩
        · have h1 := sm_wk hs h 2
          have h2 := sm_want hs h1 [⟨#[46]⟩]
          exact ⟨by simp only [List.map_cons, List.map_nil, ndCol, ndKey, sm_wkT hs h, sm_wkT hs h2], sm_wk hs h2 _⟩
theorem sim_exprP {ts us : List Tk} (hs : SimT ts us) : SimX (exprP ts) (exprP us) := sim_exprOf hs (sim_factor hs 17)

/-! ### lists -/
def SimG {α β : Type} (tk : α → β) (f g : St → α × St) : Prop := ∀ a b, Sm a b → tk (f a).1 = tk (g b).1 ∧ Sm (f a).2 (g b).2
theorem sm_many {ts us : List Tk} (hs : SimT ts us) {a b : St} (h : Sm a b) (most : Nat) {n m : Nat} (e : n = m) : Sm (many ts most n a) (many us most m b) := by
  subst e
  unfold many
  split
  · exact sm_fail hs h _
  · exact h
theorem sim_listLoop {α β : Type} {tk : α → β} {ts us : List Tk} (hs : SimT ts us) {f g : St → α × St} (hx : SimG tk f g) (most : Nat) : ∀ (n : Nat) (l m : List α) (a b : St), l.map tk = m.map tk → Sm a b →
    (listLoop ts f most n l a).1.map tk = (listLoop us g most n m b).1.map tk ∧ Sm (listLoop ts f most n l a).2 (listLoop us g most n m b).2
  | 0, l, m, a, b, hl, h => ⟨hl, h⟩
  | n + 1, l, m, a, b, hl, h => by
    unfold listLoop
    rw [sm_hit hs h]
    split
    · have hlen : l.length = m.length := by have := congrArg List.length hl; simpa using this
      have h1 := hx _ _ (sm_many hs (sm_adv h) most hlen)
      refine sim_listLoop hs hx most n _ _ _ _ ?_ h1.2
      simp only [List.map_append, List.map_cons, List.map_nil, hl, h1.1]
    · exact ⟨hl, h⟩
theorem sim_list {α β : Type} {tk : α → β} {ts us : List Tk} (hs : SimT ts us) {f g : St → α × St} (hx : SimG tk f g) (most : Nat) {a b : St} (h : Sm a b) :
    (listP ts f most a).1.map tk = (listP us g most b).1.map tk ∧ Sm (listP ts f most a).2 (listP us g most b).2 := by
  have h1 := hx a b h
  unfold listP
  rw [hs.len]
  exact sim_listLoop hs hx most _ _ _ _ _ (by simp only [List.map_cons, List.map_nil, h1.1]) h1.2
theorem sim_name {ts us : List Tk} (hs : SimT ts us) : SimG tkName (nameP ts) (nameP us) := fun _ _ h => ⟨by simp only [tkName, nameP, sm_wkT hs h], sm_wk hs h _⟩
theorem sim_src {ts us : List Tk} (hs : SimT ts us) : SimG tkSrc (srcP ts) (srcP us) := fun _ _ h => ⟨by simp only [tkSrc, srcP, sm_wkT hs h, sm_wkT hs (sm_wk hs h 2)], sm_wk hs (sm_wk hs h 2) _⟩
theorem sim_x {ts us : List Tk} (hs : SimT ts us) : SimG tkE (exprP ts) (exprP us) := fun a b h => ⟨tkE_key (sim_exprP hs a b h).1, (sim_exprP hs a b h).2⟩

/-! ### windows, items -/
theorem by_of {x : ByteArray} {l m : List (List Nd)} (h : l.map tkE = m.map tkE) : tkBy x l = tkBy x m := by
  unfold tkBy
  have hn : l = [] ↔ m = [] := by
    have := congrArg List.length h
    simp only [List.length_map] at this
    rw [← List.length_eq_zero_iff, ← List.length_eq_zero_iff, this]
  rw [h]
  by_cases e : l = []
  · rw [if_pos e, if_pos (hn.1 e)]
  · rw [if_neg e, if_neg (fun e' => e (hn.2 e'))]
theorem sim_beh {ts us : List Tk} (hs : SimT ts us) {a b : St} (h : Sm a b) (x : ByteArray) : tkBy x (behP ts a x).1 = tkBy x (behP us b x).1 ∧ Sm (behP ts a x).2 (behP us b x).2 := by
  unfold behP
  rw [sm_hit hs h]
  split
  · have h1 := sim_list hs (sim_x hs) 1000 (sm_want hs (sm_adv h) [⟨#[98, 121]⟩])
    exact ⟨by_of h1.1, h1.2⟩
  · exact ⟨rfl, h⟩
theorem sim_wOf {ts us : List Tk} (hs : SimT ts us) {a b : St} (h : Sm a b) (call : ByteArray) : tkOf (wOf ts a call).1 = tkOf (wOf us b call).1 ∧ Sm (wOf ts a call).2 (wOf us b call).2 := by
  unfold wOf
  split
  · exact sim_x hs _ _ (sm_want hs h _)
  · exact ⟨rfl, sm_want hs h _⟩
theorem sm_wOpen {ts us : List Tk} (hs : SimT ts us) {a b : St} (h : Sm a b) : Sm (wOpen ts a) (wOpen us b) := sm_want hs (sm_want hs (sm_want hs h _) _) _
theorem sim_wRows {ts us : List Tk} (hs : SimT ts us) {a b : St} (h : Sm a b) : tkRows (wRows ts a).1 = tkRows (wRows us b).1 ∧ Sm (wRows ts a).2 (wRows us b).2 := by
  unfold wRows
  rw [sm_hit hs h]
  split
  · exact ⟨by simp only [tkRows, sm_wkT hs (sm_adv h)], sm_want hs (sm_wk hs (sm_adv h) 3) _⟩
  · exact ⟨rfl, h⟩
theorem sim_win {ts us : List Tk} (hs : SimT ts us) {a b : St} (h : Sm a b) (p q : Nat) {c d : ByteArray} (e : c = d) : tkWin (winP ts a p c).1 = tkWin (winP us b q d).1 ∧ Sm (winP ts a p c).2 (winP us b q d).2 := by
  subst e
  have h1 := sim_wOf hs h c
  have h2 := sm_wOpen hs h1.2
  have h3 := sim_beh hs h2 ⟨#[112, 97, 114, 116, 105, 116, 105, 111, 110]⟩
  have h4 := sim_beh hs h3.2 ⟨#[111, 114, 100, 101, 114]⟩
  have h5 := sim_wRows hs h4.2
  refine ⟨?_, sm_want hs h5.2 _⟩
  simp only [tkWin, winP, wPart, wOrd]
  rw [h1.1, h3.1, h4.1, h5.1]
theorem sim_itOf {ts us : List Tk} (hs : SimT ts us) {a b : St} (h : Sm a b) (p q ap aq : Nat) (s t : ByteArray) : tkWhat ⟨p, (itOf ts a).1.1, (itOf ts a).1.2, ap, s⟩ = tkWhat ⟨q, (itOf us b).1.1, (itOf us b).1.2, aq, t⟩ ∧ Sm (itOf ts a).2 (itOf us b).2 := by
  unfold itOf
  rw [sm_hit hs h]
  split
  · exact sim_win hs (sm_adv h) _ _ (sm_text hs h)
  · exact sim_x hs _ _ h
theorem sim_itAs {ts us : List Tk} (hs : SimT ts us) {a b : St} (h : Sm a b) : (itAs ts a).1.2 = (itAs us b).1.2 ∧ Sm (itAs ts a).2 (itAs us b).2 := by
  unfold itAs
  rw [sm_hit hs h]
  split
  · exact ⟨sm_wkT hs (sm_adv h) 2, sm_wk hs (sm_adv h) 2⟩
  · exact ⟨rfl, h⟩
theorem sim_item {ts us : List Tk} (hs : SimT ts us) : SimG tkItem (itemP ts) (itemP us) := fun a b h => by
  have h1 := sim_itOf hs h (tkAt ts a.nx).place (tkAt us b.nx).place (itAs ts (itOf ts a).2).1.1 (itAs us (itOf us b).2).1.1 (itAs ts (itOf ts a).2).1.2 (itAs us (itOf us b).2).1.2
  have h2 := sim_itAs hs h1.2
  refine ⟨?_, h2.2⟩
  show tkWhat _ ++ tkAs _ = tkWhat _ ++ tkAs _
  rw [show tkWhat (itemP ts a).1 = tkWhat (itemP us b).1 from h1.1, show (itemP ts a).1.asT = (itemP us b).1.asT from h2.1]

/-! ### tests, selects -/
theorem sim_test {ts us : List Tk} (hs : SimT ts us) : SimG tkTest (testP ts) (testP us) := fun a b h => by
  have h1 := sim_x hs a b h
  have h2 := sm_want hs h1.2 xCmp
  have h3 := sim_x hs _ _ h2
  refine ⟨?_, h3.2⟩
  simp only [tkTest, testP]
  rw [h1.1, h3.1, sm_wantT hs h1.2]
theorem tests_of : ∀ {l m : List TestA}, l.map tkTest = m.map tkTest → tkTests l = tkTests m
  | [], [], _ => rfl
  | [], _ :: _, h => by cases h
  | _ :: _, [], h => by cases h
  | x :: l, y :: m, h => by
    simp only [List.map_cons, List.cons.injEq] at h
    simp only [tkTests, h.1]
    congr 1
    have e : ∀ k : List TestA, k.flatMap (fun y => [tx ⟨#[97, 110, 100]⟩] ++ tkTest y) = (k.map tkTest).flatMap (fun y => [tx ⟨#[97, 110, 100]⟩] ++ y) := fun k => by rw [List.flatMap_map]
    rw [e, e, h.2]
theorem sim_and {ts us : List Tk} (hs : SimT ts us) : ∀ (n : Nat) (l m : List TestA) (a b : St), l.map tkTest = m.map tkTest → Sm a b →
    (andLoop ts n l a).1.map tkTest = (andLoop us n m b).1.map tkTest ∧ Sm (andLoop ts n l a).2 (andLoop us n m b).2
  | 0, l, m, a, b, hl, h => ⟨hl, h⟩
  | n + 1, l, m, a, b, hl, h => by
    unfold andLoop
    rw [sm_hit hs h]
    split
    · have h1 := sim_test hs _ _ (sm_adv h)
      refine sim_and hs n _ _ _ _ ?_ h1.2
      simp only [List.map_append, List.map_cons, List.map_nil, hl, h1.1]
    · exact ⟨hl, h⟩
theorem sim_where {ts us : List Tk} (hs : SimT ts us) {a b : St} (h : Sm a b) : tkTests (whereP ts a).1 = tkTests (whereP us b).1 ∧ Sm (whereP ts a).2 (whereP us b).2 := by
  unfold whereP
  rw [sm_hit hs h, hs.len]
  split
  · have h1 := sim_test hs _ _ (sm_adv h)
    have h2 := sim_and hs us.length [(testP ts (adv a)).1] [(testP us (adv b)).1] _ _ (by simp only [List.map_cons, List.map_nil, h1.1]) h1.2
    exact ⟨tests_of h2.1, h2.2⟩
  · exact ⟨rfl, h⟩
theorem sim_sel {ts us : List Tk} (hs : SimT ts us) {a b : St} (h : Sm a b) : tkSel (selP ts a).1 = tkSel (selP us b).1 ∧ Sm (selP ts a).2 (selP us b).2 := by
  have h1 := sm_want hs h [⟨#[115, 101, 108, 101, 99, 116]⟩]
  have h2 : (selI ts a).1.map tkItem = (selI us b).1.map tkItem ∧ Sm (selI ts a).2 (selI us b).2 := sim_list hs (sim_item hs) 6 h1
  have h3 := sm_want hs h2.2 [⟨#[102, 114, 111, 109]⟩]
  have h4 : (selS ts (selI ts a).2).1.map tkSrc = (selS us (selI us b).2).1.map tkSrc ∧ Sm (selS ts (selI ts a).2).2 (selS us (selI us b).2).2 := sim_list hs (sim_src hs) 3 h3
  have h5 := sim_where hs h4.2
  refine ⟨?_, h5.2⟩
  simp only [tkSel, selP]
  rw [h2.1, h4.1, h5.1]
theorem sim_with {ts us : List Tk} (hs : SimT ts us) {a b : St} (h : Sm a b) (p q : Nat) : tkWith (withP ts a p).1 = tkWith (withP us b q).1 ∧ Sm (withP ts a p).2 (withP us b q).2 := by
  have h1 := sm_want hs (sm_wk hs h 2) [⟨#[40]⟩]
  have h2 : (wtCols ts a).1.map tkName = (wtCols us b).1.map tkName ∧ Sm (wtCols ts a).2 (wtCols us b).2 := sim_list hs (sim_name hs) 6 h1
  have h3 : Sm (wtOpen ts (wtCols ts a).2) (wtOpen us (wtCols us b).2) := sm_want hs (sm_want hs (sm_want hs h2.2 _) _) _
  have h4 : tkSel (wtA ts a).1 = tkSel (wtA us b).1 ∧ Sm (wtA ts a).2 (wtA us b).2 := sim_sel hs h3
  have h5 := sm_want hs h4.2 [⟨#[117, 110, 105, 111, 110]⟩]
  have h6 : tkSel (wtB ts (wtA ts a).2).1 = tkSel (wtB us (wtA us b).2).1 ∧ Sm (wtB ts (wtA ts a).2).2 (wtB us (wtA us b).2).2 := sim_sel hs h5
  refine ⟨?_, sm_want hs h6.2 _⟩
  simp only [tkWith, withP]
  rw [h2.1, h4.1, h6.1, sm_wkT hs h]
theorem sim_head {ts us : List Tk} (hs : SimT ts us) {a b : St} (h : Sm a b) : tkWo (qHead ts a).1 = tkWo (qHead us b).1 ∧ Sm (qHead ts a).2 (qHead us b).2 := by
  unfold qHead
  rw [sm_hit hs h]
  split
  · exact sim_with hs (sm_adv h) _ _
  · exact ⟨rfl, h⟩
theorem sim_query {ts us : List Tk} (hs : SimT ts us) {a b : St} (h : Sm a b) : tkQuery (queryP ts a).1 = tkQuery (queryP us b).1 ∧ Sm (queryP ts a).2 (queryP us b).2 := by
  have h1 := sim_head hs h
  have h2 := sim_sel hs h1.2
  refine ⟨?_, h2.2⟩
  show tkWo _ ++ tkSel _ = tkWo _ ++ tkSel _
  rw [show tkWo (queryP ts a).1.wth = tkWo (queryP us b).1.wth from h1.1, show tkSel (queryP ts a).1.main = tkSel (queryP us b).1.main from h2.1]
theorem sm_end {ts us : List Tk} (hs : SimT ts us) {a b : St} (h : Sm a b) : Sm (endP ts a) (endP us b) := by
  unfold endP
  rw [sm_kind hs h]
  split
  · exact h
  · exact sm_fail hs h _
theorem sim_read {ts us : List Tk} (hs : SimT ts us) {x : QueryX} (h : readT ts = .ok x) : ∃ y, readT us = .ok y ∧ tkQuery y = tkQuery x := by
  have h0 : Sm st0 st0 := ⟨rfl, rfl, rfl⟩
  have h1 := sim_query hs h0
  have h2 := sm_end hs h1.2
  unfold readT at h ⊢
  cases hr : (endP ts (queryP ts st0).2).er with
  | some e => rw [hr] at h; cases h
  | none =>
    rw [hr] at h
    rw [h2.none.1 hr]
    cases h
    exact ⟨_, rfl, h1.1.symm⟩
end Go.Proofs.YtfkeddkfegaeiaaGreatDoor
namespace Go.Proofs.YtfkeddkfegaeiaaGreatDoor

def spr (l : List (List UInt8 × Tk)) : List UInt8 := l.flatMap fun x => x.1 ++ x.2.text.data.toList
theorem spr_cons (x : List UInt8 × Tk) (r : List (List UInt8 × Tk)) : spr (x :: r) = x.1 ++ (x.2.text.data.toList ++ spr r) := by simp [spr]
def Fits : List (List UInt8 × Tk) → Prop
  | [] => True
  | [_] => True
  | x :: y :: r => (y.1 = [] → okNext x.2.text.data.toList (y.2.text.data.toList.headD 0) = true) ∧ Fits (y :: r)
def Blank (l : List UInt8) : Prop := ∀ c, c ∈ l → blankI c.toNat = true
def strip (t : Tk) : Nat × ByteArray := (t.kind, t.text)

set_option maxRecDepth 100000 in
theorem letter_blank (c : UInt8) : (!(letterI c.toNat && blankI c.toNat)) = true := byte_all (fun c => !(letterI c.toNat && blankI c.toNat)) (by decide) c
set_option maxRecDepth 100000 in
theorem digit_blank (c : UInt8) : (!(digitI c.toNat && blankI c.toNat)) = true := byte_all (fun c => !(digitI c.toNat && blankI c.toNat)) (by decide) c
/-- blanks, and what is tight ahead. -/
def softB (c : UInt8) : Bool := blankI c.toNat || c == 41 || c == 44 || c == 46
set_option maxRecDepth 100000 in
theorem soft_letter (c : UInt8) : (!softB c || !letterI c.toNat) = true := byte_all (fun c => !softB c || !letterI c.toNat) (by decide) c
set_option maxRecDepth 100000 in
theorem soft_digit (c : UInt8) : (!softB c || !digitI c.toNat) = true := byte_all (fun c => !softB c || !digitI c.toNat) (by decide) c
set_option maxRecDepth 100000 in
theorem soft_sign (c : UInt8) : (!softB c || signL.all fun l => okNext l c) = true := byte_all (fun c => !softB c || signL.all fun l => okNext l c) (by decide) c
theorem IsTok.ne {t : Tk} (h : IsTok t) : t.text.data.toList ≠ [] := by
  rcases h with ⟨h1, _, _, _, _⟩ | ⟨h1, _, _, _, _, _⟩ | ⟨h1, _, _, _⟩ | ⟨h1, _, _⟩
  · exact h1
  · exact h1
  · exact h1
  · intro e; rw [e] at h1; revert h1; decide
theorem ok_soft {t : Tk} (h : IsTok t) {c : UInt8} (hc : softB c = true) : okNext t.text.data.toList c = true := by
  have hl := soft_letter c
  have hd := soft_digit c
  have hs := soft_sign c
  rw [hc] at hl hd hs
  simp only [Bool.not_true, Bool.false_or] at hl hd hs
  rcases h with ⟨h1, h2, _, _, _⟩ | ⟨h1, h2, _, _, _, _⟩ | ⟨h1, h2, _, _⟩ | ⟨h1, _, _⟩
  · unfold okNext; rw [if_pos (h2 _ (head_mem h1))]; exact hl
  · unfold okNext; rw [if_pos (h2 _ (head_mem h1))]; exact hl
  · have h4 := h2 _ (head_mem h1)
    have hn : ¬ letterI (t.text.data.toList.headD 0).toNat = true := fun e => by have := letter_digit (t.text.data.toList.headD 0); rw [e, h4] at this; cases this
    unfold okNext; rw [if_neg hn, if_pos h4]; exact hd
  · exact List.all_eq_true.1 hs _ h1
theorem sign_blank : ∀ l, l ∈ signL → blankI (l.headD 0).toNat = false := by decide
theorem sign_32 : ∀ l, l ∈ signL → ∀ c, c ∈ l → c ≠ 32 := by decide
theorem tok_nb {t : Tk} (h : IsTok t) : blankI (t.text.data.toList.headD 0).toNat = false := by
  rcases h with ⟨h1, h2, _, _, _⟩ | ⟨h1, h2, _, _, _, _⟩ | ⟨h1, h2, _, _⟩ | ⟨h1, _, _⟩
  · have := letter_blank (t.text.data.toList.headD 0); rw [h2 _ (head_mem h1)] at this; simpa using this
  · have := letter_blank (t.text.data.toList.headD 0); rw [h2 _ (head_mem h1)] at this; simpa using this
  · have := digit_blank (t.text.data.toList.headD 0); rw [h2 _ (head_mem h1)] at this; simpa using this
  · exact sign_blank _ h1
theorem tok_32 {t : Tk} (h : IsTok t) : ∀ c, c ∈ t.text.data.toList → c ≠ 32 := fun c hc => by
  rcases h with ⟨_, h2, _, _, _⟩ | ⟨_, h2, _, _, _, _⟩ | ⟨_, h2, _, _⟩ | ⟨h1, _, _⟩
  · intro e; have := h2 c hc; rw [e] at this; revert this; decide
  · intro e; have := h2 c hc; rw [e] at this; revert this; decide
  · intro e; have := h2 c hc; rw [e] at this; revert this; decide
  · exact sign_32 _ h1 c hc
theorem rest_list (s : ByteArray) (a : Nat) : (s.extract a s.size).data.toList = s.data.toList.drop a := by
  simp only [ByteArray.data_extract, Array.toList_extract, List.extract_eq_take_drop]
  exact List.take_of_length_le (by rw [List.length_drop, sizeL]; exact Nat.le_refl _)
theorem drop_pre {s : ByteArray} {pre b : List UInt8} (h : s.data.toList = pre ++ b) : (s.extract pre.length s.size).data.toList = b := by
  rw [rest_list, h, List.drop_left]
theorem size_list (s : ByteArray) {l : List UInt8} (h : s.data.toList = l) : s.size = l.length := by rw [← sizeL, h]

theorem scan_spr (s : ByteArray) : ∀ (l : List (List UInt8 × Tk)) (pre : List UInt8) (f : Nat), s.data.toList = pre ++ spr l → (∀ x, x ∈ l → Blank x.1 ∧ IsTok x.2) → Fits l → s.size < f + pre.length →
    ∃ us, scanFrom s f pre.length = .ok (us ++ [tkEnd s.size]) ∧ us.map strip = l.map fun x => strip x.2
  | [], pre, f, hs, _, _, hf => by
    have hz := size_list s hs
    simp only [spr, List.flatMap_nil, List.append_nil] at hz
    match f, hf with
    | 0, hf => omega
    | f + 1, _ =>
      refine ⟨[], ?_, rfl⟩
      unfold scanFrom
      have hd := drop_pre hs
      rw [hd]
      simp only [spr, List.flatMap_nil]
      rw [show lead blankI [] = 0 from rfl, Nat.add_zero, if_pos hz.symm, hz]
      rfl
  | x :: r, pre, f, hs, hx, hF, hf => by
    obtain ⟨hb, ht⟩ := hx x List.mem_cons_self
    rw [spr_cons] at hs
    have hz := size_list s hs
    simp only [List.length_append] at hz
    have htl : 0 < x.2.text.data.toList.length := List.length_pos_iff.2 ht.ne
    match f, hf with
    | 0, hf => omega
    | f + 1, hf =>
      have hlead : lead blankI (x.1 ++ (x.2.text.data.toList ++ spr r)) = x.1.length := by
        refine lead_app hb (fun c r' e => ?_)
        have := tok_nb ht
        rw [← head_app (tail := spr r) ht.ne, e] at this
        exact this
      have hs2 : s.data.toList = (pre ++ x.1) ++ (x.2.text.data.toList ++ spr r) := by rw [hs]; simp
      have hr := rescan (s := s) (j := pre.length + x.1.length) (t := x.2) (tail := spr r) ht (by rw [← List.length_append]; exact drop_pre hs2) (fun c r' e => by
        match r, hF, e, hx with
        | [], _, e, _ => cases e
        | y :: r2, hF, e, hx =>
          obtain ⟨hb2, ht2⟩ := hx y (List.mem_cons_of_mem _ List.mem_cons_self)
          rw [spr_cons] at e
          cases hy : y.1 with
          | nil =>
            rw [hy, List.nil_append] at e
            have h1 := hF.1 hy
            rw [← head_app (tail := spr r2) ht2.ne, e] at h1
            exact h1
          | cons d q =>
            rw [hy, List.cons_append] at e
            have hdc : d = c := by injection e
            subst hdc
            refine ok_soft ht ?_
            unfold softB
            rw [hb2 d (by rw [hy]; exact List.mem_cons_self)]
            rfl)
      have hs3 : s.data.toList = (pre ++ x.1 ++ x.2.text.data.toList) ++ spr r := by rw [hs]; simp
      have hF2 : Fits r := by
        cases r with
        | nil => trivial
        | cons y r2 => exact hF.2
      have hlen : (pre ++ x.1 ++ x.2.text.data.toList).length = pre.length + x.1.length + x.2.text.size := by simp only [List.length_append]; rw [← sizeL x.2.text]
      obtain ⟨us, h1, h2⟩ := scan_spr s r (pre ++ x.1 ++ x.2.text.data.toList) f hs3 (fun y hy => hx y (List.mem_cons_of_mem _ hy)) hF2 (by rw [hlen, ← sizeL x.2.text]; omega)
      refine ⟨⟨pre.length + x.1.length, x.2.kind, x.2.text, x.2.value⟩ :: us, ?_, ?_⟩
      · unfold scanFrom
        rw [drop_pre hs, hlead]
        simp only
        rw [if_neg (by omega), hr]
        simp only
        rw [hlen] at h1
        rw [h1]
        rfl
      · simp only [List.map_cons, h2]
        rfl

/-! ### what is told, by gaps and tokens -/
def ttOf (x : Tk × Bool) : TT := (x.1.text, x.2)
def sgap (p : TT) (b : ByteArray) : Bool := !(p.2 || tightB p.1) && !tightA b
def wGaps (sp : Nat → List UInt8) : Nat → TT → List (Tk × Bool) → List (List UInt8 × Tk)
  | _, _, [] => []
  | n, p, x :: r => if sgap p x.1.text then (sp n, x.1) :: wGaps sp (n + 1) (ttOf x) r else ([], x.1) :: wGaps sp n (ttOf x) r
def s32 : Nat → List UInt8 := fun _ => [32]
theorem lay_gaps : ∀ (k : List (Tk × Bool)) (n : Nat) (p : TT) (o : Out), o.1 ≠ [] → o.2 = (p.2 || tightB p.1) → (layAll o (k.map ttOf)).1 = o.1 ++ spr (wGaps s32 n p k)
  | [], _, _, o, _, _ => by simp [wGaps, spr, layAll]
  | x :: r, n, p, o, ho, hp => by
    have hl : 0 < o.1.length := List.length_pos_iff.2 ho
    have hg : gapped o (ttOf x).1 = sgap p x.1.text := by
      unfold gapped sgap ttOf
      rw [decide_eq_true hl, hp]
      simp
    rw [List.map_cons, layAll_cons, wGaps]
    by_cases h : sgap p x.1.text = true
    · rw [if_pos h, spr_cons, lay_gaps r (n + 1) (ttOf x) (lay o (ttOf x)) (by unfold lay; simp [ho]) rfl]
      unfold lay
      rw [hg, if_pos h]
      simp [ttOf, s32]
    · rw [if_neg h, spr_cons, lay_gaps r n (ttOf x) (lay o (ttOf x)) (by unfold lay; simp [ho]) rfl]
      unfold lay
      rw [hg, if_neg h]
      simp [ttOf]
/-- every space turned to the blanks of its number. -/
def expand (sp : Nat → List UInt8) : Nat → List UInt8 → List UInt8
  | _, [] => []
  | n, c :: r => if c = 32 then sp n ++ expand sp (n + 1) r else c :: expand sp n r
theorem expand_text (sp : Nat → List UInt8) (n : Nat) (b : List UInt8) : ∀ (a : List UInt8), (∀ c, c ∈ a → c ≠ 32) → expand sp n (a ++ b) = a ++ expand sp n b
  | [], _ => rfl
  | c :: r, h => by
    rw [List.cons_append, expand, if_neg (h c List.mem_cons_self), expand_text sp n b r (fun d hd => h d (List.mem_cons_of_mem _ hd)), List.cons_append]
theorem expand_gaps (sp : Nat → List UInt8) : ∀ (k : List (Tk × Bool)) (n : Nat) (p : TT), (∀ x, x ∈ k → IsTok x.1) → expand sp n (spr (wGaps s32 n p k)) = spr (wGaps sp n p k)
  | [], _, _, _ => rfl
  | x :: r, n, p, h => by
    have ht := tok_32 (h x List.mem_cons_self)
    have hr := fun n => expand_gaps sp r n (ttOf x) (fun y hy => h y (List.mem_cons_of_mem _ hy))
    rw [wGaps, wGaps]
    by_cases hg : sgap p x.1.text = true
    · rw [if_pos hg, if_pos hg, spr_cons, spr_cons]
      show expand sp n (32 :: (x.1.text.data.toList ++ spr (wGaps s32 (n + 1) (ttOf x) r))) = _
      rw [expand, if_pos rfl, expand_text _ _ _ _ ht, hr]
    · rw [if_neg hg, if_neg hg, spr_cons, spr_cons]
      simp only [List.nil_append]
      rw [expand_text _ _ _ _ ht, hr]
def sane : Bool → List UInt8 → Bool
  | p, [] => !p
  | p, c :: r => if c = 32 then !p && sane true r else sane false r
theorem sane_text (b : List UInt8) : ∀ (a : List UInt8) (p : Bool), a ≠ [] → (∀ c, c ∈ a → c ≠ 32) → sane p (a ++ b) = sane false b
  | [], _, h, _ => (h rfl).elim
  | [c], p, _, h => by
    rw [List.cons_append, sane, if_neg (h c List.mem_cons_self)]
    rfl
  | c :: d :: r, p, _, h => by
    rw [List.cons_append, sane, if_neg (h c List.mem_cons_self)]
    exact sane_text b (d :: r) false (by simp) (fun e he => h e (List.mem_cons_of_mem _ he))
theorem sane_gaps : ∀ (k : List (Tk × Bool)) (n : Nat) (p : TT), (∀ x, x ∈ k → IsTok x.1) → sane false (spr (wGaps s32 n p k)) = true
  | [], _, _, _ => rfl
  | x :: r, n, p, h => by
    have h0 := h x List.mem_cons_self
    have ht := tok_32 h0
    have hr := fun n => sane_gaps r n (ttOf x) (fun y hy => h y (List.mem_cons_of_mem _ hy))
    rw [wGaps]
    by_cases hg : sgap p x.1.text = true
    · rw [if_pos hg, spr_cons]
      show sane false (32 :: (x.1.text.data.toList ++ spr (wGaps s32 (n + 1) (ttOf x) r))) = true
      rw [sane, if_pos rfl, sane_text _ _ _ h0.ne ht, hr]
      rfl
    · rw [if_neg hg, spr_cons]
      simp only [List.nil_append]
      rw [sane_text _ _ _ h0.ne ht, hr]

/-! ### gaps that are none -/
set_option maxRecDepth 100000 in
theorem free_next (c : UInt8) : (okNext [40] c && okNext [46] c && okNext [45] c) = true := byte_all (fun c => okNext [40] c && okNext [46] c && okNext [45] c) (by decide) c
theorem tightB_cases {x : ByteArray} (h : tightB x = true) : x.data.toList = [40] ∨ x.data.toList = [46] ∨ isCallB x = true := by
  unfold tightB at h
  rw [ByteArray.toList_eq] at h
  simp only [Bool.or_eq_true, beq_iff_eq] at h
  rcases h with ((((((h | h) | h) | h) | h) | h) | h)
  · exact Or.inl h
  · exact Or.inr (Or.inl h)
  all_goals exact Or.inr (Or.inr (by unfold isCallB xCalls; rw [h]; rfl))
theorem tightA_cases {x : ByteArray} (h : tightA x = true) : softB (x.data.toList.headD 0) = true := by
  unfold tightA at h
  rw [ByteArray.toList_eq] at h
  simp only [Bool.or_eq_true, beq_iff_eq] at h
  rcases h with (h | h) | h <;> rw [h] <;> decide
theorem ok_adj {x : Tk} {g : Bool} {y : ByteArray} (hx : IsTok x) (hg : sgap (x.text, g) y = false) (hc : isCallB x.text = true → y.data.toList = [40]) (hm : g = true → x.text.data.toList = [45]) : okNext x.text.data.toList (y.data.toList.headD 0) = true := by
  have hf := free_next (y.data.toList.headD 0)
  simp only [Bool.and_eq_true] at hf
  unfold sgap at hg
  simp only [Bool.and_eq_false_iff, Bool.not_eq_false', Bool.or_eq_true] at hg
  rcases hg with (h | h) | h
  · rw [hm h]; exact hf.2
  · rcases tightB_cases h with h | h | h
    · rw [h]; exact hf.1.1
    · rw [h]; exact hf.1.2
    · rw [hc h]
      unfold okNext
      rw [if_pos (call_head _ h)]
      decide
  · exact ok_soft hx (tightA_cases h)
theorem fits_gaps {sp : Nat → List UInt8} (hsp : ∀ n, sp n ≠ []) : ∀ (k : List (Tk × Bool)) (n : Nat) (x : Tk × Bool) (g : List UInt8), (∀ y, y ∈ x :: k → IsTok y.1) → Good ((x :: k).map ttOf) → Fits ((g, x.1) :: wGaps sp n (ttOf x) k)
  | [], _, _, _, _, _ => trivial
  | y :: r, n, x, g, h, hG => by
    have hr : ∀ n g, Fits ((g, y.1) :: wGaps sp n (ttOf y) r) := fun n g => fits_gaps hsp r n y g (fun z hz => h z (List.mem_cons_of_mem _ hz)) hG.2.2
    rw [wGaps]
    by_cases hg : sgap (ttOf x) y.1.text = true
    · rw [if_pos hg]
      exact ⟨fun e => (hsp n e).elim, hr _ _⟩
    · rw [if_neg hg]
      exact ⟨fun _ => ok_adj (g := x.2) (h x List.mem_cons_self) (show sgap (ttOf x) y.1.text = false from by simpa using hg) hG.1 hG.2.1, hr _ _⟩
theorem gaps_tok {sp : Nat → List UInt8} (hsp : ∀ n, Blank (sp n)) : ∀ (k : List (Tk × Bool)) (n : Nat) (p : TT), (∀ y, y ∈ k → IsTok y.1) → ∀ z, z ∈ wGaps sp n p k → Blank z.1 ∧ IsTok z.2
  | [], _, _, _, z, hz => by cases hz
  | x :: r, n, p, h, z, hz => by
    rw [wGaps] at hz
    by_cases hg : sgap p x.1.text = true
    · rw [if_pos hg] at hz
      rcases List.mem_cons.1 hz with rfl | hz
      · exact ⟨hsp n, h x List.mem_cons_self⟩
      · exact gaps_tok hsp r _ _ (fun y hy => h y (List.mem_cons_of_mem _ hy)) z hz
    · rw [if_neg hg] at hz
      rcases List.mem_cons.1 hz with rfl | hz
      · exact ⟨fun c hc => (by cases hc), h x List.mem_cons_self⟩
      · exact gaps_tok hsp r _ _ (fun y hy => h y (List.mem_cons_of_mem _ hy)) z hz
theorem gaps_toks (sp : Nat → List UInt8) : ∀ (k : List (Tk × Bool)) (n : Nat) (p : TT), (wGaps sp n p k).map (fun x => strip x.2) = k.map fun x => strip x.1
  | [], _, _ => rfl
  | x :: r, n, p => by
    rw [wGaps]
    split <;> simp only [List.map_cons, gaps_toks sp r]

theorem zip_tt : ∀ (m : List TT) (l : List Tk), m.map (·.1) = l.map (·.text) → (l.zip (m.map (·.2))).map ttOf = m ∧ (l.zip (m.map (·.2))).map (·.1) = l
  | [], [], _ => ⟨rfl, rfl⟩
  | [], _ :: _, h => by cases h
  | _ :: _, [], h => by cases h
  | a :: m, t :: l, h => by
    simp only [List.map_cons, List.cons.injEq] at h
    obtain ⟨h1, h2⟩ := zip_tt m l h.2
    refine ⟨?_, ?_⟩
    · simp only [List.map_cons, List.zip_cons_cons, h1]
      rw [show ttOf (t, a.2) = a from by unfold ttOf; rw [← h.1]]
    · simp only [List.map_cons, List.zip_cons_cons, h2]
theorem simT_of {l us : List Tk} {e e' : Tk} (h : us.map strip = l.map strip) (he : strip e = strip e') : SimT (l ++ [e]) (us ++ [e']) := by
  have hm : (l ++ [e]).map strip = (us ++ [e']).map strip := by simp [h, he]
  have hlen : (l ++ [e]).length = (us ++ [e']).length := by have := congrArg List.length hm; simpa using this
  have key : ∀ i, strip (tkAt (l ++ [e]) i) = strip (tkAt (us ++ [e']) i) := fun i => by
    have := congrArg (fun x => x[i]?) hm
    simp only [List.getElem?_map] at this
    unfold tkAt
    rw [List.getD_eq_getElem?_getD, List.getD_eq_getElem?_getD]
    rcases Nat.lt_or_ge i (l ++ [e]).length with h1 | h1
    · rw [List.getElem?_eq_getElem h1, List.getElem?_eq_getElem (by omega)] at this ⊢
      simpa using this
    · rw [List.getElem?_eq_none h1, List.getElem?_eq_none (by omega)]
  exact ⟨hlen, fun i => congrArg (·.1) (key i), fun i => congrArg (·.2) (key i)⟩

theorem anew_plain {text : ByteArray} {T : List UInt8} (h : tellP text = .ok T) : sane true T = true ∧ ∀ sp : Nat → List UInt8, (∀ n, sp n ≠ [] ∧ Blank (sp n)) → ∀ s : ByteArray, s.data.toList = expand sp 0 T → tellP s = .ok T := by
  unfold tellP readP at h
  cases hsc : scanP text with
  | error e => rw [hsc] at h; cases h
  | ok ts =>
    rw [hsc] at h
    simp only at h
    cases hr : readT ts with
    | error e => rw [hr] at h; cases h
    | ok x =>
      rw [hr] at h
      have hT : tellQ x = T := by cases h; rfl
      obtain ⟨l, hl⟩ := scanP_shape hsc
      obtain ⟨_, _, _, _, heq, hG⟩ := readT_ok hl hr
      obtain ⟨z1, z2⟩ := zip_tt (tkQuery x) l heq
      have hne := tkQuery_ne x
      generalize hk : l.zip ((tkQuery x).map (·.2)) = k at z1 z2
      have htok : ∀ y, y ∈ k → IsTok y.1 := fun y hy => hl.tok _ (by rw [← z2]; exact List.mem_map_of_mem hy)
      match k, z1, z2, htok with
      | [], z1, _, _ => exact (hne z1.symm).elim
      | y :: r, z1, z2, htok =>
        have hy := htok y List.mem_cons_self
        have hrt : ∀ z, z ∈ r → IsTok z.1 := fun z hz => htok z (List.mem_cons_of_mem _ hz)
        have hTe : T = y.1.text.data.toList ++ spr (wGaps s32 0 (ttOf y) r) := by
          rw [← hT]
          unfold tellQ
          rw [← z1, List.map_cons, layAll_cons]
          have hlay : lay ([], false) (ttOf y) = (y.1.text.data.toList, (ttOf y).2 || tightB (ttOf y).1) := by
            unfold lay gapped
            simp [ttOf]
          rw [hlay, lay_gaps r 0 (ttOf y) _ hy.ne rfl]
        refine ⟨by rw [hTe, sane_text _ _ _ hy.ne (tok_32 hy), sane_gaps r 0 (ttOf y) hrt], fun sp hsp s hs => ?_⟩
        rw [hTe, expand_text _ _ _ _ (tok_32 hy), expand_gaps sp r 0 (ttOf y) hrt] at hs
        have hs2 : s.data.toList = [] ++ spr (([], y.1) :: wGaps sp 0 (ttOf y) r) := by rw [spr_cons, hs]; rfl
        obtain ⟨us, hu1, hu2⟩ := scan_spr s _ [] (s.size + 1) hs2 (fun z hz => by
          rcases List.mem_cons.1 hz with rfl | hz
          · exact ⟨fun c hc => (by cases hc), hy⟩
          · exact gaps_tok (fun n => (hsp n).2) r _ _ hrt z hz) (fits_gaps (fun n => (hsp n).1) r 0 y [] htok (by rw [z1]; exact hG)) (by show s.size < s.size + 1 + 0; omega)
        have hsim : SimT ts (us ++ [tkEnd s.size]) := by
          rw [hl.eq]
          refine simT_of ?_ rfl
          rw [hu2, List.map_cons, gaps_toks, ← z2, List.map_map]
          rfl
        obtain ⟨q, hq1, hq2⟩ := sim_read hsim hr
        have hsp' : scanP s = .ok (us ++ [tkEnd s.size]) := hu1
        unfold tellP readP
        rw [hsp']
        simp only
        rw [hq1]
        simp only
        rw [← hT]
        unfold tellQ
        rw [hq2]
end Go.Proofs.YtfkeddkfegaeiaaGreatDoor
