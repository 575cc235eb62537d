/-
  Part 21.
-/
import Derived.Test.YtfkeddkfegaeiaaGreatDoorJ20
import Derived.Test.YtfkeddkfegaeiaaGreatDoorJ17
namespace Go.Proofs.YtfkeddkfegaeiaaGreatDoor
open Go.RowKit

/-- cells of a row that is read. -/
theorem row_cells {w : World} {base : Nat} {e : TypeId} {size : Nat} {v : Value} {n : Nat} {xs : List Value} (h : w.ownsRow base e size v n xs) (hn : 0 < n) : ∃ g cap cur, v = .slice (some ⟨g, 0, none⟩) n cap ∧ n ≤ cap ∧ cap ≤ maxLen ∧ w.heap[g]? = some (.cells cur e (0, 0)) ∧ ∀ j, j < n * size → cur[j]? = xs[j]? := by
  rcases h.2 with ⟨_, h0⟩ | ⟨g, cap, cur, hv, _, hg, h1, h2, h3, h4⟩
  · omega
  · refine ⟨g, cap, cur, hv, h1, h2, hg, fun j hj => ?_⟩
    rw [← h4, List.getElem?_take_of_lt hj, Array.getElem?_toList]

theorem nmCells_len (l : List Tk) : (nmCells l).length = l.length * 2 := by
  induction l with
  | nil => rfl
  | cons t r ih => show ([Value.int .i64 t.place, .string t.text] ++ nmCells r).length = _; rw [List.length_append, ih]; simp; omega
theorem len_more {o : Out} {l m : List TT} (hl : o.1.length + cost (l ++ m) ≤ big) : (layAll o l).1.length + cost m ≤ big := by
  have := layAll_len o l
  rw [cost_append] at hl
  omega
def tkName (t : Tk) : List TT := [tx t.text]
def tkSrc (t : Tk × Tk) : List TT := [tx t.1.text, tx t.2.text]
def tkXs (e : Value × List Nd) : List TT := tkE e.2
theorem ExIn.isI {w : World} {P : Nat → Prop} {v : Value} {l : List Nd} (h : ExIn w P v l) : ∃ u z, v = .iface u z := by
  obtain ⟨n, hn⟩ := h
  match n, hn with
  | n + 1, hn =>
    rcases hn with ⟨b, t, h, _⟩ | ⟨b, p, x, k, h, _⟩ | ⟨b, t, u, h, _⟩ | ⟨b, p, x, k, h, _⟩ | ⟨b, p, x, sg, y, k, m, h, _⟩ <;> exact ⟨_, _, h⟩
theorem ExIn.ts {tl : Nat} {w w' : World} {P : Nat → Prop} {v : Value} {l : List Nd} (h : ExIn w P v l) (ht : TSt tl w w') : ExIn w' P v l := let ⟨n, hn⟩ := h; ⟨n, hn.ts ht⟩
theorem flat_at {α : Type} (f : α → List Value) (k : Nat) (hk : ∀ a, (f a).length = k) (pre suf : List α) (x : α) (j : Nat) (hj : j < k) : ((pre ++ x :: suf).flatMap f)[pre.length * k + j]? = (f x)[j]? := by
  have hl : (pre.flatMap f).length = pre.length * k := by
    induction pre with
    | nil => simp
    | cons a r ih => simp [hk, ih, Nat.add_mul, Nat.add_comm]
  rw [List.flatMap_append, List.flatMap_cons, List.getElem?_append_right (by omega), hl, Nat.add_sub_cancel_left, List.getElem?_append_left (by rw [hk]; exact hj)]

theorem commas_grow : ∀ (b a : List (List TT)), ∃ m, commas (a ++ b) = commas a ++ m
  | [], a => ⟨[], by simp⟩
  | x :: b, a => by
    obtain ⟨m, hm⟩ := commas_grow b (a ++ [x])
    rw [commas_snoc] at hm
    exact ⟨(if a = [] then [] else [tx ⟨#[44]⟩]) ++ x ++ m, by rw [show a ++ x :: b = (a ++ [x]) ++ b by simp, hm]; simp⟩
theorem commas_cost {α : Type} (f : α → List TT) (pre suf : List α) (x : α) : cost (commas ((pre ++ [x]).map f)) ≤ cost (commas ((pre ++ x :: suf).map f)) := by
  obtain ⟨m, hm⟩ := commas_grow (suf.map f) ((pre ++ [x]).map f)
  rw [show (pre ++ x :: suf).map f = (pre ++ [x]).map f ++ suf.map f by simp, hm, cost_append]
  omega


set_option maxHeartbeats 2000000 in
set_option maxRecDepth 100000 in
theorem tlist_name (tl : Nat) (w : World) (o : Out) (lo : Nat) (v : Value) (l : List (Tk)) (hrow : w.ownsRow lo 240 2 v l.length (l.flatMap fun t => [.int .i64 t.place, .string t.text])) (hpos : 0 < l.length) (hT : TL tl w o.1 o.2) (hlen : o.1.length + cost (commas (l.map tkName)) ≤ big) :
    Calls Tryz.prog 101 #[.pointer (some ⟨tl, 0, none⟩), v, .func (.func 102) #[.pointer (some ⟨tl, 0, none⟩)] #[]] w (Told tl w o (commas (l.map tkName))) := by
  obtain ⟨g, cap, cur, rfl, hc1, hc2, hg, hcell⟩ := row_cells hrow hpos
  have HT := hide hT
  have HG := hide hg
  have HC := hide hcell
  have HLEN := hide hlen
  clear hT hg hcell hlen hrow
  unfold maxLen at hc2
  go_enter Tryz.func101, Tryz.ntmps101
  go_wp2_with fail
  go_loopg [10] l.length (fun f i wr => ∃ pre suf, l = pre ++ suf ∧ i = .int .i64 pre.length ∧ f = suf.length ∧ TL tl wr (layAll o (commas (pre.map tkName))).1 (layAll o (commas (pre.map tkName))).2 ∧ TSt tl w wr)
  case atStart => exact ⟨[], l, rfl, rfl, rfl, unhide HT, TSt.refl _ _⟩
  case round =>
    obtain ⟨pre, suf, hxs, hi, hf, hTL, hTS⟩ := hrel
    subst hi
    have HTL := hide hTL
    have HTS := hide hTS
    have HXS0 := hide hxs
    clear hTL hTS hxs
    match suf, HXS0, hf with
    | [], HXS0, _ =>
      have hxs' : l = pre := by simpa using unhide HXS0
      clear HXS0
      subst hxs'
      have hd : decide (((l.length : Nat) : Int) < (l.length : Int)) = false := by simp
      go_wp2
      go_end0
      exact ⟨rfl, unhide HTL, unhide HTS⟩
    | x :: suf', HXS, hf =>
      subst hf
      have hxs := unhide HXS
      have hlt : pre.length < l.length := by rw [hxs]; simp
      have hd : decide (((pre.length : Nat) : Int) < (l.length : Int)) = true := by simp; omega
      have hgr := ((unhide HTS).keep g _ _ (Nat.zero_le _) (unhide HG) rfl).trans (unhide HG)
      obtain ⟨kg, fg⟩ := blk hgr
      have zg := lt_of_heap hgr
      have c0 : wr.cell? ⟨g, pre.length * 2, none⟩ = some (.int .i64 x.place) := by rw [kg, (unhide HC) _ (by omega), hxs]; exact flat_at _ 2 (fun _ => rfl) pre suf' x 0 (by omega)
      have c1 : wr.cell? ⟨g, pre.length * 2 + 1, none⟩ = some (.string x.text) := by rw [kg, (unhide HC) _ (by omega), hxs]; exact flat_at _ 2 (fun _ => rfl) pre suf' x 1 (by omega)
      have HLX : Hid (o.1.length + cost (commas ((pre ++ [x]).map tkName)) ≤ big) := Nat.le_trans (Nat.add_le_add_left (commas_cost _ pre suf' x) _) (by rw [← hxs]; exact unhide HLEN)
      clear hxs kg hgr
      have z0 := (unhide HTL).ts
      by_cases hp : pre = []
      · have hn : ¬ 0 < pre.length := by rw [hp]; simp
        have hn' : decide (0 < ((pre.length : Nat) : Int)) = false := by simp; omega
        have HNX : Hid (commas ((pre ++ [x]).map tkName) = commas (pre.map tkName) ++ tkName x) := by unfold Hid; rw [List.map_append, List.map_cons, List.map_nil, commas_snoc, if_pos (by rw [hp]; rfl)]; simp
        rw [unhide HNX] at HLX
        have HL1 : Hid ((layAll o (commas (pre.map tkName))).1.length + cost (tkName x) ≤ big) := len_more (unhide HLX)
        clear hp
        go_wp2_with fail
        refine (tname_any tl _ (layAll o (commas (pre.map tkName))) x.place x.text (by exact (unhide HTL).alloc _) (by exact unhide HL1)).mono ?_
        rintro e w1 h1
        have h1e := h1.1
        subst h1e
        have HT1 : Hid (Told tl _ _ (tkName x) _ w1) := h1
        clear h1
        go_wp2
        go_roundg suf'.length
        case measure => simp
        case rel =>
          refine ⟨pre ++ [x], suf', by rw [unhide HXS]; simp, by simp, rfl, ?_, ?_⟩
          · rw [unhide HNX, layAll_append]; exact (unhide HT1).2.1
          · exact ((unhide HTS).alloc (Nat.le_of_lt z0) _).trans (unhide HT1).2.2
      · have hn : 0 < pre.length := List.length_pos_iff.2 hp
        have hn' : decide (0 < ((pre.length : Nat) : Int)) = true := by simp; omega
        have HNX : Hid (commas ((pre ++ [x]).map tkName) = commas (pre.map tkName) ++ ([tx ⟨#[44]⟩] ++ tkName x)) := by unfold Hid; rw [List.map_append, List.map_cons, List.map_nil, commas_snoc, if_neg (by simpa using hp)]; simp
        rw [unhide HNX] at HLX
        have HL1 : Hid ((layAll o (commas (pre.map tkName))).1.length + cost ([tx ⟨#[44]⟩] ++ tkName x) ≤ big) := len_more (unhide HLX)
        have HL2 : Hid ((layAll (layAll o (commas (pre.map tkName))) [tx ⟨#[44]⟩]).1.length + cost (tkName x) ≤ big) := len_more (unhide HL1)
        clear hp
        go_wp2_with fail
        refine (tokens_new tl _ (layAll o (commas (pre.map tkName))) _ _ [⟨#[44]⟩] #[.string ⟨#[44]⟩] (by exact (unhide HTL).alloc _) (by have := unhide HL1; rw [cost_append] at this; show _ + cost [tx ⟨#[44]⟩] ≤ _; omega) rfl (by simp) (by simp) rfl).mono ?_
        rintro e w2 h2
        have h2e := h2.1
        subst h2e
        have HTS2 := hide ((unhide HTS).alloc (Nat.le_of_lt z0) (.cells #[.int .i64 x.place, .string x.text] 240))
        have HT2 := hide h2
        have hbox := (h2.2.2.keep wr.heap.size #[.int .i64 x.place, .string x.text] 240 (Nat.zero_le _) (heap_last rfl) rfl).trans (heap_last rfl)
        obtain ⟨kx, fx⟩ := blk hbox
        have zx := lt_of_heap hbox
        clear hbox
        clear h2
        go_wp2_with fail
        refine (tname_any tl _ (layAll (layAll o (commas (pre.map tkName))) [tx ⟨#[44]⟩]) x.place x.text (by exact (unhide HT2).2.1) (by exact unhide HL2)).mono ?_
        rintro e w1 h1
        have h1e := h1.1
        subst h1e
        have HT1 := hide ((unhide HT2).next (m := tkName x) h1)
        clear h1
        go_wp2
        go_roundg suf'.length
        case measure => simp
        case rel =>
          refine ⟨pre ++ [x], suf', by rw [unhide HXS]; simp, by simp, rfl, ?_, ?_⟩
          · rw [unhide HNX, layAll_append]; exact (unhide HT1).2.1
          · exact (unhide HTS2).trans (unhide HT1).2.2

set_option maxHeartbeats 2000000 in
set_option maxRecDepth 100000 in
theorem tlist_source (tl : Nat) (w : World) (o : Out) (lo : Nat) (v : Value) (l : List (Tk × Tk)) (hrow : w.ownsRow lo 260 5 v l.length (l.flatMap fun t => [.int .i64 t.1.place, .int .i64 t.1.place, .string t.1.text, .int .i64 t.2.place, .string t.2.text])) (hpos : 0 < l.length) (hT : TL tl w o.1 o.2) (hlen : o.1.length + cost (commas (l.map tkSrc)) ≤ big) :
    Calls Tryz.prog 105 #[.pointer (some ⟨tl, 0, none⟩), v, .func (.func 106) #[.pointer (some ⟨tl, 0, none⟩)] #[]] w (Told tl w o (commas (l.map tkSrc))) := by
  obtain ⟨g, cap, cur, rfl, hc1, hc2, hg, hcell⟩ := row_cells hrow hpos
  have HT := hide hT
  have HG := hide hg
  have HC := hide hcell
  have HLEN := hide hlen
  clear hT hg hcell hlen hrow
  unfold maxLen at hc2
  go_enter Tryz.func105, Tryz.ntmps105
  go_wp2_with fail
  go_loopg [10] l.length (fun f i wr => ∃ pre suf, l = pre ++ suf ∧ i = .int .i64 pre.length ∧ f = suf.length ∧ TL tl wr (layAll o (commas (pre.map tkSrc))).1 (layAll o (commas (pre.map tkSrc))).2 ∧ TSt tl w wr)
  case atStart => exact ⟨[], l, rfl, rfl, rfl, unhide HT, TSt.refl _ _⟩
  case round =>
    obtain ⟨pre, suf, hxs, hi, hf, hTL, hTS⟩ := hrel
    subst hi
    have HTL := hide hTL
    have HTS := hide hTS
    have HXS0 := hide hxs
    clear hTL hTS hxs
    match suf, HXS0, hf with
    | [], HXS0, _ =>
      have hxs' : l = pre := by simpa using unhide HXS0
      clear HXS0
      subst hxs'
      have hd : decide (((l.length : Nat) : Int) < (l.length : Int)) = false := by simp
      go_wp2
      go_end0
      exact ⟨rfl, unhide HTL, unhide HTS⟩
    | x :: suf', HXS, hf =>
      subst hf
      have hxs := unhide HXS
      have hlt : pre.length < l.length := by rw [hxs]; simp
      have hd : decide (((pre.length : Nat) : Int) < (l.length : Int)) = true := by simp; omega
      have hgr := ((unhide HTS).keep g _ _ (Nat.zero_le _) (unhide HG) rfl).trans (unhide HG)
      obtain ⟨kg, fg⟩ := blk hgr
      have zg := lt_of_heap hgr
      have c0 : wr.cell? ⟨g, pre.length * 5, none⟩ = some (.int .i64 x.1.place) := by rw [kg, (unhide HC) _ (by omega), hxs]; exact flat_at _ 5 (fun _ => rfl) pre suf' x 0 (by omega)
      have c1 : wr.cell? ⟨g, pre.length * 5 + 1, none⟩ = some (.int .i64 x.1.place) := by rw [kg, (unhide HC) _ (by omega), hxs]; exact flat_at _ 5 (fun _ => rfl) pre suf' x 1 (by omega)
      have c2 : wr.cell? ⟨g, pre.length * 5 + 2, none⟩ = some (.string x.1.text) := by rw [kg, (unhide HC) _ (by omega), hxs]; exact flat_at _ 5 (fun _ => rfl) pre suf' x 2 (by omega)
      have c3 : wr.cell? ⟨g, pre.length * 5 + 3, none⟩ = some (.int .i64 x.2.place) := by rw [kg, (unhide HC) _ (by omega), hxs]; exact flat_at _ 5 (fun _ => rfl) pre suf' x 3 (by omega)
      have c4 : wr.cell? ⟨g, pre.length * 5 + 4, none⟩ = some (.string x.2.text) := by rw [kg, (unhide HC) _ (by omega), hxs]; exact flat_at _ 5 (fun _ => rfl) pre suf' x 4 (by omega)
      have HLX : Hid (o.1.length + cost (commas ((pre ++ [x]).map tkSrc)) ≤ big) := Nat.le_trans (Nat.add_le_add_left (commas_cost _ pre suf' x) _) (by rw [← hxs]; exact unhide HLEN)
      clear hxs kg hgr
      have z0 := (unhide HTL).ts
      by_cases hp : pre = []
      · have hn : ¬ 0 < pre.length := by rw [hp]; simp
        have hn' : decide (0 < ((pre.length : Nat) : Int)) = false := by simp; omega
        have HNX : Hid (commas ((pre ++ [x]).map tkSrc) = commas (pre.map tkSrc) ++ tkSrc x) := by unfold Hid; rw [List.map_append, List.map_cons, List.map_nil, commas_snoc, if_pos (by rw [hp]; rfl)]; simp
        rw [unhide HNX] at HLX
        have HL1 : Hid ((layAll o (commas (pre.map tkSrc))).1.length + cost (tkSrc x) ≤ big) := len_more (unhide HLX)
        clear hp
        go_wp2_with fail
        refine (tsource_any tl _ (layAll o (commas (pre.map tkSrc))) x.1.place x.1.place x.2.place x.1.text x.2.text (by exact (unhide HTL).alloc _) (by exact unhide HL1)).mono ?_
        rintro e w1 h1
        have h1e := h1.1
        subst h1e
        have HT1 : Hid (Told tl _ _ (tkSrc x) _ w1) := h1
        clear h1
        go_wp2
        go_roundg suf'.length
        case measure => simp
        case rel =>
          refine ⟨pre ++ [x], suf', by rw [unhide HXS]; simp, by simp, rfl, ?_, ?_⟩
          · rw [unhide HNX, layAll_append]; exact (unhide HT1).2.1
          · exact ((unhide HTS).alloc (Nat.le_of_lt z0) _).trans (unhide HT1).2.2
      · have hn : 0 < pre.length := List.length_pos_iff.2 hp
        have hn' : decide (0 < ((pre.length : Nat) : Int)) = true := by simp; omega
        have HNX : Hid (commas ((pre ++ [x]).map tkSrc) = commas (pre.map tkSrc) ++ ([tx ⟨#[44]⟩] ++ tkSrc x)) := by unfold Hid; rw [List.map_append, List.map_cons, List.map_nil, commas_snoc, if_neg (by simpa using hp)]; simp
        rw [unhide HNX] at HLX
        have HL1 : Hid ((layAll o (commas (pre.map tkSrc))).1.length + cost ([tx ⟨#[44]⟩] ++ tkSrc x) ≤ big) := len_more (unhide HLX)
        have HL2 : Hid ((layAll (layAll o (commas (pre.map tkSrc))) [tx ⟨#[44]⟩]).1.length + cost (tkSrc x) ≤ big) := len_more (unhide HL1)
        clear hp
        go_wp2_with fail
        refine (tokens_new tl _ (layAll o (commas (pre.map tkSrc))) _ _ [⟨#[44]⟩] #[.string ⟨#[44]⟩] (by exact (unhide HTL).alloc _) (by have := unhide HL1; rw [cost_append] at this; show _ + cost [tx ⟨#[44]⟩] ≤ _; omega) rfl (by simp) (by simp) rfl).mono ?_
        rintro e w2 h2
        have h2e := h2.1
        subst h2e
        have HTS2 := hide ((unhide HTS).alloc (Nat.le_of_lt z0) (.cells #[.int .i64 x.1.place, .int .i64 x.1.place, .string x.1.text, .int .i64 x.2.place, .string x.2.text] 260))
        have HT2 := hide h2
        have hbox := (h2.2.2.keep wr.heap.size #[.int .i64 x.1.place, .int .i64 x.1.place, .string x.1.text, .int .i64 x.2.place, .string x.2.text] 260 (Nat.zero_le _) (heap_last rfl) rfl).trans (heap_last rfl)
        obtain ⟨kx, fx⟩ := blk hbox
        have zx := lt_of_heap hbox
        clear hbox
        clear h2
        go_wp2_with fail
        refine (tsource_any tl _ (layAll (layAll o (commas (pre.map tkSrc))) [tx ⟨#[44]⟩]) x.1.place x.1.place x.2.place x.1.text x.2.text (by exact (unhide HT2).2.1) (by exact unhide HL2)).mono ?_
        rintro e w1 h1
        have h1e := h1.1
        subst h1e
        have HT1 := hide ((unhide HT2).next (m := tkSrc x) h1)
        clear h1
        go_wp2
        go_roundg suf'.length
        case measure => simp
        case rel =>
          refine ⟨pre ++ [x], suf', by rw [unhide HXS]; simp, by simp, rfl, ?_, ?_⟩
          · rw [unhide HNX, layAll_append]; exact (unhide HT1).2.1
          · exact (unhide HTS2).trans (unhide HT1).2.2

set_option maxHeartbeats 2000000 in
set_option maxRecDepth 100000 in
theorem tlist_expr (tl : Nat) (w : World) (o : Out) (lo : Nat) (v : Value) (l : List (Value × List Nd)) (hrow : w.ownsRow lo 248 1 v l.length (l.flatMap fun t => [t.1])) (hpos : 0 < l.length) (P : Nat → Prop) (hex : ∀ e ∈ l, ExIn w P e.1 e.2) (hT : TL tl w o.1 o.2) (hlen : o.1.length + cost (commas (l.map tkXs)) ≤ big) :
    Calls Tryz.prog 277 #[.pointer (some ⟨tl, 0, none⟩), v, .func (.func 162) #[.pointer (some ⟨tl, 0, none⟩)] #[]] w (Told tl w o (commas (l.map tkXs))) := by
  obtain ⟨g, cap, cur, rfl, hc1, hc2, hg, hcell⟩ := row_cells hrow hpos
  have HT := hide hT
  have HG := hide hg
  have HC := hide hcell
  have HLEN := hide hlen
  have HEXS := hide hex
  clear hex
  clear hT hg hcell hlen hrow
  unfold maxLen at hc2
  go_enter Tryz.func277, Tryz.ntmps277
  go_wp2_with fail
  go_loopg [10] l.length (fun f i wr => ∃ pre suf, l = pre ++ suf ∧ i = .int .i64 pre.length ∧ f = suf.length ∧ TL tl wr (layAll o (commas (pre.map tkXs))).1 (layAll o (commas (pre.map tkXs))).2 ∧ TSt tl w wr)
  case atStart => exact ⟨[], l, rfl, rfl, rfl, unhide HT, TSt.refl _ _⟩
  case round =>
    obtain ⟨pre, suf, hxs, hi, hf, hTL, hTS⟩ := hrel
    subst hi
    have HTL := hide hTL
    have HTS := hide hTS
    have HXS0 := hide hxs
    clear hTL hTS hxs
    match suf, HXS0, hf with
    | [], HXS0, _ =>
      have hxs' : l = pre := by simpa using unhide HXS0
      clear HXS0
      subst hxs'
      have hd : decide (((l.length : Nat) : Int) < (l.length : Int)) = false := by simp
      go_wp2
      go_end0
      exact ⟨rfl, unhide HTL, unhide HTS⟩
    | x :: suf', HXS, hf =>
      subst hf
      have hxs := unhide HXS
      have hlt : pre.length < l.length := by rw [hxs]; simp
      have hd : decide (((pre.length : Nat) : Int) < (l.length : Int)) = true := by simp; omega
      have hgr := ((unhide HTS).keep g _ _ (Nat.zero_le _) (unhide HG) rfl).trans (unhide HG)
      obtain ⟨kg, fg⟩ := blk hgr
      have zg := lt_of_heap hgr
      have c0 : wr.cell? ⟨g, pre.length, none⟩ = some (x.1) := by rw [kg, (unhide HC) _ (by omega), hxs]; exact (congrArg _ (Nat.mul_one _).symm).trans (flat_at _ 1 (fun _ => rfl) pre suf' x 0 (by omega))
      have HLX : Hid (o.1.length + cost (commas ((pre ++ [x]).map tkXs)) ≤ big) := Nat.le_trans (Nat.add_le_add_left (commas_cost _ pre suf' x) _) (by rw [← hxs]; exact unhide HLEN)
      have hexx := (unhide HEXS) x (by rw [hxs]; simp)
      obtain ⟨u, z, hxv⟩ := hexx.isI
      have HEX := hide hexx
      have HXV := hide hxv
      rw [hxv] at c0
      clear hexx hxv
      clear hxs kg hgr
      have z0 := (unhide HTL).ts
      by_cases hp : pre = []
      · have hn : ¬ 0 < pre.length := by rw [hp]; simp
        have hn' : decide (0 < ((pre.length : Nat) : Int)) = false := by simp; omega
        have HNX : Hid (commas ((pre ++ [x]).map tkXs) = commas (pre.map tkXs) ++ tkXs x) := by unfold Hid; rw [List.map_append, List.map_cons, List.map_nil, commas_snoc, if_pos (by rw [hp]; rfl)]; simp
        rw [unhide HNX] at HLX
        have HL1 : Hid ((layAll o (commas (pre.map tkXs))).1.length + cost (tkXs x) ≤ big) := len_more (unhide HLX)
        clear hp
        go_wp2_with fail
        refine (texpr_in tl P (.iface u z) x.2 _ (layAll o (commas (pre.map tkXs))) (by rw [← unhide HXV]; exact (unhide HEX).ts (unhide HTS)) (by exact (unhide HTL)) (by exact unhide HL1)).mono ?_
        rintro e w1 h1
        have h1e := h1.1
        subst h1e
        have HT1 : Hid (Told tl _ _ (tkXs x) _ w1) := h1
        clear h1
        go_wp2
        go_roundg suf'.length
        case measure => simp
        case rel =>
          refine ⟨pre ++ [x], suf', by rw [unhide HXS]; simp, by simp, rfl, ?_, ?_⟩
          · rw [unhide HNX, layAll_append]; exact (unhide HT1).2.1
          · exact ((unhide HTS)).trans (unhide HT1).2.2
      · have hn : 0 < pre.length := List.length_pos_iff.2 hp
        have hn' : decide (0 < ((pre.length : Nat) : Int)) = true := by simp; omega
        have HNX : Hid (commas ((pre ++ [x]).map tkXs) = commas (pre.map tkXs) ++ ([tx ⟨#[44]⟩] ++ tkXs x)) := by unfold Hid; rw [List.map_append, List.map_cons, List.map_nil, commas_snoc, if_neg (by simpa using hp)]; simp
        rw [unhide HNX] at HLX
        have HL1 : Hid ((layAll o (commas (pre.map tkXs))).1.length + cost ([tx ⟨#[44]⟩] ++ tkXs x) ≤ big) := len_more (unhide HLX)
        have HL2 : Hid ((layAll (layAll o (commas (pre.map tkXs))) [tx ⟨#[44]⟩]).1.length + cost (tkXs x) ≤ big) := len_more (unhide HL1)
        clear hp
        go_wp2_with fail
        refine (tokens_new tl _ (layAll o (commas (pre.map tkXs))) _ _ [⟨#[44]⟩] #[.string ⟨#[44]⟩] (by exact (unhide HTL)) (by have := unhide HL1; rw [cost_append] at this; show _ + cost [tx ⟨#[44]⟩] ≤ _; omega) rfl (by simp) (by simp) rfl).mono ?_
        rintro e w2 h2
        have h2e := h2.1
        subst h2e
        have HTS2 := hide ((unhide HTS))
        have HT2 := hide h2
        clear h2
        go_wp2_with fail
        refine (texpr_in tl P (.iface u z) x.2 _ (layAll (layAll o (commas (pre.map tkXs))) [tx ⟨#[44]⟩]) (by rw [← unhide HXV]; exact (unhide HEX).ts ((unhide HTS2).trans (unhide HT2).2.2)) (by exact (unhide HT2).2.1) (by exact unhide HL2)).mono ?_
        rintro e w1 h1
        have h1e := h1.1
        subst h1e
        have HT1 := hide ((unhide HT2).next (m := tkXs x) h1)
        clear h1
        go_wp2
        go_roundg suf'.length
        case measure => simp
        case rel =>
          refine ⟨pre ++ [x], suf', by rw [unhide HXS]; simp, by simp, rfl, ?_, ?_⟩
          · rw [unhide HNX, layAll_append]; exact (unhide HT1).2.1
          · exact (unhide HTS2).trans (unhide HT1).2.2
end Go.Proofs.YtfkeddkfegaeiaaGreatDoor
