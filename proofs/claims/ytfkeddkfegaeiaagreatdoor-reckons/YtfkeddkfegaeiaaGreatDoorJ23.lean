/-
  Part 23.
-/
import Derived.Test.YtfkeddkfegaeiaaGreatDoorJ22
namespace Go.Proofs.YtfkeddkfegaeiaaGreatDoor
open Go.RowKit

def tkAs (s : ByteArray) : List TT := if s.toList == [] then [] else [tx ⟨#[97, 115]⟩, tx s]
def tkWhat (x : ItemA) : List TT := match x.win with
  | none => tkE x.val
  | some q => tkWin q
def tkItem (x : ItemA) : List TT := tkWhat x ++ tkAs x.asT

set_option maxHeartbeats 2000000 in
set_option maxRecDepth 100000 in
theorem titem_vn (tl : Nat) (w : World) (o : Out) (lo : Nat) (p ap : Int) (s : ByteArray) (u : TypeId) (z : Value) (l : List Nd) (hq : ExOk w lo (.iface u z) l) (hs : (s.toList == []) = true) (hT : TL tl w o.1 o.2) (hlen : o.1.length + cost (tkE l) ≤ big) :
    Calls Tryz.prog 104 #[.pointer (some ⟨tl, 0, none⟩), .agg #[.int .i64 p, (.iface u z), .pointer none, .int .i64 ap, .string s]] w (Told tl w o (tkE l)) := by
  have hs2 : s.toList.isEmpty = true := by rw [← hs]; cases s.toList <;> rfl
  have hs3 : (!s.toList.isEmpty) = false := by rw [hs2]; rfl
  have HT0 := hide (hT.alloc (.cells #[.int .i64 p, (.iface u z), .pointer none, .int .i64 ap, .string s] 251))
  have HLEN := hide hlen
  have HQ := hide hq
  have z0 := hT.ts
  have HTSA := hide ((TSt.refl tl w).alloc (Nat.le_of_lt z0) (.cells #[.int .i64 p, (.iface u z), .pointer none, .int .i64 ap, .string s] 251))
  have HB0 : Hid ((w.alloc (.cells #[.int .i64 p, (.iface u z), .pointer none, .int .i64 ap, .string s] 251)).heap[w.heap.size]? = some (.cells #[.int .i64 p, (.iface u z), .pointer none, .int .i64 ap, .string s] 251 (0, 0))) := heap_last rfl
  clear hT hlen hq
  go_enter Tryz.func104, Tryz.ntmps104
  go_wp2_with fail
  refine (texpr_in tl (fun k => lo ≤ k) _ l _ o (by exact (show ExIn w (fun k => lo ≤ k) (.iface u z) l from unhide HQ).ts (unhide HTSA)) (by exact (unhide HT0)) (by have h2 := unhide HLEN; (try simp only [cost_append] at h2); show _ + cost (tkE l) ≤ _; omega)).mono ?_
  rintro e w1 h
  have he := h.1
  subst he
  have HT1 : Hid (Told tl (w.alloc (.cells #[.int .i64 p, (.iface u z), .pointer none, .int .i64 ap, .string s] 251)) o (tkE l) _ w1) := h
  have hHB := (h.2.2.keep w.heap.size _ _ (Nat.zero_le _) (unhide HB0) rfl).trans (unhide HB0)
  obtain ⟨kHB1, fHB1⟩ := blk hHB
  have zHB1 := lt_of_heap hHB
  clear h hHB
  go_wp2
  go_end0
  exact ⟨rfl, (unhide HT1).2.1, (unhide HTSA).trans (unhide HT1).2.2⟩

set_option maxHeartbeats 2000000 in
set_option maxRecDepth 100000 in
theorem titem_vs (tl : Nat) (w : World) (o : Out) (lo : Nat) (p ap : Int) (s : ByteArray) (u : TypeId) (z : Value) (l : List Nd) (hq : ExOk w lo (.iface u z) l) (hs : (s.toList == []) = false) (hT : TL tl w o.1 o.2) (hlen : o.1.length + cost (tkE l ++ [tx ⟨#[97, 115]⟩, tx s]) ≤ big) :
    Calls Tryz.prog 104 #[.pointer (some ⟨tl, 0, none⟩), .agg #[.int .i64 p, (.iface u z), .pointer none, .int .i64 ap, .string s]] w (Told tl w o (tkE l ++ [tx ⟨#[97, 115]⟩, tx s])) := by
  have hs2 : s.toList.isEmpty = false := by rw [← hs]; cases s.toList <;> rfl
  have hs3 : (!s.toList.isEmpty) = true := by rw [hs2]; rfl
  have HT0 := hide (hT.alloc (.cells #[.int .i64 p, (.iface u z), .pointer none, .int .i64 ap, .string s] 251))
  have HLEN := hide hlen
  have HQ := hide hq
  have z0 := hT.ts
  have HTSA := hide ((TSt.refl tl w).alloc (Nat.le_of_lt z0) (.cells #[.int .i64 p, (.iface u z), .pointer none, .int .i64 ap, .string s] 251))
  have HB0 : Hid ((w.alloc (.cells #[.int .i64 p, (.iface u z), .pointer none, .int .i64 ap, .string s] 251)).heap[w.heap.size]? = some (.cells #[.int .i64 p, (.iface u z), .pointer none, .int .i64 ap, .string s] 251 (0, 0))) := heap_last rfl
  clear hT hlen hq
  go_enter Tryz.func104, Tryz.ntmps104
  go_wp2_with fail
  refine (texpr_in tl (fun k => lo ≤ k) _ l _ o (by exact (show ExIn w (fun k => lo ≤ k) (.iface u z) l from unhide HQ).ts (unhide HTSA)) (by exact (unhide HT0)) (by have h2 := unhide HLEN; (try simp only [cost_append] at h2); show _ + cost (tkE l) ≤ _; omega)).mono ?_
  rintro e w1 h
  have he := h.1
  subst he
  have HT1 : Hid (Told tl (w.alloc (.cells #[.int .i64 p, (.iface u z), .pointer none, .int .i64 ap, .string s] 251)) o (tkE l) _ w1) := h
  have hHB := (h.2.2.keep w.heap.size _ _ (Nat.zero_le _) (unhide HB0) rfl).trans (unhide HB0)
  obtain ⟨kHB1, fHB1⟩ := blk hHB
  have zHB1 := lt_of_heap hHB
  have HB1 := hide hHB
  clear hHB
  clear h
  go_wp2_with fail
  refine (tokens_new tl _ (layAll o (tkE l)) _ _ [⟨#[97, 115]⟩, s] #[.string ⟨#[97, 115]⟩, .string s] (by exact (unhide HT1).2.1) (by have h1 := layAll_len o (tkE l); have h2 := unhide HLEN; (try simp only [cost_append] at h1 h2); show _ + cost ([tx ⟨#[97, 115]⟩, tx s]) ≤ _; omega) rfl (by simp) (by simp) rfl).mono ?_
  rintro e w2 h
  have he := h.1
  subst he
  have HT2 := hide ((unhide HT1).next (m := [tx ⟨#[97, 115]⟩, tx s]) h)
  have hHB := (h.2.2.keep w.heap.size _ _ (Nat.zero_le _) (unhide HB1) rfl).trans (unhide HB1)
  obtain ⟨kHB2, fHB2⟩ := blk hHB
  have zHB2 := lt_of_heap hHB
  have HB2 := hide hHB
  clear hHB
  clear h
  go_wp2
  go_end0
  exact ⟨rfl, (unhide HT2).2.1, (unhide HTSA).trans (unhide HT2).2.2⟩

set_option maxHeartbeats 2000000 in
set_option maxRecDepth 100000 in
theorem titem_wn (tl : Nat) (w : World) (o : Out) (lo : Nat) (p ap : Int) (s : ByteArray) (b : Nat) (q : WinA) (hq : WinOk w lo (.pointer (some ⟨b, 0, none⟩)) q) (hs : (s.toList == []) = true) (hT : TL tl w o.1 o.2) (hlen : o.1.length + cost (tkWin q) ≤ big) :
    Calls Tryz.prog 104 #[.pointer (some ⟨tl, 0, none⟩), .agg #[.int .i64 p, .nilIface, .pointer (some ⟨b, 0, none⟩), .int .i64 ap, .string s]] w (Told tl w o (tkWin q)) := by
  have hs2 : s.toList.isEmpty = true := by rw [← hs]; cases s.toList <;> rfl
  have hs3 : (!s.toList.isEmpty) = false := by rw [hs2]; rfl
  have HT0 := hide (hT.alloc (.cells #[.int .i64 p, .nilIface, .pointer (some ⟨b, 0, none⟩), .int .i64 ap, .string s] 251))
  have HLEN := hide hlen
  have HQ := hide hq
  have z0 := hT.ts
  have HTSA := hide ((TSt.refl tl w).alloc (Nat.le_of_lt z0) (.cells #[.int .i64 p, .nilIface, .pointer (some ⟨b, 0, none⟩), .int .i64 ap, .string s] 251))
  have HB0 : Hid ((w.alloc (.cells #[.int .i64 p, .nilIface, .pointer (some ⟨b, 0, none⟩), .int .i64 ap, .string s] 251)).heap[w.heap.size]? = some (.cells #[.int .i64 p, .nilIface, .pointer (some ⟨b, 0, none⟩), .int .i64 ap, .string s] 251 (0, 0))) := heap_last rfl
  clear hT hlen hq
  go_enter Tryz.func104, Tryz.ntmps104
  go_wp2_with fail
  refine (twin_any tl _ o lo _ q (by exact (unhide HQ).keep (Nat.le_refl _) ((unhide HTSA).keeps (tkT_of rfl rfl))) (by exact (unhide HT0)) (by have h2 := unhide HLEN; (try simp only [cost_append] at h2); show _ + cost (tkWin q) ≤ _; omega)).mono ?_
  rintro e w1 h
  have he := h.1
  subst he
  have HT1 : Hid (Told tl (w.alloc (.cells #[.int .i64 p, .nilIface, .pointer (some ⟨b, 0, none⟩), .int .i64 ap, .string s] 251)) o (tkWin q) _ w1) := h
  have hHB := (h.2.2.keep w.heap.size _ _ (Nat.zero_le _) (unhide HB0) rfl).trans (unhide HB0)
  obtain ⟨kHB1, fHB1⟩ := blk hHB
  have zHB1 := lt_of_heap hHB
  clear h hHB
  go_wp2
  go_end0
  exact ⟨rfl, (unhide HT1).2.1, (unhide HTSA).trans (unhide HT1).2.2⟩

set_option maxHeartbeats 2000000 in
set_option maxRecDepth 100000 in
theorem titem_ws (tl : Nat) (w : World) (o : Out) (lo : Nat) (p ap : Int) (s : ByteArray) (b : Nat) (q : WinA) (hq : WinOk w lo (.pointer (some ⟨b, 0, none⟩)) q) (hs : (s.toList == []) = false) (hT : TL tl w o.1 o.2) (hlen : o.1.length + cost (tkWin q ++ [tx ⟨#[97, 115]⟩, tx s]) ≤ big) :
    Calls Tryz.prog 104 #[.pointer (some ⟨tl, 0, none⟩), .agg #[.int .i64 p, .nilIface, .pointer (some ⟨b, 0, none⟩), .int .i64 ap, .string s]] w (Told tl w o (tkWin q ++ [tx ⟨#[97, 115]⟩, tx s])) := by
  have hs2 : s.toList.isEmpty = false := by rw [← hs]; cases s.toList <;> rfl
  have hs3 : (!s.toList.isEmpty) = true := by rw [hs2]; rfl
  have HT0 := hide (hT.alloc (.cells #[.int .i64 p, .nilIface, .pointer (some ⟨b, 0, none⟩), .int .i64 ap, .string s] 251))
  have HLEN := hide hlen
  have HQ := hide hq
  have z0 := hT.ts
  have HTSA := hide ((TSt.refl tl w).alloc (Nat.le_of_lt z0) (.cells #[.int .i64 p, .nilIface, .pointer (some ⟨b, 0, none⟩), .int .i64 ap, .string s] 251))
  have HB0 : Hid ((w.alloc (.cells #[.int .i64 p, .nilIface, .pointer (some ⟨b, 0, none⟩), .int .i64 ap, .string s] 251)).heap[w.heap.size]? = some (.cells #[.int .i64 p, .nilIface, .pointer (some ⟨b, 0, none⟩), .int .i64 ap, .string s] 251 (0, 0))) := heap_last rfl
  clear hT hlen hq
  go_enter Tryz.func104, Tryz.ntmps104
  go_wp2_with fail
  refine (twin_any tl _ o lo _ q (by exact (unhide HQ).keep (Nat.le_refl _) ((unhide HTSA).keeps (tkT_of rfl rfl))) (by exact (unhide HT0)) (by have h2 := unhide HLEN; (try simp only [cost_append] at h2); show _ + cost (tkWin q) ≤ _; omega)).mono ?_
  rintro e w1 h
  have he := h.1
  subst he
  have HT1 : Hid (Told tl (w.alloc (.cells #[.int .i64 p, .nilIface, .pointer (some ⟨b, 0, none⟩), .int .i64 ap, .string s] 251)) o (tkWin q) _ w1) := h
  have hHB := (h.2.2.keep w.heap.size _ _ (Nat.zero_le _) (unhide HB0) rfl).trans (unhide HB0)
  obtain ⟨kHB1, fHB1⟩ := blk hHB
  have zHB1 := lt_of_heap hHB
  have HB1 := hide hHB
  clear hHB
  clear h
  go_wp2_with fail
  refine (tokens_new tl _ (layAll o (tkWin q)) _ _ [⟨#[97, 115]⟩, s] #[.string ⟨#[97, 115]⟩, .string s] (by exact (unhide HT1).2.1) (by have h1 := layAll_len o (tkWin q); have h2 := unhide HLEN; (try simp only [cost_append] at h1 h2); show _ + cost ([tx ⟨#[97, 115]⟩, tx s]) ≤ _; omega) rfl (by simp) (by simp) rfl).mono ?_
  rintro e w2 h
  have he := h.1
  subst he
  have HT2 := hide ((unhide HT1).next (m := [tx ⟨#[97, 115]⟩, tx s]) h)
  have hHB := (h.2.2.keep w.heap.size _ _ (Nat.zero_le _) (unhide HB1) rfl).trans (unhide HB1)
  obtain ⟨kHB2, fHB2⟩ := blk hHB
  have zHB2 := lt_of_heap hHB
  have HB2 := hide hHB
  clear hHB
  clear h
  go_wp2
  go_end0
  exact ⟨rfl, (unhide HT2).2.1, (unhide HTSA).trans (unhide HT2).2.2⟩

theorem titem_any (tl : Nat) (w : World) (o : Out) (lo : Nat) (x : ItemA) (v : Value) (a : Option Addr) (h : ItV w lo v (.pointer a) x.win x.val) (hT : TL tl w o.1 o.2) (hlen : o.1.length + cost (tkItem x) ≤ big) :
    Calls Tryz.prog 104 #[.pointer (some ⟨tl, 0, none⟩), .agg #[.int .i64 x.place, v, .pointer a, .int .i64 x.asP, .string x.asT]] w (Told tl w o (tkItem x)) := by
  obtain ⟨pl, win, val, ap, s⟩ := x
  unfold tkItem tkWhat tkAs at hlen ⊢
  match win, h with
  | none, ⟨h1, h2⟩ =>
    cases h1
    obtain ⟨u, z, rfl⟩ := ExIn.isI (h2 : ExIn w (fun k => lo ≤ k) v val)
    cases hs : (s.toList == []) with
    | true =>
      simp only [hs, if_true, List.append_nil] at hlen ⊢
      exact titem_vn tl w o lo pl ap s u z val h2 hs hT hlen
    | false =>
      simp only [hs] at hlen ⊢
      exact titem_vs tl w o lo pl ap s u z val h2 hs hT hlen
  | some q, ⟨h1, h2⟩ =>
    subst h1
    obtain ⟨b, _, _, _, _, hb, _⟩ := id h2
    cases hb
    cases hs : (s.toList == []) with
    | true =>
      simp only [hs, if_true, List.append_nil] at hlen ⊢
      exact titem_wn tl w o lo pl ap s b q h2 hs hT hlen
    | false =>
      simp only [hs] at hlen ⊢
      exact titem_ws tl w o lo pl ap s b q h2 hs hT hlen

def tkIt (e : ItemA × Value × Option Addr) : List TT := tkItem e.1
theorem ItV.isI {w : World} {lo : Nat} {v wv : Value} {x : Option WinA} {l : List Nd} (h : ItV w lo v wv x l) : IsI v := by
  match x, h with
  | none, h => obtain ⟨u, z, e⟩ := ExIn.isI (h.2 : ExIn w (fun k => lo ≤ k) v l); exact Or.inr ⟨u, z, e⟩
  | some q, h => exact Or.inl h.1

set_option maxHeartbeats 2000000 in
set_option maxRecDepth 100000 in
theorem tlist_item (tl : Nat) (w : World) (o : Out) (lo : Nat) (v : Value) (l : List (ItemA × Value × Option Addr)) (hrow : w.ownsRow lo 251 5 v l.length (l.flatMap fun t => [.int .i64 t.1.place, t.2.1, .pointer t.2.2, .int .i64 t.1.asP, .string t.1.asT])) (hpos : 0 < l.length) (hex : ∀ e ∈ l, ItV w lo e.2.1 (.pointer e.2.2) e.1.win e.1.val) (hT : TL tl w o.1 o.2) (hlen : o.1.length + cost (commas (l.map tkIt)) ≤ big) :
    Calls Tryz.prog 103 #[.pointer (some ⟨tl, 0, none⟩), v, .func (.func 104) #[.pointer (some ⟨tl, 0, none⟩)] #[]] w (Told tl w o (commas (l.map tkIt))) := by
  obtain ⟨g, cap, cur, rfl, hc1, hc2, hg, hcell⟩ := row_cells hrow hpos
  have HT := hide hT
  have HG := hide hg
  have HC := hide hcell
  have HLEN := hide hlen
  have HEXS := hide hex
  clear hex
  clear hT hg hcell hlen hrow
  unfold maxLen at hc2
  go_enter Tryz.func103, Tryz.ntmps103
  go_wp2_with fail
  go_loopg [10] l.length (fun f i wr => ∃ pre suf, l = pre ++ suf ∧ i = .int .i64 pre.length ∧ f = suf.length ∧ TL tl wr (layAll o (commas (pre.map tkIt))).1 (layAll o (commas (pre.map tkIt))).2 ∧ TSt tl w wr)
  case atStart => exact ⟨[], l, rfl, rfl, rfl, unhide HT, TSt.refl _ _⟩
  case round =>
    obtain ⟨pre, suf, hxs, hi, hf, hTL, hTS⟩ := hrel
    subst hi
    have HTL := hide hTL
    have HTS := hide hTS
    have HXS0 := hide hxs
    clear hTL hTS hxs
    match suf, HXS0, hf with
    | [], HXS0, _ =>
      have hxs' : l = pre := by simpa using unhide HXS0
      clear HXS0
      subst hxs'
      have hd : decide (((l.length : Nat) : Int) < (l.length : Int)) = false := by simp
      go_wp2
      go_end0
      exact ⟨rfl, unhide HTL, unhide HTS⟩
    | x :: suf', HXS, hf =>
      subst hf
      have hxs := unhide HXS
      have hlt : pre.length < l.length := by rw [hxs]; simp
      have hd : decide (((pre.length : Nat) : Int) < (l.length : Int)) = true := by simp; omega
      have hgr := ((unhide HTS).keep g _ _ (Nat.zero_le _) (unhide HG) rfl).trans (unhide HG)
      obtain ⟨kg, fg⟩ := blk hgr
      have zg := lt_of_heap hgr
      have c0 : wr.cell? ⟨g, pre.length * 5, none⟩ = some (.int .i64 x.1.place) := by rw [kg, (unhide HC) _ (by omega), hxs]; exact flat_at _ 5 (fun _ => rfl) pre suf' x 0 (by omega)
      have c1 : wr.cell? ⟨g, pre.length * 5 + 1, none⟩ = some (x.2.1) := by rw [kg, (unhide HC) _ (by omega), hxs]; exact flat_at _ 5 (fun _ => rfl) pre suf' x 1 (by omega)
      have c2 : wr.cell? ⟨g, pre.length * 5 + 2, none⟩ = some (.pointer x.2.2) := by rw [kg, (unhide HC) _ (by omega), hxs]; exact flat_at _ 5 (fun _ => rfl) pre suf' x 2 (by omega)
      have c3 : wr.cell? ⟨g, pre.length * 5 + 3, none⟩ = some (.int .i64 x.1.asP) := by rw [kg, (unhide HC) _ (by omega), hxs]; exact flat_at _ 5 (fun _ => rfl) pre suf' x 3 (by omega)
      have c4 : wr.cell? ⟨g, pre.length * 5 + 4, none⟩ = some (.string x.1.asT) := by rw [kg, (unhide HC) _ (by omega), hxs]; exact flat_at _ 5 (fun _ => rfl) pre suf' x 4 (by omega)
      have hexx := (unhide HEXS) x (by rw [hxs]; simp)
      rcases hexx.isI with hxv | ⟨u, z, hxv⟩
      · have HEX : Hid (ItV w lo .nilIface (.pointer x.2.2) x.1.win x.1.val) := by rw [← hxv]; exact hexx
        rw [hxv] at c1
        clear hexx hxv
        have HLX : Hid (o.1.length + cost (commas ((pre ++ [x]).map tkIt)) ≤ big) := Nat.le_trans (Nat.add_le_add_left (commas_cost _ pre suf' x) _) (by rw [← hxs]; exact unhide HLEN)
        clear hxs kg hgr
        have z0 := (unhide HTL).ts
        by_cases hp : pre = []
        · have hn : ¬ 0 < pre.length := by rw [hp]; simp
          have hn' : decide (0 < ((pre.length : Nat) : Int)) = false := by simp; omega
          have HNX : Hid (commas ((pre ++ [x]).map tkIt) = commas (pre.map tkIt) ++ tkIt x) := by unfold Hid; rw [List.map_append, List.map_cons, List.map_nil, commas_snoc, if_pos (by rw [hp]; rfl)]; simp
          rw [unhide HNX] at HLX
          have HL1 : Hid ((layAll o (commas (pre.map tkIt))).1.length + cost (tkIt x) ≤ big) := len_more (unhide HLX)
          clear hp
          go_wp2_with fail
          refine (titem_any tl _ (layAll o (commas (pre.map tkIt))) lo x.1 .nilIface x.2.2 (by exact (unhide HEX).keep (Nat.le_refl _) (((unhide HTS).alloc (Nat.le_of_lt z0) (.cells #[.int .i64 x.1.place, .nilIface, .pointer x.2.2, .int .i64 x.1.asP, .string x.1.asT] 251)).keeps (tkT_of rfl rfl))) (by exact (unhide HTL).alloc _) (by exact unhide HL1)).mono ?_
          rintro e w1 h1
          have h1e := h1.1
          subst h1e
          have HT1 : Hid (Told tl _ _ (tkIt x) _ w1) := h1
          clear h1
          go_wp2
          go_roundg suf'.length
          case measure => simp
          case rel =>
            refine ⟨pre ++ [x], suf', by rw [unhide HXS]; simp, by simp, rfl, ?_, ?_⟩
            · rw [unhide HNX, layAll_append]; exact (unhide HT1).2.1
            · exact ((unhide HTS).alloc (Nat.le_of_lt z0) _).trans (unhide HT1).2.2
        · have hn : 0 < pre.length := List.length_pos_iff.2 hp
          have hn' : decide (0 < ((pre.length : Nat) : Int)) = true := by simp; omega
          have HNX : Hid (commas ((pre ++ [x]).map tkIt) = commas (pre.map tkIt) ++ ([tx ⟨#[44]⟩] ++ tkIt x)) := by unfold Hid; rw [List.map_append, List.map_cons, List.map_nil, commas_snoc, if_neg (by simpa using hp)]; simp
          rw [unhide HNX] at HLX
          have HL1 : Hid ((layAll o (commas (pre.map tkIt))).1.length + cost ([tx ⟨#[44]⟩] ++ tkIt x) ≤ big) := len_more (unhide HLX)
          have HL2 : Hid ((layAll (layAll o (commas (pre.map tkIt))) [tx ⟨#[44]⟩]).1.length + cost (tkIt x) ≤ big) := len_more (unhide HL1)
          clear hp
          go_wp2_with fail
          refine (tokens_new tl _ (layAll o (commas (pre.map tkIt))) _ _ [⟨#[44]⟩] #[.string ⟨#[44]⟩] (by exact (unhide HTL).alloc _) (by have := unhide HL1; rw [cost_append] at this; show _ + cost [tx ⟨#[44]⟩] ≤ _; omega) rfl (by simp) (by simp) rfl).mono ?_
          rintro e w2 h2
          have h2e := h2.1
          subst h2e
          have HTS2 := hide ((unhide HTS).alloc (Nat.le_of_lt z0) (.cells #[.int .i64 x.1.place, .nilIface, .pointer x.2.2, .int .i64 x.1.asP, .string x.1.asT] 251))
          have HT2 := hide h2
          have hbox := (h2.2.2.keep wr.heap.size #[.int .i64 x.1.place, .nilIface, .pointer x.2.2, .int .i64 x.1.asP, .string x.1.asT] 251 (Nat.zero_le _) (heap_last rfl) rfl).trans (heap_last rfl)
          obtain ⟨kx, fx⟩ := blk hbox
          have zx := lt_of_heap hbox
          clear hbox
          clear h2
          go_wp2_with fail
          refine (titem_any tl _ (layAll (layAll o (commas (pre.map tkIt))) [tx ⟨#[44]⟩]) lo x.1 .nilIface x.2.2 (by exact (unhide HEX).keep (Nat.le_refl _) (((unhide HTS2).trans (unhide HT2).2.2).keeps (tkT_of rfl rfl))) (by exact (unhide HT2).2.1) (by exact unhide HL2)).mono ?_
          rintro e w1 h1
          have h1e := h1.1
          subst h1e
          have HT1 := hide ((unhide HT2).next (m := tkIt x) h1)
          clear h1
          go_wp2
          go_roundg suf'.length
          case measure => simp
          case rel =>
            refine ⟨pre ++ [x], suf', by rw [unhide HXS]; simp, by simp, rfl, ?_, ?_⟩
            · rw [unhide HNX, layAll_append]; exact (unhide HT1).2.1
            · exact (unhide HTS2).trans (unhide HT1).2.2
      · have HEX : Hid (ItV w lo (.iface u z) (.pointer x.2.2) x.1.win x.1.val) := by rw [← hxv]; exact hexx
        rw [hxv] at c1
        clear hexx hxv
        have HLX : Hid (o.1.length + cost (commas ((pre ++ [x]).map tkIt)) ≤ big) := Nat.le_trans (Nat.add_le_add_left (commas_cost _ pre suf' x) _) (by rw [← hxs]; exact unhide HLEN)
        clear hxs kg hgr
        have z0 := (unhide HTL).ts
        by_cases hp : pre = []
        · have hn : ¬ 0 < pre.length := by rw [hp]; simp
          have hn' : decide (0 < ((pre.length : Nat) : Int)) = false := by simp; omega
          have HNX : Hid (commas ((pre ++ [x]).map tkIt) = commas (pre.map tkIt) ++ tkIt x) := by unfold Hid; rw [List.map_append, List.map_cons, List.map_nil, commas_snoc, if_pos (by rw [hp]; rfl)]; simp
          rw [unhide HNX] at HLX
          have HL1 : Hid ((layAll o (commas (pre.map tkIt))).1.length + cost (tkIt x) ≤ big) := len_more (unhide HLX)
          clear hp
          go_wp2_with fail
          refine (titem_any tl _ (layAll o (commas (pre.map tkIt))) lo x.1 (.iface u z) x.2.2 (by exact (unhide HEX).keep (Nat.le_refl _) (((unhide HTS).alloc (Nat.le_of_lt z0) (.cells #[.int .i64 x.1.place, (.iface u z), .pointer x.2.2, .int .i64 x.1.asP, .string x.1.asT] 251)).keeps (tkT_of rfl rfl))) (by exact (unhide HTL).alloc _) (by exact unhide HL1)).mono ?_
          rintro e w1 h1
          have h1e := h1.1
          subst h1e
          have HT1 : Hid (Told tl _ _ (tkIt x) _ w1) := h1
          clear h1
          go_wp2
          go_roundg suf'.length
          case measure => simp
          case rel =>
            refine ⟨pre ++ [x], suf', by rw [unhide HXS]; simp, by simp, rfl, ?_, ?_⟩
            · rw [unhide HNX, layAll_append]; exact (unhide HT1).2.1
            · exact ((unhide HTS).alloc (Nat.le_of_lt z0) _).trans (unhide HT1).2.2
        · have hn : 0 < pre.length := List.length_pos_iff.2 hp
          have hn' : decide (0 < ((pre.length : Nat) : Int)) = true := by simp; omega
          have HNX : Hid (commas ((pre ++ [x]).map tkIt) = commas (pre.map tkIt) ++ ([tx ⟨#[44]⟩] ++ tkIt x)) := by unfold Hid; rw [List.map_append, List.map_cons, List.map_nil, commas_snoc, if_neg (by simpa using hp)]; simp
          rw [unhide HNX] at HLX
          have HL1 : Hid ((layAll o (commas (pre.map tkIt))).1.length + cost ([tx ⟨#[44]⟩] ++ tkIt x) ≤ big) := len_more (unhide HLX)
          have HL2 : Hid ((layAll (layAll o (commas (pre.map tkIt))) [tx ⟨#[44]⟩]).1.length + cost (tkIt x) ≤ big) := len_more (unhide HL1)
          clear hp
          go_wp2_with fail
          refine (tokens_new tl _ (layAll o (commas (pre.map tkIt))) _ _ [⟨#[44]⟩] #[.string ⟨#[44]⟩] (by exact (unhide HTL).alloc _) (by have := unhide HL1; rw [cost_append] at this; show _ + cost [tx ⟨#[44]⟩] ≤ _; omega) rfl (by simp) (by simp) rfl).mono ?_
          rintro e w2 h2
          have h2e := h2.1
          subst h2e
          have HTS2 := hide ((unhide HTS).alloc (Nat.le_of_lt z0) (.cells #[.int .i64 x.1.place, (.iface u z), .pointer x.2.2, .int .i64 x.1.asP, .string x.1.asT] 251))
          have HT2 := hide h2
          have hbox := (h2.2.2.keep wr.heap.size #[.int .i64 x.1.place, (.iface u z), .pointer x.2.2, .int .i64 x.1.asP, .string x.1.asT] 251 (Nat.zero_le _) (heap_last rfl) rfl).trans (heap_last rfl)
          obtain ⟨kx, fx⟩ := blk hbox
          have zx := lt_of_heap hbox
          clear hbox
          clear h2
          go_wp2_with fail
          refine (titem_any tl _ (layAll (layAll o (commas (pre.map tkIt))) [tx ⟨#[44]⟩]) lo x.1 (.iface u z) x.2.2 (by exact (unhide HEX).keep (Nat.le_refl _) (((unhide HTS2).trans (unhide HT2).2.2).keeps (tkT_of rfl rfl))) (by exact (unhide HT2).2.1) (by exact unhide HL2)).mono ?_
          rintro e w1 h1
          have h1e := h1.1
          subst h1e
          have HT1 := hide ((unhide HT2).next (m := tkIt x) h1)
          clear h1
          go_wp2
          go_roundg suf'.length
          case measure => simp
          case rel =>
            refine ⟨pre ++ [x], suf', by rw [unhide HXS]; simp, by simp, rfl, ?_, ?_⟩
            · rw [unhide HNX, layAll_append]; exact (unhide HT1).2.1
            · exact (unhide HTS2).trans (unhide HT1).2.2
end Go.Proofs.YtfkeddkfegaeiaaGreatDoor
