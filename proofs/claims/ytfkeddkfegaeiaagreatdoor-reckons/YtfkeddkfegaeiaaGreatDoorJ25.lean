/-
  Part 25.
-/
import Derived.Test.YtfkeddkfegaeiaaGreatDoorJ24
namespace Go.Proofs.YtfkeddkfegaeiaaGreatDoor
open Go.RowKit

def tkWith (x : WithX) : List TT := (((((([tx ⟨#[119, 105, 116, 104]⟩, tx x.name.text, tx ⟨#[40]⟩] ++ commas (x.cols.map tkName)) ++ [tx ⟨#[41]⟩, tx ⟨#[97, 115]⟩, tx ⟨#[40]⟩]) ++ tkSel x.first) ++ [tx ⟨#[117, 110, 105, 111, 110]⟩]) ++ tkSel x.second) ++ [tx ⟨#[41]⟩])
def tkWo : Option WithX → List TT
  | none => []
  | some x => tkWith x
def tkQuery (x : QueryX) : List TT := tkWo x.wth ++ tkSel x.main
def SelX.Full (x : SelX) : Prop := 0 < x.items.length ∧ 0 < x.srcs.length
def WithX.Full (x : WithX) : Prop := 0 < x.cols.length ∧ x.first.Full ∧ x.second.Full
def QueryX.Full (x : QueryX) : Prop := (∀ y, x.wth = some y → y.Full) ∧ x.main.Full
theorem SelOk.isP {w : World} {lo : Nat} {v : Value} {x : SelX} (h : SelOk w lo v x) : ∃ b, v = .pointer (some ⟨b, 0, none⟩) := by
  obtain ⟨b, _, _, _, _, _, h1, _⟩ := h
  exact ⟨b, h1⟩
theorem SelOk.ts {tl lo : Nat} {w w' : World} {v : Value} {x : SelX} (h : SelOk w lo v x) (ht : TSt tl w w') : SelOk w' lo v x := h.keep (Nat.le_refl _) (ht.keeps (tkT_of rfl rfl))

set_option maxHeartbeats 4000000 in
set_option maxRecDepth 100000 in
theorem twith_go (tl : Nat) (w : World) (o : Out) (lo b : Nat) (pl np un en : Int) (name : ByteArray) (vc vf vg : Value) (cols : List Tk) (first second : SelX) (hb : w.heap[b]? = some (.cells #[.int .i64 pl, .int .i64 np, .string name, vc, vf, .int .i64 un, vg, .int .i64 en] 243 (0, 0)))
    (hrc : w.ownsRow lo 240 2 vc cols.length (nmCells cols)) (hcp : 0 < cols.length) (hfo : SelOk w lo vf first) (hff : first.Full) (hgo : SelOk w lo vg second) (hgf : second.Full) (hT : TL tl w o.1 o.2) (F : List TT) (HF : Hid (F = (((((([tx ⟨#[119, 105, 116, 104]⟩, tx name, tx ⟨#[40]⟩] ++ commas (cols.map tkName)) ++ [tx ⟨#[41]⟩, tx ⟨#[97, 115]⟩, tx ⟨#[40]⟩]) ++ tkSel first) ++ [tx ⟨#[117, 110, 105, 111, 110]⟩]) ++ tkSel second) ++ [tx ⟨#[41]⟩]))) (hlen : o.1.length + cost (((((([tx ⟨#[119, 105, 116, 104]⟩, tx name, tx ⟨#[40]⟩] ++ commas (cols.map tkName)) ++ [tx ⟨#[41]⟩, tx ⟨#[97, 115]⟩, tx ⟨#[40]⟩]) ++ tkSel first) ++ [tx ⟨#[117, 110, 105, 111, 110]⟩]) ++ tkSel second) ++ [tx ⟨#[41]⟩]) ≤ big) :
    Calls Tryz.prog 64 #[.pointer (some ⟨tl, 0, none⟩), .pointer (some ⟨b, 0, none⟩)] w (Told tl w o F) := by
  obtain ⟨gc, cc, hvc⟩ := row_slice hrc
  obtain ⟨bf, hvf⟩ := hfo.isP
  obtain ⟨bg, hvg⟩ := hgo.isP
  subst hvc hvf hvg
  have HT0 := hide hT
  have HLEN := hide hlen
  have HRC := hide hrc
  have HFO := hide hfo
  have HGO := hide hgo
  have HB0 := hide hb
  obtain ⟨kHB0, fHB0⟩ := blk hb
  have zHB0 := lt_of_heap hb
  clear hT hlen hrc hfo hgo hb
  go_enter Tryz.func64, Tryz.ntmps64
  go_wp2_with fail
  refine (tokens_new tl _ o _ _ [⟨#[119, 105, 116, 104]⟩, name, ⟨#[40]⟩] #[.string ⟨#[119, 105, 116, 104]⟩, .string name, .string ⟨#[40]⟩] (by exact (unhide HT0)) (by have h2 := unhide HLEN; (try simp only [cost_append] at h2); show _ + cost ([tx ⟨#[119, 105, 116, 104]⟩, tx name, tx ⟨#[40]⟩]) ≤ _; omega) rfl (by simp) (by simp) rfl).mono ?_
  rintro e w1 h
  have he := h.1
  subst he
  have HT1 : Hid (Told tl w o ([tx ⟨#[119, 105, 116, 104]⟩, tx name, tx ⟨#[40]⟩]) _ w1) := h
  have hHB := (h.2.2.keep b _ _ (Nat.zero_le _) (unhide HB0) rfl).trans (unhide HB0)
  obtain ⟨kHB1, fHB1⟩ := blk hHB
  have zHB1 := lt_of_heap hHB
  have HB1 := hide hHB
  clear hHB
  clear h
  go_wp2_with fail
  refine (tlist_name tl _ (layAll o ([tx ⟨#[119, 105, 116, 104]⟩, tx name, tx ⟨#[40]⟩])) lo _ cols (by exact ownsRow_keeps (unhide HRC) ((unhide HT1).2.2.keep.mono (fun _ h => h) (Nat.zero_le _)) rfl) hcp (by exact (unhide HT1).2.1) (by have h1 := layAll_len o ([tx ⟨#[119, 105, 116, 104]⟩, tx name, tx ⟨#[40]⟩]); have h2 := unhide HLEN; (try simp only [cost_append] at h1 h2); show _ + cost (commas (cols.map tkName)) ≤ _; omega)).mono ?_
  rintro e w2 h
  have he := h.1
  subst he
  have HT2 := hide ((unhide HT1).next (m := commas (cols.map tkName)) h)
  have hHB := (h.2.2.keep b _ _ (Nat.zero_le _) (unhide HB1) rfl).trans (unhide HB1)
  obtain ⟨kHB2, fHB2⟩ := blk hHB
  have zHB2 := lt_of_heap hHB
  have HB2 := hide hHB
  clear hHB
  clear h
  go_wp2_with fail
  refine (tokens_new tl _ (layAll o (([tx ⟨#[119, 105, 116, 104]⟩, tx name, tx ⟨#[40]⟩] ++ commas (cols.map tkName)))) _ _ [⟨#[41]⟩, ⟨#[97, 115]⟩, ⟨#[40]⟩] #[.string ⟨#[41]⟩, .string ⟨#[97, 115]⟩, .string ⟨#[40]⟩] (by exact (unhide HT2).2.1) (by have h1 := layAll_len o (([tx ⟨#[119, 105, 116, 104]⟩, tx name, tx ⟨#[40]⟩] ++ commas (cols.map tkName))); have h2 := unhide HLEN; (try simp only [cost_append] at h1 h2); show _ + cost ([tx ⟨#[41]⟩, tx ⟨#[97, 115]⟩, tx ⟨#[40]⟩]) ≤ _; omega) rfl (by simp) (by simp) rfl).mono ?_
  rintro e w3 h
  have he := h.1
  subst he
  have HT3 := hide ((unhide HT2).next (m := [tx ⟨#[41]⟩, tx ⟨#[97, 115]⟩, tx ⟨#[40]⟩]) h)
  have hHB := (h.2.2.keep b _ _ (Nat.zero_le _) (unhide HB2) rfl).trans (unhide HB2)
  obtain ⟨kHB3, fHB3⟩ := blk hHB
  have zHB3 := lt_of_heap hHB
  have HB3 := hide hHB
  clear hHB
  clear h
  go_wp2_with fail
  refine (tsel_any tl _ (layAll o ((([tx ⟨#[119, 105, 116, 104]⟩, tx name, tx ⟨#[40]⟩] ++ commas (cols.map tkName)) ++ [tx ⟨#[41]⟩, tx ⟨#[97, 115]⟩, tx ⟨#[40]⟩]))) lo _ first (by exact (unhide HFO).ts (unhide HT3).2.2) (by exact (unhide HT3).2.1) (by have h1 := layAll_len o ((([tx ⟨#[119, 105, 116, 104]⟩, tx name, tx ⟨#[40]⟩] ++ commas (cols.map tkName)) ++ [tx ⟨#[41]⟩, tx ⟨#[97, 115]⟩, tx ⟨#[40]⟩])); have h2 := unhide HLEN; (try simp only [cost_append] at h1 h2); show _ + cost (tkSel first) ≤ _; omega) hff.1 hff.2).mono ?_
  rintro e w4 h
  have he := h.1
  subst he
  have HT4 := hide ((unhide HT3).next (m := tkSel first) h)
  have hHB := (h.2.2.keep b _ _ (Nat.zero_le _) (unhide HB3) rfl).trans (unhide HB3)
  obtain ⟨kHB4, fHB4⟩ := blk hHB
  have zHB4 := lt_of_heap hHB
  have HB4 := hide hHB
  clear hHB
  clear h
  go_wp2_with fail
  refine (tokens_new tl _ (layAll o (((([tx ⟨#[119, 105, 116, 104]⟩, tx name, tx ⟨#[40]⟩] ++ commas (cols.map tkName)) ++ [tx ⟨#[41]⟩, tx ⟨#[97, 115]⟩, tx ⟨#[40]⟩]) ++ tkSel first))) _ _ [⟨#[117, 110, 105, 111, 110]⟩] #[.string ⟨#[117, 110, 105, 111, 110]⟩] (by exact (unhide HT4).2.1) (by have h1 := layAll_len o (((([tx ⟨#[119, 105, 116, 104]⟩, tx name, tx ⟨#[40]⟩] ++ commas (cols.map tkName)) ++ [tx ⟨#[41]⟩, tx ⟨#[97, 115]⟩, tx ⟨#[40]⟩]) ++ tkSel first)); have h2 := unhide HLEN; (try simp only [cost_append] at h1 h2); show _ + cost ([tx ⟨#[117, 110, 105, 111, 110]⟩]) ≤ _; omega) rfl (by simp) (by simp) rfl).mono ?_
  rintro e w5 h
  have he := h.1
  subst he
  have HT5 := hide ((unhide HT4).next (m := [tx ⟨#[117, 110, 105, 111, 110]⟩]) h)
  have hHB := (h.2.2.keep b _ _ (Nat.zero_le _) (unhide HB4) rfl).trans (unhide HB4)
  obtain ⟨kHB5, fHB5⟩ := blk hHB
  have zHB5 := lt_of_heap hHB
  have HB5 := hide hHB
  clear hHB
  clear h
  go_wp2_with fail
  refine (tsel_any tl _ (layAll o ((((([tx ⟨#[119, 105, 116, 104]⟩, tx name, tx ⟨#[40]⟩] ++ commas (cols.map tkName)) ++ [tx ⟨#[41]⟩, tx ⟨#[97, 115]⟩, tx ⟨#[40]⟩]) ++ tkSel first) ++ [tx ⟨#[117, 110, 105, 111, 110]⟩]))) lo _ second (by exact (unhide HGO).ts (unhide HT5).2.2) (by exact (unhide HT5).2.1) (by have h1 := layAll_len o ((((([tx ⟨#[119, 105, 116, 104]⟩, tx name, tx ⟨#[40]⟩] ++ commas (cols.map tkName)) ++ [tx ⟨#[41]⟩, tx ⟨#[97, 115]⟩, tx ⟨#[40]⟩]) ++ tkSel first) ++ [tx ⟨#[117, 110, 105, 111, 110]⟩])); have h2 := unhide HLEN; (try simp only [cost_append] at h1 h2); show _ + cost (tkSel second) ≤ _; omega) hgf.1 hgf.2).mono ?_
  rintro e w6 h
  have he := h.1
  subst he
  have HT6 := hide ((unhide HT5).next (m := tkSel second) h)
  have hHB := (h.2.2.keep b _ _ (Nat.zero_le _) (unhide HB5) rfl).trans (unhide HB5)
  obtain ⟨kHB6, fHB6⟩ := blk hHB
  have zHB6 := lt_of_heap hHB
  have HB6 := hide hHB
  clear hHB
  clear h
  go_wp2_with fail
  refine (tokens_new tl _ (layAll o (((((([tx ⟨#[119, 105, 116, 104]⟩, tx name, tx ⟨#[40]⟩] ++ commas (cols.map tkName)) ++ [tx ⟨#[41]⟩, tx ⟨#[97, 115]⟩, tx ⟨#[40]⟩]) ++ tkSel first) ++ [tx ⟨#[117, 110, 105, 111, 110]⟩]) ++ tkSel second))) _ _ [⟨#[41]⟩] #[.string ⟨#[41]⟩] (by exact (unhide HT6).2.1) (by have h1 := layAll_len o (((((([tx ⟨#[119, 105, 116, 104]⟩, tx name, tx ⟨#[40]⟩] ++ commas (cols.map tkName)) ++ [tx ⟨#[41]⟩, tx ⟨#[97, 115]⟩, tx ⟨#[40]⟩]) ++ tkSel first) ++ [tx ⟨#[117, 110, 105, 111, 110]⟩]) ++ tkSel second)); have h2 := unhide HLEN; (try simp only [cost_append] at h1 h2); show _ + cost ([tx ⟨#[41]⟩]) ≤ _; omega) rfl (by simp) (by simp) rfl).mono ?_
  rintro e w7 h
  have he := h.1
  subst he
  have HT7 := hide ((unhide HT6).next (m := [tx ⟨#[41]⟩]) h)
  have hHB := (h.2.2.keep b _ _ (Nat.zero_le _) (unhide HB6) rfl).trans (unhide HB6)
  obtain ⟨kHB7, fHB7⟩ := blk hHB
  have zHB7 := lt_of_heap hHB
  have HB7 := hide hHB
  clear hHB
  clear h
  go_wp2
  go_end0
  rw [unhide HF]
  exact unhide HT7

theorem twith_any (tl : Nat) (w : World) (o : Out) (lo : Nat) (v : Value) (x : WithX) (h : WithOk w lo v x) (hf : x.Full) (hT : TL tl w o.1 o.2) (hlen : o.1.length + cost (tkWith x) ≤ big) :
    Calls Tryz.prog 64 #[.pointer (some ⟨tl, 0, none⟩), v] w (Told tl w o (tkWith x)) := by
  obtain ⟨b, vc, vf, vg, rfl, _, hb, h1, h2, h3⟩ := h
  exact twith_go tl w o lo b _ _ _ _ x.name.text vc vf vg x.cols x.first x.second hb h1 hf.1 h2 hf.2.1 h3 hf.2.2 hT _ rfl hlen

set_option maxHeartbeats 1000000 in
set_option maxRecDepth 100000 in
theorem tquery_no (tl : Nat) (w : World) (o : Out) (lo b : Nat) (pl : Int) (vm : Value) (main : SelX) (hb : w.heap[b]? = some (.cells #[.int .i64 pl, .pointer none, vm] 180 (0, 0)))
    (hm : SelOk w lo vm main) (hmf : main.Full) (hT : TL tl w o.1 o.2) (hlen : o.1.length + cost (tkSel main) ≤ big) :
    Calls Tryz.prog 37 #[.pointer (some ⟨tl, 0, none⟩), .pointer (some ⟨b, 0, none⟩)] w (Told tl w o (tkSel main)) := by
  obtain ⟨bm, hvm⟩ := hm.isP
  subst hvm
  have HT0 := hide hT
  have HM := hide hm
  obtain ⟨kHB0, fHB0⟩ := blk hb
  have zHB0 := lt_of_heap hb
  clear hT hm
  go_enter Tryz.func37, Tryz.ntmps37
  go_wp2_with fail
  refine (tsel_any tl _ o lo _ main (by exact unhide HM) (by exact unhide HT0) hlen hmf.1 hmf.2).mono ?_
  rintro e w1 h
  have he := h.1
  subst he
  have HT1 := hide h
  clear h
  go_wp2
  go_end0
  exact unhide HT1

set_option maxHeartbeats 1000000 in
set_option maxRecDepth 100000 in
theorem tquery_yes (tl : Nat) (w : World) (o : Out) (lo b : Nat) (pl : Int) (vw vm : Value) (x : WithX) (main : SelX) (hb : w.heap[b]? = some (.cells #[.int .i64 pl, vw, vm] 180 (0, 0)))
    (hw : WithOk w lo vw x) (hwf : x.Full) (hm : SelOk w lo vm main) (hmf : main.Full) (hT : TL tl w o.1 o.2) (hlen : o.1.length + cost (tkWith x ++ tkSel main) ≤ big) :
    Calls Tryz.prog 37 #[.pointer (some ⟨tl, 0, none⟩), .pointer (some ⟨b, 0, none⟩)] w (Told tl w o (tkWith x ++ tkSel main)) := by
  obtain ⟨bm, hvm⟩ := hm.isP
  obtain ⟨bw, hvw⟩ : ∃ bw, vw = .pointer (some ⟨bw, 0, none⟩) := let ⟨b, _, _, _, h1, _⟩ := hw; ⟨b, h1⟩
  subst hvm hvw
  have HT0 := hide hT
  have HM := hide hm
  have HW := hide hw
  have HB0 := hide hb
  have HLEN := hide hlen
  obtain ⟨kHB0, fHB0⟩ := blk hb
  have zHB0 := lt_of_heap hb
  clear hT hm hw hb hlen
  go_enter Tryz.func37, Tryz.ntmps37
  go_wp2_with fail
  refine (twith_any tl _ o lo _ x (by exact unhide HW) hwf (by exact (unhide HT0)) (by have h2 := unhide HLEN; (try simp only [cost_append] at h2); show _ + cost (tkWith x) ≤ _; omega)).mono ?_
  rintro e w1 h
  have he := h.1
  subst he
  have HT1 : Hid (Told tl w o (tkWith x) _ w1) := h
  have hHB := (h.2.2.keep b _ _ (Nat.zero_le _) (unhide HB0) rfl).trans (unhide HB0)
  obtain ⟨kHB1, fHB1⟩ := blk hHB
  have zHB1 := lt_of_heap hHB
  have HB1 := hide hHB
  clear hHB
  clear h
  go_wp2_with fail
  refine (tsel_any tl _ (layAll o (tkWith x)) lo _ main (by exact (unhide HM).ts (unhide HT1).2.2) (by exact (unhide HT1).2.1) (by have h1 := layAll_len o (tkWith x); have h2 := unhide HLEN; (try simp only [cost_append] at h1 h2); show _ + cost (tkSel main) ≤ _; omega) hmf.1 hmf.2).mono ?_
  rintro e w2 h
  have he := h.1
  subst he
  have HT2 := hide ((unhide HT1).next (m := tkSel main) h)
  have hHB := (h.2.2.keep b _ _ (Nat.zero_le _) (unhide HB1) rfl).trans (unhide HB1)
  obtain ⟨kHB2, fHB2⟩ := blk hHB
  have zHB2 := lt_of_heap hHB
  have HB2 := hide hHB
  clear hHB
  clear h
  go_wp2
  go_end0
  exact unhide HT2

theorem tquery_any (tl : Nat) (w : World) (o : Out) (lo : Nat) (v : Value) (x : QueryX) (h : QueryOk w lo v x) (hf : x.Full) (hT : TL tl w o.1 o.2) (hlen : o.1.length + cost (tkQuery x) ≤ big) :
    Calls Tryz.prog 37 #[.pointer (some ⟨tl, 0, none⟩), v] w (Told tl w o (tkQuery x)) := by
  obtain ⟨pl, wt, main⟩ := x
  obtain ⟨b, vw, vm, rfl, _, hb, hw, hm⟩ := h
  match wt, hw, hf, hlen with
  | none, hw, hf, hlen =>
    have e : vw = .pointer none := hw
    subst e
    exact tquery_no tl w o lo b _ vm main hb hm hf.2 hT hlen
  | some y, hw, hf, hlen => exact tquery_yes tl w o lo b _ vw vm y main hb hw (hf.1 y rfl) hm hf.2 hT hlen
end Go.Proofs.YtfkeddkfegaeiaaGreatDoor
