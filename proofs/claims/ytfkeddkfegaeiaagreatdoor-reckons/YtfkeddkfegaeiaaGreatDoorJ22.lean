/-
  Part 22.
-/
import Derived.Test.YtfkeddkfegaeiaaGreatDoorJ21
namespace Go.Proofs.YtfkeddkfegaeiaaGreatDoor
open Go.RowKit

def tkBy (word : ByteArray) (l : List (List Nd)) : List TT := if l = [] then [] else [tx word, tx ⟨#[98, 121]⟩] ++ commas (l.map tkE)
theorem XsOk.zip {w : World} {lo : Nat} {v : Value} {l : List (List Nd)} (h : XsOk w lo v l) : ∃ es : List (Value × List Nd), w.ownsRow lo 248 1 v es.length (es.flatMap fun t => [t.1]) ∧ es.map (·.2) = l ∧ ∀ e ∈ es, ExIn w (fun k => lo ≤ k) e.1 e.2 := by
  obtain ⟨vs, h1, h2, h3⟩ := h
  have hl : (vs.zip l).length = l.length := by rw [List.length_zip]; omega
  have e1 : (vs.zip l).flatMap (fun t => [t.1]) = vs := by
    have hf : ∀ z : List (Value × List Nd), z.flatMap (fun t => [t.1]) = z.map (·.1) := fun z => by induction z with
      | nil => rfl
      | cons a r ih => rw [List.flatMap_cons, ih]; rfl
    rw [hf]
    exact List.map_fst_zip (by omega)
  refine ⟨vs.zip l, by rw [hl, e1]; exact h1, List.map_snd_zip (by omega), fun e he => ?_⟩
  obtain ⟨i, hi, rfl⟩ := List.mem_iff_getElem.1 he
  rw [List.getElem_zip]
  exact h3 i _ _ (List.getElem?_eq_getElem _) (List.getElem?_eq_getElem _)
theorem commas_zip {es : List (Value × List Nd)} {l : List (List Nd)} (h : es.map (·.2) = l) : commas (es.map tkXs) = commas (l.map tkE) := by
  subst h
  rw [List.map_map]; rfl

set_option maxHeartbeats 1000000 in
set_option maxRecDepth 100000 in
theorem tby_any (tl : Nat) (w : World) (o : Out) (lo : Nat) (v : Value) (l : List (List Nd)) (word : ByteArray) (hx : XsOk w lo v l) (hT : TL tl w o.1 o.2) (hlen : o.1.length + cost (tkBy word l) ≤ big) :
    Calls Tryz.prog 220 #[.pointer (some ⟨tl, 0, none⟩), .string word, v] w (Told tl w o (tkBy word l)) := by
  obtain ⟨es, hrow, hmap, hex⟩ := hx.zip
  obtain ⟨ao, cap, rfl⟩ := row_slice hrow
  have HT0 := hide hT
  have HROW := hide hrow
  have HMAP := hide hmap
  have HEX := hide hex
  clear hT hrow hmap hex hx
  by_cases he : es = []
  · have hl : l = [] := by rw [← unhide HMAP, he]; rfl
    have hn : ¬ 0 < es.length := by rw [he]; simp
    have hn' : decide (0 < ((es.length : Nat) : Int)) = false := by simp; omega
    clear he
    go_enter Tryz.func220, Tryz.ntmps220
    go_wp2
    go_end0
    refine ⟨rfl, ?_, TSt.refl _ _⟩
    unfold tkBy; rw [if_pos hl]; exact unhide HT0
  · have hl : l ≠ [] := fun e => he (by have := unhide HMAP; rw [e] at this; simpa using this)
    have hn : 0 < es.length := List.length_pos_iff.2 he
    have hn' : decide (0 < ((es.length : Nat) : Int)) = true := by simp; omega
    have HLEN := hide hlen
    unfold tkBy at HLEN ⊢
    rw [if_neg hl] at HLEN ⊢
    clear he hl hlen
    go_enter Tryz.func220, Tryz.ntmps220
    go_wp2_with fail
    refine (tokens_new tl _ o _ _ [word, ⟨#[98, 121]⟩] #[.string word, .string ⟨#[98, 121]⟩] (by exact (unhide HT0)) (by have h2 := unhide HLEN; simp only [cost_append] at h2; show _ + cost ([tx word, tx ⟨#[98, 121]⟩]) ≤ _; omega) rfl (by simp) (by simp) rfl).mono ?_
    rintro e w1 h
    have he := h.1
    subst he
    have HT1 : Hid (Told tl w o ([tx word, tx ⟨#[98, 121]⟩]) _ w1) := h
    clear h
    go_wp2_with fail
    refine (tlist_expr tl _ (layAll o ([tx word, tx ⟨#[98, 121]⟩])) lo _ es (by exact ownsRow_keeps (unhide HROW) ((unhide HT1).2.2.keep.mono (fun _ h => h) (Nat.zero_le _)) rfl) hn (fun k => lo ≤ k) (fun e he => (unhide HEX e he).ts (unhide HT1).2.2) (by exact (unhide HT1).2.1) (by rw [commas_zip (unhide HMAP)]; exact (by have h1 := layAll_len o ([tx word, tx ⟨#[98, 121]⟩]); have h2 := unhide HLEN; simp only [cost_append] at h1 h2; show _ + cost (commas (l.map tkE)) ≤ _; omega))).mono ?_
    rintro e w2 h
    have he := h.1
    subst he
    have HT2 := hide ((unhide HT1).next (m := commas (es.map tkXs)) h)
    clear h
    have HF := unhide HT2
    rw [commas_zip (unhide HMAP)] at HF
    have HF' := hide HF
    clear HF
    go_wp2
    go_end0
    exact unhide HF'

def tkOf : Option (List Nd) → List TT
  | none => []
  | some l => tkE l
def tkRows : Option Tk → List TT
  | none => []
  | some t => [tx ⟨#[114, 111, 119, 115]⟩, tx t.text, tx ⟨#[112, 114, 101, 99, 101, 100, 105, 110, 103]⟩]
def tkWin (x : WinA) : List TT := (((((([tx x.call, tx ⟨#[40]⟩] ++ tkOf x.of) ++ [tx ⟨#[41]⟩, tx ⟨#[111, 118, 101, 114]⟩, tx ⟨#[40]⟩]) ++ tkBy ⟨#[112, 97, 114, 116, 105, 116, 105, 111, 110]⟩ x.part) ++ tkBy ⟨#[111, 114, 100, 101, 114]⟩ x.ord) ++ tkRows x.rows) ++ [tx ⟨#[41]⟩])
theorem TSt.keeps {tl lo : Nat} {w w' : World} {S : TypeId → Bool} (h : TSt tl w w') (hS : ∀ t, S t = true → tkT t = true) : Keeps S lo w w' := h.keep.mono hS (Nat.zero_le _)
theorem tkT_of {S : TypeId → Bool} (h1 : S 5 = false) (h2 : S 93 = false) : ∀ t, S t = true → tkT t = true := fun t ht => by
  unfold tkT
  cases h3 : (t == 5) with
  | true => rw [beq_iff_eq.1 h3, h1] at ht; cases ht
  | false =>
    cases h4 : (t == 93) with
    | true => rw [beq_iff_eq.1 h4, h2] at ht; cases ht
    | false => rfl
theorem XsOk.tsx {tl lo : Nat} {w w' : World} {v : Value} {l : List (List Nd)} (h : XsOk w lo v l) (ht : TSt tl w w') : XsOk w' lo v l := h.keep (Nat.le_refl _) (ht.keeps (tkT_of rfl rfl))

set_option maxHeartbeats 2000000 in
set_option maxRecDepth 100000 in
theorem twin_nn (tl : Nat) (w : World) (o : Out) (lo b : Nat) (pl : Int) (call : ByteArray) (ov a d : Value) (part ord : List (List Nd)) (hb : w.heap[b]? = some (.cells #[.int .i64 pl, .string call, ov, a, d, .pointer none] 388 (0, 0)))
    (hov : ov = .nilIface) (ha : XsOk w lo a part) (hd : XsOk w lo d ord) (hT : TL tl w o.1 o.2) (hlen : o.1.length + cost ((((([tx call, tx ⟨#[40]⟩] ++ [tx ⟨#[41]⟩, tx ⟨#[111, 118, 101, 114]⟩, tx ⟨#[40]⟩]) ++ tkBy ⟨#[112, 97, 114, 116, 105, 116, 105, 111, 110]⟩ part) ++ tkBy ⟨#[111, 114, 100, 101, 114]⟩ ord)) ++ [tx ⟨#[41]⟩]) ≤ big) :
    Calls Tryz.prog 161 #[.pointer (some ⟨tl, 0, none⟩), .pointer (some ⟨b, 0, none⟩)] w (Told tl w o ((((([tx call, tx ⟨#[40]⟩] ++ [tx ⟨#[41]⟩, tx ⟨#[111, 118, 101, 114]⟩, tx ⟨#[40]⟩]) ++ tkBy ⟨#[112, 97, 114, 116, 105, 116, 105, 111, 110]⟩ part) ++ tkBy ⟨#[111, 114, 100, 101, 114]⟩ ord)) ++ [tx ⟨#[41]⟩])) := by
  have HT0 := hide hT
  have HLEN := hide hlen
  have HA := hide ha
  have HD := hide hd
  subst hov
  obtain ⟨ga, ca, hva⟩ : ∃ ga ca, a = .slice ga part.length ca := by obtain ⟨vs, h1, _, _⟩ := ha; exact row_slice h1
  obtain ⟨gd, cd, hvd⟩ : ∃ ga ca, d = .slice ga ord.length ca := by obtain ⟨vs, h1, _, _⟩ := hd; exact row_slice h1
  subst hva
  subst hvd
  have HB0 := hide hb
  obtain ⟨kHB0, fHB0⟩ := blk hb
  have zHB0 := lt_of_heap hb
  clear hT hlen ha hd hb
  go_enter Tryz.func161, Tryz.ntmps161
  go_wp2_with fail
  refine (tokens_new tl _ o _ _ [call, ⟨#[40]⟩] #[.string call, .string ⟨#[40]⟩] (by exact (unhide HT0)) (by have h2 := unhide HLEN; simp only [cost_append] at h2; show _ + cost ([tx call, tx ⟨#[40]⟩]) ≤ _; omega) rfl (by simp) (by simp) rfl).mono ?_
  rintro e w1 h
  have he := h.1
  subst he
  have HT1 : Hid (Told tl w o ([tx call, tx ⟨#[40]⟩]) _ w1) := h
  have hHB := (h.2.2.keep b _ _ (Nat.zero_le _) (unhide HB0) rfl).trans (unhide HB0)
  obtain ⟨kHB1, fHB1⟩ := blk hHB
  have zHB1 := lt_of_heap hHB
  have HB1 := hide hHB
  clear hHB
  clear h
  go_wp2_with fail
  refine (tokens_new tl _ (layAll o ([tx call, tx ⟨#[40]⟩])) _ _ [⟨#[41]⟩, ⟨#[111, 118, 101, 114]⟩, ⟨#[40]⟩] #[.string ⟨#[41]⟩, .string ⟨#[111, 118, 101, 114]⟩, .string ⟨#[40]⟩] (by exact (unhide HT1).2.1) (by have h1 := layAll_len o ([tx call, tx ⟨#[40]⟩]); have h2 := unhide HLEN; simp only [cost_append] at h1 h2; show _ + cost ([tx ⟨#[41]⟩, tx ⟨#[111, 118, 101, 114]⟩, tx ⟨#[40]⟩]) ≤ _; omega) rfl (by simp) (by simp) rfl).mono ?_
  rintro e w2 h
  have he := h.1
  subst he
  have HT2 := hide ((unhide HT1).next (m := [tx ⟨#[41]⟩, tx ⟨#[111, 118, 101, 114]⟩, tx ⟨#[40]⟩]) h)
  have hHB := (h.2.2.keep b _ _ (Nat.zero_le _) (unhide HB1) rfl).trans (unhide HB1)
  obtain ⟨kHB2, fHB2⟩ := blk hHB
  have zHB2 := lt_of_heap hHB
  have HB2 := hide hHB
  clear hHB
  clear h
  go_wp2_with fail
  refine (tby_any tl _ (layAll o (([tx call, tx ⟨#[40]⟩] ++ [tx ⟨#[41]⟩, tx ⟨#[111, 118, 101, 114]⟩, tx ⟨#[40]⟩]))) lo _ part ⟨#[112, 97, 114, 116, 105, 116, 105, 111, 110]⟩ (by exact (unhide HA).tsx (unhide HT2).2.2) (by exact (unhide HT2).2.1) (by have h1 := layAll_len o (([tx call, tx ⟨#[40]⟩] ++ [tx ⟨#[41]⟩, tx ⟨#[111, 118, 101, 114]⟩, tx ⟨#[40]⟩])); have h2 := unhide HLEN; simp only [cost_append] at h1 h2; show _ + cost (tkBy ⟨#[112, 97, 114, 116, 105, 116, 105, 111, 110]⟩ part) ≤ _; omega)).mono ?_
  rintro e w3 h
  have he := h.1
  subst he
  have HT3 := hide ((unhide HT2).next (m := tkBy ⟨#[112, 97, 114, 116, 105, 116, 105, 111, 110]⟩ part) h)
  have hHB := (h.2.2.keep b _ _ (Nat.zero_le _) (unhide HB2) rfl).trans (unhide HB2)
  obtain ⟨kHB3, fHB3⟩ := blk hHB
  have zHB3 := lt_of_heap hHB
  have HB3 := hide hHB
  clear hHB
  clear h
  go_wp2_with fail
  refine (tby_any tl _ (layAll o ((([tx call, tx ⟨#[40]⟩] ++ [tx ⟨#[41]⟩, tx ⟨#[111, 118, 101, 114]⟩, tx ⟨#[40]⟩]) ++ tkBy ⟨#[112, 97, 114, 116, 105, 116, 105, 111, 110]⟩ part))) lo _ ord ⟨#[111, 114, 100, 101, 114]⟩ (by exact (unhide HD).tsx (unhide HT3).2.2) (by exact (unhide HT3).2.1) (by have h1 := layAll_len o ((([tx call, tx ⟨#[40]⟩] ++ [tx ⟨#[41]⟩, tx ⟨#[111, 118, 101, 114]⟩, tx ⟨#[40]⟩]) ++ tkBy ⟨#[112, 97, 114, 116, 105, 116, 105, 111, 110]⟩ part)); have h2 := unhide HLEN; simp only [cost_append] at h1 h2; show _ + cost (tkBy ⟨#[111, 114, 100, 101, 114]⟩ ord) ≤ _; omega)).mono ?_
  rintro e w4 h
  have he := h.1
  subst he
  have HT4 := hide ((unhide HT3).next (m := tkBy ⟨#[111, 114, 100, 101, 114]⟩ ord) h)
  have hHB := (h.2.2.keep b _ _ (Nat.zero_le _) (unhide HB3) rfl).trans (unhide HB3)
  obtain ⟨kHB4, fHB4⟩ := blk hHB
  have zHB4 := lt_of_heap hHB
  have HB4 := hide hHB
  clear hHB
  clear h
  go_wp2_with fail
  refine (tokens_new tl _ (layAll o (((([tx call, tx ⟨#[40]⟩] ++ [tx ⟨#[41]⟩, tx ⟨#[111, 118, 101, 114]⟩, tx ⟨#[40]⟩]) ++ tkBy ⟨#[112, 97, 114, 116, 105, 116, 105, 111, 110]⟩ part) ++ tkBy ⟨#[111, 114, 100, 101, 114]⟩ ord))) _ _ [⟨#[41]⟩] #[.string ⟨#[41]⟩] (by exact (unhide HT4).2.1) (by have h1 := layAll_len o (((([tx call, tx ⟨#[40]⟩] ++ [tx ⟨#[41]⟩, tx ⟨#[111, 118, 101, 114]⟩, tx ⟨#[40]⟩]) ++ tkBy ⟨#[112, 97, 114, 116, 105, 116, 105, 111, 110]⟩ part) ++ tkBy ⟨#[111, 114, 100, 101, 114]⟩ ord)); have h2 := unhide HLEN; simp only [cost_append] at h1 h2; show _ + cost ([tx ⟨#[41]⟩]) ≤ _; omega) rfl (by simp) (by simp) rfl).mono ?_
  rintro e w5 h
  have he := h.1
  subst he
  have HT5 := hide ((unhide HT4).next (m := [tx ⟨#[41]⟩]) h)
  have hHB := (h.2.2.keep b _ _ (Nat.zero_le _) (unhide HB4) rfl).trans (unhide HB4)
  obtain ⟨kHB5, fHB5⟩ := blk hHB
  have zHB5 := lt_of_heap hHB
  have HB5 := hide hHB
  clear hHB
  clear h
  go_wp2
  go_end0
  exact unhide HT5

set_option maxHeartbeats 2000000 in
set_option maxRecDepth 100000 in
theorem twin_ns (tl : Nat) (w : World) (o : Out) (lo b : Nat) (pl : Int) (call : ByteArray) (ov a d : Value) (part ord : List (List Nd)) (br : Nat) (rt : Tk) (hb : w.heap[b]? = some (.cells #[.int .i64 pl, .string call, ov, a, d, .pointer (some ⟨br, 0, none⟩)] 388 (0, 0)))
    (hov : ov = .nilIface) (ha : XsOk w lo a part) (hd : XsOk w lo d ord) (hr : w.heap[br]? = some (.cells #[.int .i64 rt.place, .int .i64 rt.value, .string rt.text] 391 (0, 0))) (hT : TL tl w o.1 o.2) (hlen : o.1.length + cost ((((([tx call, tx ⟨#[40]⟩] ++ [tx ⟨#[41]⟩, tx ⟨#[111, 118, 101, 114]⟩, tx ⟨#[40]⟩]) ++ tkBy ⟨#[112, 97, 114, 116, 105, 116, 105, 111, 110]⟩ part) ++ tkBy ⟨#[111, 114, 100, 101, 114]⟩ ord) ++ [tx ⟨#[114, 111, 119, 115]⟩, tx rt.text, tx ⟨#[112, 114, 101, 99, 101, 100, 105, 110, 103]⟩]) ++ [tx ⟨#[41]⟩]) ≤ big) :
    Calls Tryz.prog 161 #[.pointer (some ⟨tl, 0, none⟩), .pointer (some ⟨b, 0, none⟩)] w (Told tl w o ((((([tx call, tx ⟨#[40]⟩] ++ [tx ⟨#[41]⟩, tx ⟨#[111, 118, 101, 114]⟩, tx ⟨#[40]⟩]) ++ tkBy ⟨#[112, 97, 114, 116, 105, 116, 105, 111, 110]⟩ part) ++ tkBy ⟨#[111, 114, 100, 101, 114]⟩ ord) ++ [tx ⟨#[114, 111, 119, 115]⟩, tx rt.text, tx ⟨#[112, 114, 101, 99, 101, 100, 105, 110, 103]⟩]) ++ [tx ⟨#[41]⟩])) := by
  have HT0 := hide hT
  have HLEN := hide hlen
  have HA := hide ha
  have HD := hide hd
  subst hov
  obtain ⟨ga, ca, hva⟩ : ∃ ga ca, a = .slice ga part.length ca := by obtain ⟨vs, h1, _, _⟩ := ha; exact row_slice h1
  obtain ⟨gd, cd, hvd⟩ : ∃ ga ca, d = .slice ga ord.length ca := by obtain ⟨vs, h1, _, _⟩ := hd; exact row_slice h1
  subst hva
  subst hvd
  have HB0 := hide hb
  obtain ⟨kHB0, fHB0⟩ := blk hb
  have zHB0 := lt_of_heap hb
  have HR0 := hide hr
  obtain ⟨kHR0, fHR0⟩ := blk hr
  have zHR0 := lt_of_heap hr
  clear hT hlen ha hd hb hr
  go_enter Tryz.func161, Tryz.ntmps161
  go_wp2_with fail
  refine (tokens_new tl _ o _ _ [call, ⟨#[40]⟩] #[.string call, .string ⟨#[40]⟩] (by exact (unhide HT0)) (by have h2 := unhide HLEN; simp only [cost_append] at h2; show _ + cost ([tx call, tx ⟨#[40]⟩]) ≤ _; omega) rfl (by simp) (by simp) rfl).mono ?_
  rintro e w1 h
  have he := h.1
  subst he
  have HT1 : Hid (Told tl w o ([tx call, tx ⟨#[40]⟩]) _ w1) := h
  have hHB := (h.2.2.keep b _ _ (Nat.zero_le _) (unhide HB0) rfl).trans (unhide HB0)
  obtain ⟨kHB1, fHB1⟩ := blk hHB
  have zHB1 := lt_of_heap hHB
  have HB1 := hide hHB
  clear hHB
  have hHR := (h.2.2.keep br _ _ (Nat.zero_le _) (unhide HR0) rfl).trans (unhide HR0)
  obtain ⟨kHR1, fHR1⟩ := blk hHR
  have zHR1 := lt_of_heap hHR
  have HR1 := hide hHR
  clear hHR
  clear h
  go_wp2_with fail
  refine (tokens_new tl _ (layAll o ([tx call, tx ⟨#[40]⟩])) _ _ [⟨#[41]⟩, ⟨#[111, 118, 101, 114]⟩, ⟨#[40]⟩] #[.string ⟨#[41]⟩, .string ⟨#[111, 118, 101, 114]⟩, .string ⟨#[40]⟩] (by exact (unhide HT1).2.1) (by have h1 := layAll_len o ([tx call, tx ⟨#[40]⟩]); have h2 := unhide HLEN; simp only [cost_append] at h1 h2; show _ + cost ([tx ⟨#[41]⟩, tx ⟨#[111, 118, 101, 114]⟩, tx ⟨#[40]⟩]) ≤ _; omega) rfl (by simp) (by simp) rfl).mono ?_
  rintro e w2 h
  have he := h.1
  subst he
  have HT2 := hide ((unhide HT1).next (m := [tx ⟨#[41]⟩, tx ⟨#[111, 118, 101, 114]⟩, tx ⟨#[40]⟩]) h)
  have hHB := (h.2.2.keep b _ _ (Nat.zero_le _) (unhide HB1) rfl).trans (unhide HB1)
  obtain ⟨kHB2, fHB2⟩ := blk hHB
  have zHB2 := lt_of_heap hHB
  have HB2 := hide hHB
  clear hHB
  have hHR := (h.2.2.keep br _ _ (Nat.zero_le _) (unhide HR1) rfl).trans (unhide HR1)
  obtain ⟨kHR2, fHR2⟩ := blk hHR
  have zHR2 := lt_of_heap hHR
  have HR2 := hide hHR
  clear hHR
  clear h
  go_wp2_with fail
  refine (tby_any tl _ (layAll o (([tx call, tx ⟨#[40]⟩] ++ [tx ⟨#[41]⟩, tx ⟨#[111, 118, 101, 114]⟩, tx ⟨#[40]⟩]))) lo _ part ⟨#[112, 97, 114, 116, 105, 116, 105, 111, 110]⟩ (by exact (unhide HA).tsx (unhide HT2).2.2) (by exact (unhide HT2).2.1) (by have h1 := layAll_len o (([tx call, tx ⟨#[40]⟩] ++ [tx ⟨#[41]⟩, tx ⟨#[111, 118, 101, 114]⟩, tx ⟨#[40]⟩])); have h2 := unhide HLEN; simp only [cost_append] at h1 h2; show _ + cost (tkBy ⟨#[112, 97, 114, 116, 105, 116, 105, 111, 110]⟩ part) ≤ _; omega)).mono ?_
  rintro e w3 h
  have he := h.1
  subst he
  have HT3 := hide ((unhide HT2).next (m := tkBy ⟨#[112, 97, 114, 116, 105, 116, 105, 111, 110]⟩ part) h)
  have hHB := (h.2.2.keep b _ _ (Nat.zero_le _) (unhide HB2) rfl).trans (unhide HB2)
  obtain ⟨kHB3, fHB3⟩ := blk hHB
  have zHB3 := lt_of_heap hHB
  have HB3 := hide hHB
  clear hHB
  have hHR := (h.2.2.keep br _ _ (Nat.zero_le _) (unhide HR2) rfl).trans (unhide HR2)
  obtain ⟨kHR3, fHR3⟩ := blk hHR
  have zHR3 := lt_of_heap hHR
  have HR3 := hide hHR
  clear hHR
  clear h
  go_wp2_with fail
  refine (tby_any tl _ (layAll o ((([tx call, tx ⟨#[40]⟩] ++ [tx ⟨#[41]⟩, tx ⟨#[111, 118, 101, 114]⟩, tx ⟨#[40]⟩]) ++ tkBy ⟨#[112, 97, 114, 116, 105, 116, 105, 111, 110]⟩ part))) lo _ ord ⟨#[111, 114, 100, 101, 114]⟩ (by exact (unhide HD).tsx (unhide HT3).2.2) (by exact (unhide HT3).2.1) (by have h1 := layAll_len o ((([tx call, tx ⟨#[40]⟩] ++ [tx ⟨#[41]⟩, tx ⟨#[111, 118, 101, 114]⟩, tx ⟨#[40]⟩]) ++ tkBy ⟨#[112, 97, 114, 116, 105, 116, 105, 111, 110]⟩ part)); have h2 := unhide HLEN; simp only [cost_append] at h1 h2; show _ + cost (tkBy ⟨#[111, 114, 100, 101, 114]⟩ ord) ≤ _; omega)).mono ?_
  rintro e w4 h
  have he := h.1
  subst he
  have HT4 := hide ((unhide HT3).next (m := tkBy ⟨#[111, 114, 100, 101, 114]⟩ ord) h)
  have hHB := (h.2.2.keep b _ _ (Nat.zero_le _) (unhide HB3) rfl).trans (unhide HB3)
  obtain ⟨kHB4, fHB4⟩ := blk hHB
  have zHB4 := lt_of_heap hHB
  have HB4 := hide hHB
  clear hHB
  have hHR := (h.2.2.keep br _ _ (Nat.zero_le _) (unhide HR3) rfl).trans (unhide HR3)
  obtain ⟨kHR4, fHR4⟩ := blk hHR
  have zHR4 := lt_of_heap hHR
  have HR4 := hide hHR
  clear hHR
  clear h
  go_wp2_with fail
  refine (tokens_new tl _ (layAll o (((([tx call, tx ⟨#[40]⟩] ++ [tx ⟨#[41]⟩, tx ⟨#[111, 118, 101, 114]⟩, tx ⟨#[40]⟩]) ++ tkBy ⟨#[112, 97, 114, 116, 105, 116, 105, 111, 110]⟩ part) ++ tkBy ⟨#[111, 114, 100, 101, 114]⟩ ord))) _ _ [⟨#[114, 111, 119, 115]⟩, rt.text, ⟨#[112, 114, 101, 99, 101, 100, 105, 110, 103]⟩] #[.string ⟨#[114, 111, 119, 115]⟩, .string rt.text, .string ⟨#[112, 114, 101, 99, 101, 100, 105, 110, 103]⟩] (by exact (unhide HT4).2.1) (by have h1 := layAll_len o (((([tx call, tx ⟨#[40]⟩] ++ [tx ⟨#[41]⟩, tx ⟨#[111, 118, 101, 114]⟩, tx ⟨#[40]⟩]) ++ tkBy ⟨#[112, 97, 114, 116, 105, 116, 105, 111, 110]⟩ part) ++ tkBy ⟨#[111, 114, 100, 101, 114]⟩ ord)); have h2 := unhide HLEN; simp only [cost_append] at h1 h2; show _ + cost ([tx ⟨#[114, 111, 119, 115]⟩, tx rt.text, tx ⟨#[112, 114, 101, 99, 101, 100, 105, 110, 103]⟩]) ≤ _; omega) rfl (by simp) (by simp) rfl).mono ?_
  rintro e w5 h
  have he := h.1
  subst he
  have HT5 := hide ((unhide HT4).next (m := [tx ⟨#[114, 111, 119, 115]⟩, tx rt.text, tx ⟨#[112, 114, 101, 99, 101, 100, 105, 110, 103]⟩]) h)
  have hHB := (h.2.2.keep b _ _ (Nat.zero_le _) (unhide HB4) rfl).trans (unhide HB4)
  obtain ⟨kHB5, fHB5⟩ := blk hHB
  have zHB5 := lt_of_heap hHB
  have HB5 := hide hHB
  clear hHB
  have hHR := (h.2.2.keep br _ _ (Nat.zero_le _) (unhide HR4) rfl).trans (unhide HR4)
  obtain ⟨kHR5, fHR5⟩ := blk hHR
  have zHR5 := lt_of_heap hHR
  have HR5 := hide hHR
  clear hHR
  clear h
  go_wp2_with fail
  refine (tokens_new tl _ (layAll o ((((([tx call, tx ⟨#[40]⟩] ++ [tx ⟨#[41]⟩, tx ⟨#[111, 118, 101, 114]⟩, tx ⟨#[40]⟩]) ++ tkBy ⟨#[112, 97, 114, 116, 105, 116, 105, 111, 110]⟩ part) ++ tkBy ⟨#[111, 114, 100, 101, 114]⟩ ord) ++ [tx ⟨#[114, 111, 119, 115]⟩, tx rt.text, tx ⟨#[112, 114, 101, 99, 101, 100, 105, 110, 103]⟩]))) _ _ [⟨#[41]⟩] #[.string ⟨#[41]⟩] (by exact (unhide HT5).2.1) (by have h1 := layAll_len o ((((([tx call, tx ⟨#[40]⟩] ++ [tx ⟨#[41]⟩, tx ⟨#[111, 118, 101, 114]⟩, tx ⟨#[40]⟩]) ++ tkBy ⟨#[112, 97, 114, 116, 105, 116, 105, 111, 110]⟩ part) ++ tkBy ⟨#[111, 114, 100, 101, 114]⟩ ord) ++ [tx ⟨#[114, 111, 119, 115]⟩, tx rt.text, tx ⟨#[112, 114, 101, 99, 101, 100, 105, 110, 103]⟩])); have h2 := unhide HLEN; simp only [cost_append] at h1 h2; show _ + cost ([tx ⟨#[41]⟩]) ≤ _; omega) rfl (by simp) (by simp) rfl).mono ?_
  rintro e w6 h
  have he := h.1
  subst he
  have HT6 := hide ((unhide HT5).next (m := [tx ⟨#[41]⟩]) h)
  have hHB := (h.2.2.keep b _ _ (Nat.zero_le _) (unhide HB5) rfl).trans (unhide HB5)
  obtain ⟨kHB6, fHB6⟩ := blk hHB
  have zHB6 := lt_of_heap hHB
  have HB6 := hide hHB
  clear hHB
  have hHR := (h.2.2.keep br _ _ (Nat.zero_le _) (unhide HR5) rfl).trans (unhide HR5)
  obtain ⟨kHR6, fHR6⟩ := blk hHR
  have zHR6 := lt_of_heap hHR
  have HR6 := hide hHR
  clear hHR
  clear h
  go_wp2
  go_end0
  exact unhide HT6

set_option maxHeartbeats 2000000 in
set_option maxRecDepth 100000 in
theorem twin_sn (tl : Nat) (w : World) (o : Out) (lo b : Nat) (pl : Int) (call : ByteArray) (ov a d : Value) (part ord : List (List Nd)) (ol : List Nd) (hb : w.heap[b]? = some (.cells #[.int .i64 pl, .string call, ov, a, d, .pointer none] 388 (0, 0)))
    (hov : ExOk w lo ov ol) (ha : XsOk w lo a part) (hd : XsOk w lo d ord) (hT : TL tl w o.1 o.2) (hlen : o.1.length + cost (((((([tx call, tx ⟨#[40]⟩] ++ tkE ol) ++ [tx ⟨#[41]⟩, tx ⟨#[111, 118, 101, 114]⟩, tx ⟨#[40]⟩]) ++ tkBy ⟨#[112, 97, 114, 116, 105, 116, 105, 111, 110]⟩ part) ++ tkBy ⟨#[111, 114, 100, 101, 114]⟩ ord)) ++ [tx ⟨#[41]⟩]) ≤ big) :
    Calls Tryz.prog 161 #[.pointer (some ⟨tl, 0, none⟩), .pointer (some ⟨b, 0, none⟩)] w (Told tl w o (((((([tx call, tx ⟨#[40]⟩] ++ tkE ol) ++ [tx ⟨#[41]⟩, tx ⟨#[111, 118, 101, 114]⟩, tx ⟨#[40]⟩]) ++ tkBy ⟨#[112, 97, 114, 116, 105, 116, 105, 111, 110]⟩ part) ++ tkBy ⟨#[111, 114, 100, 101, 114]⟩ ord)) ++ [tx ⟨#[41]⟩])) := by
  have HT0 := hide hT
  have HLEN := hide hlen
  have HA := hide ha
  have HD := hide hd
  obtain ⟨ou, oz, hoz⟩ := ExIn.isI (hov : ExIn w (fun k => lo ≤ k) ov ol)
  subst hoz
  have HOV := hide hov
  obtain ⟨ga, ca, hva⟩ : ∃ ga ca, a = .slice ga part.length ca := by obtain ⟨vs, h1, _, _⟩ := ha; exact row_slice h1
  obtain ⟨gd, cd, hvd⟩ : ∃ ga ca, d = .slice ga ord.length ca := by obtain ⟨vs, h1, _, _⟩ := hd; exact row_slice h1
  subst hva
  subst hvd
  have HB0 := hide hb
  obtain ⟨kHB0, fHB0⟩ := blk hb
  have zHB0 := lt_of_heap hb
  clear hT hlen ha hd hb hov
  go_enter Tryz.func161, Tryz.ntmps161
  go_wp2_with fail
  refine (tokens_new tl _ o _ _ [call, ⟨#[40]⟩] #[.string call, .string ⟨#[40]⟩] (by exact (unhide HT0)) (by have h2 := unhide HLEN; simp only [cost_append] at h2; show _ + cost ([tx call, tx ⟨#[40]⟩]) ≤ _; omega) rfl (by simp) (by simp) rfl).mono ?_
  rintro e w1 h
  have he := h.1
  subst he
  have HT1 : Hid (Told tl w o ([tx call, tx ⟨#[40]⟩]) _ w1) := h
  have hHB := (h.2.2.keep b _ _ (Nat.zero_le _) (unhide HB0) rfl).trans (unhide HB0)
  obtain ⟨kHB1, fHB1⟩ := blk hHB
  have zHB1 := lt_of_heap hHB
  have HB1 := hide hHB
  clear hHB
  clear h
  go_wp2_with fail
  refine (texpr_in tl (fun k => lo ≤ k) _ ol _ (layAll o ([tx call, tx ⟨#[40]⟩])) (by exact (show ExIn w (fun k => lo ≤ k) (.iface ou oz) ol from unhide HOV).ts (unhide HT1).2.2) (by exact (unhide HT1).2.1) (by have h1 := layAll_len o ([tx call, tx ⟨#[40]⟩]); have h2 := unhide HLEN; simp only [cost_append] at h1 h2; show _ + cost (tkE ol) ≤ _; omega)).mono ?_
  rintro e w2 h
  have he := h.1
  subst he
  have HT2 := hide ((unhide HT1).next (m := tkE ol) h)
  have hHB := (h.2.2.keep b _ _ (Nat.zero_le _) (unhide HB1) rfl).trans (unhide HB1)
  obtain ⟨kHB2, fHB2⟩ := blk hHB
  have zHB2 := lt_of_heap hHB
  have HB2 := hide hHB
  clear hHB
  clear h
  go_wp2_with fail
  refine (tokens_new tl _ (layAll o (([tx call, tx ⟨#[40]⟩] ++ tkE ol))) _ _ [⟨#[41]⟩, ⟨#[111, 118, 101, 114]⟩, ⟨#[40]⟩] #[.string ⟨#[41]⟩, .string ⟨#[111, 118, 101, 114]⟩, .string ⟨#[40]⟩] (by exact (unhide HT2).2.1) (by have h1 := layAll_len o (([tx call, tx ⟨#[40]⟩] ++ tkE ol)); have h2 := unhide HLEN; simp only [cost_append] at h1 h2; show _ + cost ([tx ⟨#[41]⟩, tx ⟨#[111, 118, 101, 114]⟩, tx ⟨#[40]⟩]) ≤ _; omega) rfl (by simp) (by simp) rfl).mono ?_
  rintro e w3 h
  have he := h.1
  subst he
  have HT3 := hide ((unhide HT2).next (m := [tx ⟨#[41]⟩, tx ⟨#[111, 118, 101, 114]⟩, tx ⟨#[40]⟩]) h)
  have hHB := (h.2.2.keep b _ _ (Nat.zero_le _) (unhide HB2) rfl).trans (unhide HB2)
  obtain ⟨kHB3, fHB3⟩ := blk hHB
  have zHB3 := lt_of_heap hHB
  have HB3 := hide hHB
  clear hHB
  clear h
  go_wp2_with fail
  refine (tby_any tl _ (layAll o ((([tx call, tx ⟨#[40]⟩] ++ tkE ol) ++ [tx ⟨#[41]⟩, tx ⟨#[111, 118, 101, 114]⟩, tx ⟨#[40]⟩]))) lo _ part ⟨#[112, 97, 114, 116, 105, 116, 105, 111, 110]⟩ (by exact (unhide HA).tsx (unhide HT3).2.2) (by exact (unhide HT3).2.1) (by have h1 := layAll_len o ((([tx call, tx ⟨#[40]⟩] ++ tkE ol) ++ [tx ⟨#[41]⟩, tx ⟨#[111, 118, 101, 114]⟩, tx ⟨#[40]⟩])); have h2 := unhide HLEN; simp only [cost_append] at h1 h2; show _ + cost (tkBy ⟨#[112, 97, 114, 116, 105, 116, 105, 111, 110]⟩ part) ≤ _; omega)).mono ?_
  rintro e w4 h
  have he := h.1
  subst he
  have HT4 := hide ((unhide HT3).next (m := tkBy ⟨#[112, 97, 114, 116, 105, 116, 105, 111, 110]⟩ part) h)
  have hHB := (h.2.2.keep b _ _ (Nat.zero_le _) (unhide HB3) rfl).trans (unhide HB3)
  obtain ⟨kHB4, fHB4⟩ := blk hHB
  have zHB4 := lt_of_heap hHB
  have HB4 := hide hHB
  clear hHB
  clear h
  go_wp2_with fail
  refine (tby_any tl _ (layAll o (((([tx call, tx ⟨#[40]⟩] ++ tkE ol) ++ [tx ⟨#[41]⟩, tx ⟨#[111, 118, 101, 114]⟩, tx ⟨#[40]⟩]) ++ tkBy ⟨#[112, 97, 114, 116, 105, 116, 105, 111, 110]⟩ part))) lo _ ord ⟨#[111, 114, 100, 101, 114]⟩ (by exact (unhide HD).tsx (unhide HT4).2.2) (by exact (unhide HT4).2.1) (by have h1 := layAll_len o (((([tx call, tx ⟨#[40]⟩] ++ tkE ol) ++ [tx ⟨#[41]⟩, tx ⟨#[111, 118, 101, 114]⟩, tx ⟨#[40]⟩]) ++ tkBy ⟨#[112, 97, 114, 116, 105, 116, 105, 111, 110]⟩ part)); have h2 := unhide HLEN; simp only [cost_append] at h1 h2; show _ + cost (tkBy ⟨#[111, 114, 100, 101, 114]⟩ ord) ≤ _; omega)).mono ?_
  rintro e w5 h
  have he := h.1
  subst he
  have HT5 := hide ((unhide HT4).next (m := tkBy ⟨#[111, 114, 100, 101, 114]⟩ ord) h)
  have hHB := (h.2.2.keep b _ _ (Nat.zero_le _) (unhide HB4) rfl).trans (unhide HB4)
  obtain ⟨kHB5, fHB5⟩ := blk hHB
  have zHB5 := lt_of_heap hHB
  have HB5 := hide hHB
  clear hHB
  clear h
  go_wp2_with fail
  refine (tokens_new tl _ (layAll o ((((([tx call, tx ⟨#[40]⟩] ++ tkE ol) ++ [tx ⟨#[41]⟩, tx ⟨#[111, 118, 101, 114]⟩, tx ⟨#[40]⟩]) ++ tkBy ⟨#[112, 97, 114, 116, 105, 116, 105, 111, 110]⟩ part) ++ tkBy ⟨#[111, 114, 100, 101, 114]⟩ ord))) _ _ [⟨#[41]⟩] #[.string ⟨#[41]⟩] (by exact (unhide HT5).2.1) (by have h1 := layAll_len o ((((([tx call, tx ⟨#[40]⟩] ++ tkE ol) ++ [tx ⟨#[41]⟩, tx ⟨#[111, 118, 101, 114]⟩, tx ⟨#[40]⟩]) ++ tkBy ⟨#[112, 97, 114, 116, 105, 116, 105, 111, 110]⟩ part) ++ tkBy ⟨#[111, 114, 100, 101, 114]⟩ ord)); have h2 := unhide HLEN; simp only [cost_append] at h1 h2; show _ + cost ([tx ⟨#[41]⟩]) ≤ _; omega) rfl (by simp) (by simp) rfl).mono ?_
  rintro e w6 h
  have he := h.1
  subst he
  have HT6 := hide ((unhide HT5).next (m := [tx ⟨#[41]⟩]) h)
  have hHB := (h.2.2.keep b _ _ (Nat.zero_le _) (unhide HB5) rfl).trans (unhide HB5)
  obtain ⟨kHB6, fHB6⟩ := blk hHB
  have zHB6 := lt_of_heap hHB
  have HB6 := hide hHB
  clear hHB
  clear h
  go_wp2
  go_end0
  exact unhide HT6

set_option maxHeartbeats 2000000 in
set_option maxRecDepth 100000 in
theorem twin_ss (tl : Nat) (w : World) (o : Out) (lo b : Nat) (pl : Int) (call : ByteArray) (ov a d : Value) (part ord : List (List Nd)) (ol : List Nd) (br : Nat) (rt : Tk) (hb : w.heap[b]? = some (.cells #[.int .i64 pl, .string call, ov, a, d, .pointer (some ⟨br, 0, none⟩)] 388 (0, 0)))
    (hov : ExOk w lo ov ol) (ha : XsOk w lo a part) (hd : XsOk w lo d ord) (hr : w.heap[br]? = some (.cells #[.int .i64 rt.place, .int .i64 rt.value, .string rt.text] 391 (0, 0))) (hT : TL tl w o.1 o.2) (hlen : o.1.length + cost (((((([tx call, tx ⟨#[40]⟩] ++ tkE ol) ++ [tx ⟨#[41]⟩, tx ⟨#[111, 118, 101, 114]⟩, tx ⟨#[40]⟩]) ++ tkBy ⟨#[112, 97, 114, 116, 105, 116, 105, 111, 110]⟩ part) ++ tkBy ⟨#[111, 114, 100, 101, 114]⟩ ord) ++ [tx ⟨#[114, 111, 119, 115]⟩, tx rt.text, tx ⟨#[112, 114, 101, 99, 101, 100, 105, 110, 103]⟩]) ++ [tx ⟨#[41]⟩]) ≤ big) :
    Calls Tryz.prog 161 #[.pointer (some ⟨tl, 0, none⟩), .pointer (some ⟨b, 0, none⟩)] w (Told tl w o (((((([tx call, tx ⟨#[40]⟩] ++ tkE ol) ++ [tx ⟨#[41]⟩, tx ⟨#[111, 118, 101, 114]⟩, tx ⟨#[40]⟩]) ++ tkBy ⟨#[112, 97, 114, 116, 105, 116, 105, 111, 110]⟩ part) ++ tkBy ⟨#[111, 114, 100, 101, 114]⟩ ord) ++ [tx ⟨#[114, 111, 119, 115]⟩, tx rt.text, tx ⟨#[112, 114, 101, 99, 101, 100, 105, 110, 103]⟩]) ++ [tx ⟨#[41]⟩])) := by
  have HT0 := hide hT
  have HLEN := hide hlen
  have HA := hide ha
  have HD := hide hd
  obtain ⟨ou, oz, hoz⟩ := ExIn.isI (hov : ExIn w (fun k => lo ≤ k) ov ol)
  subst hoz
  have HOV := hide hov
  obtain ⟨ga, ca, hva⟩ : ∃ ga ca, a = .slice ga part.length ca := by obtain ⟨vs, h1, _, _⟩ := ha; exact row_slice h1
  obtain ⟨gd, cd, hvd⟩ : ∃ ga ca, d = .slice ga ord.length ca := by obtain ⟨vs, h1, _, _⟩ := hd; exact row_slice h1
  subst hva
  subst hvd
  have HB0 := hide hb
  obtain ⟨kHB0, fHB0⟩ := blk hb
  have zHB0 := lt_of_heap hb
  have HR0 := hide hr
  obtain ⟨kHR0, fHR0⟩ := blk hr
  have zHR0 := lt_of_heap hr
  clear hT hlen ha hd hb hov hr
  go_enter Tryz.func161, Tryz.ntmps161
  go_wp2_with fail
  refine (tokens_new tl _ o _ _ [call, ⟨#[40]⟩] #[.string call, .string ⟨#[40]⟩] (by exact (unhide HT0)) (by have h2 := unhide HLEN; simp only [cost_append] at h2; show _ + cost ([tx call, tx ⟨#[40]⟩]) ≤ _; omega) rfl (by simp) (by simp) rfl).mono ?_
  rintro e w1 h
  have he := h.1
  subst he
  have HT1 : Hid (Told tl w o ([tx call, tx ⟨#[40]⟩]) _ w1) := h
  have hHB := (h.2.2.keep b _ _ (Nat.zero_le _) (unhide HB0) rfl).trans (unhide HB0)
  obtain ⟨kHB1, fHB1⟩ := blk hHB
  have zHB1 := lt_of_heap hHB
  have HB1 := hide hHB
  clear hHB
  have hHR := (h.2.2.keep br _ _ (Nat.zero_le _) (unhide HR0) rfl).trans (unhide HR0)
  obtain ⟨kHR1, fHR1⟩ := blk hHR
  have zHR1 := lt_of_heap hHR
  have HR1 := hide hHR
  clear hHR
  clear h
  go_wp2_with fail
  refine (texpr_in tl (fun k => lo ≤ k) _ ol _ (layAll o ([tx call, tx ⟨#[40]⟩])) (by exact (show ExIn w (fun k => lo ≤ k) (.iface ou oz) ol from unhide HOV).ts (unhide HT1).2.2) (by exact (unhide HT1).2.1) (by have h1 := layAll_len o ([tx call, tx ⟨#[40]⟩]); have h2 := unhide HLEN; simp only [cost_append] at h1 h2; show _ + cost (tkE ol) ≤ _; omega)).mono ?_
  rintro e w2 h
  have he := h.1
  subst he
  have HT2 := hide ((unhide HT1).next (m := tkE ol) h)
  have hHB := (h.2.2.keep b _ _ (Nat.zero_le _) (unhide HB1) rfl).trans (unhide HB1)
  obtain ⟨kHB2, fHB2⟩ := blk hHB
  have zHB2 := lt_of_heap hHB
  have HB2 := hide hHB
  clear hHB
  have hHR := (h.2.2.keep br _ _ (Nat.zero_le _) (unhide HR1) rfl).trans (unhide HR1)
  obtain ⟨kHR2, fHR2⟩ := blk hHR
  have zHR2 := lt_of_heap hHR
  have HR2 := hide hHR
  clear hHR
  clear h
  go_wp2_with fail
  refine (tokens_new tl _ (layAll o (([tx call, tx ⟨#[40]⟩] ++ tkE ol))) _ _ [⟨#[41]⟩, ⟨#[111, 118, 101, 114]⟩, ⟨#[40]⟩] #[.string ⟨#[41]⟩, .string ⟨#[111, 118, 101, 114]⟩, .string ⟨#[40]⟩] (by exact (unhide HT2).2.1) (by have h1 := layAll_len o (([tx call, tx ⟨#[40]⟩] ++ tkE ol)); have h2 := unhide HLEN; simp only [cost_append] at h1 h2; show _ + cost ([tx ⟨#[41]⟩, tx ⟨#[111, 118, 101, 114]⟩, tx ⟨#[40]⟩]) ≤ _; omega) rfl (by simp) (by simp) rfl).mono ?_
  rintro e w3 h
  have he := h.1
  subst he
  have HT3 := hide ((unhide HT2).next (m := [tx ⟨#[41]⟩, tx ⟨#[111, 118, 101, 114]⟩, tx ⟨#[40]⟩]) h)
  have hHB := (h.2.2.keep b _ _ (Nat.zero_le _) (unhide HB2) rfl).trans (unhide HB2)
  obtain ⟨kHB3, fHB3⟩ := blk hHB
  have zHB3 := lt_of_heap hHB
  have HB3 := hide hHB
  clear hHB
  have hHR := (h.2.2.keep br _ _ (Nat.zero_le _) (unhide HR2) rfl).trans (unhide HR2)
  obtain ⟨kHR3, fHR3⟩ := blk hHR
  have zHR3 := lt_of_heap hHR
  have HR3 := hide hHR
  clear hHR
  clear h
  go_wp2_with fail
  refine (tby_any tl _ (layAll o ((([tx call, tx ⟨#[40]⟩] ++ tkE ol) ++ [tx ⟨#[41]⟩, tx ⟨#[111, 118, 101, 114]⟩, tx ⟨#[40]⟩]))) lo _ part ⟨#[112, 97, 114, 116, 105, 116, 105, 111, 110]⟩ (by exact (unhide HA).tsx (unhide HT3).2.2) (by exact (unhide HT3).2.1) (by have h1 := layAll_len o ((([tx call, tx ⟨#[40]⟩] ++ tkE ol) ++ [tx ⟨#[41]⟩, tx ⟨#[111, 118, 101, 114]⟩, tx ⟨#[40]⟩])); have h2 := unhide HLEN; simp only [cost_append] at h1 h2; show _ + cost (tkBy ⟨#[112, 97, 114, 116, 105, 116, 105, 111, 110]⟩ part) ≤ _; omega)).mono ?_
  rintro e w4 h
  have he := h.1
  subst he
  have HT4 := hide ((unhide HT3).next (m := tkBy ⟨#[112, 97, 114, 116, 105, 116, 105, 111, 110]⟩ part) h)
  have hHB := (h.2.2.keep b _ _ (Nat.zero_le _) (unhide HB3) rfl).trans (unhide HB3)
  obtain ⟨kHB4, fHB4⟩ := blk hHB
  have zHB4 := lt_of_heap hHB
  have HB4 := hide hHB
  clear hHB
  have hHR := (h.2.2.keep br _ _ (Nat.zero_le _) (unhide HR3) rfl).trans (unhide HR3)
  obtain ⟨kHR4, fHR4⟩ := blk hHR
  have zHR4 := lt_of_heap hHR
  have HR4 := hide hHR
  clear hHR
  clear h
  go_wp2_with fail
  refine (tby_any tl _ (layAll o (((([tx call, tx ⟨#[40]⟩] ++ tkE ol) ++ [tx ⟨#[41]⟩, tx ⟨#[111, 118, 101, 114]⟩, tx ⟨#[40]⟩]) ++ tkBy ⟨#[112, 97, 114, 116, 105, 116, 105, 111, 110]⟩ part))) lo _ ord ⟨#[111, 114, 100, 101, 114]⟩ (by exact (unhide HD).tsx (unhide HT4).2.2) (by exact (unhide HT4).2.1) (by have h1 := layAll_len o (((([tx call, tx ⟨#[40]⟩] ++ tkE ol) ++ [tx ⟨#[41]⟩, tx ⟨#[111, 118, 101, 114]⟩, tx ⟨#[40]⟩]) ++ tkBy ⟨#[112, 97, 114, 116, 105, 116, 105, 111, 110]⟩ part)); have h2 := unhide HLEN; simp only [cost_append] at h1 h2; show _ + cost (tkBy ⟨#[111, 114, 100, 101, 114]⟩ ord) ≤ _; omega)).mono ?_
  rintro e w5 h
  have he := h.1
  subst he
  have HT5 := hide ((unhide HT4).next (m := tkBy ⟨#[111, 114, 100, 101, 114]⟩ ord) h)
  have hHB := (h.2.2.keep b _ _ (Nat.zero_le _) (unhide HB4) rfl).trans (unhide HB4)
  obtain ⟨kHB5, fHB5⟩ := blk hHB
  have zHB5 := lt_of_heap hHB
  have HB5 := hide hHB
  clear hHB
  have hHR := (h.2.2.keep br _ _ (Nat.zero_le _) (unhide HR4) rfl).trans (unhide HR4)
  obtain ⟨kHR5, fHR5⟩ := blk hHR
  have zHR5 := lt_of_heap hHR
  have HR5 := hide hHR
  clear hHR
  clear h
  go_wp2_with fail
  refine (tokens_new tl _ (layAll o ((((([tx call, tx ⟨#[40]⟩] ++ tkE ol) ++ [tx ⟨#[41]⟩, tx ⟨#[111, 118, 101, 114]⟩, tx ⟨#[40]⟩]) ++ tkBy ⟨#[112, 97, 114, 116, 105, 116, 105, 111, 110]⟩ part) ++ tkBy ⟨#[111, 114, 100, 101, 114]⟩ ord))) _ _ [⟨#[114, 111, 119, 115]⟩, rt.text, ⟨#[112, 114, 101, 99, 101, 100, 105, 110, 103]⟩] #[.string ⟨#[114, 111, 119, 115]⟩, .string rt.text, .string ⟨#[112, 114, 101, 99, 101, 100, 105, 110, 103]⟩] (by exact (unhide HT5).2.1) (by have h1 := layAll_len o ((((([tx call, tx ⟨#[40]⟩] ++ tkE ol) ++ [tx ⟨#[41]⟩, tx ⟨#[111, 118, 101, 114]⟩, tx ⟨#[40]⟩]) ++ tkBy ⟨#[112, 97, 114, 116, 105, 116, 105, 111, 110]⟩ part) ++ tkBy ⟨#[111, 114, 100, 101, 114]⟩ ord)); have h2 := unhide HLEN; simp only [cost_append] at h1 h2; show _ + cost ([tx ⟨#[114, 111, 119, 115]⟩, tx rt.text, tx ⟨#[112, 114, 101, 99, 101, 100, 105, 110, 103]⟩]) ≤ _; omega) rfl (by simp) (by simp) rfl).mono ?_
  rintro e w6 h
  have he := h.1
  subst he
  have HT6 := hide ((unhide HT5).next (m := [tx ⟨#[114, 111, 119, 115]⟩, tx rt.text, tx ⟨#[112, 114, 101, 99, 101, 100, 105, 110, 103]⟩]) h)
  have hHB := (h.2.2.keep b _ _ (Nat.zero_le _) (unhide HB5) rfl).trans (unhide HB5)
  obtain ⟨kHB6, fHB6⟩ := blk hHB
  have zHB6 := lt_of_heap hHB
  have HB6 := hide hHB
  clear hHB
  have hHR := (h.2.2.keep br _ _ (Nat.zero_le _) (unhide HR5) rfl).trans (unhide HR5)
  obtain ⟨kHR6, fHR6⟩ := blk hHR
  have zHR6 := lt_of_heap hHR
  have HR6 := hide hHR
  clear hHR
  clear h
  go_wp2_with fail
  refine (tokens_new tl _ (layAll o (((((([tx call, tx ⟨#[40]⟩] ++ tkE ol) ++ [tx ⟨#[41]⟩, tx ⟨#[111, 118, 101, 114]⟩, tx ⟨#[40]⟩]) ++ tkBy ⟨#[112, 97, 114, 116, 105, 116, 105, 111, 110]⟩ part) ++ tkBy ⟨#[111, 114, 100, 101, 114]⟩ ord) ++ [tx ⟨#[114, 111, 119, 115]⟩, tx rt.text, tx ⟨#[112, 114, 101, 99, 101, 100, 105, 110, 103]⟩]))) _ _ [⟨#[41]⟩] #[.string ⟨#[41]⟩] (by exact (unhide HT6).2.1) (by have h1 := layAll_len o (((((([tx call, tx ⟨#[40]⟩] ++ tkE ol) ++ [tx ⟨#[41]⟩, tx ⟨#[111, 118, 101, 114]⟩, tx ⟨#[40]⟩]) ++ tkBy ⟨#[112, 97, 114, 116, 105, 116, 105, 111, 110]⟩ part) ++ tkBy ⟨#[111, 114, 100, 101, 114]⟩ ord) ++ [tx ⟨#[114, 111, 119, 115]⟩, tx rt.text, tx ⟨#[112, 114, 101, 99, 101, 100, 105, 110, 103]⟩])); have h2 := unhide HLEN; simp only [cost_append] at h1 h2; show _ + cost ([tx ⟨#[41]⟩]) ≤ _; omega) rfl (by simp) (by simp) rfl).mono ?_
  rintro e w7 h
  have he := h.1
  subst he
  have HT7 := hide ((unhide HT6).next (m := [tx ⟨#[41]⟩]) h)
  have hHB := (h.2.2.keep b _ _ (Nat.zero_le _) (unhide HB6) rfl).trans (unhide HB6)
  obtain ⟨kHB7, fHB7⟩ := blk hHB
  have zHB7 := lt_of_heap hHB
  have HB7 := hide hHB
  clear hHB
  have hHR := (h.2.2.keep br _ _ (Nat.zero_le _) (unhide HR6) rfl).trans (unhide HR6)
  obtain ⟨kHR7, fHR7⟩ := blk hHR
  have zHR7 := lt_of_heap hHR
  have HR7 := hide hHR
  clear hHR
  clear h
  go_wp2
  go_end0
  exact unhide HT7

theorem twin_any (tl : Nat) (w : World) (o : Out) (lo : Nat) (v : Value) (x : WinA) (h : WinOk w lo v x) (hT : TL tl w o.1 o.2) (hlen : o.1.length + cost (tkWin x) ≤ big) :
    Calls Tryz.prog 161 #[.pointer (some ⟨tl, 0, none⟩), v] w (Told tl w o (tkWin x)) := by
  obtain ⟨pl, call, of, part, ord, rows⟩ := x
  obtain ⟨b, ov, a, d, r, rfl, _, hb, h1, h2, h3, h4⟩ := h
  match of, rows, h1, h4 with
  | none, none, h1, h4 => 
    have h4' : r = .pointer none := h4
    subst h4'
    have e : ∀ (p : List TT), p ++ [] = p := List.append_nil
    simp only [tkWin, tkOf, tkRows, e] at hlen ⊢
    exact twin_nn tl w o lo b pl call ov a d part ord hb h1 h2 h3 hT hlen
  | none, some t, h1, ⟨br, h4, _, hr⟩ =>
    subst h4
    have e : ∀ (p : List TT), p ++ [] = p := List.append_nil
    simp only [tkWin, tkOf, tkRows, e] at hlen ⊢
    exact twin_ns tl w o lo b pl call ov a d part ord br t hb h1 h2 h3 hr hT hlen
  | some l, none, h1, h4 =>
    have h4' : r = .pointer none := h4
    subst h4'
    have e : ∀ (p : List TT), p ++ [] = p := List.append_nil
    simp only [tkWin, tkOf, tkRows, e] at hlen ⊢
    exact twin_sn tl w o lo b pl call ov a d part ord l hb h1 h2 h3 hT hlen
  | some l, some t, h1, ⟨br, h4, _, hr⟩ =>
    subst h4
    exact twin_ss tl w o lo b pl call ov a d part ord l br t hb h1 h2 h3 hr hT hlen
end Go.Proofs.YtfkeddkfegaeiaaGreatDoor
