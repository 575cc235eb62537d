/-
  Part 24.
-/
import Derived.Test.YtfkeddkfegaeiaaGreatDoorJ23
namespace Go.Proofs.YtfkeddkfegaeiaaGreatDoor
open Go.RowKit

def tkTest (x : TestA) : List TT := tkE x.l ++ tx x.sg :: tkE x.r
def tkTests : List TestA → List TT
  | [] => []
  | x :: r => [tx ⟨#[119, 104, 101, 114, 101]⟩] ++ tkTest x ++ r.flatMap fun y => [tx ⟨#[97, 110, 100]⟩] ++ tkTest y
theorem tkTests_snoc (l : List TestA) (x : TestA) : tkTests (l ++ [x]) = tkTests l ++ ([tx (if l = [] then ⟨#[119, 104, 101, 114, 101]⟩ else ⟨#[97, 110, 100]⟩)] ++ tkTest x) := by
  cases l with
  | nil => simp [tkTests]
  | cons a r => simp [tkTests]
theorem tkTests_grow : ∀ (b a : List TestA), ∃ m, tkTests (a ++ b) = tkTests a ++ m
  | [], a => ⟨[], by simp⟩
  | x :: b, a => by
    obtain ⟨m, hm⟩ := tkTests_grow b (a ++ [x])
    rw [tkTests_snoc] at hm
    exact ⟨_, by rw [show a ++ x :: b = (a ++ [x]) ++ b by simp, hm, List.append_assoc]⟩
def tkU (us : List (TestA × Value × Value)) : List TT := tkTests (us.map (·.1))
theorem tkU_cost (pre suf : List (TestA × Value × Value)) (x : TestA × Value × Value) : cost (tkU (pre ++ [x])) ≤ cost (tkU (pre ++ x :: suf)) := by
  obtain ⟨m, hm⟩ := tkTests_grow (suf.map (·.1)) ((pre ++ [x]).map (·.1))
  unfold tkU
  rw [show (pre ++ x :: suf).map (·.1) = (pre ++ [x]).map (·.1) ++ suf.map (·.1) by simp, hm, cost_append]
  omega
def tkSel (x : SelX) : List TT := (((([tx ⟨#[115, 101, 108, 101, 99, 116]⟩] ++ commas (x.items.map tkItem)) ++ [tx ⟨#[102, 114, 111, 109]⟩]) ++ commas (x.srcs.map tkSrc)) ++ tkTests x.tests)

set_option maxHeartbeats 4000000 in
set_option maxRecDepth 100000 in
theorem tsel_go (tl : Nat) (w : World) (o : Out) (lo b : Nat) (pl : Int) (vi vs vt : Value) (es : List (ItemA × Value × Option Addr)) (srcs : List (Tk × Tk)) (us : List (TestA × Value × Value)) (hb : w.heap[b]? = some (.cells #[.int .i64 pl, vi, vs, vt] 256 (0, 0)))
    (hri : w.ownsRow lo 251 5 vi es.length (itCells es)) (hit : ∀ e ∈ es, ItV w lo e.2.1 (.pointer e.2.2) e.1.win e.1.val) (hip : 0 < es.length) (hrs : w.ownsRow lo 260 5 vs srcs.length (srCells srcs)) (hsp : 0 < srcs.length)
    (hrt : w.ownsRow lo 263 4 vt us.length (tsCells us)) (htt : TsOk w lo vt us) (hT : TL tl w o.1 o.2) (F : List TT) (HF : Hid (F = (((([tx ⟨#[115, 101, 108, 101, 99, 116]⟩] ++ commas (es.map tkIt)) ++ [tx ⟨#[102, 114, 111, 109]⟩]) ++ commas (srcs.map tkSrc)) ++ tkU us))) (hlen : o.1.length + cost (((([tx ⟨#[115, 101, 108, 101, 99, 116]⟩] ++ commas (es.map tkIt)) ++ [tx ⟨#[102, 114, 111, 109]⟩]) ++ commas (srcs.map tkSrc)) ++ tkU us) ≤ big) :
    Calls Tryz.prog 65 #[.pointer (some ⟨tl, 0, none⟩), .pointer (some ⟨b, 0, none⟩)] w (Told tl w o F) := by
  obtain ⟨gi, ci, hvi⟩ := row_slice hri
  obtain ⟨gs, cs, hvs⟩ := row_slice hrs
  obtain ⟨gt, ct, hvt⟩ := row_slice hrt
  subst hvi hvs hvt
  have HT0 := hide hT
  have HLEN := hide hlen
  have HRI := hide hri
  have HIT := hide hit
  have HRS := hide hrs
  have HRT := hide hrt
  have HTT := hide htt
  have HB0 := hide hb
  obtain ⟨kHB0, fHB0⟩ := blk hb
  have zHB0 := lt_of_heap hb
  clear hT hlen hri hit hrs hrt htt hb
  go_enter Tryz.func65, Tryz.ntmps65
  go_wp2_with fail
  refine (tokens_new tl _ o _ _ [⟨#[115, 101, 108, 101, 99, 116]⟩] #[.string ⟨#[115, 101, 108, 101, 99, 116]⟩] (by exact (unhide HT0)) (by have h2 := unhide HLEN; (try simp only [cost_append] at h2); show _ + cost ([tx ⟨#[115, 101, 108, 101, 99, 116]⟩]) ≤ _; omega) rfl (by simp) (by simp) rfl).mono ?_
  rintro e w1 h
  have he := h.1
  subst he
  have HT1 : Hid (Told tl w o ([tx ⟨#[115, 101, 108, 101, 99, 116]⟩]) _ w1) := h
  have hHB := (h.2.2.keep b _ _ (Nat.zero_le _) (unhide HB0) rfl).trans (unhide HB0)
  obtain ⟨kHB1, fHB1⟩ := blk hHB
  have zHB1 := lt_of_heap hHB
  have HB1 := hide hHB
  clear hHB
  clear h
  go_wp2_with fail
  refine (tlist_item tl _ (layAll o ([tx ⟨#[115, 101, 108, 101, 99, 116]⟩])) lo _ es (by exact ownsRow_keeps (unhide HRI) ((unhide HT1).2.2.keep.mono (fun _ h => h) (Nat.zero_le _)) rfl) hip (fun e he => (unhide HIT e he).keep (Nat.le_refl _) ((unhide HT1).2.2.keeps (tkT_of rfl rfl))) (by exact (unhide HT1).2.1) (by have h1 := layAll_len o ([tx ⟨#[115, 101, 108, 101, 99, 116]⟩]); have h2 := unhide HLEN; (try simp only [cost_append] at h1 h2); show _ + cost (commas (es.map tkIt)) ≤ _; omega)).mono ?_
  rintro e w2 h
  have he := h.1
  subst he
  have HT2 := hide ((unhide HT1).next (m := commas (es.map tkIt)) h)
  have hHB := (h.2.2.keep b _ _ (Nat.zero_le _) (unhide HB1) rfl).trans (unhide HB1)
  obtain ⟨kHB2, fHB2⟩ := blk hHB
  have zHB2 := lt_of_heap hHB
  have HB2 := hide hHB
  clear hHB
  clear h
  go_wp2_with fail
  refine (tokens_new tl _ (layAll o (([tx ⟨#[115, 101, 108, 101, 99, 116]⟩] ++ commas (es.map tkIt)))) _ _ [⟨#[102, 114, 111, 109]⟩] #[.string ⟨#[102, 114, 111, 109]⟩] (by exact (unhide HT2).2.1) (by have h1 := layAll_len o (([tx ⟨#[115, 101, 108, 101, 99, 116]⟩] ++ commas (es.map tkIt))); have h2 := unhide HLEN; (try simp only [cost_append] at h1 h2); show _ + cost ([tx ⟨#[102, 114, 111, 109]⟩]) ≤ _; omega) rfl (by simp) (by simp) rfl).mono ?_
  rintro e w3 h
  have he := h.1
  subst he
  have HT3 := hide ((unhide HT2).next (m := [tx ⟨#[102, 114, 111, 109]⟩]) h)
  have hHB := (h.2.2.keep b _ _ (Nat.zero_le _) (unhide HB2) rfl).trans (unhide HB2)
  obtain ⟨kHB3, fHB3⟩ := blk hHB
  have zHB3 := lt_of_heap hHB
  have HB3 := hide hHB
  clear hHB
  clear h
  go_wp2_with fail
  refine (tlist_source tl _ (layAll o ((([tx ⟨#[115, 101, 108, 101, 99, 116]⟩] ++ commas (es.map tkIt)) ++ [tx ⟨#[102, 114, 111, 109]⟩]))) lo _ srcs (by exact ownsRow_keeps (unhide HRS) ((unhide HT3).2.2.keep.mono (fun _ h => h) (Nat.zero_le _)) rfl) hsp (by exact (unhide HT3).2.1) (by have h1 := layAll_len o ((([tx ⟨#[115, 101, 108, 101, 99, 116]⟩] ++ commas (es.map tkIt)) ++ [tx ⟨#[102, 114, 111, 109]⟩])); have h2 := unhide HLEN; (try simp only [cost_append] at h1 h2); show _ + cost (commas (srcs.map tkSrc)) ≤ _; omega)).mono ?_
  rintro e w4 h
  have he := h.1
  subst he
  have HT4 := hide ((unhide HT3).next (m := commas (srcs.map tkSrc)) h)
  have hHB := (h.2.2.keep b _ _ (Nat.zero_le _) (unhide HB3) rfl).trans (unhide HB3)
  obtain ⟨kHB4, fHB4⟩ := blk hHB
  have zHB4 := lt_of_heap hHB
  have HB4 := hide hHB
  clear hHB
  clear h
  have HTW : Hid (TSt tl w w4) := (unhide HT4).2.2
  have HTL4 := hide (unhide HT4).2.1
  have HLU : Hid ((layAll o (((([tx ⟨#[115, 101, 108, 101, 99, 116]⟩] ++ commas (es.map tkIt)) ++ [tx ⟨#[102, 114, 111, 109]⟩]) ++ commas (srcs.map tkSrc)))).1.length + cost (tkU us) ≤ big) := len_more (unhide HLEN)
  have HFIN : Hid (∀ e w', Told tl w4 (layAll o (((([tx ⟨#[115, 101, 108, 101, 99, 116]⟩] ++ commas (es.map tkIt)) ++ [tx ⟨#[102, 114, 111, 109]⟩]) ++ commas (srcs.map tkSrc)))) (tkU us) e w' → Told tl w o F e w') := fun e w' h => by rw [unhide HF]; exact (unhide HT4).next h
  clear HT0 HT1 HT2 HT3 HT4 HB0 HB1 HB2 HB3 HRI HIT HRS HLEN HF
  generalize layAll o (((([tx ⟨#[115, 101, 108, 101, 99, 116]⟩] ++ commas (es.map tkIt)) ++ [tx ⟨#[102, 114, 111, 109]⟩]) ++ commas (srcs.map tkSrc))) = O4 at *
  go_wp2_with fail
  go_loopg [33] us.length (fun f i wr => ∃ pre suf, us = pre ++ suf ∧ i = .int .i64 pre.length ∧ f = suf.length ∧ TL tl wr (layAll O4 (tkU pre)).1 (layAll O4 (tkU pre)).2 ∧ TSt tl w4 wr)
  case atStart => exact ⟨[], us, rfl, rfl, rfl, unhide HTL4, TSt.refl _ _⟩
  case round =>
    obtain ⟨pre, suf, hxs, hi, hf, hTL, hTS⟩ := hrel
    subst hi
    have HTL := hide hTL
    have HTS := hide hTS
    have HXS0 := hide hxs
    clear hTL hTS hxs
    match suf, HXS0, hf with
    | [], HXS0, _ =>
      have hxs' : us = pre := by simpa using unhide HXS0
      clear HXS0
      have hlen0 : us.length = pre.length := by rw [hxs']
      have hd : decide (((pre.length : Nat) : Int) < (us.length : Int)) = false := by simp; omega
      have HFX : Hid (Told tl w4 O4 (tkU us) (.returned (.tuple #[])) wr) := by rw [hxs']; exact ⟨rfl, unhide HTL, unhide HTS⟩
      clear hxs'
      go_wp2
      go_end0
      exact unhide HFIN _ _ (unhide HFX)
    | x :: suf', HXS, hf =>
      subst hf
      have hxs := unhide HXS
      have hlt : pre.length < us.length := by rw [hxs]; simp
      have hpos : 0 < us.length := by omega
      obtain ⟨g, cap, cur, hv, hc1, hc2, hg, hcell⟩ := row_cells (unhide HRT) hpos
      cases hv
      unfold maxLen at hc2
      have hgr := (((unhide HTW).trans (unhide HTS)).keep g _ _ (Nat.zero_le _) hg rfl).trans hg
      obtain ⟨kg, fg⟩ := blk hgr
      have zg := lt_of_heap hgr
      have hxin := (unhide HTT) x (by rw [hxs]; simp)
      obtain ⟨u, z, hu⟩ := hxin.1.isI
      obtain ⟨u2, z2, hu2⟩ := hxin.2.isI
      have HX1 : Hid (ExIn w (offRow lo (.slice (some ⟨g, 0, none⟩) us.length ct)) (.iface u z) x.1.l) := by rw [← hu]; exact hxin.1
      have HY1 : Hid (ExIn w (offRow lo (.slice (some ⟨g, 0, none⟩) us.length ct)) (.iface u2 z2) x.1.r) := by rw [← hu2]; exact hxin.2
      have c0 : wr.cell? ⟨g, pre.length * 4, none⟩ = some (.int .i64 x.1.place) := by rw [kg, hcell _ (by omega), hxs]; exact flat_at _ 4 (fun _ => rfl) pre suf' x 0 (by omega)
      have c1 : wr.cell? ⟨g, pre.length * 4 + 1, none⟩ = some (.iface u z) := by rw [kg, hcell _ (by omega), hxs, ← hu]; exact flat_at _ 4 (fun _ => rfl) pre suf' x 1 (by omega)
      have c2 : wr.cell? ⟨g, pre.length * 4 + 2, none⟩ = some (.string x.1.sg) := by rw [kg, hcell _ (by omega), hxs]; exact flat_at _ 4 (fun _ => rfl) pre suf' x 2 (by omega)
      have c3 : wr.cell? ⟨g, pre.length * 4 + 3, none⟩ = some (.iface u2 z2) := by rw [kg, hcell _ (by omega), hxs, ← hu2]; exact flat_at _ 4 (fun _ => rfl) pre suf' x 3 (by omega)
      have HLX : Hid (O4.1.length + cost (tkU (pre ++ [x])) ≤ big) := Nat.le_trans (Nat.add_le_add_left (tkU_cost pre suf' x) _) (by rw [← hxs]; exact unhide HLU)
      have HNX0 : Hid (tkU (pre ++ [x]) = tkU pre ++ ([tx (if pre.map (·.1) = [] then ⟨#[119, 104, 101, 114, 101]⟩ else ⟨#[97, 110, 100]⟩)] ++ tkTest x.1)) := by unfold Hid tkU; rw [List.map_append, List.map_cons, List.map_nil, tkTests_snoc]
      have hd : decide (((pre.length : Nat) : Int) < (us.length : Int)) = true := by simp; omega
      have z0 := (unhide HTL).ts
      clear hxs kg hgr hxin hu hu2 hcell hg
      by_cases hp : pre = []
      · subst hp
        have HNX : Hid (tkU ([] ++ [x]) = tkU [] ++ ([tx ⟨#[119, 104, 101, 114, 101]⟩] ++ tkTest x.1)) := unhide HNX0
        rw [unhide HNX] at HLX
        have HL1 : Hid ((layAll O4 (tkU [])).1.length + cost ([tx ⟨#[119, 104, 101, 114, 101]⟩] ++ tkTest x.1) ≤ big) := len_more (unhide HLX)
        simp only [List.length_nil, Nat.zero_mul, Nat.zero_add] at c0 c1 c2 c3
        go_wp2_with fail
        refine (tokens_new tl _ (layAll O4 (tkU [])) _ _ [⟨#[119, 104, 101, 114, 101]⟩] #[.string ⟨#[119, 104, 101, 114, 101]⟩] (by exact (unhide HTL).alloc _) (by have h2 := unhide HL1; rw [cost_append] at h2; show _ + cost [tx ⟨#[119, 104, 101, 114, 101]⟩] ≤ _; omega) rfl (by simp) (by simp) rfl).mono ?_
        rintro e w2 h2
        have h2e := h2.1
        subst h2e
        have HTS2 := hide ((unhide HTS).alloc (Nat.le_of_lt z0) (.cells #[.int .i64 x.1.place, .iface u z, .string x.1.sg, .iface u2 z2] 263))
        have HT2' := hide h2
        have hbox := (h2.2.2.keep wr.heap.size #[.int .i64 x.1.place, .iface u z, .string x.1.sg, .iface u2 z2] 263 (Nat.zero_le _) (heap_last rfl) rfl).trans (heap_last rfl)
        have HBX := hide hbox
        have zx := lt_of_heap hbox
        clear h2 hbox
        go_wp2_with fail
        refine (tpair_in tl (offRow lo (.slice (some ⟨g, 0, none⟩) us.length ct)) _ (layAll (layAll O4 (tkU [])) [tx ⟨#[119, 104, 101, 114, 101]⟩]) wr.heap.size x.1.place (.iface u z) (.iface u2 z2) x.1.sg x.1.l x.1.r (by exact unhide HBX) (by exact (unhide HX1).ts ((unhide HTW).trans ((unhide HTS2).trans (unhide HT2').2.2))) (by exact (unhide HY1).ts ((unhide HTW).trans ((unhide HTS2).trans (unhide HT2').2.2))) (by exact (unhide HT2').2.1) (by exact len_more (unhide HL1))).mono ?_
        rintro e w3 h3
        have h3e := h3.1
        subst h3e
        have HT3' := hide ((unhide HT2').next h3)
        clear h3
        go_wp2
        go_roundg suf'.length
        case measure => simp
        case rel =>
          refine ⟨[] ++ [x], suf', by rw [unhide HXS]; simp, by simp, rfl, ?_, ?_⟩
          · rw [unhide HNX, layAll_append]; exact (unhide HT3').2.1
          · exact (unhide HTS2).trans (unhide HT3').2.2
      · have hp2 : ¬ pre.length = 0 := fun e => hp (List.length_eq_zero_iff.1 e)
        have hn' : (((pre.length : Nat) : Int) == 0) = false := by simp; exact hp
        have HNX : Hid (tkU (pre ++ [x]) = tkU pre ++ ([tx ⟨#[97, 110, 100]⟩] ++ tkTest x.1)) := by rw [unhide HNX0, if_neg (by simpa using hp)]; exact rfl
        rw [unhide HNX] at HLX
        have HL1 : Hid ((layAll O4 (tkU pre)).1.length + cost ([tx ⟨#[97, 110, 100]⟩] ++ tkTest x.1) ≤ big) := len_more (unhide HLX)
        go_wp2_with fail
        refine (tokens_new tl _ (layAll O4 (tkU pre)) _ _ [⟨#[97, 110, 100]⟩] #[.string ⟨#[97, 110, 100]⟩] (by exact (unhide HTL).alloc _) (by have h2 := unhide HL1; rw [cost_append] at h2; show _ + cost [tx ⟨#[97, 110, 100]⟩] ≤ _; omega) rfl (by simp) (by simp) rfl).mono ?_
        rintro e w2 h2
        have h2e := h2.1
        subst h2e
        have HTS2 := hide ((unhide HTS).alloc (Nat.le_of_lt z0) (.cells #[.int .i64 x.1.place, .iface u z, .string x.1.sg, .iface u2 z2] 263))
        have HT2' := hide h2
        have hbox := (h2.2.2.keep wr.heap.size #[.int .i64 x.1.place, .iface u z, .string x.1.sg, .iface u2 z2] 263 (Nat.zero_le _) (heap_last rfl) rfl).trans (heap_last rfl)
        have HBX := hide hbox
        have zx := lt_of_heap hbox
        clear h2 hbox
        go_wp2_with fail
        refine (tpair_in tl (offRow lo (.slice (some ⟨g, 0, none⟩) us.length ct)) _ (layAll (layAll O4 (tkU pre)) [tx ⟨#[97, 110, 100]⟩]) wr.heap.size x.1.place (.iface u z) (.iface u2 z2) x.1.sg x.1.l x.1.r (by exact unhide HBX) (by exact (unhide HX1).ts ((unhide HTW).trans ((unhide HTS2).trans (unhide HT2').2.2))) (by exact (unhide HY1).ts ((unhide HTW).trans ((unhide HTS2).trans (unhide HT2').2.2))) (by exact (unhide HT2').2.1) (by exact len_more (unhide HL1))).mono ?_
        rintro e w3 h3
        have h3e := h3.1
        subst h3e
        have HT3' := hide ((unhide HT2').next h3)
        clear h3
        go_wp2
        go_roundg suf'.length
        case measure => simp
        case rel =>
          refine ⟨pre ++ [x], suf', by rw [unhide HXS]; simp, by simp, rfl, ?_, ?_⟩
          · rw [unhide HNX, layAll_append]; exact (unhide HT3').2.1
          · exact (unhide HTS2).trans (unhide HT3').2.2

theorem tsel_any (tl : Nat) (w : World) (o : Out) (lo : Nat) (v : Value) (x : SelX) (h : SelOk w lo v x) (hT : TL tl w o.1 o.2) (hlen : o.1.length + cost (tkSel x) ≤ big) (hi : 0 < x.items.length) (hs : 0 < x.srcs.length) :
    Calls Tryz.prog 65 #[.pointer (some ⟨tl, 0, none⟩), v] w (Told tl w o (tkSel x)) := by
  obtain ⟨pl, items, srcs, tests⟩ := x
  obtain ⟨b, vi, vs, vt, es, us, rfl, _, hb, ⟨h1, h2, h3⟩, h4, h5, h6, h7⟩ := h
  have h2' : es.map (·.1) = items := h2
  have h6' : us.map (·.1) = tests := h6
  have e1 : items.map tkItem = es.map tkIt := by rw [← h2', List.map_map]; rfl
  unfold tkSel at hlen ⊢
  simp only [e1, ← h6'] at hlen ⊢
  exact tsel_go tl w o lo b pl vi vs vt es srcs us hb h1 h3 (by have : 0 < items.length := hi; rw [← h2'] at this; simpa using this) h4 hs h5 h7 hT _ rfl hlen
end Go.Proofs.YtfkeddkfegaeiaaGreatDoor
