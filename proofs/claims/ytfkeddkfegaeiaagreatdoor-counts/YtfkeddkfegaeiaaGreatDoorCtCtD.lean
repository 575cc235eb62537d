/-
  Part 50.
-/
import Derived.Test.YtfkeddkfegaeiaaGreatDoorCtPrA
import Derived.Test.YtfkeddkfegaeiaaGreatDoorCtGrP
import Derived.Test.YtfkeddkfegaeiaaGreatDoorCtNwG
import Derived.Deep.RegionHeld3
namespace Go.Proofs.YtfkeddkfegaeiaaGreatDoor
open Go.RowKit
/-- a hundred marks, those of a set. -/
def HasI (h : List Bool) (S : Int → Prop) : Prop := h.length = 100 ∧ ∀ k : Nat, k < 100 → (h[k]? = some true ↔ S k)
theorem HasI.start : HasI (List.replicate 100 false) (fun _ => False) := ⟨by simp, fun k hk => by rw [List.getElem?_replicate, if_pos hk]; simp⟩
theorem HasI.set {h : List Bool} {S : Int → Prop} (hh : HasI h S) (n : Nat) (hn : n < 100) : HasI (h.set n true) (fun v => S v ∨ v = n) := by
  refine ⟨by rw [List.length_set]; exact hh.1, fun k hk => ?_⟩
  rw [List.getElem?_set]
  by_cases e : n = k
  · subst e
    rw [if_pos rfl, if_pos (by rw [hh.1]; exact hn)]
    simp
  · rw [if_neg e, hh.2 k hk]
    constructor
    · exact Or.inl
    · rintro (h | h)
      · exact h
      · omega
theorem HasI.congr {h : List Bool} {S S' : Int → Prop} (hh : HasI h S) (e : ∀ v, S v ↔ S' v) : HasI h S' := ⟨hh.1, fun k hk => (hh.2 k hk).trans (e k)⟩
/-- the marks while one row's number is counted up. -/
theorem has_first {h : List Bool} {d t : Int} {rows : Rws'} {v0 : Nat} (hd : 0 < d) (hh : HasI h (Cn d t rows)) (hv : v0 < 100) : HasI (h.set v0 true) (fun v => Cn d t rows v ∨ (Ch d t v0 v ∧ v ≤ v0)) :=
  (hh.set v0 hv).congr fun v => by
    constructor
    · rintro (h | rfl)
      · exact Or.inl h
      · exact Or.inr ⟨.base, Int.le_refl _⟩
    · rintro (h | ⟨h, h2⟩)
      · exact Or.inl h
      · have := h.low hd
        exact Or.inr (by omega)
theorem has_next {h : List Bool} {d t v0 n : Int} {rows : Rws'} (hd : 0 < d) (hn : Ch d t v0 n) (ht : n < t) (hh : HasI h (fun v => Cn d t rows v ∨ (Ch d t v0 v ∧ v ≤ n))) {k : Nat} (hk : k < 100) (ek : (k : Int) = n + d) : HasI (h.set k true) (fun v => Cn d t rows v ∨ (Ch d t v0 v ∧ v ≤ n + d)) :=
  (hh.set k hk).congr fun v => by
    constructor
    · rintro ((h | ⟨h, h2⟩) | h)
      · exact Or.inl h
      · exact Or.inr ⟨h, by omega⟩
      · refine Or.inr ⟨?_, by omega⟩
        rw [h, ek]
        exact hn.step ht
    · rintro (h | ⟨h, h2⟩)
      · exact Or.inl (Or.inl h)
      · by_cases hv : v ≤ n
        · exact Or.inl (Or.inr ⟨h, hv⟩)
        · have := Ch.next hd hn h (by omega)
          exact Or.inr (by omega)
theorem has_last {h : List Bool} {d t n : Int} {r : List Int} {rows : Rws'} (hd : 0 < d) (hn : Ch d t (r.getD 0 0) n) (ht : t ≤ n) (hh : HasI h (fun v => Cn d t rows v ∨ (Ch d t (r.getD 0 0) v ∧ v ≤ n))) : HasI h (Cn d t (rows ++ [r])) :=
  hh.congr fun v => by
    rw [Cn.snoc]
    constructor
    · rintro (h | ⟨h, -⟩)
      · exact Or.inl h
      · exact Or.inr h
    · rintro (h | h)
      · exact Or.inl h
      · exact Or.inr ⟨h, hn.top hd ht h⟩
/-- the rows that are wanted, of the first marks. -/
def wantN (h : List Bool) (k : Nat) : Rws' := ((List.range k).filter fun i => h.getD i false).map fun (i : Nat) => [(i : Int)]
theorem wantN_succ (h : List Bool) (k : Nat) : wantN h (k + 1) = wantN h k ++ if h.getD k false = true then [[(k : Int)]] else [] := by
  unfold wantN
  rw [List.range_succ, List.filter_append, List.map_append]
  congr 1
  by_cases e : h.getD k false = true
  · rw [List.filter_cons, if_pos e, if_pos e]; rfl
  · rw [List.filter_cons, if_neg e, if_neg e]; rfl
theorem wantN_len (h : List Bool) (k : Nat) : (wantN h k).length ≤ k := by
  unfold wantN
  rw [List.length_map]
  exact Nat.le_trans (List.length_filter_le _ _) (by simp)
theorem cmpL_one {a b : Int} (h : a < b) : cmpL [a] [b] < 0 := by
  have : cmpI a b < 0 := by unfold cmpI; split <;> omega
  unfold cmpL
  rw [if_neg (by omega)]
  exact this
theorem wantN_ord (h : List Bool) (k : Nat) : OrdS (wantN h k) := by
  unfold OrdS wantN
  rw [List.pairwise_map]
  exact (List.Pairwise.filter _ List.pairwise_lt_range).imp fun {a b} hab => cmpL_one (by omega)
theorem want_eq {h : List Bool} {S : Int → Prop} (hh : HasI h S) (hS : ∀ v, S v → 0 ≤ v ∧ v < 100) {m : Rws'} (ho : OrdS m) (hm : ∀ r, r ∈ m ↔ ∃ v, r = [v] ∧ S v) : m = wantN h 100 := by
  refine ss_ext ho (wantN_ord h 100) fun r => ?_
  rw [hm]
  unfold wantN
  rw [List.mem_map]
  constructor
  · rintro ⟨v, rfl, hv⟩
    have h1 := hS v hv
    refine ⟨v.toNat, List.mem_filter.2 ⟨List.mem_range.2 (by omega), ?_⟩, by rw [Int.toNat_of_nonneg h1.1]⟩
    have := (hh.2 v.toNat (by omega)).2 (by rw [Int.toNat_of_nonneg h1.1]; exact hv)
    rw [List.getD_eq_getElem?_getD, this]
    rfl
  · rintro ⟨k, hk, rfl⟩
    rw [List.mem_filter, List.mem_range] at hk
    refine ⟨_, rfl, (hh.2 k hk.1).1 ?_⟩
    have h1 : k < h.length := by rw [hh.1]; exact hk.1
    have := hk.2
    rw [List.getD_eq_getElem?_getD, List.getElem?_eq_getElem h1] at this
    rw [List.getElem?_eq_getElem h1]
    simpa using this
end Go.Proofs.YtfkeddkfegaeiaaGreatDoor
namespace Go.Proofs.YtfkeddkfegaeiaaGreatDoor
open Go.RowKit
/-- what can be reached. -/
inductive Rc (rows : Rws') : Int → Int → Prop
  | one {a b : Int} : [a, b] ∈ rows → Rc rows a b
  | step {a b c : Int} : Rc rows a b → Rc rows b c → Rc rows a c
theorem Rc.ends {rows : Rws'} {a b : Int} (h : Rc rows a b) : (∃ r ∈ rows, r.getD 0 0 = a) ∧ ∃ r ∈ rows, r.getD 1 0 = b := by
  induction h with
  | one h => exact ⟨⟨_, h, rfl⟩, _, h, rfl⟩
  | step _ _ ih1 ih2 => exact ⟨ih1.1, ih2.2⟩
theorem Sm.second {n : Int} {rows : Rws'} (h : Sm n rows) {r : List Int} (hr : r ∈ rows) : 0 ≤ r.getD 1 0 ∧ r.getD 1 0 < n := by
  obtain ⟨a, b, rfl, -, -, h3, h4⟩ := h r hr
  exact ⟨h3, h4⟩
theorem Rc.in {rows : Rws'} (hs : Sm 10 rows) {a b : Int} (h : Rc rows a b) : (0 ≤ a ∧ a < 10) ∧ 0 ≤ b ∧ b < 10 := by
  obtain ⟨⟨r, h1, rfl⟩, q, h2, rfl⟩ := h.ends
  exact ⟨hs.first h1, hs.second h2⟩
section
variable (pl : Nat → Nat) {rows : Rws'} (hs : Sm 10 rows)
include hs
end
end Go.Proofs.YtfkeddkfegaeiaaGreatDoor
namespace Go.Proofs.YtfkeddkfegaeiaaGreatDoor
open Go.RowKit
/-- a hundred marks: all of a set L, none outside of U. -/
structure CanI (h : List Bool) (L U : Nat → Nat → Prop) : Prop where
  len : h.length = 100
  low : ∀ i j, i < 10 → j < 10 → L i j → h[i * 10 + j]? = some true
  up : ∀ i j, i < 10 → j < 10 → h[i * 10 + j]? = some true → U i j
theorem CanI.start (U : Nat → Nat → Prop) : CanI (List.replicate 100 false) (fun _ _ => False) U := ⟨by simp, fun i j _ _ h => h.elim, fun i j hi hj h => by
  rw [List.getElem?_replicate, if_pos (by omega)] at h
  simp at h⟩
end Go.Proofs.YtfkeddkfegaeiaaGreatDoor
namespace Go.Proofs.YtfkeddkfegaeiaaGreatDoor
open Go.RowKit
theorem spr_two (l m : List (List UInt8 × Tk)) : spr (l ++ m) = spr l ++ spr m := by simp [spr]
def cTA : ByteArray := ⟨#[119, 105, 116, 104, 32, 114, 40, 110, 41, 32, 97, 115, 32, 40, 115, 101, 108, 101, 99, 116, 32, 120, 46, 97, 32, 102, 114, 111, 109, 32, 101, 32, 120, 32, 117, 110, 105, 111, 110, 32, 115, 101, 108, 101, 99, 116, 32, 114, 46, 110, 32, 43, 32]⟩
def cTB : ByteArray := ⟨#[32, 102, 114, 111, 109, 32, 114, 32, 114, 32, 119, 104, 101, 114, 101, 32, 114, 46, 110, 32, 60, 32]⟩
def cTC : ByteArray := ⟨#[41, 32, 115, 101, 108, 101, 99, 116, 32, 114, 46, 110, 32, 102, 114, 111, 109, 32, 114, 32, 114]⟩
def cTU : ByteArray := ⟨#[119, 105, 116, 104, 32, 114, 40, 110, 41, 32, 97, 115, 32, 40, 115, 101, 108, 101, 99, 116, 32, 120, 46, 97, 32, 102, 114, 111, 109, 32, 101, 32, 120, 32, 117, 110, 105, 111, 110, 32, 115, 101, 108, 101, 99, 116, 32, 114, 46, 110, 32, 43, 32, 49, 32, 102, 114, 111, 109, 32, 114, 32, 114, 41, 32, 115, 101, 108, 101, 99, 116, 32, 114, 46, 110, 32, 102, 114, 111, 109, 32, 114, 32, 114]⟩
set_option maxRecDepth 100000
theorem text_cL (d t : Nat) : ((((cTA ++ ⟨(dig d).toArray⟩) ++ cTB) ++ ⟨(dig t).toArray⟩) ++ cTC).data.toList = spr (cL d t) := by
  have h1 : cTA.data.toList = spr cA ++ [32] := by kernel_rfl
  have h2 : cTB.data.toList = spr cB ++ [32] := by kernel_rfl
  have h3 : cTC.data.toList = spr cC := by kernel_rfl
  unfold cL
  simp only [ByteArray.data_append, Array.toList_append, spr_two, spr_cons, h1, h2, h3]
  simp
theorem text_cL2 : cTU.data.toList = spr cL2 := by kernel_rfl
theorem dig_len (n : Nat) : (dig n).length ≤ 3 := by
  unfold dig
  split
  · simp
  · split <;> simp
theorem text_size (d t : Nat) : ((((cTA ++ ⟨(dig d).toArray⟩) ++ cTB) ++ ⟨(dig t).toArray⟩) ++ cTC).size ≤ 1000 := by
  have h1 : cTA.size = 53 := by rfl
  have h2 : cTB.size = 22 := by rfl
  have h3 : cTC.size = 21 := by rfl
  have h4 := dig_len d
  have h5 := dig_len t
  simp only [ByteArray.size_append, h1, h2, h3]
  have e : ∀ l : List UInt8, (⟨l.toArray⟩ : ByteArray).size = l.length := fun l => by simp [ByteArray.size]
  rw [e, e]
  omega
theorem c_askd {d t : Nat} {rows : Rws'} (hd : 0 < d) (h5 : d ≤ 5) (ht : t < 60) (hs : Sm 20 rows) (hl : rows.length ≤ 5) : ∃ X x m, AskdW (tR rows) ((((cTA ++ ⟨(dig d).toArray⟩) ++ cTB) ++ ⟨(dig t).toArray⟩) ++ cTC) X x (some m) ∧ OrdS m ∧ ∀ r, r ∈ m ↔ ∃ v, r = [v] ∧ Cn d t rows v := by
  obtain ⟨pl, hp⟩ := read_mk (text_cL d t) (cL_tok (by omega) (by omega)) (cL_fit (by omega))
  obtain ⟨m, h1, h2, h3⟩ := c_whole pl d t rows hd h5 ht hs hl
  exact ⟨qOf pl (cL d t), wthOf (qOf pl (cL d t)), m, ⟨text_size d t, hp.trans (read_q (c_ok pl d t)), c_wth pl d t, wfine_of (c_fine pl d t rows), fine_of (c_main pl d t rows), h1.symm⟩, h2, h3⟩
theorem u_askd {rows : Rws'} (hs : Sm 20 rows) (hl : rows.length ≤ 5) : ∃ X x, AskdW (tR rows) cTU X x (if rows = [] then some [] else none) := by
  obtain ⟨pl, hp⟩ := read_mk text_cL2 cL2_tok cL2_fit
  have h1 := u_whole pl rows hs hl
  refine ⟨qOf pl cL2, wthOf (qOf pl cL2), ⟨by show _ ≤ 1000; decide, hp.trans (read_q (u_ok pl)), u_wth pl, wfine_of (u_fine pl rows), fine_of (u_main pl rows), ?_⟩⟩
  split
  · rename_i h; exact (h1.1 h).symm
  · rename_i h; exact (h1.2 h).symm
end Go.Proofs.YtfkeddkfegaeiaaGreatDoor
namespace Go.Proofs.YtfkeddkfegaeiaaGreatDoor
open Go.RowKit
set_option maxRecDepth 100000 in
set_option maxHeartbeats 2000000 in
theorem sameRows_any (a b : Value) (l m : List (List Int)) (w : World) (ha : RowsAt w a l) (hb : RowsAt w b m) (hl9 : l.length ≤ 100000) :
    Calls Tryz.prog 23 #[a, b] w fun e w' => e = .returned (.bool (decide (l = m))) ∧ Below w.heap.size w w' := by
  obtain ⟨vs, ⟨ad, cap, rfl, mv, hc⟩, lv, hrv⟩ := ha
  obtain ⟨us, ⟨ae, cae, rfl, mu, hd⟩, lu, hru⟩ := hb
  rw [lv] at mv hc ⊢
  rw [lu] at mu hd ⊢
  have HC := hide hc
  have HD := hide hd
  have HRV := hide hrv
  have HRU := hide hru
  have HLV := hide lv
  have HLU := hide lu
  unfold maxLen at mv mu
  clear hc hd hrv hru lv lu
  by_cases hlen : l.length = m.length
  · have hd1 : ((l.length : Int) != (m.length : Int)) = false := by simp; omega
    have HLEN := hide hlen
    clear hlen
    go_enter Tryz.func23, Tryz.ntmps23
    go_wp2_with fail
    clear hd1
    go_loopg [5, 6] l.length (fun f i _ W => ∃ pre suf, l = pre ++ suf ∧ f = suf.length ∧ i = .int .i64 (pre.length : Nat) ∧ pre = m.take pre.length ∧ Below w.heap.size w W)
    case atStart => exact ⟨[], l, rfl, rfl, rfl, by simp, Below.refl _ _⟩
    case round =>
      obtain ⟨pre, suf, h1, rfl, rfl, hp, hbw⟩ := hrel
      have l1 : pre.length + suf.length = l.length := by rw [h1, List.length_append]
      have HZ := hide h1
      have HP := hide hp
      have HB := hide hbw
      clear h1 hp hbw
      cases suf with
      | nil =>
        have hlt : decide ((pre.length : Int) < (l.length : Int)) = false := by simp at l1 ⊢; omega
        have hlt2 : decide (pre.length < l.length) = false := by simp at l1 ⊢; omega
        clear l1
        go_wp2
        go_ret
        refine ⟨?_, unhide HB⟩
        have e : l = m := by
          have e1 : l = pre := by rw [unhide HZ, List.append_nil]
          rw [e1, unhide HP, ← e1, unhide HLEN, List.take_length]
        rw [decide_eq_true e]
        rfl
      | cons r suf =>
        rw [List.length_cons] at l1
        have hlt : decide ((pre.length : Int) < (l.length : Int)) = true := by simp; omega
        have HZ2 : Hid (l = (pre ++ [r]) ++ suf) := by unfold Hid; rw [unhide HZ]; simp
        obtain ⟨q, hq⟩ : ∃ q, m[pre.length]? = some q := ⟨_, List.getElem?_eq_getElem (by have := unhide HLEN; omega)⟩
        obtain ⟨b1, o1, rfl, z1, c1⟩ := (unhide HC) (by omega)
        obtain ⟨b2, o2, rfl, z2, c2⟩ := (unhide HD) (by have := unhide HLEN; omega)
        obtain ⟨v, hv⟩ : ∃ v, vs[pre.length]? = some v := ⟨_, List.getElem?_eq_getElem (by rw [unhide HLV]; omega)⟩
        obtain ⟨u, hu⟩ : ∃ u, us[pre.length]? = some u := ⟨_, List.getElem?_eq_getElem (by rw [unhide HLU]; have := unhide HLEN; omega)⟩
        have HR1 := hide (((unhide HRV) pre.length r v (by rw [unhide HZ]; simp) hv).keep (unhide HB))
        have HR2 := hide (((unhide HRU) pre.length q u hq hu).keep (unhide HB))
        have k1 : wr.cell? ⟨b1, o1 + pre.length, none⟩ = some v := by rw [(unhide HB).cell (p := ⟨b1, _, none⟩) z1, c1 _ (by omega), hv]
        have k2 : wr.cell? ⟨b2, o2 + pre.length, none⟩ = some u := by rw [(unhide HB).cell (p := ⟨b2, _, none⟩) z2, c2 _ (by have := unhide HLEN; omega), hu]
        obtain ⟨adv, capv, rfl, -, -⟩ := unhide HR1
        obtain ⟨adu, capu, rfl, -, -⟩ := unhide HR2
        rw [List.length_map] at HR1 HR2 k1 k2
        have hi1 : (0 : Int) ≤ (pre.length : Int) := by omega
        have hi2 : (pre.length : Int) < (l.length : Int) := by omega
        have hi3 : (pre.length : Int) < (m.length : Int) := by have := unhide HLEN; omega
        have HQ := hide hq
        have zb1 : b1 < wr.heap.size := Nat.lt_of_lt_of_le z1 (unhide HB).size
        have zb2 : b2 < wr.heap.size := Nat.lt_of_lt_of_le z2 (unhide HB).size
        clear c1 c2 hv hu hq
        go_wp2_with fail
        go_region_held3 (fun w' => w'.cell? ⟨b1, o1 + pre.length, none⟩ = some (.slice adv r.length capv) ∧ w'.cell? ⟨b2, o2 + pre.length, none⟩ = some (.slice adu q.length capu)) (go_keep) (first | (go_at_call 45; refine (sameInts_any _ _ r q _ (by exact (unhide HR1).keep (Below.refl _ _).drew) (by exact (unhide HR2).keep (Below.refl _ _).drew)).mono ?_; rintro e w2 ⟨rfl, hb2⟩; have j1 := (hb2.cell (p := ⟨b1, o1 + pre.length, none⟩) zb1).trans k1; have j2 := (hb2.cell (p := ⟨b2, o2 + pre.length, none⟩) zb2).trans k2; have HB2 : Hid (Below w.heap.size w w2) := (unhide HB).drew.trans (hb2.mono (unhide HB).size); clear hb2))
        cases hs : decide (r = q) with
        | true =>
          have HS := hide hs
          clear hs
          go_wp2
          go_roundg suf.length
          case measure => simp
          case rel =>
            refine ⟨pre ++ [r], suf, unhide HZ2, rfl, ?_, ?_, unhide HB2⟩
            · rw [List.length_append]; go_num
            · have e : r = q := by simpa using unhide HS
              rw [List.length_append, List.length_singleton, List.take_add_one, ← unhide HP, unhide HQ, e]
              rfl
        | false =>
          have HS := hide hs
          clear hs
          go_wp2
          go_ret
          refine ⟨?_, unhide HB2⟩
          have e : ¬ l = m := fun e => by
            have h3 : l[pre.length]? = some r := by rw [unhide HZ]; simp
            rw [e, unhide HQ] at h3
            injection h3 with h3
            have := unhide HS
            simp [h3] at this
          rw [decide_eq_false e]
          rfl
  · have hd1 : ((l.length : Int) != (m.length : Int)) = true := by simp; omega
    go_enter Tryz.func23, Tryz.ntmps23
    go_wp2
    go_ret
    refine ⟨?_, Below.refl _ _⟩
    rw [decide_eq_false (fun e => hlen (by rw [e]))]
    rfl
end Go.Proofs.YtfkeddkfegaeiaaGreatDoor
