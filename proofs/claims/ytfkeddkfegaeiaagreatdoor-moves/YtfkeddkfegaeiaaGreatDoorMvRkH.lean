/-
  Part 49.
-/
import Derived.Test.YtfkeddkfegaeiaaGreatDoorMvNwG
import Derived.Deep.RegionHeld3
import Derived.Test.YtfkeddkfegaeiaaGreatDoorMvStX
namespace Go.Proofs.YtfkeddkfegaeiaaGreatDoor
open Go.RowKit
set_option maxRecDepth 100000 in
set_option maxHeartbeats 2000000 in
theorem sameRows_any (a b : Value) (l m : List (List Int)) (w : World) (ha : RowsAt w a l) (hb : RowsAt w b m) (hl9 : l.length ≤ 100000) :
    Calls Tryz.prog 23 #[a, b] w fun e w' => e = .returned (.bool (decide (l = m))) ∧ Below w.heap.size w w' := by
  obtain ⟨vs, ⟨ad, cap, rfl, mv, hc⟩, lv, hrv⟩ := ha
  obtain ⟨us, ⟨ae, cae, rfl, mu, hd⟩, lu, hru⟩ := hb
  rw [lv] at mv hc ⊢
  rw [lu] at mu hd ⊢
  have HC := hide hc
  have HD := hide hd
  have HRV := hide hrv
  have HRU := hide hru
  have HLV := hide lv
  have HLU := hide lu
  unfold maxLen at mv mu
  clear hc hd hrv hru lv lu
  by_cases hlen : l.length = m.length
  · have hd1 : ((l.length : Int) != (m.length : Int)) = false := by simp; omega
    have HLEN := hide hlen
    clear hlen
    go_enter Tryz.func23, Tryz.ntmps23
    go_wp2_with fail
    clear hd1
    go_loopg [5, 6] l.length (fun f i _ W => ∃ pre suf, l = pre ++ suf ∧ f = suf.length ∧ i = .int .i64 (pre.length : Nat) ∧ pre = m.take pre.length ∧ Below w.heap.size w W)
    case atStart => exact ⟨[], l, rfl, rfl, rfl, by simp, Below.refl _ _⟩
    case round =>
      obtain ⟨pre, suf, h1, rfl, rfl, hp, hbw⟩ := hrel
      have l1 : pre.length + suf.length = l.length := by rw [h1, List.length_append]
      have HZ := hide h1
      have HP := hide hp
      have HB := hide hbw
      clear h1 hp hbw
      cases suf with
      | nil =>
        have hlt : decide ((pre.length : Int) < (l.length : Int)) = false := by simp at l1 ⊢; omega
        have hlt2 : decide (pre.length < l.length) = false := by simp at l1 ⊢; omega
        clear l1
        go_wp2
        go_ret
        refine ⟨?_, unhide HB⟩
        have e : l = m := by
          have e1 : l = pre := by rw [unhide HZ, List.append_nil]
          rw [e1, unhide HP, ← e1, unhide HLEN, List.take_length]
        rw [decide_eq_true e]
        rfl
      | cons r suf =>
        rw [List.length_cons] at l1
        have hlt : decide ((pre.length : Int) < (l.length : Int)) = true := by simp; omega
        have HZ2 : Hid (l = (pre ++ [r]) ++ suf) := by unfold Hid; rw [unhide HZ]; simp
        obtain ⟨q, hq⟩ : ∃ q, m[pre.length]? = some q := ⟨_, List.getElem?_eq_getElem (by have := unhide HLEN; omega)⟩
        obtain ⟨b1, o1, rfl, z1, c1⟩ := (unhide HC) (by omega)
        obtain ⟨b2, o2, rfl, z2, c2⟩ := (unhide HD) (by have := unhide HLEN; omega)
        obtain ⟨v, hv⟩ : ∃ v, vs[pre.length]? = some v := ⟨_, List.getElem?_eq_getElem (by rw [unhide HLV]; omega)⟩
        obtain ⟨u, hu⟩ : ∃ u, us[pre.length]? = some u := ⟨_, List.getElem?_eq_getElem (by rw [unhide HLU]; have := unhide HLEN; omega)⟩
        have HR1 := hide (((unhide HRV) pre.length r v (by rw [unhide HZ]; simp) hv).keep (unhide HB))
        have HR2 := hide (((unhide HRU) pre.length q u hq hu).keep (unhide HB))
        have k1 : wr.cell? ⟨b1, o1 + pre.length, none⟩ = some v := by rw [(unhide HB).cell (p := ⟨b1, _, none⟩) z1, c1 _ (by omega), hv]
        have k2 : wr.cell? ⟨b2, o2 + pre.length, none⟩ = some u := by rw [(unhide HB).cell (p := ⟨b2, _, none⟩) z2, c2 _ (by have := unhide HLEN; omega), hu]
        obtain ⟨adv, capv, rfl, -, -⟩ := unhide HR1
        obtain ⟨adu, capu, rfl, -, -⟩ := unhide HR2
        rw [List.length_map] at HR1 HR2 k1 k2
        have hi1 : (0 : Int) ≤ (pre.length : Int) := by omega
        have hi2 : (pre.length : Int) < (l.length : Int) := by omega
        have hi3 : (pre.length : Int) < (m.length : Int) := by have := unhide HLEN; omega
        have HQ := hide hq
        have zb1 : b1 < wr.heap.size := Nat.lt_of_lt_of_le z1 (unhide HB).size
        have zb2 : b2 < wr.heap.size := Nat.lt_of_lt_of_le z2 (unhide HB).size
        clear c1 c2 hv hu hq
        go_wp2_with fail
        go_region_held3 (fun w' => w'.cell? ⟨b1, o1 + pre.length, none⟩ = some (.slice adv r.length capv) ∧ w'.cell? ⟨b2, o2 + pre.length, none⟩ = some (.slice adu q.length capu)) (go_keep) (first | (go_at_call 45; refine (sameInts_any _ _ r q _ (by exact (unhide HR1).keep (Below.refl _ _).drew) (by exact (unhide HR2).keep (Below.refl _ _).drew)).mono ?_; rintro e w2 ⟨rfl, hb2⟩; have j1 := (hb2.cell (p := ⟨b1, o1 + pre.length, none⟩) zb1).trans k1; have j2 := (hb2.cell (p := ⟨b2, o2 + pre.length, none⟩) zb2).trans k2; have HB2 : Hid (Below w.heap.size w w2) := (unhide HB).drew.trans (hb2.mono (unhide HB).size); clear hb2))
        cases hs : decide (r = q) with
        | true =>
          have HS := hide hs
          clear hs
          go_wp2
          go_roundg suf.length
          case measure => simp
          case rel =>
            refine ⟨pre ++ [r], suf, unhide HZ2, rfl, ?_, ?_, unhide HB2⟩
            · rw [List.length_append]; go_num
            · have e : r = q := by simpa using unhide HS
              rw [List.length_append, List.length_singleton, List.take_add_one, ← unhide HP, unhide HQ, e]
              rfl
        | false =>
          have HS := hide hs
          clear hs
          go_wp2
          go_ret
          refine ⟨?_, unhide HB2⟩
          have e : ¬ l = m := fun e => by
            have h3 : l[pre.length]? = some r := by rw [unhide HZ]; simp
            rw [e, unhide HQ] at h3
            injection h3 with h3
            have := unhide HS
            simp [h3] at this
          rw [decide_eq_false e]
          rfl
  · have hd1 : ((l.length : Int) != (m.length : Int)) = true := by simp; omega
    go_enter Tryz.func23, Tryz.ntmps23
    go_wp2
    go_ret
    refine ⟨?_, Below.refl _ _⟩
    rw [decide_eq_false (fun e => hlen (by rw [e]))]
    rfl
end Go.Proofs.YtfkeddkfegaeiaaGreatDoor
namespace Go.Proofs.YtfkeddkfegaeiaaGreatDoor
open Go.RowKit
/-- the table, as it lies. -/
structure TbR (W : World) (lo p bx : Nat) (adv : Option Addr) (capv : Nat) (vs : List Value) (rows : Rws') : Prop where
  cols : W.heap[p]? = some (.cells #[.string ⟨#[97]⟩, .string ⟨#[98]⟩] 9 (0, 0))
  box : W.heap[bx]? = some (.cells #[.string ⟨#[101]⟩, .slice (some ⟨p, 0, none⟩) 2 2, .slice adv vs.length capv] 44 (0, 0))
  own : W.ownsRow lo 32 1 (.slice adv vs.length capv) vs.length vs
  rn : RowsN W 2 vs rows
theorem TbR.keep {W W' : World} {lo p bx : Nat} {adv : Option Addr} {capv : Nat} {vs : List Value} {rows : Rws'} (h : TbR W lo p bx adv capv vs rows) (hb : Below W.heap.size W W') : TbR W' lo p bx adv capv vs rows :=
  ⟨(hb.block _ (lt_of_heap h.cols)).trans h.cols, (hb.block _ (lt_of_heap h.box)).trans h.box, owns_below h.own hb, h.rn.below hb⟩
theorem TbR.colsAt {W : World} {lo p bx : Nat} {adv : Option Addr} {capv : Nat} {vs : List Value} {rows : Rws'} (h : TbR W lo p bx adv capv vs rows) : RowAt W (.slice (some ⟨p, 0, none⟩) 2 2) (textsV (tR rows).cols) := row_full (xs := [.string ⟨#[97]⟩, .string ⟨#[98]⟩]) h.cols (by simp [maxLen]) 2
theorem TbR.rowsAt {W : World} {lo p bx : Nat} {adv : Option Addr} {capv : Nat} {vs : List Value} {rows : Rws'} (h : TbR W lo p bx adv capv vs rows) (hm : rows.length ≤ 200) : RowsAt W (.slice adv vs.length capv) (tR rows).rows := h.rn.rows (by unfold maxLen; omega) h.own (by rw [h.rn.1]; unfold maxLen; omega)
/-- a row's cells. -/
theorem TbR.at {W : World} {lo p bx : Nat} {adv : Option Addr} {capv : Nat} {vs : List Value} {rows : Rws'} (h : TbR W lo p bx adv capv vs rows) {i : Nat} {x y : Int} (hi : rows[i]? = some [x, y]) : ∃ g b, adv = some ⟨g, 0, none⟩ ∧ g < W.heap.size ∧ b < W.heap.size ∧ W.cell? ⟨g, i, none⟩ = some (.slice (some ⟨b, 0, none⟩) 2 2) ∧ W.cell? ⟨b, 0, none⟩ = some (.int .i64 x) ∧ W.cell? ⟨b, 1, none⟩ = some (.int .i64 y) := by
  have hl := (List.getElem?_eq_some_iff.1 hi).1
  have hl2 : i < vs.length := by rw [h.rn.1]; exact hl
  obtain ⟨b, e1, -, e3⟩ := h.rn.2 i _ _ (List.getElem?_eq_getElem hl2) hi
  rcases h.own.2 with ⟨hv, h0⟩ | ⟨g, c, cur, hv, hge, hh, c1, c2, c3, c4⟩
  · omega
  · injection hv with hv _ _
    refine ⟨g, b, hv, lt_of_heap hh, lt_of_heap e3, ?_, (blk e3).1 0, (blk e3).1 1⟩
    rw [(blk hh).1, ← Array.getElem?_toList]
    have : (cur.toList.take (vs.length * 1))[i]? = vs[i]? := by rw [c4]
    rw [Nat.mul_one, List.getElem?_take_of_lt hl2] at this
    rw [this, List.getElem?_eq_getElem hl2, e1]
theorem RowsB.atW {W : World} {g : Nat} {t : TypeId} {cap : Nat} {l : List (List Int)} (h : RowsB W g t cap l) (hm : l.length ≤ maxLen) : RowsAt W (.slice (some ⟨g, 0, none⟩) l.length cap) l := by
  obtain ⟨cur, h1, h2, h3, h4⟩ := h
  have hl : (cur.toList.take l.length).length = l.length := by rw [List.length_take, show cur.toList.length = cap by simpa using h2]; exact Nat.min_eq_left h3
  refine ⟨cur.toList.take l.length, ?_, hl, fun k r u hr hu => ?_⟩
  · refine ⟨_, cap, by rw [hl], by omega, fun _ => ⟨g, 0, rfl, lt_of_heap h1, fun j hj => ?_⟩⟩
    rw [hl] at hj
    rw [Nat.zero_add, (blk h1).1, List.getElem?_take_of_lt hj]
    simp
  · obtain ⟨v, hv, ho⟩ := h4 k r hr
    have hk := (List.getElem?_eq_some_iff.1 hr).1
    rw [List.getElem?_take_of_lt hk, Array.getElem?_toList, hv] at hu
    injection hu with hu
    subst hu
    exact ho.row
end Go.Proofs.YtfkeddkfegaeiaaGreatDoor
