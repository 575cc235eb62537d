/-
  Part 51.
-/
import Derived.Test.YtfkeddkfegaeiaaGreatDoorMDgt
import Derived.Test.YtfkeddkfegaeiaaGreatDoorMLck
import Derived.Test.YtfkeddkfegaeiaaGreatDoorMNwD
import Derived.Deep.RegionHeld3
import Derived.Test.YtfkeddkfegaeiaaGreatDoorMRkF
namespace Go.Proofs.YtfkeddkfegaeiaaGreatDoor
open Go.RowKit

def tbE (A B : Int) : Tb := ⟨⟨#[101]⟩, [⟨#[97]⟩, ⟨#[98]⟩], [[A, B]]⟩
def ssE : List Sr := [⟨⟨#[120]⟩, 0, 0⟩]
theorem colOk {A B : Int} (hA : InR A) (hB : InR B) : ColOk (colAt [tbE A B] ssE) [tbE A B] ssE A B := by
  refine ⟨hA, hB, fun t u ht hu => ?_, fun t u ht hu => ?_⟩
  · unfold ndCol ndErr
    simp only [ht, hu]
    exact ⟨by kernel_rfl, by kernel_rfl⟩
  · unfold ndCol ndErr
    simp only [ht, hu]
    exact ⟨by kernel_rfl, by kernel_rfl⟩
theorem foldE (A B : Int) {t u : Tk} (ht : t.text = ⟨#[101]⟩) (hu : u.text = ⟨#[120]⟩) : foldS [tbE A B] [(t, u)] = ⟨ssE, 2, none⟩ := by
  have h1 : tabNo [tbE A B] ⟨#[101]⟩ = some 0 := by kernel_rfl
  unfold foldS
  simp only [List.foldl_cons, List.foldl_nil, srcStep, ht, hu, h1]
  rfl
theorem rowsE (A B : Int) : rowsOf [tbE A B] ssE = [[[A, B]]] := rfl
theorem mulE (A B : Int) : mulN (rowsOf [tbE A B] ssE) = 1 := rfl
theorem togE (A B : Int) : togR (rowsOf [tbE A B] ssE) 0 = [A, B] := by rw [rowsE]; simp [togR, madeN]
theorem chosenE (A B : Int) (ts : List (List Int → Bool)) : chosenN [tbE A B] ssE ts 1 = if (ts.all fun t => t [A, B]) = true then [[A, B]] else [] := by
  rw [chosenN_succ, chosenN_zero, togE, List.nil_append]
theorem sort_one (x : List Int) : sortL [x] = [x] := by simp [sortL]
theorem sort_nil : sortL [] = [] := by simp [sortL]
theorem askd1 {A B : Int} (hA : InR A) (hB : InR B) (e : Bex) (hn : e.need ≤ 17) {s : ByteArray} (hs : s.data.toList = spr (K1 e)) (hz : s.size ≤ 1000) : ∃ X fs N ch l, Askd [tbE A B] s X fs N ch l ∧ sortL l = [[e.val A B, B]] := by
  obtain ⟨X, i, j, t, u, h1, h2, h3, h4, h5, h6, h7, h8, h9, h10, h11, h12, h13⟩ := read_q1 (colOk hA hB) e hn hs
  refine ⟨X, ⟨ssE, 2, none⟩, 1, [[A, B]], [[e.val A B, B]], ⟨hz, h1, h2, ?_, ?_, ?_, ?_, ⟨?_, ?_, ?_, ?_, ?_⟩, by omega⟩, sort_one _⟩
  · rw [h3]; intro x hx; simp at hx; rcases hx with rfl | rfl <;> assumption
  · rw [h3]; simp
  · rw [h4]; simp
  · rw [h5]; simp
  · rw [h4, foldE A B h12 h13]
  · rfl
  · rw [h5]; simp only; rw [show (1 : Nat) = 1 from rfl, chosenE]; rfl
  · rw [h3]
    have e1 := h8.ev
    have e2 := h11.ev
    show [[e.val A B, B]] = [[evE (colAt [tbE A B] ssE) i.val [A, B], evE (colAt [tbE A B] ssE) j.val [A, B]]]
    rw [e1, e2]
  · rw [h5, h3]
    simp only [List.foldl_cons, List.foldl_nil, eoV]
    rw [h8.er, h11.er]
    rfl
theorem askd2 {A B : Int} (hA : InR A) (hB : InR B) (e : Bex) (hn : e.need ≤ 17) {s : ByteArray} (hs : s.data.toList = spr (K2 e)) (hz : s.size ≤ 1000) : ∃ X fs N ch l, Askd [tbE A B] s X fs N ch l ∧ sortL l = if e.val A B < A then [[A]] else [] := by
  obtain ⟨X, i, t, u, x, h1, h2, h3, h4, h5, h6, h7, h8, h9, h10, h11, h12, h13⟩ := read_q2 (colOk hA hB) e hn hs
  have hx : tsHolds (colAt [tbE A B] ssE) x [A, B] = decide (e.val A B < A) := by
    have c1 : ((⟨#[60]⟩ : ByteArray).toList == [61]) = false := by kernel_rfl
    have c2 : ((⟨#[60]⟩ : ByteArray).toList == [60, 62]) = false := by kernel_rfl
    have c3 : ((⟨#[60]⟩ : ByteArray).toList == [60]) = true := by kernel_rfl
    unfold tsHolds cmpOf
    rw [h10, h9.ev, h11.ev, c1, c2, c3]
    rfl
  refine ⟨X, ⟨ssE, 2, none⟩, 1, if e.val A B < A then [[A, B]] else [], if e.val A B < A then [[A]] else [], ⟨hz, h1, h2, ?_, ?_, ?_, ?_, ⟨?_, ?_, ?_, ?_, ?_⟩, by omega⟩, ?_⟩
  · rw [h3]; intro y hy; simp at hy; rcases hy with rfl; assumption
  · rw [h3]; simp
  · rw [h4]; simp
  · rw [h5]; simp
  · rw [h4, foldE A B h12 h13]
  · rfl
  · rw [h5, chosenE]
    simp only [List.map_cons, List.map_nil, List.all_cons, List.all_nil, Bool.and_true, hx, decide_eq_true_eq]
  · rw [h3]
    have e1 := h8.ev
    split
    · show [[A]] = [[evE (colAt [tbE A B] ssE) i.val [A, B]]]
      rw [e1]
    · rfl
  · rw [h5, h3]
    simp only [List.foldl_cons, List.foldl_nil, eoV, tsErr]
    rw [h8.er, h9.er, h11.er]
    rfl
  · split
    · exact sort_one _
    · exact sort_nil
end Go.Proofs.YtfkeddkfegaeiaaGreatDoor
namespace Go.Proofs.YtfkeddkfegaeiaaGreatDoor
open Go.RowKit

set_option maxRecDepth 100000 in
set_option maxHeartbeats 2000000 in
theorem sameRows_any (a b : Value) (l m : List (List Int)) (w : World) (ha : RowsAt w a l) (hb : RowsAt w b m) (hl9 : l.length ≤ 100000) :
    Calls Tryz.prog 23 #[a, b] w fun e w' => e = .returned (.bool (decide (l = m))) ∧ Below w.heap.size w w' := by
  obtain ⟨vs, ⟨ad, cap, rfl, mv, hc⟩, lv, hrv⟩ := ha
  obtain ⟨us, ⟨ae, cae, rfl, mu, hd⟩, lu, hru⟩ := hb
  rw [lv] at mv hc ⊢
  rw [lu] at mu hd ⊢
  have HC := hide hc
  have HD := hide hd
  have HRV := hide hrv
  have HRU := hide hru
  have HLV := hide lv
  have HLU := hide lu
  unfold maxLen at mv mu
  clear hc hd hrv hru lv lu
  by_cases hlen : l.length = m.length
  · have hd1 : ((l.length : Int) != (m.length : Int)) = false := by simp; omega
    have HLEN := hide hlen
    clear hlen
    go_enter Tryz.func23, Tryz.ntmps23
    go_wp2_with fail
    clear hd1
    go_loopg [5, 6] l.length (fun f i _ W => ∃ pre suf, l = pre ++ suf ∧ f = suf.length ∧ i = .int .i64 (pre.length : Nat) ∧ pre = m.take pre.length ∧ Below w.heap.size w W)
    case atStart => exact ⟨[], l, rfl, rfl, rfl, by simp, Below.refl _ _⟩
    case round =>
      obtain ⟨pre, suf, h1, rfl, rfl, hp, hbw⟩ := hrel
      have l1 : pre.length + suf.length = l.length := by rw [h1, List.length_append]
      have HZ := hide h1
      have HP := hide hp
      have HB := hide hbw
      clear h1 hp hbw
      cases suf with
      | nil =>
        have hlt : decide ((pre.length : Int) < (l.length : Int)) = false := by simp at l1 ⊢; omega
        have hlt2 : decide (pre.length < l.length) = false := by simp at l1 ⊢; omega
        clear l1
        go_wp2
        go_ret
        refine ⟨?_, unhide HB⟩
        have e : l = m := by
          have e1 : l = pre := by rw [unhide HZ, List.append_nil]
          rw [e1, unhide HP, ← e1, unhide HLEN, List.take_length]
        rw [decide_eq_true e]
        rfl
      | cons r suf =>
        rw [List.length_cons] at l1
        have hlt : decide ((pre.length : Int) < (l.length : Int)) = true := by simp; omega
        have HZ2 : Hid (l = (pre ++ [r]) ++ suf) := by unfold Hid; rw [unhide HZ]; simp
        obtain ⟨q, hq⟩ : ∃ q, m[pre.length]? = some q := ⟨_, List.getElem?_eq_getElem (by have := unhide HLEN; omega)⟩
        obtain ⟨b1, o1, rfl, z1, c1⟩ := (unhide HC) (by omega)
        obtain ⟨b2, o2, rfl, z2, c2⟩ := (unhide HD) (by have := unhide HLEN; omega)
        obtain ⟨v, hv⟩ : ∃ v, vs[pre.length]? = some v := ⟨_, List.getElem?_eq_getElem (by rw [unhide HLV]; omega)⟩
        obtain ⟨u, hu⟩ : ∃ u, us[pre.length]? = some u := ⟨_, List.getElem?_eq_getElem (by rw [unhide HLU]; have := unhide HLEN; omega)⟩
        have HR1 := hide (((unhide HRV) pre.length r v (by rw [unhide HZ]; simp) hv).keep (unhide HB))
        have HR2 := hide (((unhide HRU) pre.length q u hq hu).keep (unhide HB))
        have k1 : wr.cell? ⟨b1, o1 + pre.length, none⟩ = some v := by rw [(unhide HB).cell (p := ⟨b1, _, none⟩) z1, c1 _ (by omega), hv]
        have k2 : wr.cell? ⟨b2, o2 + pre.length, none⟩ = some u := by rw [(unhide HB).cell (p := ⟨b2, _, none⟩) z2, c2 _ (by have := unhide HLEN; omega), hu]
        obtain ⟨adv, capv, rfl, -, -⟩ := unhide HR1
        obtain ⟨adu, capu, rfl, -, -⟩ := unhide HR2
        rw [List.length_map] at HR1 HR2 k1 k2
        have hi1 : (0 : Int) ≤ (pre.length : Int) := by omega
        have hi2 : (pre.length : Int) < (l.length : Int) := by omega
        have hi3 : (pre.length : Int) < (m.length : Int) := by have := unhide HLEN; omega
        have HQ := hide hq
        have zb1 : b1 < wr.heap.size := Nat.lt_of_lt_of_le z1 (unhide HB).size
        have zb2 : b2 < wr.heap.size := Nat.lt_of_lt_of_le z2 (unhide HB).size
        clear c1 c2 hv hu hq
        go_wp2_with fail
        go_region_held3 (fun w' => w'.cell? ⟨b1, o1 + pre.length, none⟩ = some (.slice adv r.length capv) ∧ w'.cell? ⟨b2, o2 + pre.length, none⟩ = some (.slice adu q.length capu)) (go_keep) (first | (go_at_call 45; refine (sameInts_any _ _ r q _ (by exact (unhide HR1).keep (Below.refl _ _).drew) (by exact (unhide HR2).keep (Below.refl _ _).drew)).mono ?_; rintro e w2 ⟨rfl, hb2⟩; have j1 := (hb2.cell (p := ⟨b1, o1 + pre.length, none⟩) zb1).trans k1; have j2 := (hb2.cell (p := ⟨b2, o2 + pre.length, none⟩) zb2).trans k2; have HB2 : Hid (Below w.heap.size w w2) := (unhide HB).drew.trans (hb2.mono (unhide HB).size); clear hb2))
        cases hs : decide (r = q) with
        | true =>
          have HS := hide hs
          clear hs
          go_wp2
          go_roundg suf.length
          case measure => simp
          case rel =>
            refine ⟨pre ++ [r], suf, unhide HZ2, rfl, ?_, ?_, unhide HB2⟩
            · rw [List.length_append]; go_num
            · have e : r = q := by simpa using unhide HS
              rw [List.length_append, List.length_singleton, List.take_add_one, ← unhide HP, unhide HQ, e]
              rfl
        | false =>
          have HS := hide hs
          clear hs
          go_wp2
          go_ret
          refine ⟨?_, unhide HB2⟩
          have e : ¬ l = m := fun e => by
            have h3 : l[pre.length]? = some r := by rw [unhide HZ]; simp
            rw [e, unhide HQ] at h3
            injection h3 with h3
            have := unhide HS
            simp [h3] at this
          rw [decide_eq_false e]
          rfl
  · have hd1 : ((l.length : Int) != (m.length : Int)) = true := by simp; omega
    go_enter Tryz.func23, Tryz.ntmps23
    go_wp2
    go_ret
    refine ⟨?_, Below.refl _ _⟩
    rw [decide_eq_false (fun e => hlen (by rw [e]))]
    rfl
end Go.Proofs.YtfkeddkfegaeiaaGreatDoor
namespace Go.Proofs.YtfkeddkfegaeiaaGreatDoor
open Go.RowKit

theorem built_three (raw : List Int) (hraw : ∀ z ∈ raw, InR z) (ad : Option Addr) (cap : Nat) (A B : Int) (w : World) (hr : RowAt w (.slice ad raw.length cap) (intsV raw)) :
    Calls Tryz.prog 21 #[.slice ad raw.length cap, .int .i64 0, .int .i64 3, .int .i64 A, .int .i64 B] w fun e w' => BDone raw A B 3 0 w e w' := by
  have h0 : ∀ (j : Nat) (W : World), j ≤ 500 → RowAt W (.slice ad raw.length cap) (intsV raw) → Calls Tryz.prog 21 #[.slice ad raw.length cap, .int .i64 (j : Nat), .int .i64 (0 : Nat), .int .i64 A, .int .i64 B] W fun e w' => BDone raw A B 0 j W e w' := fun j W hj hW => built_zero raw hraw ad cap A B j (by omega) W hW
  have h1 : ∀ (j : Nat) (W : World), j ≤ 400 → RowAt W (.slice ad raw.length cap) (intsV raw) → Calls Tryz.prog 21 #[.slice ad raw.length cap, .int .i64 (j : Nat), .int .i64 (1 : Nat), .int .i64 A, .int .i64 B] W fun e w' => BDone raw A B 1 j W e w' := fun j W hj hW => built_succ raw hraw ad cap A B 0 (by omega) 500 (by omega) j (by omega) W hW h0
  have h2 : ∀ (j : Nat) (W : World), j ≤ 300 → RowAt W (.slice ad raw.length cap) (intsV raw) → Calls Tryz.prog 21 #[.slice ad raw.length cap, .int .i64 (j : Nat), .int .i64 (2 : Nat), .int .i64 A, .int .i64 B] W fun e w' => BDone raw A B 2 j W e w' := fun j W hj hW => built_succ raw hraw ad cap A B 1 (by omega) 400 (by omega) j (by omega) W hW h1
  exact built_succ raw hraw ad cap A B 2 (by omega) 300 (by omega) 0 (by omega) w hr h2

theorem text_K1 (e : Bex) : (((⟨#[115, 101, 108, 101, 99, 116, 32]⟩ : ByteArray) ++ txtB e) ++ ⟨#[44, 32, 120, 46, 98, 32, 102, 114, 111, 109, 32, 101, 32, 120]⟩).data.toList = spr (K1 e) := by
  unfold K1
  simp only [spr_cons, spr_app, spr_sp1 e.ne, ByteArray.data_append, Array.toList_append, txtB_list]
  simp [spr]
theorem text_K2 (e : Bex) : (((⟨#[115, 101, 108, 101, 99, 116, 32, 120, 46, 97, 32, 102, 114, 111, 109, 32, 101, 32, 120, 32, 119, 104, 101, 114, 101, 32]⟩ : ByteArray) ++ txtB e) ++ ⟨#[32, 60, 32, 120, 46, 97]⟩).data.toList = spr (K2 e) := by
  unfold K2
  simp only [spr_cons, spr_app, spr_sp1 e.ne, ByteArray.data_append, Array.toList_append, txtB_list]
  simp [spr]
/-- the table, as it lies. -/
structure TbE (W : World) (p : Nat) (A B : Int) : Prop where
  cols : W.heap[p]? = some (.cells #[.string ⟨#[97]⟩, .string ⟨#[98]⟩] 9 (0, 0))
  row : W.heap[p + 1]? = some (.cells #[.int .i64 A, .int .i64 B] 3 (0, 0))
  rows : W.heap[p + 1 + 1]? = some (.cells #[.slice (some ⟨p + 1, 0, none⟩) 2 2] 32 (0, 0))
  box : W.heap[p + 1 + 1 + 1]? = some (.cells #[.string ⟨#[101]⟩, .slice (some ⟨p, 0, none⟩) 2 2, .slice (some ⟨p + 1 + 1, 0, none⟩) 1 1] 44 (0, 0))
theorem TbE.keep {W W' : World} {p : Nat} {A B : Int} (h : TbE W p A B) (hb : Below W.heap.size W W') : TbE W' p A B :=
  ⟨(hb.block _ (lt_of_heap h.cols)).trans h.cols, (hb.block _ (lt_of_heap h.row)).trans h.row, (hb.block _ (lt_of_heap h.rows)).trans h.rows, (hb.block _ (lt_of_heap h.box)).trans h.box⟩
theorem TbE.colsAt {W : World} {p : Nat} {A B : Int} (h : TbE W p A B) : RowAt W (.slice (some ⟨p, 0, none⟩) 2 2) (textsV (tbE A B).cols) := row_full (xs := [.string ⟨#[97]⟩, .string ⟨#[98]⟩]) h.cols (by simp [maxLen]) 2
theorem one_row {W : World} {g b n c : Nat} {zs : List Int} (hg : W.heap[g]? = some (.cells #[.slice (some ⟨b, 0, none⟩) n c] 32 (0, 0))) (hb : W.heap[b]? = some (.cells (intsV zs).toArray 3 (0, 0))) (hn : zs.length = n) (hm : n ≤ maxLen) : RowsAt W (.slice (some ⟨g, 0, none⟩) 1 1) [zs] := by
  subst hn
  refine ⟨[.slice (some ⟨b, 0, none⟩) zs.length c], row_full (xs := [.slice (some ⟨b, 0, none⟩) zs.length c]) hg (by simp [maxLen]) 1, rfl, fun k r u h1 h2 => ?_⟩
  match k, h1, h2 with
  | 0, h1, h2 =>
    simp at h1 h2
    subst h1 h2
    have := row_full hb (by rw [List.length_map]; exact hm) c
    rw [List.length_map] at this
    exact this
  | k + 1, h1, _ => simp at h1
theorem TbE.rowsAt {W : World} {p : Nat} {A B : Int} (h : TbE W p A B) : RowsAt W (.slice (some ⟨p + 1 + 1, 0, none⟩) 1 1) (tbE A B).rows := one_row (zs := [A, B]) h.rows h.row rfl (by simp [maxLen])
theorem c6E (A B : Int) : (tbE A B).cols.length ≤ 6 := by show 2 ≤ 6; omega
theorem r2E (A B : Int) : (tbE A B).rows.length ≤ 200 := by show 1 ≤ 200; omega
theorem shE (A B : Int) : ∀ r ∈ (tbE A B).rows, r.length = (tbE A B).cols.length := fun r hr => by
  have : r = [A, B] := by simpa [tbE] using hr
  subst this
  rfl
theorem p6E (A B : Int) : p6all [tbE A B] = 0 := by kernel_rfl
theorem RowsB.at {W : World} {g : Nat} {t : TypeId} {cap : Nat} {l : List (List Int)} (h : RowsB W g t cap l) (hm : l.length ≤ maxLen) : RowsAt W (.slice (some ⟨g, 0, none⟩) l.length cap) l := by
  obtain ⟨cur, h1, h2, h3, h4⟩ := h
  have hl : (cur.toList.take l.length).length = l.length := by rw [List.length_take, show cur.toList.length = cap by simpa using h2]; exact Nat.min_eq_left h3
  refine ⟨cur.toList.take l.length, ?_, hl, fun k r u hr hu => ?_⟩
  · refine ⟨_, cap, by rw [hl], by omega, fun _ => ⟨g, 0, rfl, lt_of_heap h1, fun j hj => ?_⟩⟩
    rw [hl] at hj
    rw [Nat.zero_add, (blk h1).1, List.getElem?_take_of_lt hj]
    simp
  · obtain ⟨v, hv, ho⟩ := h4 k r hr
    have hk := (List.getElem?_eq_some_iff.1 hr).1
    rw [List.getElem?_take_of_lt hk, Array.getElem?_toList, hv] at hu
    injection hu with hu
    subst hu
    exact ho.row

set_option maxRecDepth 100000 in
set_option maxHeartbeats 2000000 in
theorem reckons_any (a : Nat → Addr) (Bd : Nat) (w : World) (hE : EnvX a Bd w) (raw : List Int) (hraw : ∀ z ∈ raw, InR z) (ad : Option Addr) (cap : Nat) (hr : RowAt w (.slice ad raw.length cap) (intsV raw)) (A B : Int) (hA : InR A) (hB : InR B) :
    Calls Tryz.prog 7 #[.slice ad raw.length cap, .int .i64 A, .int .i64 B] w fun e w' => e = .returned (.bool true) ∧ Below w.heap.size w w' := by
  have HE := hide hE
  have HR := hide hr
  have HRAW := hide hraw
  have HA := hide hA
  have HB := hide hB
  clear hE hr hraw hA hB
  go_enter Tryz.func7, Tryz.ntmps7
  go_wp2_with fail
  have hb1 : Below w.heap.size w ((((w.alloc (.cells #[.string ⟨#[97]⟩, .string ⟨#[98]⟩] 9)).alloc (.cells #[.int .i64 A, .int .i64 B] 3)).alloc (.cells #[.slice (some ⟨w.heap.size + 1, 0, none⟩) 2 2] 32)).alloc (.cells #[.string ⟨#[101]⟩, .slice (some ⟨w.heap.size, 0, none⟩) 2 2, .slice (some ⟨w.heap.size + 1 + 1, 0, none⟩) 1 1] 44)) := ((((Below.refl _ _).alloc (Nat.le_refl _) _).alloc (by simp) _).alloc (by simp; omega) _).alloc (by simp; omega) _
  have htb : TbE ((((w.alloc (.cells #[.string ⟨#[97]⟩, .string ⟨#[98]⟩] 9)).alloc (.cells #[.int .i64 A, .int .i64 B] 3)).alloc (.cells #[.slice (some ⟨w.heap.size + 1, 0, none⟩) 2 2] 32)).alloc (.cells #[.string ⟨#[101]⟩, .slice (some ⟨w.heap.size, 0, none⟩) 2 2, .slice (some ⟨w.heap.size + 1 + 1, 0, none⟩) 1 1] 44)) w.heap.size A B := ⟨heap_prev (heap_prev (heap_prev (heap_last rfl))), heap_prev (heap_prev (heap_last (by simp))), heap_prev (heap_last (by simp)), heap_last (by simp)⟩
  generalize ((((w.alloc (.cells #[.string ⟨#[97]⟩, .string ⟨#[98]⟩] 9)).alloc (.cells #[.int .i64 A, .int .i64 B] 3)).alloc (.cells #[.slice (some ⟨w.heap.size + 1, 0, none⟩) 2 2] 32)).alloc (.cells #[.string ⟨#[101]⟩, .slice (some ⟨w.heap.size, 0, none⟩) 2 2, .slice (some ⟨w.heap.size + 1 + 1, 0, none⟩) 1 1] 44)) = W1 at *
  have HBT := hide (built_three raw (unhide HRAW) ad cap A B W1 ((unhide HR).keep hb1))
  obtain ⟨ex, hex⟩ : ∃ ex, ex = (bltB raw 3 0).1 := ⟨_, rfl⟩
  have hneed : ex.need ≤ 17 := by rw [hex]; have := need_le raw 3 0; omega
  have hsz : (txtB ex).size ≤ 100 := by rw [hex]; exact Nat.le_trans (txt_le raw 3 0) (by decide)
  unfold BDone at HBT
  rw [← hex] at HBT
  generalize (bltB raw 3 0).2 = nx at HBT
  clear hex
  refine (unhide HBT).mono ?_
  rintro e w2 ⟨rfl, hb2⟩
  have HT2 := hide (htb.keep hb2)
  have HB2 : Hid (Below w.heap.size w w2) := hb1.trans (hb2.mono hb1.size)
  obtain ⟨X1, fs1, N1, ch1, l1, hA1, hL1⟩ := askd1 (unhide HA) (unhide HB) ex hneed (text_K1 ex) (by simp only [ByteArray.size_append]; have e1 : (⟨#[115, 101, 108, 101, 99, 116, 32]⟩ : ByteArray).size = 7 := rfl; have e2 : (⟨#[44, 32, 120, 46, 98, 32, 102, 114, 111, 109, 32, 101, 32, 120]⟩ : ByteArray).size = 14 := rfl; omega)
  obtain ⟨X2, fs2, N2, ch2, l2, hA2, hL2⟩ := askd2 (unhide HA) (unhide HB) ex hneed (text_K2 ex) (by simp only [ByteArray.size_append]; have e1 : (⟨#[115, 101, 108, 101, 99, 116, 32, 120, 46, 97, 32, 102, 114, 111, 109, 32, 101, 32, 120, 32, 119, 104, 101, 114, 101, 32]⟩ : ByteArray).size = 26 := rfl; have e2 : (⟨#[32, 60, 32, 120, 46, 97]⟩ : ByteArray).size = 6 := rfl; omega)
  have HA1 := hide hA1
  have HA2 := hide hA2
  have HL1 := hide hL1
  have HL2 := hide hL2
  clear hb1 htb HBT hb2 hA1 hA2 hL1 hL2 hneed
  generalize txtB ex = TX at *
  generalize ex.val A B = VX at *
  clear ex
  obtain ⟨kt, -⟩ := blk (unhide HT2).box
  have t0 : w2.cell? ⟨w.heap.size + 1 + 1 + 1, 0, none⟩ = some (.string ⟨#[101]⟩) := kt 0
  have t1 : w2.cell? ⟨w.heap.size + 1 + 1 + 1, 1, none⟩ = some (.slice (some ⟨w.heap.size, 0, none⟩) 2 2) := kt 1
  have t2 : w2.cell? ⟨w.heap.size + 1 + 1 + 1, 2, none⟩ = some (.slice (some ⟨w.heap.size + 1 + 1, 0, none⟩) 1 1) := kt 2
  have zt := lt_of_heap (unhide HT2).box
  clear kt
  go_wp2_with fail
  have hbx : Below w2.heap.size w2 (w2.alloc (.cells #[.string TX, .int .i64 VX] 46)) := (Below.refl _ _).alloc (Nat.le_refl _) _
  have hxb : (w2.alloc (.cells #[.string TX, .int .i64 VX] 46)).heap[w2.heap.size]? = some (.cells #[.string TX, .int .i64 VX] 46 (0, 0)) := heap_last rfl
  have htx := (unhide HT2).keep hbx
  have HBX : Hid (Below w.heap.size w (w2.alloc (.cells #[.string TX, .int .i64 VX] 46))) := (unhide HB2).trans (hbx.mono (unhide HB2).size)
  generalize w2.alloc (.cells #[.string TX, .int .i64 VX] 46) = W2 at *
  have hzE := (unhide HE).env.size
  refine (asked_plain a Bd _ (by exact (unhide HE).keep ((unhide HBX).mono hzE)) (tbE A B) _ _ (by exact htx.colsAt) (Nat.le_refl _) (by exact htx.rowsAt) (p6E A B) (c6E A B) (r2E A B) (shE A B) _ X1 fs1 N1 ch1 l1 (by exact unhide HA1)).mono ?_
  rintro e w3 ⟨g1, rfl, hg1, hrb1, hb3⟩
  have HT3 := hide (htx.keep hb3)
  have HX3 := hide ((hb3.block _ (lt_of_heap hxb)).trans hxb)
  have HB3 : Hid (Below w.heap.size w w3) := (unhide HBX).trans (hb3.mono (unhide HBX).size)
  have HR1 := hide hrb1
  clear hbx hxb htx hb3 hrb1 t0 t1 t2 zt HA1
  obtain ⟨kt, -⟩ := blk (unhide HT3).box
  obtain ⟨kx, -⟩ := blk (unhide HX3)
  have t0 : w3.cell? ⟨w.heap.size + 1 + 1 + 1, 0, none⟩ = some (.string ⟨#[101]⟩) := kt 0
  have t1 : w3.cell? ⟨w.heap.size + 1 + 1 + 1, 1, none⟩ = some (.slice (some ⟨w.heap.size, 0, none⟩) 2 2) := kt 1
  have t2 : w3.cell? ⟨w.heap.size + 1 + 1 + 1, 2, none⟩ = some (.slice (some ⟨w.heap.size + 1 + 1, 0, none⟩) 1 1) := kt 2
  have x0 : w3.cell? ⟨w2.heap.size, 0, none⟩ = some (.string TX) := kx 0
  have zt := lt_of_heap (unhide HT3).box
  have zx := lt_of_heap (unhide HX3)
  clear kt kx
  go_wp2_with fail
  refine (asked_plain a Bd _ (by exact (unhide HE).keep ((unhide HB3).mono hzE)) (tbE A B) _ _ (by exact (unhide HT3).colsAt) (Nat.le_refl _) (by exact (unhide HT3).rowsAt) (p6E A B) (c6E A B) (r2E A B) (shE A B) _ X2 fs2 N2 ch2 l2 (by exact unhide HA2)).mono ?_
  rintro e w4 ⟨g2, rfl, hg2, hrb2, hb4⟩
  have hx4 := (hb4.block _ (lt_of_heap (unhide HX3))).trans (unhide HX3)
  have HX4 := hide hx4
  have HB4 : Hid (Below w.heap.size w w4) := (unhide HB3).trans (hb4.mono (unhide HB3).size)
  have hlen1 : l1.length = 1 := by have := congrArg List.length (unhide HL1); simpa [sortL] using this
  have hlen2 : (sortL l2).length = l2.length := by simp [sortL]
  have hle2 : l2.length ≤ 1 := by
    rw [← hlen2, unhide HL2]
    split <;> simp
  have HR2 : Hid (RowsAt w4 (.slice (some ⟨g2, 0, none⟩) l2.length l2.length) (if VX < A then [[A]] else [])) := by
    have := hrb2.at (by rw [hlen2]; unfold maxLen; omega)
    rw [hlen2, unhide HL2] at this
    exact this
  have HR14 : Hid (RowsAt w4 (.slice (some ⟨g1, 0, none⟩) 1 1) [[VX, B]]) := by
    have := (unhide HR1).at (by rw [unhide HL1]; simp [maxLen])
    rw [unhide HL1, hlen1] at this
    exact this.keep hb4
  rw [hlen1]
  obtain ⟨kx, -⟩ := blk hx4
  have x1 : w4.cell? ⟨w2.heap.size, 1, none⟩ = some (.int .i64 VX) := kx 1
  have zx4 := lt_of_heap hx4
  clear hb4 hx4 hrb2 kx x0 t0 t1 t2 zt zx HA2 HR1 HL1 HL2 hlen1 hlen2
  generalize l2.length = k2 at *
  go_wp2_with fail
  have hb5 : Below w4.heap.size w4 ((w4.alloc (.cells #[.int .i64 VX, .int .i64 B] 3)).alloc (.cells #[.slice (some ⟨w4.heap.size, 0, none⟩) 2 2] 32)) := ((Below.refl _ _).alloc (Nat.le_refl _) _).alloc (by simp) _
  have hr5 : RowsAt ((w4.alloc (.cells #[.int .i64 VX, .int .i64 B] 3)).alloc (.cells #[.slice (some ⟨w4.heap.size, 0, none⟩) 2 2] 32)) (.slice (some ⟨w4.heap.size + 1, 0, none⟩) 1 1) [[VX, B]] := one_row (zs := [VX, B]) (heap_last (by simp)) (heap_prev (heap_last rfl)) rfl (by simp [maxLen])
  refine (sameRows_any _ _ [[VX, B]] [[VX, B]] _ (by exact (unhide HR14).keep hb5) (by exact hr5) (by simp)).mono ?_
  rintro e w5 ⟨rfl, hb6⟩
  have hb45 : Below w4.heap.size w4 w5 := hb5.trans (hb6.mono hb5.size)
  have HB5 : Hid (Below w.heap.size w w5) := (unhide HB4).trans (hb45.mono (unhide HB4).size)
  have HR25 := hide ((unhide HR2).keep hb45)
  have x15 := (hb45.cell (p := ⟨w2.heap.size, 1, none⟩) zx4).trans x1
  have zx5 : w2.heap.size < w5.heap.size := Nat.lt_of_lt_of_le zx4 hb45.size
  rw [decide_eq_true (rfl : [[VX, B]] = [[VX, B]])]
  clear hb5 hr5 hb6 hb45 x1 zx4 HR14 HR2 HB4
  by_cases hv : VX < A
  · have hd : decide (A ≤ VX) = false := by simp; omega
    rw [if_pos hv] at HR25
    go_wp2_with fail
    have hb7 : Below w5.heap.size w5 ((w5.alloc (.cells #[.int .i64 A] 3)).alloc (.cells #[.slice (some ⟨w5.heap.size, 0, none⟩) 1 1] 32)) := ((Below.refl _ _).alloc (Nat.le_refl _) _).alloc (by simp) _
    have hr7 : RowsAt ((w5.alloc (.cells #[.int .i64 A] 3)).alloc (.cells #[.slice (some ⟨w5.heap.size, 0, none⟩) 1 1] 32)) (.slice (some ⟨w5.heap.size + 1, 0, none⟩) 1 1) [[A]] := one_row (zs := [A]) (heap_last (by simp)) (heap_prev (heap_last rfl)) rfl (by simp [maxLen])
    refine (sameRows_any _ _ [[A]] [[A]] _ (by exact (unhide HR25).keep hb7) (by exact hr7) (by simp)).mono ?_
    rintro e w6 ⟨rfl, hb8⟩
    have HB6 : Hid (Below w.heap.size w w6) := (unhide HB5).trans ((hb7.trans (hb8.mono hb7.size)).mono (unhide HB5).size)
    rw [decide_eq_true (rfl : [[A]] = [[A]])]
    clear hb7 hr7 hb8
    go_wp2
    go_ret
    exact ⟨rfl, unhide HB6⟩
  · have hd : decide (A ≤ VX) = true := by simp; omega
    rw [if_neg hv] at HR25
    go_wp2_with fail
    have hb7 : Below w5.heap.size w5 ((w5.alloc (.cells #[.int .i64 A] 3)).alloc (.cells #[.slice (some ⟨w5.heap.size, 0, none⟩) 1 1] 32)) := ((Below.refl _ _).alloc (Nat.le_refl _) _).alloc (by simp) _
    have hr7 : RowsAt ((w5.alloc (.cells #[.int .i64 A] 3)).alloc (.cells #[.slice (some ⟨w5.heap.size, 0, none⟩) 1 1] 32)) (.slice none 0 0) [] := ⟨[], ⟨none, 0, rfl, by simp [maxLen], fun h => by simp at h⟩, rfl, fun k r u h => by simp at h⟩
    refine (sameRows_any _ _ [] [] _ (by exact (unhide HR25).keep hb7) (by exact hr7) (by simp)).mono ?_
    rintro e w6 ⟨rfl, hb8⟩
    have HB6 : Hid (Below w.heap.size w w6) := (unhide HB5).trans ((hb7.trans (hb8.mono hb7.size)).mono (unhide HB5).size)
    rw [decide_eq_true (rfl : ([] : List (List Int)) = [])]
    clear hb7 hr7 hb8
    go_wp2
    go_ret
    exact ⟨rfl, unhide HB6⟩
end Go.Proofs.YtfkeddkfegaeiaaGreatDoor
