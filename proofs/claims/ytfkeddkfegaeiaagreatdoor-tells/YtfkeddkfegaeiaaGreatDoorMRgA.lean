/-
  Part 46.
-/
import Derived.Test.YtfkeddkfegaeiaaGreatDoorMRfZ
namespace Go.Proofs.YtfkeddkfegaeiaaGreatDoor
open Go.RowKit

theorem Scd.kinds {s : ByteArray} {i : Nat} {ts l : List Tk} (h : Scd s i ts l) (j : Nat) : (tkAt ts j).kind ≤ 3 := by
  by_cases hj : j < l.length
  · have hm : tkAt ts j ∈ l := by rw [h.eq]; exact tkAt_left hj
    rcases h.tok _ hm with ⟨_, _, _, hk, _⟩ | ⟨_, _, _, _, hk, _⟩ | ⟨_, _, _, hk⟩ | ⟨_, hk, _⟩ <;> omega
  · by_cases hq : j = l.length
    · rw [h.eq, hq, tkAt_end]; show (0 : Nat) ≤ 3; omega
    · rw [tkAt_over (by have := h.len; omega)]; show (0 : Nat) ≤ 3; omega
theorem Scd.tokAt {s : ByteArray} {i : Nat} {ts l : List Tk} (h : Scd s i ts l) {j : Nat} (hk : (tkAt ts j).kind ≠ 0) : IsTok (tkAt ts j) ∧ tkAt ts j ∈ l := by
  by_cases hj : j < l.length
  · have hm : tkAt ts j ∈ l := by rw [h.eq]; exact tkAt_left hj
    exact ⟨h.tok _ hm, hm⟩
  · exfalso
    apply hk
    by_cases hq : j = l.length
    · rw [h.eq, hq, tkAt_end]; rfl
    · rw [tkAt_over (by have := h.len; omega)]; rfl
theorem le_sum_map : ∀ (l : List Tk) (t : Tk), t ∈ l → t.text.size ≤ (l.map fun t => t.text.size).sum
  | a :: r, t, h => by
    rw [List.map_cons, List.sum_cons]
    rcases List.mem_cons.1 h with rfl | h
    · omega
    · have := le_sum_map r t h
      omega
theorem Scd.num {s : ByteArray} {i : Nat} {ts l : List Tk} (h : Scd s i ts l) (hs : s.size ≤ 1000) : NumOk ts := fun j hk => by
  obtain ⟨ht, hm⟩ := h.tokAt (j := j) (by rw [hk]; decide)
  refine ⟨?_, ?_⟩
  · rcases ht with ⟨_, _, _, hk', _⟩ | ⟨_, _, _, _, hk', _⟩ | ⟨_, h2, _, _⟩ | ⟨_, hk', _⟩
    · omega
    · omega
    · exact h2
    · omega
  · have h1 := le_sum_map l _ hm
    have h2 := h.sum
    omega
theorem Scd.cmp {s : ByteArray} {i : Nat} {ts l : List Tk} (h : Scd s i ts l) : CmpOk ts := fun j hc => by
  rw [Lib.containsS_iff] at hc
  have hz : (tkAt ts j).text.data.toList.headD 0 = 60 ∨ (tkAt ts j).text.data.toList.headD 0 = 61 ∨ (tkAt ts j).text.data.toList.headD 0 = 62 := by
    unfold xCmp at hc
    simp only [List.mem_cons, List.mem_nil_iff, or_false] at hc
    rcases hc with e | e | e | e | e | e <;> (rw [e]; decide)
  by_cases hk : (tkAt ts j).kind = 0
  · exfalso
    have he : (tkAt ts j).text = ⟨#[]⟩ := by
      by_cases hj : j < l.length
      · have hm : tkAt ts j ∈ l := by rw [h.eq]; exact tkAt_left hj
        exact ((h.all _ hm).1 hk).elim
      · by_cases hq : j = l.length
        · rw [h.eq, hq, tkAt_end]; rfl
        · rw [tkAt_over (by have := h.len; omega)]; rfl
    rw [he] at hz
    revert hz
    decide
  · obtain ⟨ht, _⟩ := h.tokAt hk
    have hd : ∀ (p : Int → Bool), (∀ ch, ch ∈ (tkAt ts j).text.data.toList → p ch.toNat = true) → (tkAt ts j).text.data.toList ≠ [] → p ((tkAt ts j).text.data.toList.headD 0).toNat = true := fun p hp hne => by
      cases hq : (tkAt ts j).text.data.toList with
      | nil => exact (hne hq).elim
      | cons a r => exact hp a (by rw [hq]; exact List.mem_cons_self)
    rcases ht with ⟨_, _, _, hk', _⟩ | ⟨h1, h2, _, _, _, _⟩ | ⟨h1, h2, _, _⟩ | ⟨_, hk', _⟩
    · exact hk'
    · have := hd letterI h2 h1
      rcases hz with e | e | e <;> (rw [e] at this; exact absurd this (by decide))
    · have := hd digitI h2 h1
      rcases hz with e | e | e <;> (rw [e] at this; exact absurd this (by decide))
    · exact hk'

def ParsePost (w : World) (s : ByteArray) (R : Except (Nat × Nat) QueryX) (e : Ending) (w' : World) : Prop := Below w.heap.size w w' ∧ match R with
  | .error (p, k) => e = .returned (.tuple #[.pointer none, .agg #[.int .i64 (numN k), .int .i64 p]])
  | .ok x => ∃ (c : Cf) (st : St) (y : Xs), e = .returned (.tuple #[.pointer (some ⟨c.qb, 0, none⟩), .agg #[.int .i64 0, .int .i64 0]]) ∧ RX c w' st y ∧ y.ms = idx 0 (tkQuery x) ∧ scanP s = .ok c.ts

set_option maxRecDepth 100000 in
set_option maxHeartbeats 1000000 in
theorem parse_long (s : ByteArray) (w : World) (hs : 1000 < s.size) :
    Calls Tryz.prog 39 #[.string s] w fun e w' => e = .returned (.tuple #[.pointer none, .agg #[.int .i64 1, .int .i64 (-1)]]) ∧ Below w.heap.size w w' := by
  have hd : decide ((1000 : Int) < (s.size : Int)) = true := by simp; omega
  go_enter Tryz.func39, Tryz.ntmps39
  go_wp2
  refine bodyPost_ret (v := .tuple #[.pointer none, .agg #[.int .i64 1, .int .i64 (-1)]]) (by simp [results, Tryz.results39, go_sem]) rfl ⟨rfl, ?_⟩
  exact (Below.refl _ _).alloc (Nat.le_refl _) _

set_option maxRecDepth 100000 in
set_option maxHeartbeats 1000000 in
theorem parse_scan (s : ByteArray) (w : World) (hs : s.size ≤ 1000) (p k : Nat) (h : scanP s = .error (p, k)) :
    Calls Tryz.prog 39 #[.string s] w fun e w' => ParsePost w s (.error (p, k)) e w' := by
  have hd : decide ((1000 : Int) < (s.size : Int)) = false := by simp; omega
  have hnk : (numN k != 0) = true := by simp only [bne_iff_ne, ne_eq]; exact numN_ne
  obtain ⟨R, HR⟩ : ∃ R, Hid (R = scanP s) := ⟨_, rfl⟩
  have hR : R = .error (p, k) := (unhide HR).trans h
  generalize hNK : numN k = nk at *
  have HNK := hide hNK
  clear hNK
  go_enter Tryz.func39, Tryz.ntmps39
  go_wp2_with fail
  refine (tokens_ref s _ hs R HR).mono ?_
  rintro e w1 h1
  rw [hR] at h1
  obtain ⟨hb, rfl⟩ := h1
  rw [unhide HNK]
  have KB := hide ((hb.block w.heap.size (by simp)).trans (heap_last rfl))
  obtain ⟨kb, fb⟩ := blk (unhide KB)
  have zb := lt_of_heap (unhide KB)
  have HB : Hid (Below w.heap.size w w1) := ((Below.refl _ _).alloc (Nat.le_refl _) _).trans (hb.mono (by simp))
  have hbs := (unhide HB).size
  clear hb
  go_wp2
  go_region
  go_wp2
  refine bodyPost_ret (v := .tuple #[.pointer none, .agg #[.int .i64 nk, .int .i64 p]]) (by simp [results, Tryz.results39, go_sem, kb, zb]) rfl ⟨?_, by show Ending.returned _ = Ending.returned (.tuple #[.pointer none, .agg #[.int .i64 (numN k), .int .i64 p]]); rw [unhide HNK]⟩
  repeat (first | exact unhide HB | apply Below.drew | refine Below.setCell ?_ (by exact Nat.le_refl _) _ | refine Below.alloc ?_ (by first | exact hbs | (simp; omega)) _)

/-- the reader as Parse lays it. -/
theorem rx_start {w1 : World} {g cap : Nat} {ts : List Tk} {cur : Array Value} (hh : w1.heap[g]? = some (.cells cur 100 (0, 0))) (ht : cur.toList.take (ts.length * 3) = rtCells ts) (hlen : ts.length ≤ 1001) (hl : Lst ts) (hk : ∀ i, (tkAt ts i).kind ≤ 3) (hp : 0 < ts.length) :
    RX ⟨w1.heap.size + 1 + 1, w1.heap.size + 1, g, cap, w1.heap.size + 1 + 1 + 1, ts⟩ (((w1.alloc (.cells #[.int .i64 0, .int .i64 0] 27)).alloc (.cells #[.int .i64 0, .int .i64 0, .string ⟨#[]⟩, .slice none 0 0, .slice none 0 0, .slice none 0 0, .slice none 0 0, .slice none 0 0, .bool false, .slice none 0 0, .slice none 0 0, .slice none 0 0, .slice none 0 0, .bool false, .slice none 0 0, .slice none 0 0, .slice none 0 0, .slice none 0 0, .bool false, .int .i64 0, .int .i64 0, .slice none 0 0, .slice none 0 0, .slice (some ⟨g, 0, none⟩) ts.length cap] 108)).alloc (.cells #[.pointer (some ⟨w1.heap.size + 1, 0, none⟩), .int .i64 0, .int .i64 0, .int .i64 0, .int .i64 0] 188)) st0 ⟨0, [], .slice none 0 0, .slice none 0 0, 0⟩ ∧ QC ⟨w1.heap.size + 1 + 1, w1.heap.size + 1, g, cap, w1.heap.size + 1 + 1 + 1, ts⟩ (((w1.alloc (.cells #[.int .i64 0, .int .i64 0] 27)).alloc (.cells #[.int .i64 0, .int .i64 0, .string ⟨#[]⟩, .slice none 0 0, .slice none 0 0, .slice none 0 0, .slice none 0 0, .slice none 0 0, .bool false, .slice none 0 0, .slice none 0 0, .slice none 0 0, .slice none 0 0, .bool false, .slice none 0 0, .slice none 0 0, .slice none 0 0, .slice none 0 0, .bool false, .int .i64 0, .int .i64 0, .slice none 0 0, .slice none 0 0, .slice (some ⟨g, 0, none⟩) ts.length cap] 108)).alloc (.cells #[.pointer (some ⟨w1.heap.size + 1, 0, none⟩), .int .i64 0, .int .i64 0, .int .i64 0, .int .i64 0] 188)) (.slice none 0 0) ∧ ∀ k, k < w1.heap.size → k ≠ g → Off ⟨w1.heap.size + 1 + 1, w1.heap.size + 1, g, cap, w1.heap.size + 1 + 1 + 1, ts⟩ ⟨0, [], .slice none 0 0, .slice none 0 0, 0⟩ k := by
  have hg := lt_of_heap hh
  refine ⟨⟨hlen, hl, hk, hp, hp, fun _ => rfl, fun e => (e rfl).elim, by decide, ⟨?_, ?_, ?_⟩, ⟨?_, ?_, ?_⟩, ?_, heap_last (by simp), ⟨Nat.le_refl _, Nat.le_refl _⟩, ⟨_, [], heap_prev (heap_last (by simp)), rfl, rfl, rfl, rfl, World.ownsRow_nil _ _ _ _, World.ownsRow_nil _ _ _ _⟩, ⟨cur, heap_prev (heap_prev (heap_prev hh)), ht⟩⟩, ⟨_, heap_prev (heap_last (by simp)), rfl, rfl⟩, fun k h1 h2 => ⟨?_, ?_, h2, (fun e => by cases e), (fun e => by cases e)⟩⟩
  · show w1.heap.size + 1 + 1 ≠ w1.heap.size + 1; omega
  · show g ≠ w1.heap.size + 1 + 1; omega
  · show g ≠ w1.heap.size + 1; omega
  · show w1.heap.size + 1 + 1 < w1.heap.size + 1 + 1 + 1; omega
  · show w1.heap.size + 1 < w1.heap.size + 1 + 1 + 1; omega
  · show g < w1.heap.size + 1 + 1 + 1; omega
  · show w1.heap.size + 1 + 1 + 1 ≤ _; simp
  · show k ≠ w1.heap.size + 1 + 1; omega
  · show k ≠ w1.heap.size + 1; omega
theorem gx_below {c : Cf} {w w' : World} {x x' : Xs} {n : Nat} (h : GX c w x w' x') (ho : ∀ k, k < n → Off c x k) (hn : n ≤ w.heap.size) : Below n w w' :=
  ⟨h.fr.os, h.fr.tape, h.fr.output, h.fr.size, fun k hk => h.block (by omega) (ho k hk)⟩
theorem end_eq {c : Cf} {w : World} {st : St} {x : Xs} (h : RX c w st x) : ((((rkT (tkAt c.ts x.I) : Nat) : Int) != 5) = true → failP c.ts st eSyntax = endP c.ts st) ∧ ((((rkT (tkAt c.ts x.I) : Nat) : Int) != 5) = false → st = endP c.ts st) := by
  by_cases he : st.er = none
  · rw [RF.cor h he]
    have hk3 := RF.kinds h st.nx
    unfold endP
    by_cases hk : (tkAt c.ts st.nx).kind = 0
    · rw [if_pos hk]
      refine ⟨fun e => ?_, fun _ => rfl⟩
      have : rkT (tkAt c.ts st.nx) = 5 := by unfold rkT; rw [hk]; rfl
      rw [this] at e
      cases e
    · rw [if_neg hk]
      refine ⟨fun _ => rfl, fun e => ?_⟩
      exfalso
      have h5 : rkT (tkAt c.ts st.nx) = 5 := by
        simp only [bne_eq_false_iff_eq] at e
        omega
      unfold rkT at h5
      split at h5
      · split at h5 <;> omega
      · omega
  · have hst := RF.stopped h he
    have e1 : endP c.ts st = st := by unfold endP; rw [if_pos (kind_stopped (RF.last h) hst)]
    rw [e1]
    exact ⟨fun _ => fail_stopped hst _, fun _ => rfl⟩

set_option maxRecDepth 100000 in
set_option maxHeartbeats 1000000 in
theorem parse_read (s : ByteArray) (w : World) (hs : s.size ≤ 1000) (ts : List Tk) (h : scanP s = .ok ts) :
    Calls Tryz.prog 39 #[.string s] w fun e w' => ParsePost w s (readT ts) e w' := by
  have hd : decide ((1000 : Int) < (s.size : Int)) = false := by simp; omega
  obtain ⟨R, HR⟩ : ∃ R, Hid (R = scanP s) := ⟨_, rfl⟩
  have hR : R = .ok ts := (unhide HR).trans h
  obtain ⟨l, hl⟩ := scanP_shape h
  have HSC := hide hl
  have hpos := hl.pos
  have hlen : ts.length ≤ 1001 := by have := hl.len; omega
  clear hl
  go_enter Tryz.func39, Tryz.ntmps39
  go_wp2_with fail
  refine (tokens_ref s _ hs R HR).mono ?_
  rintro e w1 h1
  rw [hR] at h1
  obtain ⟨hb, v, rfl, hrow⟩ := h1
  rcases hrow.2 with ⟨_, h0⟩ | ⟨g, cap, cur, hv, hg0, hg, c1, c2, c3, c4⟩
  · omega
  subst hv
  have hgw : w.heap.size + 1 ≤ g := by simpa using hg0
  obtain ⟨hrx, hqc, hoff⟩ := rx_start hg c4 hlen (unhide HSC).last (unhide HSC).kinds hpos (cap := cap)
  have KB : Hid ((((w1.alloc (.cells #[.int .i64 0, .int .i64 0] 27)).alloc (.cells #[.int .i64 0, .int .i64 0, .string ⟨#[]⟩, .slice none 0 0, .slice none 0 0, .slice none 0 0, .slice none 0 0, .slice none 0 0, .bool false, .slice none 0 0, .slice none 0 0, .slice none 0 0, .slice none 0 0, .bool false, .slice none 0 0, .slice none 0 0, .slice none 0 0, .slice none 0 0, .bool false, .int .i64 0, .int .i64 0, .slice none 0 0, .slice none 0 0, .slice (some ⟨g, 0, none⟩) ts.length cap] 108)).alloc (.cells #[.pointer (some ⟨w1.heap.size + 1, 0, none⟩), .int .i64 0, .int .i64 0, .int .i64 0, .int .i64 0] 188)).heap[w.heap.size]? = some (.cells #[.int .i64 0, .int .i64 0] 27 (0, 0))) := heap_prev (heap_prev (heap_prev ((hb.block w.heap.size (by simp)).trans (heap_last rfl))))
  have HB3 : Hid (Below w.heap.size w (((w1.alloc (.cells #[.int .i64 0, .int .i64 0] 27)).alloc (.cells #[.int .i64 0, .int .i64 0, .string ⟨#[]⟩, .slice none 0 0, .slice none 0 0, .slice none 0 0, .slice none 0 0, .slice none 0 0, .bool false, .slice none 0 0, .slice none 0 0, .slice none 0 0, .slice none 0 0, .bool false, .slice none 0 0, .slice none 0 0, .slice none 0 0, .slice none 0 0, .bool false, .int .i64 0, .int .i64 0, .slice none 0 0, .slice none 0 0, .slice (some ⟨g, 0, none⟩) ts.length cap] 108)).alloc (.cells #[.pointer (some ⟨w1.heap.size + 1, 0, none⟩), .int .i64 0, .int .i64 0, .int .i64 0, .int .i64 0] 188))) := ((((((Below.refl _ _).alloc (Nat.le_refl _) _).trans (hb.mono (by simp))).alloc (by have := hb.size; simp at this; omega) _).alloc (by have := hb.size; simp at this; simp; omega) _).alloc (by have := hb.size; simp at this; simp; omega) _)
  have hw1 : w.heap.size + 1 ≤ w1.heap.size := by have := hb.size; simpa using this
  have HOFF : Hid (∀ k, k ≤ w.heap.size → Off ⟨w1.heap.size + 1 + 1, w1.heap.size + 1, g, cap, w1.heap.size + 1 + 1 + 1, ts⟩ ⟨0, [], .slice none 0 0, .slice none 0 0, 0⟩ k) := fun k hk => hoff k (by omega) (by omega)
  have HRX := hide hrx
  have HQC := hide hqc
  clear hb hrow c1 c2 c3 c4 hg hrx hqc hoff HR hR hg0
  go_wp2_with fail
  obtain ⟨c, hc⟩ : ∃ c : Cf, c = ⟨w1.heap.size + 1 + 1, w1.heap.size + 1, g, cap, w1.heap.size + 1 + 1 + 1, ts⟩ := ⟨_, rfl⟩
  have hct : c.ts = ts := by rw [hc]
  have hcr : w1.heap.size + 1 + 1 = c.rb := by rw [hc]
  have hcq : w1.heap.size + 1 = c.qb := by rw [hc]
  rw [← hc] at HRX HQC HOFF
  obtain ⟨x0, hx0⟩ : ∃ x : Xs, x = ⟨0, [], .slice none 0 0, .slice none 0 0, 0⟩ := ⟨_, rfl⟩
  have hxm : x0.ms = [] := by rw [hx0]
  rw [← hx0] at HRX HOFF
  have hz3 : w.heap.size < (((w1.alloc (.cells #[.int .i64 0, .int .i64 0] 27)).alloc (.cells #[.int .i64 0, .int .i64 0, .string ⟨#[]⟩, .slice none 0 0, .slice none 0 0, .slice none 0 0, .slice none 0 0, .slice none 0 0, .bool false, .slice none 0 0, .slice none 0 0, .slice none 0 0, .slice none 0 0, .bool false, .slice none 0 0, .slice none 0 0, .slice none 0 0, .slice none 0 0, .bool false, .int .i64 0, .int .i64 0, .slice none 0 0, .slice none 0 0, .slice (some ⟨g, 0, none⟩) ts.length cap] 108)).alloc (.cells #[.pointer (some ⟨w1.heap.size + 1, 0, none⟩), .int .i64 0, .int .i64 0, .int .i64 0, .int .i64 0] 188)).heap.size := by simp; omega
  generalize (((w1.alloc (.cells #[.int .i64 0, .int .i64 0] 27)).alloc (.cells #[.int .i64 0, .int .i64 0, .string ⟨#[]⟩, .slice none 0 0, .slice none 0 0, .slice none 0 0, .slice none 0 0, .slice none 0 0, .bool false, .slice none 0 0, .slice none 0 0, .slice none 0 0, .slice none 0 0, .bool false, .slice none 0 0, .slice none 0 0, .slice none 0 0, .slice none 0 0, .bool false, .int .i64 0, .int .i64 0, .slice none 0 0, .slice none 0 0, .slice (some ⟨g, 0, none⟩) ts.length cap] 108)).alloc (.cells #[.pointer (some ⟨w1.heap.size + 1, 0, none⟩), .int .i64 0, .int .i64 0, .int .i64 0, .int .i64 0] 188)) = W3 at *
  rw [hcr]
  have hlo : w.heap.size < c.rb ∧ w.heap.size < c.qb := by omega
  clear hc hx0 hcr hcq hgw hw1
  subst hct
  have HL := hide (unhide HSC).last
  have HW := hide (unhide HSC).lw
  have HN := hide ((unhide HSC).num hs)
  have HC := hide (unhide HSC).cmp
  have hne := RF.ne (unhide HRX)
  refine (rmay_k c _ st0 x0 ⟨#[119, 105, 116, 104]⟩ (by exact unhide HRX)).mono ?_
  rintro e w4 ⟨x4, rfl, hr, hg, hm4, hkp⟩
  have HR4 := hide hr
  have HG4 := hide hg
  have HQ4 := hide ((unhide HQC).kp hkp hne.1)
  have HM4 : Hid (x4.ms = []) := hm4.trans hxm
  clear hr hg hm4 hkp HRX HQC
  obtain ⟨H, HH⟩ : ∃ H, Hid (H = qHead c.ts st0) := ⟨_, rfl⟩
  go_upto_if 28 with (fail)
  go_cut [7] (fun _ W => ∃ x5, RX c W H.2 x5 ∧ GX c W3 x0 W x5 ∧ (H.2.er = none → Ml st0 H.2 (tkWo H.1) [] x5.ms))
  case first =>
    cases hh : hitP c.ts st0 [⟨#[119, 105, 116, 104]⟩] with
    | false =>
      have HV : Hid (H = (none, st0)) := by unfold Hid; rw [unhide HH]; unfold qHead; rw [hh]; rfl
      unfold takeS at HR4
      rw [hh] at HR4
      clear hh
      go_wp2_with fail
      go_meet
      case rel =>
        rw [unhide HV]
        exact ⟨x4, unhide HR4, unhide HG4, fun _ => by rw [unhide HM4]; exact Ml.refl _ _⟩
    | true =>
      have HV : Hid (H = (some (withP c.ts (adv st0) (tkAt c.ts st0.nx).place).1, (withP c.ts (adv st0) (tkAt c.ts st0.nx).place).2)) := by unfold Hid; rw [unhide HH]; unfold qHead; rw [hh]; rfl
      unfold takeS at HR4
      rw [hh] at HR4
      have HR4' : Hid (RX c w4 (adv st0) x4) := unhide HR4
      clear hh HR4
      go_wp2_with fail
      refine (rwith_x c (unhide HW) (unhide HN) (unhide HC) _ (adv st0) x4 (tkAt c.ts st0.nx).place (by exact unhide HR4') rfl (unhide HQ4)).mono ?_
      rintro e w5 ⟨x5, rfl, hr, hg, hm5⟩
      have HR5 := hide hr
      have HG5 := hide ((unhide HG4).trans hg)
      have HM5 := hide hm5
      clear hr hg hm5
      go_wp2_with fail
      go_meet
      case rel =>
        rw [unhide HV]
        refine ⟨x5, unhide HR5, unhide HG5, fun e => ?_⟩
        obtain ⟨m, k4, k5⟩ := (unhide HM5) e
        rw [unhide HM4] at k4
        exact ((ml_adv ⟨#[119, 105, 116, 104]⟩).trans k4).cast k5.symm
  case rest =>
    obtain ⟨x5, hr, hg, hm5⟩ := hcut
    have HR5 := hide hr
    have HG5 := hide hg
    have HM5 := hide hm5
    have HOH := hide (onw_qHead (unhide HL) (st := st0) hpos)
    rw [← unhide HH] at HOH
    have hdH : H.2.dp = 0 := (unhide HOH).dp
    clear hr hg hm5 HR4 HG4 HQ4
    obtain ⟨X, HX⟩ : ∃ X, Hid (X = selP c.ts H.2) := ⟨_, rfl⟩
    have HC4 := hide (rselects_x c (unhide HW) (unhide HN) (unhide HC) wc H.2 x5 (unhide HR5) hdH)
    rw [← unhide HX] at HC4
    have HC4D := hide (rselects_x c (unhide HW) (unhide HN) (unhide HC) wc.drew H.2 x5 (unhide HR5).drew hdH)
    rw [← unhide HX] at HC4D
    have HOX := hide (onw_sel (unhide HL) (RF.nx (unhide HR5)))
    rw [← unhide HX] at HOX
    obtain ⟨⟨r0, r1, r2, r3, r4⟩, hfr, q23, ⟨t0, t1, t2⟩, zr, zq, zt⟩ := RF.facts (unhide HR5)
    clear r1 r2 r3 r4 q23 t0 t1 t2 zt
    go_upto_region 10 with (fail)
    go_cut [] (fun W => ∃ x6, RX c W X.2 x6 ∧ GX c W3 x0 W x6 ∧ (X.2.er = none → Ml st0 X.2 (tkWo H.1 ++ tkSel X.1) [] x6.ms))
    case first =>
      go_region_with (first
        | (go_at_call 69; first | refine (unhide HC4).mono ?_ | refine (unhide HC4D).mono ?_; rintro e w15 ⟨b1, b2, b3, b4, l1, c1, l2, c2, l3, c3, l4, c4, x15, rfl, hr, hg, hm⟩; obtain ⟨⟨r10, _, _, _, _⟩, _, _, _, zr1, zq1, _⟩ := RF.facts hr; have qf1 := hr.qfro; obtain ⟨v14, e14⟩ := hr.qcell 14 (by decide); obtain ⟨v15, e15⟩ := hr.qcell 15 (by decide); obtain ⟨v16, e16⟩ := hr.qcell 16 (by decide); obtain ⟨v17, e17⟩ := hr.qcell 17 (by decide); obtain ⟨v18, e18⟩ := hr.qcell 18 (by decide); have HR15 := hide hr; have HG15 := hide hg; have HM15 := hide hm; clear hr hg hm)
        | fail)
      all_goals
        go_wp2_with fail
        go_meet
        case rel =>
          refine ⟨x15, ?_, ?_, fun e => ?_⟩
          · repeat (first | exact unhide HR15 | refine RX.setQ ?_ (by decide) | refine RX.drew ?_)
          · repeat (first | exact (unhide HG5).trans (unhide HG15) | exact (unhide HG5).trans (GX.drew0 (unhide HG15)) | refine GX.setQ ?_ | refine GX.drew ?_)
          · exact ((unhide HM5) ((unhide HOX).er e)).trans ((unhide HM15) e)
    case rest =>
      obtain ⟨x6, hr, hg, hm6⟩ := hcut
      have HR6 := hide hr
      have HG6 := hide hg
      have HM6 := hide hm6
      clear hr hg hm6 r0 hfr zr zq HR5 HG5 HC4 HC4D
      have HEND := hide (end_eq (unhide HR6))
      obtain ⟨⟨r0, r1, r2, r3, r4⟩, hfr, q23, ⟨t0, t1, t2⟩, zr, zq, zt⟩ := RF.facts (unhide HR6)
      have hinx := RF.inx (unhide HR6)
      clear r2 r3 r4 t1 t2
      generalize ((rkT (tkAt c.ts x6.I) : Nat) : Int) = rk at *
      go_upto_region 11 with (fail)
      go_cut [53] (fun s53 W => s53 = .bool (rk != 5) ∧ RX c W X.2 x6 ∧ GX c W3 x0 W x6)
      case first =>
        go_region
        all_goals
          go_wp2_with fail
          go_meet
          case rel => exact ⟨rfl, by first | exact unhide HR6 | exact (unhide HR6).drew, by first | exact unhide HG6 | exact (unhide HG6).drew⟩
      case rest =>
        obtain ⟨rfl, hr, hg⟩ := hcut
        have HR7 := hide hr
        have HG7 := hide hg
        clear hr hg r0 r1 hfr q23 t0 zr zq zt HR6 HG6 hinx
        go_upto_if 53 with (fail)
        go_cut [] (fun W => ∃ x8, RX c W (endP c.ts X.2) x8 ∧ GX c W3 x0 W x8 ∧ x8.ms = x6.ms)
        case first =>
          cases hrk : (rk != 5) with
          | false =>
            have HE2 := hide ((unhide HEND).2 hrk)
            go_wp2_with fail
            go_meet
            case rel =>
              rw [← unhide HE2]
              exact ⟨x6, unhide HR7, unhide HG7, rfl⟩
          | true =>
            have HE2 := hide ((unhide HEND).1 hrk)
            go_wp2_with fail
            refine (rfail_x c _ X.2 x6 (by exact unhide HR7)).mono ?_
            rintro e w8 ⟨x8, rfl, hr, hg, hm8⟩
            have HR8 := hide hr
            have HG8 := hide ((unhide HG7).trans hg)
            clear hr hg
            go_wp2_with fail
            go_meet
            case rel =>
              rw [← unhide HE2]
              exact ⟨x8, unhide HR8, unhide HG8, hm8⟩
        case rest =>
          obtain ⟨x8, hr, hg, hm8⟩ := hcut
          have HR8 := hide hr
          have HG8 := hide hg
          have HM8 := hide hm8
          clear hr hg hm8 HR7 HG7 HEND
          have HBF : Hid (Below (w.heap.size + 1) W3 wc) := gx_below (unhide HG8) (fun k hk => (unhide HOFF) k (by omega)) (by omega)
          have KF := hide (((unhide HBF).block w.heap.size (by omega)).trans (unhide KB))
          have HBW : Hid (Below w.heap.size w wc) := (unhide HB3).trans ((unhide HBF).mono (by omega))
          obtain ⟨kb, fb⟩ := blk (unhide KF)
          have zb := lt_of_heap (unhide KF)
          obtain ⟨⟨r0, r1, r2, r3, r4⟩, hfr, q23, ⟨t0, t1, t2⟩, zr, zq, zt⟩ := RF.facts (unhide HR8)
          have HOFW : Hid (Off c x8 w.heap.size) := (unhide HG8).off (by omega) ((unhide HOFF) _ (Nat.le_refl _))
          have eX : queryP c.ts st0 = (⟨(tkAt c.ts st0.nx).place, H.1, X.1⟩, X.2) := by rw [unhide HX, unhide HH]; rfl
          have hRT : readT c.ts = resP (endP c.ts X.2).er ⟨(tkAt c.ts st0.nx).place, H.1, X.1⟩ := by
            have := readT_eq (ts := c.ts) (X := queryP c.ts st0) rfl
            rw [eX] at this
            exact this
          have HRT := hide hRT
          clear r1 r2 q23 t0 t1 t2 zt eX hRT
          cases her : (endP c.ts X.2).er with
          | none =>
            rw [her] at r3 r4 HRT
            have r3' : wc.cell? ⟨c.rb, 3, none⟩ = some (.int .i64 0) := r3
            have HXE : Hid (X.2.er = none) := (onw_end (unhide HOX).lt).er her
            clear r3 r4 her
            go_wp2
            refine bodyPost_ret (v := .tuple #[.pointer (some ⟨c.qb, 0, none⟩), .agg #[.int .i64 0, .int .i64 0]]) (by simp [results, Tryz.results39, go_sem, kb]) rfl ?_
            rw [unhide HRT]
            refine ⟨?_, c, endP c.ts X.2, x8, rfl, ?_, ?_, h⟩
            · repeat (first | exact unhide HBW | apply Below.drew | refine Below.setCell ?_ (by exact Nat.le_refl _) _)
            · exact (unhide HR8).kpb (((Kp.refl w.heap.size _).setCell _ _).setCell _ _) (unhide HOFW)
            · rw [unhide HM8]
              have := (unhide HM6) (unhide HXE)
              have e2 := this.2
              rw [List.nil_append] at e2
              exact e2
          | some pk =>
            obtain ⟨p, k⟩ := pk
            rw [her] at r3 r4 HRT
            have hnk : (numN k != 0) = true := by simp only [bne_iff_ne, ne_eq]; exact numN_ne
            have r3' : wc.cell? ⟨c.rb, 3, none⟩ = some (.int .i64 (numN k)) := r3
            have r4' : wc.cell? ⟨c.rb, 4, none⟩ = some (.int .i64 p) := r4
            clear r3 r4 her
            generalize hNK : numN k = nk at *
            have HNK := hide hNK
            clear hNK
            go_wp2
            go_region
            all_goals
              go_wp2
              refine bodyPost_ret (v := .tuple #[.pointer none, .agg #[.int .i64 nk, .int .i64 p]]) (by simp [results, Tryz.results39, go_sem, kb]) rfl ?_
              rw [unhide HRT]
              refine ⟨?_, by show Ending.returned _ = Ending.returned (.tuple #[.pointer none, .agg #[.int .i64 (numN k), .int .i64 p]]); rw [unhide HNK]⟩
              repeat (first | exact unhide HBW | apply Below.drew | refine Below.setCell ?_ (by exact Nat.le_refl _) _)
theorem parse_any (s : ByteArray) (w : World) (hs : s.size ≤ 1000) : Calls Tryz.prog 39 #[.string s] w fun e w' => ParsePost w s (readP s) e w' := by
  unfold readP
  cases h : scanP s with
  | error pk =>
    obtain ⟨p, k⟩ := pk
    exact parse_scan s w hs p k h
  | ok ts => exact parse_read s w hs ts h
end Go.Proofs.YtfkeddkfegaeiaaGreatDoor
