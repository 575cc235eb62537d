/-
  Part 49.
-/
import Derived.Test.YtfkeddkfegaeiaaGreatDoorCtPlBg
import Derived.Test.YtfkeddkfegaeiaaGreatDoorCtPlCg
import Derived.Test.YtfkeddkfegaeiaaGreatDoorCtAskC
import Derived.Test.YtfkeddkfegaeiaaGreatDoorCtGrP
namespace Go.Proofs.YtfkeddkfegaeiaaGreatDoor
open Go.RowKit
/-- rows of two small numbers. -/
def Sm (n : Int) (rows : List (List Int)) : Prop := ∀ r ∈ rows, ∃ a b, r = [a, b] ∧ 0 ≤ a ∧ a < n ∧ 0 ≤ b ∧ b < n
theorem Sm.first {n : Int} {rows : List (List Int)} (h : Sm n rows) {r : List Int} (hr : r ∈ rows) : 0 ≤ r.getD 0 0 ∧ r.getD 0 0 < n := by
  obtain ⟨a, b, rfl, h1, h2, -⟩ := h r hr
  exact ⟨h1, h2⟩
theorem Sm.two {n : Int} {rows : List (List Int)} (h : Sm n rows) : ∀ r ∈ rows, r.length = 2 := fun r hr => by
  obtain ⟨a, b, rfl, -⟩ := h r hr
  rfl
/-- what pairs leaves. -/
def PrDone (w : World) (n most : Nat) (e : Ending) (w' : World) : Prop := ∃ rows rv vs, e = .returned (.agg #[.string ⟨#[101]⟩, .slice (some ⟨w.heap.size + 1, 0, none⟩) 2 2, rv]) ∧ w'.heap[w.heap.size + 1]? = some (.cells #[.string ⟨#[97]⟩, .string ⟨#[98]⟩] 9 (0, 0)) ∧ w'.ownsRow w.heap.size 32 1 rv vs.length vs ∧ RowsN w' 2 vs rows ∧ Sm n rows ∧ rows.length ≤ most ∧ Below w.heap.size w w'
set_option maxRecDepth 100000 in
set_option maxHeartbeats 2000000 in
theorem pairs_any (raw : List Int) (hraw : ∀ z ∈ raw, InR z) (ad : Option Addr) (cap : Nat) (n most : Nat) (hn : 0 < n) (hn2 : n ≤ 100) (hm : most ≤ 100) (w : World) (hr : RowAt w (.slice ad raw.length cap) (intsV raw)) :
    Calls Tryz.prog 34 #[.slice ad raw.length cap, .int .i64 (n : Nat), .int .i64 (most : Nat)] w fun e w' => PrDone w n most e w' := by
  have HR := hide hr
  have HRAW := hide hraw
  clear hr hraw
  go_enter Tryz.func34, Tryz.ntmps34
  go_wp2_with fail
  have hbw1 : Below w.heap.size w (((w.alloc (.cells #[.string ⟨#[]⟩, .slice none 0 0, .slice none 0 0] 44)).alloc (.cells #[.string ⟨#[97]⟩, .string ⟨#[98]⟩] 9)).alloc (.cells #[.string ⟨#[101]⟩, .slice (some ⟨w.heap.size + 1, 0, none⟩) 2 2, .slice none 0 0] 44)) := (((Below.refl _ _).alloc (Nat.le_refl _) _).alloc (by simp) _).alloc (by simp; omega) _
  have hx0 : (((w.alloc (.cells #[.string ⟨#[]⟩, .slice none 0 0, .slice none 0 0] 44)).alloc (.cells #[.string ⟨#[97]⟩, .string ⟨#[98]⟩] 9)).alloc (.cells #[.string ⟨#[101]⟩, .slice (some ⟨w.heap.size + 1, 0, none⟩) 2 2, .slice none 0 0] 44)).heap[w.heap.size]? = some (.cells #[.string ⟨#[]⟩, .slice none 0 0, .slice none 0 0] 44 (0, 0)) := heap_prev (heap_prev (heap_last rfl))
  have hx1 : (((w.alloc (.cells #[.string ⟨#[]⟩, .slice none 0 0, .slice none 0 0] 44)).alloc (.cells #[.string ⟨#[97]⟩, .string ⟨#[98]⟩] 9)).alloc (.cells #[.string ⟨#[101]⟩, .slice (some ⟨w.heap.size + 1, 0, none⟩) 2 2, .slice none 0 0] 44)).heap[w.heap.size + 1]? = some (.cells #[.string ⟨#[97]⟩, .string ⟨#[98]⟩] 9 (0, 0)) := heap_prev (heap_last (by simp))
  have hx2 : (((w.alloc (.cells #[.string ⟨#[]⟩, .slice none 0 0, .slice none 0 0] 44)).alloc (.cells #[.string ⟨#[97]⟩, .string ⟨#[98]⟩] 9)).alloc (.cells #[.string ⟨#[101]⟩, .slice (some ⟨w.heap.size + 1, 0, none⟩) 2 2, .slice none 0 0] 44)).heap[w.heap.size + 1 + 1]? = some (.cells #[.string ⟨#[101]⟩, .slice (some ⟨w.heap.size + 1, 0, none⟩) 2 2, .slice none 0 0] 44 (0, 0)) := heap_last (by simp)
  have HBW1 := hide hbw1
  have HX0 := hide hx0
  have HX1 := hide hx1
  have HX2 := hide hx2
  obtain ⟨i0, hi, hinf⟩ := Option.map_eq_some_iff.1 infoRow
  simp only [Prod.mk.injEq] at hinf
  obtain ⟨hz0, hz1, hz2⟩ := hinf
  have HI := hide hi
  have HZ0 := hide hz0
  have HZ1 := hide hz1
  have HZ2 := hide hz2
  have hmx : raw.length ≤ maxLen := by obtain ⟨a9, c9, e9, m9, -⟩ := unhide HR; simpa using m9
  unfold maxLen at hmx
  clear hi hz0 hz1 hz2 hbw1 hx0 hx1 hx2
  go_loopg [8] raw.length (fun f i W => ∃ k vs rv rows, i = .int .i64 (k : Nat) ∧ f = raw.length - k ∧ k = 2 * rows.length ∧ W.heap[w.heap.size]? = some (.cells #[.string ⟨#[]⟩, .slice none 0 0, .slice none 0 0] 44 (0, 0)) ∧ W.heap[w.heap.size + 1]? = some (.cells #[.string ⟨#[97]⟩, .string ⟨#[98]⟩] 9 (0, 0)) ∧ W.heap[w.heap.size + 1 + 1]? = some (.cells #[.string ⟨#[101]⟩, .slice (some ⟨w.heap.size + 1, 0, none⟩) 2 2, rv] 44 (0, 0)) ∧ W.ownsRow (w.heap.size + 1 + 1 + 1) 32 1 rv vs.length vs ∧ RowsN W 2 vs rows ∧ Sm n rows ∧ rows.length ≤ most ∧ Below w.heap.size w W ∧ w.heap.size + 1 + 1 + 1 ≤ W.heap.size)
  case atStart => exact ⟨0, [], _, [], rfl, by omega, by simp, unhide HX0, unhide HX1, unhide HX2, World.ownsRow_nil _ _ _ _, ⟨rfl, fun i u r e => by simp at e⟩, fun r hr => by simp at hr, by simp, unhide HBW1, by simp⟩
  case round =>
    obtain ⟨k, vs, rv, rows, rfl, rfl, hk1, hx0, hx1, hx2, hown, hrn, hsm, hlen, hbw, hz⟩ := hrel
    have HX0 := hide hx0
    have HX1 := hide hx1
    have HX2 := hide hx2
    have HOW := hide hown
    have HRN := hide hrn
    have HSM := hide hsm
    have HBW := hide hbw
    obtain ⟨adv, capv, rfl⟩ := owns_form hown
    have HVL : Hid (vs.length = rows.length) := hrn.1
    have HK := hide hk1
    have hk9 : k ≤ 200 := by omega
    have hv9 : vs.length ≤ most := by rw [unhide HVL]; exact hlen
    obtain ⟨kx, fx⟩ := blk hx2
    have x0 : wr.cell? ⟨w.heap.size + 1 + 1, 0, none⟩ = some (.string ⟨#[101]⟩) := kx 0
    have x1 : wr.cell? ⟨w.heap.size + 1 + 1, 1, none⟩ = some (.slice (some ⟨w.heap.size + 1, 0, none⟩) 2 2) := kx 1
    have x2 : wr.cell? ⟨w.heap.size + 1 + 1, 2, none⟩ = some (.slice adv vs.length capv) := kx 2
    have xf2 : wr.frozen? ⟨w.heap.size + 1 + 1, 2, none⟩ = false := fx 2
    have zx2 := lt_of_heap hx2
    have zx3 : w.heap.size + 1 + 1 < wr.heap.size + 1 := by omega
    clear hx0 hx1 hx2 hown hrn hsm hbw kx fx hk1
    by_cases hgo : k + 1 < raw.length ∧ vs.length < most
    · have hlt1 : decide ((k : Int) + 1 < (raw.length : Int)) = true := by simp; omega
      have hlt2 : decide ((vs.length : Int) < (most : Int)) = true := by simp; omega
      obtain ⟨a9, c9, e9, m9, hcell⟩ := unhide HR
      rw [List.length_map] at hcell
      injection e9 with e9 e10 e11
      subst e9 e11
      clear m9 e10
      obtain ⟨br, o, rfl, zr, hj⟩ := hcell (by omega)
      obtain ⟨za, hza⟩ : ∃ z, raw[k]? = some z := ⟨_, List.getElem?_eq_getElem (by omega)⟩
      obtain ⟨zb, hzb⟩ : ∃ z, raw[k + 1]? = some z := ⟨_, List.getElem?_eq_getElem (by omega)⟩
      have c0 : wr.cell? ⟨br, o + k, none⟩ = some (.int .i64 za) := by
        rw [(unhide HBW).cell (p := ⟨br, o + k, none⟩) zr, hj k (by omega), intsV, List.getElem?_map, hza]; rfl
      have c1 : wr.cell? ⟨br, o + (k + 1), none⟩ = some (.int .i64 zb) := by
        rw [(unhide HBW).cell (p := ⟨br, o + (k + 1), none⟩) zr, hj (k + 1) (by omega), intsV, List.getElem?_map, hzb]; rfl
      have zr2 : br < wr.heap.size := Nat.lt_of_lt_of_le zr (unhide HBW).size
      have HA := hide ((unhide HRAW) za (List.mem_of_getElem? hza))
      have HB := hide ((unhide HRAW) zb (List.mem_of_getElem? hzb))
      have HP : Hid (∀ z W, InR z → Calls Tryz.prog 31 #[.int .i64 z, .int .i64 (n : Nat)] W fun e w' => e = .returned (.int .i64 (pickI z n)) ∧ w' = W) := fun z W hz => pick_any z n hz.1 hz.2 (by omega) (by omega) W
      have hi1 : (0 : Int) ≤ (k : Int) := by omega
      have hi2 : (k : Int) < (raw.length : Int) := by omega
      have hi3 : (0 : Int) ≤ (k : Int) + 1 := by omega
      have hi4 : (k : Int) + 1 < (raw.length : Int) := by omega
      have hi5 : ((k : Int) + 1).toNat = k + 1 := by omega
      have hs1 : IntKind.i64.wrap ((k : Int) + 1) = (k : Int) + 1 := by unfold IntKind.wrap; simp [IntKind.bits, IntKind.signed]; omega
      have HNE := own_ne (unhide HOW) (show w.heap.size + 1 + 1 < w.heap.size + 1 + 1 + 1 by omega)
      clear hj hcell hza hzb
      go_wp2_with fail
      go_region_law (first
        | (refine step_append_lies _ rfl (.tmp 26) (.tmp 41) 42 rfl (w.heap.size + 1 + 1 + 1) 32 i0 (.slice none 0 0) 1 24 Tryz.underlying42 (unhide HI) (unhide HZ0) (unhide HZ1) (unhide HZ2) rfl (by decide) (.slice adv vs.length capv) vs.length vs (by simp [Act.eval]) (((unhide HOW).drew.alloc _).alloc _) ⟨wr.heap.size + 1, 0, none⟩ 1 1 [.slice (some ⟨wr.heap.size, 0, none⟩) 2 2] (by simp [Act.eval]) rfl (news1 (heap_last (by simp))) (one1l _ _ _) (by decide) (by unfold maxLen; omega) (by omega) (by simp; omega) _ rfl ?_; intro g cap' w3 ho hg hat hlt9; have hx23 := (hg.block (w.heap.size + 1 + 1) (by simp; omega) HNE.symm).trans (heap_prev (heap_prev (unhide HX2))); have y2 : w3.cell? ⟨w.heap.size + 1 + 1, 2, none⟩ = some (.slice adv vs.length capv) := (blk hx23).1 2; have yf2 : w3.frozen? ⟨w.heap.size + 1 + 1, 2, none⟩ = false := (blk hx23).2 2)
        | (go_simp; go_at_call 31; refine ((unhide HP) _ _ (by first | exact unhide HA | exact unhide HB)).mono ?_; rintro e w2 ⟨rfl, hw2⟩; obtain rfl := hw2.symm))
      all_goals
        have HO3 := hide ho
        have HG3 := hide hg
        have HX23 := hide hx23
        clear ho hg hat hlt9 hx23
        go_wp2
        go_roundg (raw.length - (k + 2))
        case measure => omega
        case rel =>
          have hg3 := unhide HG3
          have hown := ((unhide HOW).drew.alloc (.cells #[.int .i64 (pickI za n), .int .i64 (pickI zb n)] 3)).alloc (.cells #[.slice (some ⟨wr.heap.size, 0, none⟩) 2 2] 32)
          have hb2 : Below wr.heap.size wr ((wr.drew.alloc (.cells #[.int .i64 (pickI za n), .int .i64 (pickI zb n)] 3)).alloc (.cells #[.slice (some ⟨wr.heap.size, 0, none⟩) 2 2] 32)) := (((Below.refl _ _).drew).alloc (Nat.le_refl _) _).alloc (by simp) _
          have hrow : ((wr.drew.alloc (.cells #[.int .i64 (pickI za n), .int .i64 (pickI zb n)] 3)).alloc (.cells #[.slice (some ⟨wr.heap.size, 0, none⟩) 2 2] 32)).heap[wr.heap.size]? = some (.cells (intsV [pickI za n, pickI zb n]).toArray 3 (0, 0)) := heap_prev (heap_last rfl)
          have hrn := ((((unhide HRN).below hb2).snoc (r := [pickI za n, pickI zb n]) rfl hrow).grown hown hg3)
          have hb3 : Below w.heap.size w w3 := ((unhide HBW).trans (hb2.mono (unhide HBW).size)).grown hg3 (by simp; omega) (fun b e => by have := (hown.lt b e).1; omega)
          have keep : ∀ b, b < w.heap.size + 1 + 1 → w3.heap[b]? = wr.heap[b]? := fun b hb => (hg3.block b (by simp; omega) (own_ne hown (by omega)).symm).trans (hb2.block b (by omega))
          have pa := pickI_lt za n (by omega)
          have pb := pickI_lt zb n (by omega)
          refine ⟨k + 2, vs ++ [.slice (some ⟨wr.heap.size, 0, none⟩) 2 2], .slice (some ⟨g, 0, none⟩) (vs.length + 1) cap', rows ++ [[pickI za n, pickI zb n]], ?_, rfl, ?_, ?_, ?_, ?_, ?_, ?_, ?_, ?_, hb3.setCell (by show w.heap.size ≤ w.heap.size + 1 + 1; omega) _, ?_⟩
          · go_num
          · rw [List.length_append, unhide HK]; simp; omega
          · rw [Below.heap_setCell _ _ _ _ (by show w.heap.size ≠ w.heap.size + 1 + 1; omega), keep _ (by omega)]
            exact unhide HX0
          · rw [Below.heap_setCell _ _ _ _ (by show w.heap.size + 1 ≠ w.heap.size + 1 + 1; omega), keep _ (by omega)]
            exact unhide HX1
          · rw [heap_set (unhide HX23)]
            rfl
          · rw [List.length_append, List.length_singleton]
            exact owns_set (unhide HO3) (own_ne (unhide HO3) (by omega))
          · refine ⟨hrn.1, fun i u r h1 h2 => ?_⟩
            obtain ⟨b, q1, q2, q3⟩ := hrn.2 i u r h1 h2
            refine ⟨b, q1, q2, ?_⟩
            rw [Below.heap_setCell _ _ _ _ (fun e => ?_)]
            · exact q3
            · have e' : b = w.heap.size + 1 + 1 := e
              subst e'
              rw [unhide HX23] at q3
              injection q3 with q3
              injection q3 with _ q3 _
              exact absurd q3 (by decide)
          · intro r hr
            rcases List.mem_append.1 hr with h | h
            · exact (unhide HSM) r h
            · simp at h
              subst h
              exact ⟨_, _, rfl, pa.1, pa.2, pb.1, pb.2⟩
          · rw [List.length_append, ← unhide HVL]; simp; omega
          · have := hg3.size
            simp at this
            simp [World.setCell]
            omega
    · obtain ⟨kx, fx⟩ := blk (unhide HX0)
      have y0 : wr.cell? ⟨w.heap.size, 0, none⟩ = some (.string ⟨#[]⟩) := kx 0
      have y1 : wr.cell? ⟨w.heap.size, 1, none⟩ = some (.slice none 0 0) := kx 1
      have y2 : wr.cell? ⟨w.heap.size, 2, none⟩ = some (.slice none 0 0) := kx 2
      have yf0 : wr.frozen? ⟨w.heap.size, 0, none⟩ = false := fx 0
      have yf1 : wr.frozen? ⟨w.heap.size, 1, none⟩ = false := fx 1
      have yf2 : wr.frozen? ⟨w.heap.size, 2, none⟩ = false := fx 2
      have zx0 := lt_of_heap (unhide HX0)
      clear kx fx
      have HEND : Hid (∀ u0 u1 u2, PrDone w n most (.returned (.agg #[.string ⟨#[101]⟩, .slice (some ⟨w.heap.size + 1, 0, none⟩) 2 2, .slice adv vs.length capv])) (((wr.setCell ⟨w.heap.size, 0, none⟩ u0).setCell ⟨w.heap.size, 1, none⟩ u1).setCell ⟨w.heap.size, 2, none⟩ u2)) := fun u0 u1 u2 => by
        refine ⟨rows, _, vs, rfl, ?_, owns_mono (owns_set (owns_set (owns_set (unhide HOW) (own_ne (unhide HOW) (by omega))) (own_ne (unhide HOW) (by omega))) (own_ne (unhide HOW) (by omega))) (by omega), ⟨(unhide HRN).1, fun i u r h1 h2 => ?_⟩, unhide HSM, hlen, (((unhide HBW).setCell (Nat.le_refl _) _).setCell (Nat.le_refl _) _).setCell (Nat.le_refl _) _⟩
        · rw [Below.heap_setCell _ _ _ _ (by show w.heap.size + 1 ≠ w.heap.size; omega), Below.heap_setCell _ _ _ _ (by show w.heap.size + 1 ≠ w.heap.size; omega), Below.heap_setCell _ _ _ _ (by show w.heap.size + 1 ≠ w.heap.size; omega)]
          exact unhide HX1
        · obtain ⟨b, q1, q2, q3⟩ := (unhide HRN).2 i u r h1 h2
          have hb : b ≠ w.heap.size := fun e => by
            subst e
            rw [unhide HX0] at q3
            injection q3 with q3
            injection q3 with _ q3 _
            exact absurd q3 (by decide)
          refine ⟨b, q1, q2, ?_⟩
          rw [Below.heap_setCell _ _ _ _ hb, Below.heap_setCell _ _ _ _ hb, Below.heap_setCell _ _ _ _ hb]
          exact q3
      by_cases h1 : k + 1 < raw.length
      · have hlt1 : decide ((k : Int) + 1 < (raw.length : Int)) = true := by simp; omega
        have hlt2 : decide ((vs.length : Int) < (most : Int)) = false := by simp; omega
        go_wp2
        exact bodyPost_ret (v := .agg #[.string ⟨#[101]⟩, .slice (some ⟨w.heap.size + 1, 0, none⟩) 2 2, .slice adv vs.length capv]) (by simp [results, Tryz.results34, go_sem, *]) rfl ((unhide HEND) _ _ _)
      · have hlt1 : decide ((k : Int) + 1 < (raw.length : Int)) = false := by simp; omega
        go_wp2
        exact bodyPost_ret (v := .agg #[.string ⟨#[101]⟩, .slice (some ⟨w.heap.size + 1, 0, none⟩) 2 2, .slice adv vs.length capv]) (by simp [results, Tryz.results34, go_sem, *]) rfl ((unhide HEND) _ _ _)
end Go.Proofs.YtfkeddkfegaeiaaGreatDoor
namespace Go.Proofs.YtfkeddkfegaeiaaGreatDoor
open Go.RowKit
/-- what counting from a number comes to. -/
inductive Ch (d t v0 : Int) : Int → Prop
  | base : Ch d t v0 v0
  | step {v : Int} : Ch d t v0 v → v < t → Ch d t v0 (v + d)
theorem Ch.mul {d t v0 v : Int} (h : Ch d t v0 v) : ∃ j : Nat, v = v0 + d * (j : Int) := by
  induction h with
  | base => exact ⟨0, by simp⟩
  | step h hv ih =>
    obtain ⟨j, rfl⟩ := ih
    exact ⟨j + 1, by rw [Int.natCast_add, Int.mul_add]; simp; omega⟩
theorem Ch.low {d t v0 v : Int} (hd : 0 < d) (h : Ch d t v0 v) : v0 ≤ v := by
  induction h with
  | base => exact Int.le_refl _
  | step h hv ih => omega
theorem Ch.next {d t v0 n k : Int} (hd : 0 < d) (hn : Ch d t v0 n) (hk : Ch d t v0 k) (h : n < k) : n + d ≤ k := by
  obtain ⟨i, rfl⟩ := hn.mul
  obtain ⟨j, rfl⟩ := hk.mul
  have hij : (i : Int) < j := by
    by_cases hij : (i : Int) < j
    · exact hij
    · have := Int.mul_le_mul_of_nonneg_left (show (j : Int) ≤ i by omega) (show 0 ≤ d by omega)
      omega
  have := Int.mul_le_mul_of_nonneg_left (show (i : Int) + 1 ≤ j by omega) (show 0 ≤ d by omega)
  rw [Int.mul_add, Int.mul_one] at this
  omega
theorem Ch.top {d t v0 n k : Int} (hd : 0 < d) (hn : Ch d t v0 n) (ht : t ≤ n) (hk : Ch d t v0 k) : k ≤ n := by
  cases hk with
  | base => exact hn.low hd
  | step h hv => exact Ch.next hd h hn (by omega)
theorem Ch.in {d t v0 v : Int} (hd : 0 < d) (h5 : d ≤ 5) (ht : t < 60) (h0 : 0 ≤ v0) (h20 : v0 < 20) (h : Ch d t v0 v) : 0 ≤ v ∧ v < 100 := by
  induction h with
  | base => omega
  | step h hv ih => omega
/-- what the rows' first numbers count to. -/
def Cn (d t : Int) (rows : Rws') (v : Int) : Prop := ∃ r ∈ rows, Ch d t (r.getD 0 0) v
theorem Cn.snoc {d t : Int} {rows : Rws'} {r : List Int} {v : Int} : Cn d t (rows ++ [r]) v ↔ Cn d t rows v ∨ Ch d t (r.getD 0 0) v := by
  unfold Cn
  constructor
  · rintro ⟨x, hx, h⟩
    rcases List.mem_append.1 hx with hx | hx
    · exact Or.inl ⟨x, hx, h⟩
    · simp at hx; subst hx; exact Or.inr h
  · rintro (⟨x, hx, h⟩ | h)
    · exact ⟨x, List.mem_append_left _ hx, h⟩
    · exact ⟨r, by simp, h⟩
theorem Cn.in {d t : Int} {rows : Rws'} (hd : 0 < d) (h5 : d ≤ 5) (ht : t < 60) (hs : Sm 20 rows) {v : Int} (h : Cn d t rows v) : 0 ≤ v ∧ v < 100 := by
  obtain ⟨r, hr, h⟩ := h
  exact h.in hd h5 ht (hs.first hr).1 (hs.first hr).2
theorem p6R {rows : Rws'} (hl : rows.length ≤ 200) (hw : ∀ r ∈ rows, r.length = 2) : p6all [tR rows] = 0 := by
  have h1 : (!nameB (tR rows).name.data.toList || (tR rows).cols.any (fun c => !nameB c.data.toList)) = false := by kernel_rfl
  have h2 : (decide ((tR rows).cols.length < 1) || decide (6 < (tR rows).cols.length) || decide (200 < (tR rows).rows.length)) = false := by
    have : ¬ 200 < (tR rows).rows.length := by show ¬ 200 < rows.length; omega
    rw [decide_eq_false this]
    rfl
  have h3 : (([] : List Tb).any (fun u => u.name.toList == (tR rows).name.toList) || dupF [] (tR rows).cols) = false := by kernel_rfl
  have h4 : (tR rows).rows.any (fun r => decide (r.length ≠ (tR rows).cols.length)) = false := by
    rw [List.any_eq_false]
    intro r hr
    have := hw r hr
    simp [tR, this]
  have h5 : p6 (tR rows) [] = 0 := by unfold p6; rw [h1, h2, h3, h4]; rfl
  unfold p6all
  rw [if_neg (by simp)]
  unfold p6from
  rw [if_pos h5]
  rfl
theorem few_100 {m : Rws'} (ho : OrdS m) (h : ∀ r ∈ m, ∃ v : Int, r = [v] ∧ 0 ≤ v ∧ v < 100) : m.length ≤ 100 := by
  have := len_sub (m := (List.range 100).map fun (n : Nat) => [(n : Int)]) ho.nodup fun r hr => by
    obtain ⟨v, rfl, h1, h2⟩ := h r hr
    exact List.mem_map.2 ⟨v.toNat, List.mem_range.2 (by omega), by rw [Int.toNat_of_nonneg h1]⟩
  simpa using this
theorem wrap_small {v : Int} (h0 : -1000000 ≤ v) (h1 : v < 1000000) : wrap64 v = v := wrap_id ⟨by omega, by omega⟩
theorem map_first {m : Rws'} (h : ∀ r ∈ m, ∃ v : Int, r = [v]) : (m.map fun r => [r.getD 0 0]) = m := by
  conv => rhs; rw [← List.map_id m]
  refine List.map_congr_left fun r hr => ?_
  obtain ⟨v, rfl⟩ := h r hr
  rfl
theorem filter_all (m : Rws') : m.filter (fun _ => true) = m := by simp
/-- counting up to a bound. -/
theorem c_whole (pl : Nat → Nat) (d t : Nat) (rows : Rws') (hd : 0 < d) (h5 : d ≤ 5) (ht : t < 60) (hs : Sm 20 rows) (hl : rows.length ≤ 5) :
    ∃ m, wholeR [tR rows] (wthOf (qOf pl (cL d t))) (qOf pl (cL d t)).main = some m ∧ OrdS m ∧ ∀ r, r ∈ m ↔ ∃ v, r = [v] ∧ Cn d t rows v := by
  have hin : ∀ {v}, Cn d t rows v → 0 ≤ v ∧ v < 100 := fun h => h.in (by omega) (by omega) (by omega) hs
  have n1 := (c_one1 pl d t rows).num [tR rows]
  have r1 := (c_one1 pl d t rows).rows [tR rows]
  have n2 := fun m => (c_one2 pl d t rows).num ([tR rows] ++ [withT (wthOf (qOf pl (cL d t))) m])
  have r2 := fun m => (c_one2 pl d t rows).rows ([tR rows] ++ [withT (wthOf (qOf pl (cL d t))) m])
  have n3 := fun m => (c_one3 pl d t rows).num ([tR rows] ++ [withT (wthOf (qOf pl (cL d t))) m])
  have r3 := fun m => (c_one3 pl d t rows).rows ([tR rows] ++ [withT (wthOf (qOf pl (cL d t))) m])
  have g0 : ([tR rows].getD 0 tb0).rows = rows := rfl
  have g1 : ∀ m, (([tR rows] ++ [withT (wthOf (qOf pl (cL d t))) m]).getD 1 tb0).rows = m := fun m => rfl
  simp only [g0, filter_all] at n1 r1
  simp only [g1, filter_all] at n2 r2 n3 r3
  obtain ⟨m, e, ho, hp, hb, hc⟩ := growR_closed (P := fun r => ∃ v, r = [v] ∧ Cn d t rows v) (N1 := selN [tR rows] [tR rows] (wthOf (qOf pl (cL d t))).first) (l1 := selL [tR rows] [tR rows] (wthOf (qOf pl (cL d t))).first) (N2 := fun m => selN ([tR rows] ++ [newT (wthOf (qOf pl (cL d t)))]) ([tR rows] ++ [withT (wthOf (qOf pl (cL d t))) m]) (wthOf (qOf pl (cL d t))).second) (l2 := fun m => selL ([tR rows] ++ [newT (wthOf (qOf pl (cL d t)))]) ([tR rows] ++ [withT (wthOf (qOf pl (cL d t))) m]) (wthOf (qOf pl (cL d t))).second)
    (by rw [n1]; omega) (fun r hr => by
      rw [r1] at hr
      obtain ⟨r0, h0, rfl⟩ := List.mem_map.1 hr
      exact ⟨_, rfl, r0, h0, .base⟩) (fun m hm r hr => by
      simp only [r2] at hr
      obtain ⟨r0, h0, rfl⟩ := List.mem_map.1 hr
      rw [List.mem_filter] at h0
      obtain ⟨v, rfl, hv⟩ := hm r0 h0.1
      have hlt : v < (t : Int) := by simpa using h0.2
      have := hin hv
      refine ⟨v + d, ?_, ?_⟩
      · show [wrap64 (v + d)] = _
        rw [wrap_small (by omega) (by omega)]
      · obtain ⟨q, hq, hch⟩ := hv
        exact ⟨q, hq, hch.step hlt⟩) (fun m hm hp => by
      simp only [n2]
      have := few_100 hm fun r hr => by obtain ⟨v, rfl, hv⟩ := hp r hr; exact ⟨v, rfl, hin hv⟩
      omega) (fun m hm hp => by
      have := few_100 hm fun r hr => by obtain ⟨v, rfl, hv⟩ := hp r hr; exact ⟨v, rfl, hin hv⟩
      omega)
  have hin2 : ∀ {v}, Cn d t rows v → [v] ∈ m := by
    rintro v ⟨q, hq, hch⟩
    induction hch with
    | base => exact hb _ (by rw [r1]; exact List.mem_map.2 ⟨q, hq, rfl⟩)
    | @step v h hv ih =>
      have h1 := hin ⟨q, hq, h⟩
      refine hc _ ?_
      simp only [r2]
      refine List.mem_map.2 ⟨[v], List.mem_filter.2 ⟨ih, ?_⟩, ?_⟩
      · simpa using hv
      · show [wrap64 (v + d)] = _
        rw [wrap_small (by omega) (by omega)]
  have hm1 : m.length ≤ 100 := few_100 ho fun r hr => by obtain ⟨v, rfl, hv⟩ := hp r hr; exact ⟨v, rfl, hin hv⟩
  refine ⟨m, ?_, ho, fun r => ⟨hp r, ?_⟩⟩
  · rw [wholeR_some (m := m) e, n3, r3, if_neg (by omega), map_first fun r hr => by obtain ⟨v, rfl, -⟩ := hp r hr; exact ⟨v, rfl⟩]
  · rintro ⟨v, rfl, hv⟩
    exact hin2 hv
theorem max_of : ∀ (m : Rws'), m ≠ [] → (∀ r ∈ m, ∃ v : Int, r = [v]) → ∃ v : Int, [v] ∈ m ∧ ∀ u : Int, [u] ∈ m → u ≤ v
  | [], h, _ => (h rfl).elim
  | [r], _, h => by
    obtain ⟨v, rfl⟩ := h r (by simp)
    exact ⟨v, by simp, fun u hu => by simp at hu; omega⟩
  | r :: q :: m, _, h => by
    obtain ⟨v, h1, h2⟩ := max_of (q :: m) (by simp) fun x hx => h x (List.mem_cons_of_mem _ hx)
    obtain ⟨z, rfl⟩ := h r (by simp)
    by_cases hz : v ≤ z
    · exact ⟨z, by simp, fun u hu => by
        rcases List.mem_cons.1 hu with e | hu
        · simp at e; omega
        · have := h2 u hu; omega⟩
    · exact ⟨v, List.mem_cons_of_mem _ h1, fun u hu => by
        rcases List.mem_cons.1 hu with e | hu
        · simp at e; omega
        · exact h2 u hu⟩
/-- counting without a bound: nothing from nothing, else too many. -/
theorem u_whole (pl : Nat → Nat) (rows : Rws') (hs : Sm 20 rows) (hl : rows.length ≤ 5) :
    (rows = [] → wholeR [tR rows] (wthOf (qOf pl cL2)) (qOf pl cL2).main = some []) ∧ (rows ≠ [] → wholeR [tR rows] (wthOf (qOf pl cL2)) (qOf pl cL2).main = none) := by
  have n1 := (u_one1 pl rows).num [tR rows]
  have r1 := (u_one1 pl rows).rows [tR rows]
  have n2 := fun m => (u_one2 pl rows).num ([tR rows] ++ [withT (wthOf (qOf pl cL2)) m])
  have r2 := fun m => (u_one2 pl rows).rows ([tR rows] ++ [withT (wthOf (qOf pl cL2)) m])
  have n3 := fun m => (u_one3 pl rows).num ([tR rows] ++ [withT (wthOf (qOf pl cL2)) m])
  have r3 := fun m => (u_one3 pl rows).rows ([tR rows] ++ [withT (wthOf (qOf pl cL2)) m])
  have g0 : ([tR rows].getD 0 tb0).rows = rows := rfl
  have g1 : ∀ m, (([tR rows] ++ [withT (wthOf (qOf pl cL2)) m]).getD 1 tb0).rows = m := fun m => rfl
  simp only [g0, filter_all] at n1 r1
  simp only [g1, filter_all] at n2 r2 n3 r3
  constructor
  · intro hr
    obtain ⟨m, e, ho, hp, -, -⟩ := growR_closed (P := fun _ => False) (N1 := selN [tR rows] [tR rows] (wthOf (qOf pl cL2)).first) (l1 := selL [tR rows] [tR rows] (wthOf (qOf pl cL2)).first) (N2 := fun m => selN ([tR rows] ++ [newT (wthOf (qOf pl cL2))]) ([tR rows] ++ [withT (wthOf (qOf pl cL2)) m]) (wthOf (qOf pl cL2)).second) (l2 := fun m => selL ([tR rows] ++ [newT (wthOf (qOf pl cL2))]) ([tR rows] ++ [withT (wthOf (qOf pl cL2)) m]) (wthOf (qOf pl cL2)).second)
      (by rw [n1]; omega) (fun r h => by rw [r1, hr] at h; simp at h) (fun m hm r h => by
        simp only [r2] at h
        obtain ⟨r0, h0, -⟩ := List.mem_map.1 h
        exact hm r0 h0) (fun m _ hp => by
        simp only [n2]
        cases m with
        | nil => simp
        | cons r m => exact (hp r (by simp)).elim) (fun m _ hp => by
        cases m with
        | nil => simp
        | cons r m => exact (hp r (by simp)).elim)
    have hm : m = [] := by
      cases m with
      | nil => rfl
      | cons r m => exact (hp r (by simp)).elim
    subst hm
    rw [wholeR_some (m := []) e, n3, r3]
    rfl
  · intro hr
    refine wholeR_none ?_
    refine growR_many (Q := fun n m => m ≠ [] ∧ ∀ r ∈ m, ∃ v : Int, r = [v] ∧ 0 ≤ v ∧ v + n < 1000) (fun n m hq ho => ?_) ⟨?_, fun r h => ?_⟩
    · obtain ⟨hne, hq⟩ := hq
      refine ⟨⟨fun e => ?_, fun r h => ?_⟩, ?_⟩
      · cases m with
        | nil => exact hne rfl
        | cons r m =>
          have : r ∈ addR (selL ([tR rows] ++ [newT (wthOf (qOf pl cL2))]) ([tR rows] ++ [withT (wthOf (qOf pl cL2)) (r :: m)]) (wthOf (qOf pl cL2)).second) (r :: m) := mem_addR.2 (Or.inr (by simp))
          rw [e] at this
          simp at this
      · rcases mem_addR.1 h with h | h
        · simp only [r2] at h
          obtain ⟨r0, h0, rfl⟩ := List.mem_map.1 h
          obtain ⟨v, rfl, h1, h2⟩ := hq r0 h0
          have e : wrap64 ([v].getD 0 0 + 1) = v + 1 := wrap_small (by show -1000000 ≤ v + 1; omega) (by show v + 1 < 1000000; omega)
          exact ⟨v + 1, by rw [e], by omega, by omega⟩
        · obtain ⟨v, rfl, h1, h2⟩ := hq r h
          exact ⟨v, rfl, h1, by omega⟩
      · obtain ⟨v, hv, hmax⟩ := max_of m hne fun r h => by obtain ⟨v, e, -⟩ := hq r h; exact ⟨v, e⟩
        obtain ⟨v', e', h1, h2⟩ := hq _ hv
        simp at e'
        subst e'
        have e : wrap64 ([v].getD 0 0 + 1) = v + 1 := wrap_small (by show -1000000 ≤ v + 1; omega) (by show v + 1 < 1000000; omega)
        refine ⟨[v + 1], ?_, fun h => ?_⟩
        · simp only [r2]
          exact List.mem_map.2 ⟨[v], hv, by rw [e]⟩
        · have := hmax _ h
          omega
    · intro e
      cases rows with
      | nil => exact hr rfl
      | cons q rows =>
        have : [q.getD 0 0] ∈ addR (selL [tR (q :: rows)] [tR (q :: rows)] (wthOf (qOf pl cL2)).first) [] := mem_addR.2 (Or.inl (by rw [r1]; exact List.mem_map.2 ⟨q, by simp, rfl⟩))
        rw [e] at this
        simp at this
    · rcases mem_addR.1 h with h | h
      · rw [r1] at h
        obtain ⟨r0, h0, rfl⟩ := List.mem_map.1 h
        have := hs.first h0
        exact ⟨_, rfl, this.1, by omega⟩
      · simp at h
end Go.Proofs.YtfkeddkfegaeiaaGreatDoor
