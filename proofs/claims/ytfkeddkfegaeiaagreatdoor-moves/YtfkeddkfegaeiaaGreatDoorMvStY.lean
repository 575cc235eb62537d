/-
  Part 50.
-/
import Derived.Test.YtfkeddkfegaeiaaGreatDoorMvStX
import Derived.Test.YtfkeddkfegaeiaaGreatDoorMvRkH
namespace Go.Proofs.YtfkeddkfegaeiaaGreatDoor
open Go.RowKit
/-- the table, as it lies. -/
structure TbM (W : World) (lo p bx : Nat) (adv : Option Addr) (capv : Nat) (vs : List Value) (rows : Rws') : Prop where
  cols : W.heap[p]? = some (.cells #[.string ⟨#[97]⟩, .string ⟨#[98]⟩, .string ⟨#[99]⟩] 9 (0, 0))
  box : W.heap[bx]? = some (.cells #[.string ⟨#[101]⟩, .slice (some ⟨p, 0, none⟩) 3 3, .slice adv vs.length capv] 44 (0, 0))
  rw' : RwM W lo adv capv vs rows
theorem TbM.keep {W W' : World} {lo p bx : Nat} {adv : Option Addr} {capv : Nat} {vs : List Value} {rows : Rws'} (h : TbM W lo p bx adv capv vs rows) (hb : Below W.heap.size W W') : TbM W' lo p bx adv capv vs rows :=
  ⟨(hb.block _ (lt_of_heap h.cols)).trans h.cols, (hb.block _ (lt_of_heap h.box)).trans h.box, h.rw'.keep hb⟩
theorem TbM.colsAt {W : World} {lo p bx : Nat} {adv : Option Addr} {capv : Nat} {vs : List Value} {rows : Rws'} (h : TbM W lo p bx adv capv vs rows) : RowAt W (.slice (some ⟨p, 0, none⟩) 3 3) (textsV (tM rows).cols) := row_full (xs := [.string ⟨#[97]⟩, .string ⟨#[98]⟩, .string ⟨#[99]⟩]) h.cols (by simp [maxLen]) 3
theorem TbM.rowsAt {W : World} {lo p bx : Nat} {adv : Option Addr} {capv : Nat} {vs : List Value} {rows : Rws'} (h : TbM W lo p bx adv capv vs rows) (hm : rows.length ≤ 200) : RowsAt W (.slice adv vs.length capv) (tM rows).rows := h.rw'.rn.rows (by unfold maxLen; omega) h.rw'.own (by rw [h.rw'.rn.1]; unfold maxLen; omega)
/-- the rows that Moves makes. -/
structure MvR (rows : Rws') : Prop where
  three : ∀ r ∈ rows, r.length = 3
  by' : ∀ i, i < rows.length → bAt rows i = ((i * 17 % 41 : Nat) : Int)
  few : rows.length ≤ 40
theorem MvR.dst {rows : Rws'} (h : MvR rows) : Dst rows := ⟨fun i j hi hj e => by
  rw [h.by' i hi, h.by' j hj] at e
  have := h.few
  omega, fun i hi => by rw [h.by' i hi]; omega⟩
theorem MvR.snoc {rows : Rws'} (h : MvR rows) (h9 : rows.length < 40) (x z : Int) : MvR (rows ++ [[x, ((rows.length * 17 % 41 : Nat) : Int), z]]) := by
  refine ⟨fun r hr => ?_, fun i hi => ?_, by simp; omega⟩
  · rcases List.mem_append.1 hr with hr | hr
    · exact h.three r hr
    · simp at hr; subst hr; rfl
  · rw [List.length_append, List.length_singleton] at hi
    by_cases e : i < rows.length
    · have e2 : (rows ++ [[x, ((rows.length * 17 % 41 : Nat) : Int), z]]).getD i [] = rows.getD i [] := by rw [List.getD_eq_getElem?_getD, List.getElem?_append_left e, ← List.getD_eq_getElem?_getD]
      unfold bAt
      rw [e2]
      exact h.by' i e
    · obtain rfl : i = rows.length := by omega
      have e2 : (rows ++ [[x, ((rows.length * 17 % 41 : Nat) : Int), z]]).getD rows.length [] = [x, ((rows.length * 17 % 41 : Nat) : Int), z] := by rw [List.getD_eq_getElem?_getD, List.getElem?_append_right (Nat.le_refl _), Nat.sub_self]; rfl
      unfold bAt
      rw [e2]; rfl
theorem p6M {rows : Rws'} (h : MvR rows) : p6all [tM rows] = 0 := by
  have h1 : (!nameB (tM rows).name.data.toList || (tM rows).cols.any (fun c => !nameB c.data.toList)) = false := by kernel_rfl
  have h2 : (decide ((tM rows).cols.length < 1) || decide (6 < (tM rows).cols.length) || decide (200 < (tM rows).rows.length)) = false := by
    have : ¬ 200 < (tM rows).rows.length := by show ¬ 200 < rows.length; have := h.few; omega
    rw [decide_eq_false this]
    rfl
  have h3 : (([] : List Tb).any (fun u => u.name.toList == (tM rows).name.toList) || dupF [] (tM rows).cols) = false := by kernel_rfl
  have h4 : (tM rows).rows.any (fun r => decide (r.length ≠ (tM rows).cols.length)) = false := by
    rw [List.any_eq_false]
    intro r hr
    have := h.three r hr
    simp [tM, this]
  have h5 : p6 (tM rows) [] = 0 := by unfold p6; rw [h1, h2, h3, h4]; rfl
  unfold p6all
  rw [if_neg (by simp)]
  unfold p6from
  rw [if_pos h5]
  rfl
/-- a row more. -/
theorem TbM.snoc {W w3 : World} {lo p bx : Nat} {adv : Option Addr} {capv g cap' : Nat} {vs : List Value} {rows : Rws'} (h : TbM W lo p bx adv capv vs rows) (hp : p < bx) (hx : bx < lo) (hl : lo ≤ W.heap.size) (x y z : Int)
    (hg : ((W.drew.alloc (.cells #[.int .i64 x, .int .i64 y, .int .i64 z] 3)).alloc (.cells #[.slice (some ⟨W.heap.size, 0, none⟩) 3 3] 32)).grownBy w3 (Value.slice adv vs.length capv).ownBlock) (ho : w3.ownsRow lo 32 1 (.slice (some ⟨g, 0, none⟩) (vs.length + 1) cap') (vs.length + 1) (vs ++ [.slice (some ⟨W.heap.size, 0, none⟩) 3 3])) :
    TbM (w3.setCell ⟨bx, 2, none⟩ (.slice (some ⟨g, 0, none⟩) (vs.length + 1) cap')) lo p bx (some ⟨g, 0, none⟩) cap' (vs ++ [.slice (some ⟨W.heap.size, 0, none⟩) 3 3]) (rows ++ [[x, y, z]]) ∧ ∀ B w, B < lo → B ≤ bx → Below B w W → Below B w (w3.setCell ⟨bx, 2, none⟩ (.slice (some ⟨g, 0, none⟩) (vs.length + 1) cap')) := by
  have hown := (h.rw'.own.drew.alloc (.cells #[.int .i64 x, .int .i64 y, .int .i64 z] 3)).alloc (.cells #[.slice (some ⟨W.heap.size, 0, none⟩) 3 3] 32)
  have hb2 : Below W.heap.size W ((W.drew.alloc (.cells #[.int .i64 x, .int .i64 y, .int .i64 z] 3)).alloc (.cells #[.slice (some ⟨W.heap.size, 0, none⟩) 3 3] 32)) := (((Below.refl _ _).drew).alloc (Nat.le_refl _) _).alloc (by simp) _
  have hrow : ((W.drew.alloc (.cells #[.int .i64 x, .int .i64 y, .int .i64 z] 3)).alloc (.cells #[.slice (some ⟨W.heap.size, 0, none⟩) 3 3] 32)).heap[W.heap.size]? = some (.cells (intsV [x, y, z]).toArray 3 (0, 0)) := heap_prev (heap_last rfl)
  have hrn := (((h.rw'.rn.below hb2).snoc (r := [x, y, z]) rfl hrow).grown hown hg)
  have keep : ∀ b, b < lo → w3.heap[b]? = W.heap[b]? := fun b hb => (hg.block b (by simp; omega) (own_ne hown (by omega)).symm).trans (hb2.block b (by omega))
  have hbx : w3.heap[bx]? = some (.cells #[.string ⟨#[101]⟩, .slice (some ⟨p, 0, none⟩) 3 3, .slice adv vs.length capv] 44 (0, 0)) := (keep bx hx).trans h.box
  refine ⟨⟨?_, ?_, ?_, hrn.1, fun i u r h1 h2 => ?_⟩, fun B w hB hB2 hbw => ?_⟩
  · rw [Below.heap_setCell _ _ _ _ (by show p ≠ bx; omega), keep _ (by omega)]
    exact h.cols
  · rw [heap_set hbx, List.length_append, List.length_singleton]
    rfl
  · rw [List.length_append, List.length_singleton]
    exact owns_set ho (own_ne ho hx)
  · obtain ⟨b, q1, q2, q3⟩ := hrn.2 i u r h1 h2
    refine ⟨b, q1, q2, ?_⟩
    rw [Below.heap_setCell _ _ _ _ (fun e => ?_)]
    · exact q3
    · have e' : b = bx := e
      subst e'
      rw [hbx] at q3
      injection q3 with q3
      injection q3 with _ q3 _
      exact absurd q3 (by decide)
  · exact ((hbw.trans (hb2.mono (by omega))).grown hg (by simp; omega) (fun b e => by have := (hown.lt b e).1; omega)).setCell hB2 _
set_option maxRecDepth 100000 in
set_option maxHeartbeats 4000000 in
theorem moves_any (a : Nat → Addr) (Bd : Nat) (w : World) (hE : EnvX a Bd w) (raw : List Int) (hraw : ∀ z ∈ raw, InR z) (ad : Option Addr) (cap : Nat) (hr : RowAt w (.slice ad raw.length cap) (intsV raw)) (S : Int) (hS : InR S) :
    Calls Tryz.prog 10 #[.slice ad raw.length cap, .int .i64 S] w fun e w' => e = .returned (.bool true) ∧ Below w.heap.size w w' := by
  have HE := hide hE
  have HR := hide hr
  have HRAW := hide hraw
  have HS := hide hS
  clear hE hr hraw hS
  go_enter Tryz.func10, Tryz.ntmps10
  go_wp2_with fail
  obtain ⟨W1, hW1⟩ : ∃ W1, W1 = ((w.alloc (.cells #[.string ⟨#[97]⟩, .string ⟨#[98]⟩, .string ⟨#[99]⟩] 9)).alloc (.cells #[.string ⟨#[101]⟩, .slice (some ⟨w.heap.size, 0, none⟩) 3 3, .slice none 0 0] 44)) := ⟨_, rfl⟩
  rw [← hW1]
  have HT1 : Hid (TbM W1 (w.heap.size + 1 + 1) w.heap.size (w.heap.size + 1) none 0 [] []) := by
    rw [hW1]
    exact ⟨heap_prev (heap_last rfl), heap_last (by simp), World.ownsRow_nil _ _ _ _, rfl, fun i u r e => by simp at e⟩
  have HB1 : Hid (Below w.heap.size w W1) := by rw [hW1]; exact ((Below.refl _ _).alloc (Nat.le_refl _) _).alloc (by simp) _
  have hs1 : W1.heap.size = w.heap.size + 1 + 1 := by rw [hW1]; simp
  clear hW1
  obtain ⟨i0, hi, hinf⟩ := Option.map_eq_some_iff.1 infoRow
  simp only [Prod.mk.injEq] at hinf
  obtain ⟨hz0, hz1, hz2⟩ := hinf
  have HI := hide hi
  have HZ0 := hide hz0
  have HZ1 := hide hz1
  have HZ2 := hide hz2
  have hmx : raw.length ≤ maxLen := by obtain ⟨a9, c9, e9, m9, -⟩ := unhide HR; simpa using m9
  unfold maxLen at hmx
  clear hi hz0 hz1 hz2
  go_loopg [6] raw.length (fun f i W => ∃ (vs : List Value) (adv : Option Addr) (capv : Nat) (rows : Rws'), i = .int .i64 (rows.length : Nat) ∧ f = raw.length - rows.length ∧ rows.length ≤ raw.length ∧ TbM W (w.heap.size + 1 + 1) w.heap.size (w.heap.size + 1) adv capv vs rows ∧ MvR rows ∧ Below w.heap.size w W ∧ w.heap.size + 1 + 1 ≤ W.heap.size)
  case atStart => exact ⟨[], none, 0, [], rfl, by simp, by simp, unhide HT1, ⟨fun r hr => by simp at hr, fun i hi => by simp at hi, by simp⟩, unhide HB1, by omega⟩
  case round =>
    obtain ⟨vs, adv, capv, rows, rfl, rfl, hrr, htb, hmv, hbw, hz⟩ := hrel
    have HTB := hide htb
    have HMV := hide hmv
    have HBW := hide hbw
    have hvl : vs.length = rows.length := htb.rw'.rn.1
    have HVL := hide hvl
    have h40 := hmv.few
    obtain ⟨kx, fx⟩ := blk htb.box
    have x2 : wr.cell? ⟨w.heap.size + 1, 2, none⟩ = some (.slice adv vs.length capv) := kx 2
    have xf2 : wr.frozen? ⟨w.heap.size + 1, 2, none⟩ = false := fx 2
    have zx2 := lt_of_heap htb.box
    have zx3 : w.heap.size + 1 < wr.heap.size + 1 := by omega
    clear htb hmv hbw kx fx hvl HT1 HB1
    go_upto_region 3 with (fail)
    go_cut [35] from 28 to 35 (fun cv W' => cv = .bool (decide (rows.length < raw.length ∧ rows.length < 40)) ∧ W' = wr)
    case first =>
      by_cases h1 : rows.length < raw.length
      · have hlt1 : decide (rows.length < raw.length) = true := by simp; omega
        by_cases h2 : rows.length < 40
        · have hlt2 : decide ((rows.length : Int) < 40) = true := by simp; omega
          go_wp2_with fail
          go_meet
          case rel => exact ⟨by simp [h1, h2], rfl⟩
        · have hlt2 : decide ((rows.length : Int) < 40) = false := by simp; omega
          go_wp2_with fail
          go_meet
          case rel => exact ⟨by simp [h2], rfl⟩
      · have hlt1 : decide (rows.length < raw.length) = false := by simp; omega
        go_wp2_with fail
        go_meet
        case rel => exact ⟨by simp [h1], rfl⟩
    case rest =>
      obtain ⟨rfl, hWr⟩ := hcut
      obtain rfl := hWr.symm
      by_cases hgo : rows.length < raw.length ∧ rows.length < 40
      · rw [decide_eq_true hgo]
        obtain ⟨a9, c9, e9, m9, hcell⟩ := unhide HR
        rw [List.length_map] at hcell
        injection e9 with e9 e10 e11
        subst e9 e11
        clear m9 e10
        obtain ⟨br, o, rfl, zr, hj⟩ := hcell (by omega)
        obtain ⟨za, hza⟩ : ∃ z, raw[rows.length]? = some z := ⟨_, List.getElem?_eq_getElem (by omega)⟩
        have c0 : wr.cell? ⟨br, o + rows.length, none⟩ = some (.int .i64 za) := by
          rw [(unhide HBW).cell (p := ⟨br, o + rows.length, none⟩) zr, hj _ (by omega), intsV, List.getElem?_map, hza]; rfl
        have zr2 : br < wr.heap.size := Nat.lt_of_lt_of_le zr (unhide HBW).size
        have hIn := (unhide HRAW) za (List.mem_of_getElem? hza)
        obtain ⟨F, hF⟩ : ∃ F : Int → Int, ∀ (c : Int) (W : World), c = 3 ∨ c = 100 → Calls Tryz.prog 31 #[.int .i64 za, .int .i64 c] W fun e w' => e = .returned (.int .i64 (F c)) ∧ w' = W :=
          ⟨fun c => pickI za c.toNat, fun c W hc => by
            rcases hc with rfl | rfl
            · exact pick_any za 3 hIn.1 hIn.2 (by omega) (by omega) W
            · exact pick_any za 100 hIn.1 hIn.2 (by omega) (by omega) W⟩
        have HP := hide hF
        have hi1 : (0 : Int) ≤ (rows.length : Int) := by omega
        have hi2 : (rows.length : Int) < (raw.length : Int) := by omega
        have hs17 : IntKind.i64.wrap ((rows.length : Int) * 17) = (rows.length : Int) * 17 := by unfold IntKind.wrap; simp [IntKind.bits, IntKind.signed]; omega
        have hs41 : Int.tmod ((rows.length : Int) * 17) 41 = ((rows.length * 17 % 41 : Nat) : Int) := by rw [Int.tmod_eq_emod_of_nonneg (by omega)]; omega
        have hs42 : IntKind.i64.wrap ((rows.length * 17 % 41 : Nat) : Int) = ((rows.length * 17 % 41 : Nat) : Int) := by unfold IntKind.wrap; simp [IntKind.bits, IntKind.signed]; omega
        have hw : vs.length ≤ 40 := by rw [unhide HVL]; omega
        have HNE := own_ne (unhide HTB).rw'.own (show w.heap.size + 1 < w.heap.size + 1 + 1 by omega)
        have hlt : rows.length < 40 := hgo.2
        clear hj hcell hza hIn hF
        go_wp2_with fail
        go_region_law (first
          | (refine step_append_lies _ rfl (.tmp 39) (.tmp 55) 42 rfl (w.heap.size + 1 + 1) 32 i0 (.slice none 0 0) 1 24 Tryz.underlying42 (unhide HI) (unhide HZ0) (unhide HZ1) (unhide HZ2) rfl (by decide) (.slice adv vs.length capv) vs.length vs (by simp [Act.eval]) (((unhide HTB).rw'.own.drew.alloc _).alloc _) ⟨wr.heap.size + 1, 0, none⟩ 1 1 [.slice (some ⟨wr.heap.size, 0, none⟩) 3 3] (by simp [Act.eval]) rfl (news1 (heap_last (by simp))) (one1l _ _ _) (by decide) (by unfold maxLen; omega) (by omega) (by simp; omega) _ rfl ?_; intro g cap' w3 ho hg hat hlt9; have hx23 := (hg.block (w.heap.size + 1) (by simp; omega) HNE.symm).trans (heap_prev (heap_prev (unhide HTB).box)); have y2 : w3.cell? ⟨w.heap.size + 1, 2, none⟩ = some (.slice adv vs.length capv) := (blk hx23).1 2; have yf2 : w3.frozen? ⟨w.heap.size + 1, 2, none⟩ = false := (blk hx23).2 2)
          | (go_simp; go_at_call 31; refine ((unhide HP) _ _ (by first | exact Or.inl rfl | exact Or.inr rfl)).mono ?_; rintro e w2 ⟨rfl, hw2⟩; obtain rfl := hw2.symm))
        all_goals
          have HO3 := hide ho
          have HG3 := hide hg
          clear ho hg hat hlt9 hx23
          go_wp2
          go_roundg (raw.length - (rows.length + 1))
          case measure => omega
          case rel =>
            obtain ⟨ht, hbl⟩ := (unhide HTB).snoc (by omega) (by omega) hz _ _ _ (unhide HG3) (unhide HO3)
            have hsz := (unhide HG3).size
            exact ⟨_, _, _, _, by rw [List.length_append, List.length_singleton]; go_num, by rw [List.length_append, List.length_singleton], by rw [List.length_append, List.length_singleton]; omega, ht, (unhide HMV).snoc hlt _ _, hbl _ _ (by omega) (by omega) (unhide HBW), by simp at hsz ⊢; omega⟩
      · rw [decide_eq_false hgo]
        clear x2 xf2 zx3
        obtain ⟨n, hn⟩ : ∃ n : Nat, (n : Int) = pickI S 5 := ⟨(pickI S 5).toNat, by have := pickI_lt S 5 (by omega); omega⟩
        have hn5 : n < 5 := by have := pickI_lt S 5 (by omega); omega
        have HPS : Hid (∀ W, Calls Tryz.prog 31 #[.int .i64 S, .int .i64 5] W fun e w' => e = .returned (.int .i64 (n : Nat)) ∧ w' = W) := fun W => by
          rw [hn]; exact pick_any S 5 (unhide HS).1 (unhide HS).2 (by omega) (by omega) W
        clear hn
        obtain ⟨D, hD⟩ : ∃ D : ByteArray, D = ⟨(dig n).toArray⟩ := ⟨_, rfl⟩
        have z1 : D.size ≤ 3 := by rw [hD]; exact dig_len _
        have HDD : Hid (∀ W, Calls Tryz.prog 32 #[.int .i64 (n : Nat)] W fun e w' => e = .returned (.string D) ∧ Below W.heap.size W w') := fun W => by
          have := digits_any n (by omega) W
          rw [← hD] at this
          exact this
        obtain ⟨⟨X1, f1, hA1⟩, ⟨X2, f2, hA2⟩, hS1, hS2⟩ := moves_askd (unhide HMV).dst h40 hn5
        rw [← hD] at hA1 hA2
        have HA1 := hide hA1
        have HA2 := hide hA2
        have HS1 := hide hS1
        have HS2 := hide hS2
        clear hA1 hA2 hS1 hS2 hD
        go_wp2_with fail
        refine ((unhide HPS) _).mono ?_
        rintro e w3 ⟨rfl, hw3⟩
        obtain rfl := hw3.symm
        go_wp2_with fail
        refine ((unhide HDD) _).mono ?_
        rintro e w3 ⟨rfl, hb3⟩
        have htb3 := (unhide HTB).keep hb3
        have HT3 := hide htb3
        have HB3 : Hid (Below w.heap.size w w3) := (unhide HBW).trans (hb3.mono (unhide HBW).size)
        obtain ⟨kt, -⟩ := blk htb3.box
        have t0 : w3.cell? ⟨w.heap.size + 1, 0, none⟩ = some (.string ⟨#[101]⟩) := kt 0
        have t1 : w3.cell? ⟨w.heap.size + 1, 1, none⟩ = some (.slice (some ⟨w.heap.size, 0, none⟩) 3 3) := kt 1
        have t2 : w3.cell? ⟨w.heap.size + 1, 2, none⟩ = some (.slice adv vs.length capv) := kt 2
        have zt := lt_of_heap htb3.box
        have hzE := (unhide HE).env.size
        clear hb3 kt htb3
        go_wp2_with fail
        refine (asked_win a Bd _ (by exact (unhide HE).keep ((unhide HB3).mono hzE)) (tM rows) _ _ (by exact (unhide HT3).colsAt) (Nat.le_refl _) (by exact (unhide HT3).rowsAt (by omega)) (p6M (unhide HMV)) (by show 3 ≤ 6; omega) (by show rows.length ≤ 200; omega) (unhide HMV).three _ X1 f1 rows.length rows _ (by exact unhide HA1)).mono ?_
        rintro e w5 ⟨g1, rfl, hg1, hrb1, hb5⟩
        have htb5 := (unhide HT3).keep hb5
        have HT5 := hide htb5
        have HB5 : Hid (Below w.heap.size w w5) := (unhide HB3).trans (hb5.mono (unhide HB3).size)
        rw [unhide HS1] at hrb1
        have hlen1 : ((List.range rows.length).map (rowW n rows)).length = rows.length := by simp
        rw [hlen1] at hrb1 ⊢
        have HRB1 := hide hrb1
        obtain ⟨kt, -⟩ := blk htb5.box
        have t0' : w5.cell? ⟨w.heap.size + 1, 0, none⟩ = some (.string ⟨#[101]⟩) := kt 0
        have t1' : w5.cell? ⟨w.heap.size + 1, 1, none⟩ = some (.slice (some ⟨w.heap.size, 0, none⟩) 3 3) := kt 1
        have t2' : w5.cell? ⟨w.heap.size + 1, 2, none⟩ = some (.slice adv vs.length capv) := kt 2
        have zt' := lt_of_heap htb5.box
        clear hrb1 hb5 kt htb5 t0 t1 t2 zt HT3 HB3 hlen1 HA1
        go_wp2_with fail
        refine (asked_win a Bd _ (by exact (unhide HE).keep ((unhide HB5).mono hzE)) (tM rows) _ _ (by exact (unhide HT5).colsAt) (Nat.le_refl _) (by exact (unhide HT5).rowsAt (by omega)) (p6M (unhide HMV)) (by show 3 ≤ 6; omega) (by show rows.length ≤ 200; omega) (unhide HMV).three _ X2 f2 rows.length rows _ (by exact unhide HA2)).mono ?_
        rintro e w6 ⟨g2, rfl, hg2, hrb2, hb6⟩
        have HT6 := hide ((unhide HT5).keep hb6)
        have HB6 : Hid (Below w.heap.size w w6) := (unhide HB5).trans (hb6.mono (unhide HB5).size)
        rw [unhide HS2] at hrb2
        have hlen2 : ((List.range rows.length).map (rowM n rows)).length = rows.length := by simp
        rw [hlen2] at hrb2 ⊢
        have HRB2 := hide hrb2
        have HB56 := hide hb6
        clear hrb2 hb6 t0' t1' t2' zt' hlen2 HA2
        go_wp2_with fail
        go_loopg [13, 14, 15, 16] 41 (fun q wv mv tv bv W' => ∃ (b : Nat) (vW vM : List Value), b + q = 41 ∧ bv = .int .i64 (b : Nat) ∧ tv = .int .i64 (sumW ((vis rows b 0).map (cAt rows))) ∧ MvS w6 W' ((vis rows b 0).map (rowW n rows)) ((vis rows b 0).map (rowM n rows)) wv mv vW vM)
        case atStart =>
          have e : vis rows 0 0 = [] := by unfold vis ordI; simp
          exact ⟨0, [], [], by omega, rfl, by rw [e]; rfl, by rw [e]; exact ⟨World.ownsRow_nil _ _ _ _, World.ownsRow_nil _ _ _ _, ⟨rfl, fun i u r e => by simp at e⟩, ⟨rfl, fun i u r e => by simp at e⟩, (fun k e => by cases e), Below.refl _ _⟩⟩
        case round =>
          obtain ⟨b, vW, vM, hbq, rfl, rfl, hms⟩ := hrel
          have HMS := hide hms
          obtain ⟨adW, capW, rfl⟩ := owns_shape hms.ow
          obtain ⟨adM, capM, rfl⟩ := owns_shape hms.om
          clear hms
          by_cases hb41 : b < 41
          · have hd : decide ((b : Int) < 41) = true := by simp; omega
            obtain ⟨gm, rfl⟩ : ∃ gm, gk = gm + 1 := ⟨gk - 1, by omega⟩
            generalize hT0 : sumW ((vis rows b 0).map (cAt rows)) = T0
            have HT0 := hide hT0
            clear hT0
            go_wp2_with fail
            go_loopg [13, 14, 15, 17] rows.length (fun q wv mv tv jv W' => ∃ (i : Nat) (vW vM : List Value) (tt : Int), i + q = rows.length ∧ jv = .int .i64 (i : Nat) ∧ tv = .int .i64 tt ∧ tt = sumW ((vis rows b i).map (cAt rows)) ∧ MvS w6 W' ((vis rows b i).map (rowW n rows)) ((vis rows b i).map (rowM n rows)) wv mv vW vM)
            case atStart => exact ⟨0, vW, vM, T0, by omega, rfl, rfl, (unhide HT0).symm, unhide HMS⟩
            case round =>
              clear HMS HT0
              obtain ⟨i, vW, vM, tt, hiq, rfl, rfl, htt, hms⟩ := hrel
              have HMS := hide hms
              have HTT := hide htt
              obtain ⟨adW, capW, rfl⟩ := owns_shape hms.ow
              obtain ⟨adM, capM, rfl⟩ := owns_shape hms.om
              have htb := (unhide HT6).keep hms.bel
              have HTB7 := hide htb
              obtain ⟨kt, -⟩ := blk htb.box
              have t2 : wr.cell? ⟨w.heap.size + 1, 2, none⟩ = some (.slice adv vs.length capv) := kt 2
              have zt := lt_of_heap htb.box
              clear hms htt htb kt
              by_cases hi : i < rows.length
              · have hd2 : decide (i < vs.length) = true := by rw [unhide HVL]; simp; omega
                obtain ⟨gn, rfl⟩ : ∃ gn, gk = gn + 1 := ⟨gk - 1, by omega⟩
                have HUP := hide (up_any (w.heap.size + 1 + 1) adv capv vs rows h40 (aAt rows i) b (by omega))
                obtain ⟨g, b', rfl, zg, zb', k0, k1, k2, k3⟩ := (unhide HTB7).rw'.at hi
                have q1 : (0 : Int) ≤ (i : Int) := by omega
                have q2 : (i : Int) < (vs.length : Int) := by rw [unhide HVL]; omega
                by_cases hc : bAt rows i = (b : Int)
                · have e2 : (bAt rows i == (b : Int)) = true := by simp [hc]
                  have hbt : (bAt rows i).toNat = b := by omega
                  have HVI := hide (vis_yes hc)
                  have HPC := hide (upP_upC hc)
                  have hpp := upC_pos (unhide HMV).dst hi
                  have hpl := upC_len (unhide HMV).dst i
                  have hvl := vis_ord (unhide HMV).dst hi hc
                  have HRW : Hid (rowW n rows i = [(b : Int), aAt rows i, ((upC rows i).length : Nat), ((frC n rows i).length : Nat), sumW (frC n rows i), minL (frC n rows i)]) := by unfold Hid rowW; rw [hc]
                  have HRM : Hid (rowM n rows i = [(b : Int), maxL (frC n rows i), sumW ((vis rows b i ++ [i]).map (cAt rows))]) := by
                    unfold Hid rowM
                    rw [hbt, ord_at (unhide HMV).dst hi hc, hc]
                  have HTS : Hid (wrap64 (tt + cAt rows i) = sumW ((vis rows b i ++ [i]).map (cAt rows))) := by
                    unfold Hid
                    rw [unhide HTT, List.map_append, List.map_cons, List.map_nil, sumW_snoc]
                  have HFR : Hid (frC n rows i = (upC rows i).drop ((upC rows i).length - (n + 1))) := rfl
                  have hvW : vW.length ≤ 40 := by rw [(unhide HMS).rw'.1, List.length_map]; omega
                  have hvM : vM.length ≤ 40 := by rw [(unhide HMS).rm.1, List.length_map]; omega
                  rw [unhide HPC] at HUP
                  generalize hP : upC rows i = P at *
                  generalize hFR : frC n rows i = FR at *
                  generalize bAt rows i = y at *
                  generalize aAt rows i = x at *
                  generalize cAt rows i = z at *
                  clear hc hbt hP hFR hvl HPC
                  go_upto_region 21 with (fail)
                  go_region_held3 (fun w' => w'.cell? ⟨w.heap.size + 1, 2, none⟩ = some (.slice (some ⟨g, 0, none⟩) vs.length capv) ∧ w'.cell? ⟨g, i, none⟩ = some (.slice (some ⟨b', 0, none⟩) 3 3) ∧ w'.cell? ⟨b', 0, none⟩ = some (.int .i64 x)) (go_keep) (first
                    | (go_at_call 33; refine ((unhide HUP) _ (by exact (unhide HTB7).rw'.keep (Below.refl _ _).drew)).mono ?_; rintro e w7 ⟨adu, capu, rfl, hru, hcu, hb7⟩; have HRU := hide hru; have HB7 : Hid (Below wr.heap.size wr w7) := (Below.refl _ _).drew.trans hb7; have y2 := (hb7.cell (p := ⟨w.heap.size + 1, 2, none⟩) zt).trans t2; have y0 := (hb7.cell (p := ⟨g, i, none⟩) zg).trans k0; have y1 := (hb7.cell (p := ⟨b', 0, none⟩) zb').trans k1; have zs7 : wr.heap.size ≤ w7.heap.size := hb7.size; clear hb7 hru))
                  generalize wrap64 (tt + z) = T1 at *
                  have hP40 : P.length ≤ 40 := by omega
                  have v1 : IntKind.i64.wrap ((n : Int) + 1) = (n : Int) + 1 := by unfold IntKind.wrap; simp [IntKind.bits, IntKind.signed]; omega
                  go_upto_if 131 with (fail)
                  go_cut [19] from 132 to 138 (fun fv W' => ∃ adf capf, fv = .slice adf FR.length capf ∧ RowAt w7 (.slice adf FR.length capf) (intsV FR) ∧ W' = w7)
                  case first =>
                    have hfr := unhide HFR
                    by_cases hlen : n + 1 < P.length
                    · have hd3 : decide ((n : Int) + 1 < (P.length : Int)) = true := by simp; omega
                      obtain ⟨ad9, cap9, e9, m9, hcell⟩ := unhide HRU
                      rw [List.length_map] at hcell
                      injection e9 with e9 e10 e11
                      clear e10
                      subst e9 e11
                      obtain ⟨bp, op, rfl, zbp, hj⟩ := hcell (by omega)
                      have hfl : FR.length = n + 1 := by rw [hfr, List.length_drop]; omega
                      have v4 : IntKind.i64.wrap ((P.length : Int) - (n : Int)) = (P.length : Int) - (n : Int) := by unfold IntKind.wrap; simp [IntKind.bits, IntKind.signed]; omega
                      have v5 : IntKind.i64.wrap ((P.length : Int) - (n : Int) - 1) = ((P.length - (n + 1) : Nat) : Int) := by unfold IntKind.wrap; simp [IntKind.bits, IntKind.signed]; omega
                      obtain ⟨lo, hlo⟩ : ∃ lo, lo = P.length - (n + 1) := ⟨_, rfl⟩
                      rw [← hlo] at v5 hfr
                      have u1 : (0 : Int) ≤ (lo : Int) := by omega
                      have u2 : (lo : Int) ≤ (P.length : Int) := by omega
                      have u3 : (P.length : Int) ≤ (capu : Int) := by omega
                      have u5 : lo < P.length := by omega
                      have hll : P.length - lo = FR.length := by omega
                      have HRF : Hid (RowAt w7 (.slice (some ⟨bp, op + lo, none⟩) FR.length (capu - lo)) (intsV FR)) := by
                        refine ⟨_, _, by rw [List.length_map], by rw [List.length_map, hfl]; unfold maxLen; omega, fun _ => ⟨bp, op + lo, rfl, zbp, fun j hj2 => ?_⟩⟩
                        rw [List.length_map] at hj2
                        rw [Nat.add_assoc, hj _ (by omega), hfr, List.getElem?_map, List.getElem?_map, List.getElem?_drop]
                      have HLL := hide hll
                      clear hcell hj m9 hlo hfr hll hfl
                      go_wp2_with fail
                      go_meet
                      case rel => exact ⟨_, _, by rw [unhide HLL], unhide HRF, rfl⟩
                    · have hd3 : decide ((n : Int) + 1 < (P.length : Int)) = false := by simp; omega
                      have hPF : FR = P := by rw [hfr, show P.length - (n + 1) = 0 by omega, List.drop_zero]
                      have HPF := hide hPF
                      clear hfr hPF
                      go_wp2_with fail
                      go_meet
                      case rel => exact ⟨adu, capu, by rw [unhide HPF], by rw [unhide HPF]; exact unhide HRU, rfl⟩
                  case rest =>
                    obtain ⟨adf, capf, rfl, hrf, hWr⟩ := hcut
                    obtain rfl := hWr.symm
                    obtain ⟨ad9, cap9, e9, m9, hcell⟩ := hrf
                    injection e9 with e9 e10 e11
                    clear e10
                    subst e9 e11
                    rw [List.length_map] at hcell
                    have hfr := unhide HFR
                    have hFpos : 0 < FR.length := by rw [hfr, List.length_drop]; omega
                    have hF40 : FR.length ≤ 40 := by rw [hfr, List.length_drop]; omega
                    obtain ⟨bp, op, rfl, zbp, hj⟩ := hcell hFpos
                    obtain ⟨f0, rF, hFc⟩ : ∃ f0 rF, FR = f0 :: rF := by
                      cases hq : FR with
                      | nil => rw [hq] at hFpos; simp at hFpos
                      | cons a r => exact ⟨a, r, rfl⟩
                    have c0 : w7.cell? ⟨bp, op, none⟩ = some (.int .i64 f0) := by
                      have h0 := hj 0 hFpos
                      rw [List.getElem?_map, hFc] at h0
                      exact h0
                    have HJ := hide hj
                    have HFC := hide hFc
                    have q5 : (0 : Int) < (FR.length : Int) := by omega
                    clear hj hcell m9 hfr hFc hWr
                    go_wp2_with fail
                    go_loopg [20, 21, 22, 23] FR.length (fun q sv lv mv kv W' => ∃ k : Nat, k + q = FR.length ∧ kv = .int .i64 (k : Nat) ∧ sv = .int .i64 (sumW (FR.take k)) ∧ lv = .int .i64 (lstU f0 (FR.take k)) ∧ mv = .int .i64 (mstU f0 (FR.take k)) ∧ W' = w7)
                    case atStart => exact ⟨0, by omega, rfl, rfl, rfl, rfl, rfl⟩
                    case round =>
                      obtain ⟨k, hkq, rfl, rfl, rfl, rfl, hwk⟩ := hrel
                      obtain rfl := hwk.symm
                      clear hwk
                      by_cases hk : k < FR.length
                      · obtain ⟨gq, rfl⟩ : ∃ gq, gk = gq + 1 := ⟨gk - 1, by omega⟩
                        obtain ⟨z9, hz9⟩ : ∃ z9, FR[k]? = some z9 := ⟨_, List.getElem?_eq_getElem hk⟩
                        have ck : w7.cell? ⟨bp, op + k, none⟩ = some (.int .i64 z9) := by
                          have h0 := (unhide HJ) k hk
                          rw [List.getElem?_map, hz9] at h0
                          exact h0
                        have htk : FR.take (k + 1) = FR.take k ++ [z9] := by rw [List.take_add_one, hz9]; rfl
                        have HTK := hide htk
                        have hd4 : decide (k < FR.length) = true := by simp; omega
                        have hd5 : decide ((k : Int) < (FR.length : Int)) = true := by simp; omega
                        have q6 : (0 : Int) ≤ (k : Int) := by omega
                        have q7 : (k : Int) < (FR.length : Int) := by omega
                        generalize hsm : sumW (FR.take k) = sm at *
                        generalize hls : lstU f0 (FR.take k) = ls at *
                        generalize hmt : mstU f0 (FR.take k) = mt at *
                        have HSM := hide hsm
                        have HLS := hide hls
                        have HMT := hide hmt
                        clear htk hz9 hsm hls hmt c0
                        cases h1 : decide (z9 < ls) <;> cases h2 : decide (mt < z9)
                        all_goals
                          have HD1 := hide h1
                          have HD2 := hide h2
                          go_wp2
                          go_roundg gq
                          case measure => simp
                          case rel =>
                            have e1 := unhide HD1
                            have e2 := unhide HD2
                            simp only [decide_eq_true_eq, decide_eq_false_iff_not] at e1 e2
                            refine ⟨k + 1, by omega, by go_num, ?_, ?_, ?_, rfl⟩
                            · rw [unhide HTK, sumW_snoc, unhide HSM]
                            · rw [unhide HTK, lstU_snoc, unhide HLS]
                              first | rw [if_pos e1] | rw [if_neg e1]
                            · rw [unhide HTK, mstU_snoc, unhide HMT]
                              first | rw [if_pos e2] | rw [if_neg e2]
                      · have hd4 : decide (k < FR.length) = false := by simp; omega
                        have hd5 : decide ((k : Int) < (FR.length : Int)) = false := by simp; omega
                        have hkF : k = FR.length := by omega
                        have es : sumW (FR.take k) = sumW FR := by rw [hkF, List.take_length]
                        have el : lstU f0 (FR.take k) = minL FR := by rw [hkF, List.take_length, unhide HFC]; exact lstU_min _ _
                        have em : mstU f0 (FR.take k) = maxL FR := by rw [hkF, List.take_length, unhide HFC]; exact mstU_max _ _
                        rw [es, el, em]
                        clear es el em hkF c0
                        generalize sumW FR = sF at *
                        generalize minL FR = lF at *
                        generalize maxL FR = mF at *
                        have HM7 : Hid (MvS w6 w7 ((vis rows b i).map (rowW n rows)) ((vis rows b i).map (rowM n rows)) (.slice adW vW.length capW) (.slice adM vM.length capM) vW vM) := (unhide HMS).below (unhide HB7)
                        have hz7 : w6.heap.size ≤ w7.heap.size := (unhide HM7).bel.size
                        go_wp2_with (at_builtin; refine wpList_append_lies _ rfl _ _ 42 rfl w6.heap.size 32 i0 (.slice none 0 0) 1 24 Tryz.underlying42 (unhide HI) (unhide HZ0) (unhide HZ1) (unhide HZ2) rfl (by decide) _ _ _ rfl (((unhide HM7).ow.alloc _).alloc _) ⟨w7.heap.size + 1, 0, none⟩ 1 1 [.slice (some ⟨w7.heap.size, 0, none⟩) 6 6] ?c0 rfl ?c1 ?c2 (by decide) ?c3 ?c4 ?c5 _ rfl ?_)
                        case c0 => simp [Act.eval]
                        case c1 => exact news1 (heap_last (by simp))
                        case c2 => exact one1l _ _ _
                        case c3 => unfold maxLen; omega
                        case c4 => omega
                        case c5 => simp; omega
                        intro gA cA w8 ho hg hat _
                        have hb2 : Below w7.heap.size w7 ((w7.alloc (.cells #[.int .i64 (b : Int), .int .i64 x, .int .i64 (P.length : Int), .int .i64 (FR.length : Int), .int .i64 sF, .int .i64 lF] 3)).alloc (.cells #[.slice (some ⟨w7.heap.size, 0, none⟩) 6 6] 32)) := ((Below.refl _ _).alloc (Nat.le_refl _) _).alloc (by simp) _
                        have HM8 := hide (((unhide HM7).below hb2).addW [(b : Int), x, (P.length : Int), (FR.length : Int), sF, lF] rfl w7.heap.size (heap_prev (heap_last rfl)) hg (hat.imp id (fun e => by rw [e]; simp)) ho)
                        have z8 : w7.heap.size + 1 + 1 ≤ w8.heap.size := by have := hg.size; simpa using this
                        have hz8 : w6.heap.size ≤ w8.heap.size := by omega
                        clear ho hg hat hb2 y0 y1 y2
                        go_wp2_with (at_builtin; refine wpList_append_lies _ rfl _ _ 42 rfl w6.heap.size 32 i0 (.slice none 0 0) 1 24 Tryz.underlying42 (unhide HI) (unhide HZ0) (unhide HZ1) (unhide HZ2) rfl (by decide) _ _ _ rfl (((unhide HM8).om.alloc _).alloc _) ⟨w8.heap.size + 1, 0, none⟩ 1 1 [.slice (some ⟨w8.heap.size, 0, none⟩) 3 3] ?c0 rfl ?c1 ?c2 (by decide) ?c3 ?c4 ?c5 _ rfl ?_)
                        case c0 => simp [Act.eval]
                        case c1 => exact news1 (heap_last (by simp))
                        case c2 => exact one1l _ _ _
                        case c3 => unfold maxLen; omega
                        case c4 => omega
                        case c5 => simp; omega
                        intro gB cB w9 ho hg hat _
                        have hb2 : Below w8.heap.size w8 ((w8.alloc (.cells #[.int .i64 (b : Int), .int .i64 mF, .int .i64 T1] 3)).alloc (.cells #[.slice (some ⟨w8.heap.size, 0, none⟩) 3 3] 32)) := ((Below.refl _ _).alloc (Nat.le_refl _) _).alloc (by simp) _
                        have HM9 := hide (((unhide HM8).below hb2).addM [(b : Int), mF, T1] rfl w8.heap.size (heap_prev (heap_last rfl)) hg (hat.imp id (fun e => by rw [e]; simp)) ho)
                        clear ho hg hat hb2
                        go_wp2
                        go_roundg gn
                        case measure => simp
                        case rel =>
                          refine ⟨i + 1, vW ++ [.slice (some ⟨w7.heap.size, 0, none⟩) 6 6], vM ++ [.slice (some ⟨w8.heap.size, 0, none⟩) 3 3], T1, by omega, by go_num, rfl, ?_, ?_⟩
                          · rw [unhide HVI]; exact unhide HTS
                          · rw [unhide HVI, List.map_append, List.map_append, List.map_cons, List.map_cons, List.map_nil, List.map_nil, unhide HRW, unhide HRM, ← unhide HTS]
                            exact unhide HM9
                · have e2 : (bAt rows i == (b : Int)) = false := by rw [beq_eq_false_iff_ne]; exact hc
                  have HVN := hide (vis_no hc)
                  generalize bAt rows i = y at *
                  clear hc HUP
                  go_wp2
                  go_roundg gn
                  case measure => simp
                  case rel =>
                    have hms := unhide HMS
                    have htt := unhide HTT
                    rw [← unhide HVN] at hms htt
                    exact ⟨i + 1, vW, vM, tt, by omega, by go_num, rfl, htt, hms⟩
              · have hd2 : decide (i < vs.length) = false := by rw [unhide HVL]; simp; omega
                have hin : i = rows.length := by omega
                have HV : Hid (vis rows b i = vis rows (b + 1) 0) := by unfold Hid; rw [hin, vis_full, vis_zero]
                clear hin
                go_wp2
                go_roundg gm
                case measure => simp
                case rel =>
                  have hms := unhide HMS
                  have htt := unhide HTT
                  rw [unhide HV] at hms htt
                  exact ⟨b + 1, vW, vM, by omega, by go_num, by rw [htt], hms⟩
          · have hd : decide ((b : Int) < 41) = false := by simp; omega
            have hb : b = 41 := by omega
            have hms := unhide HMS
            rw [hb, vis_zero] at hms
            have hlW : ((ordI rows 41).map (rowW n rows)).length ≤ 40 := by rw [List.length_map]; exact Nat.le_trans (ordI_len (unhide HMV).dst 41) h40
            have hlM : ((ordI rows 41).map (rowM n rows)).length ≤ 40 := by rw [List.length_map]; exact Nat.le_trans (ordI_len (unhide HMV).dst 41) h40
            have hlW2 : ((ordI rows 41).map (rowW n rows)).length = rows.length := by rw [← unhide HS1, sortL_len]; simp
            have hlM2 : ((ordI rows 41).map (rowM n rows)).length = rows.length := by rw [← unhide HS2, sortL_len]; simp
            have HB6r : Hid (Below w6.heap.size w6 wr) := hms.bel
            have HRL : Hid (RowsAt wr (.slice (some ⟨g1, 0, none⟩) rows.length rows.length) ((ordI rows 41).map (rowW n rows))) := by
              have h9 := ((unhide HRB1).atW (by unfold maxLen; omega)).keep ((unhide HB56).trans (hms.bel.mono (unhide HB56).size))
              rw [hlW2] at h9
              exact h9
            have HRL2 : Hid (RowsAt wr (.slice (some ⟨g2, 0, none⟩) rows.length rows.length) ((ordI rows 41).map (rowM n rows))) := by
              have h9 := ((unhide HRB2).atW (by unfold maxLen; omega)).keep hms.bel
              rw [hlM2] at h9
              exact h9
            have hvW : vW.length ≤ 40 := by rw [hms.rw'.1]; exact hlW
            have hvM : vM.length ≤ 40 := by rw [hms.rm.1]; exact hlM
            have HRW : Hid (RowsAt wr (.slice adW vW.length capW) ((ordI rows 41).map (rowW n rows))) := hms.rw'.rows (by unfold maxLen; omega) hms.ow (by unfold maxLen; omega)
            have HRM : Hid (RowsAt wr (.slice adM vM.length capM) ((ordI rows 41).map (rowM n rows))) := hms.rm.rows (by unfold maxLen; omega) hms.om (by unfold maxLen; omega)
            clear hms hb HMS hlW2 hlM2
            go_wp2_with fail
            refine (sameRows_any _ _ _ _ _ (by exact unhide HRL) (by exact unhide HRW) (by omega)).mono ?_
            rintro e w8 ⟨rfl, hb8⟩
            rw [decide_eq_true rfl]
            have HRL9 := hide ((unhide HRL2).keep hb8)
            have HRM9 := hide ((unhide HRM).keep hb8)
            have HB68 : Hid (Below w6.heap.size w6 w8) := (unhide HB6r).trans (hb8.mono (unhide HB6r).size)
            clear hb8
            go_wp2_with fail
            refine (sameRows_any _ _ _ _ _ (by exact unhide HRL9) (by exact unhide HRM9) (by omega)).mono ?_
            rintro e w9 ⟨rfl, hb9⟩
            rw [decide_eq_true rfl]
            have HB9 : Hid (Below w.heap.size w w9) := (unhide HB6).trans (((unhide HB68).trans (hb9.mono (unhide HB68).size)).mono (unhide HB6).size)
            clear hb9
            go_wp2
            go_ret
            exact ⟨rfl, unhide HB9⟩
end Go.Proofs.YtfkeddkfegaeiaaGreatDoor
