/-
  Part 30.
-/
import Derived.Test.YtfkeddkfegaeiaaGreatDoorMvPlY
namespace Go.Proofs.YtfkeddkfegaeiaaGreatDoor
open Go.RowKit
def orI (a b : Int) : Int := if a = 0 then b else a
set_option maxRecDepth 100000 in
set_option maxHeartbeats 1000000 in
theorem cOr_any (W : World) (v : Nat) (a b : Int) (h : W.heap[v]? = some (.cells #[.int .i64 a, .int .i64 b] 3 (0, 0))) :
    Calls Tryz.prog 333 #[.slice (some ⟨v, 0, none⟩) 2 2] W fun e w' => e = .returned (.int .i64 (orI a b)) ∧ Below W.heap.size W w' := by
  obtain ⟨kv, -⟩ := blk h
  have k0 : W.cell? ⟨v, 0, none⟩ = some (.int .i64 a) := kv 0
  have k1 : W.cell? ⟨v, 1, none⟩ = some (.int .i64 b) := kv 1
  have zv := lt_of_heap h
  clear kv h
  obtain ⟨R, hR⟩ : ∃ R, R = orI a b := ⟨_, rfl⟩
  rw [← hR]
  have HR := hide hR
  clear hR
  go_enter Tryz.func333, Tryz.ntmps333
  go_wp2_with fail
  go_loopg [8] 2 (fun f i W' => ∃ k, k + f = 2 ∧ i = .int .i64 (k : Nat) ∧ W' = W ∧ (1 ≤ k → a = 0) ∧ (2 ≤ k → b = 0))
  case atStart => exact ⟨0, rfl, rfl, rfl, fun h => by omega, fun h => by omega⟩
  case round =>
    obtain ⟨k, hkf, rfl, rfl, h1, h2⟩ := hrel
    have H1 := hide h1
    have H2 := hide h2
    clear h1 h2
    have hk3 : k = 0 ∨ k = 1 ∨ k = 2 := by omega
    rcases hk3 with rfl | rfl | rfl
    · obtain rfl : gk = 1 + 1 := by omega
      cases hz : ((a : Int) != 0) with
      | true =>
        have HA : Hid (R = a) := by show R = a; rw [unhide HR]; unfold orI; rw [if_neg (by simpa using hz)]
        go_wp2
        go_ret
        exact ⟨by rw [unhide HA]; rfl, Below.refl _ _⟩
      | false =>
        have HA : Hid (a = 0) := by show a = 0; simpa using hz
        go_wp2
        go_roundg 1
        case measure => omega
        case rel => exact ⟨1, rfl, rfl, rfl, fun _ => unhide HA, fun h => by omega⟩
    · obtain rfl : gk = 0 + 1 := by omega
      have HA : Hid (R = b) := by show R = b; rw [unhide HR]; unfold orI; rw [if_pos ((unhide H1) (Nat.le_refl _))]
      cases hz : ((b : Int) != 0) with
      | true =>
        go_wp2
        go_ret
        exact ⟨by rw [unhide HA]; rfl, Below.refl _ _⟩
      | false =>
        have HB : Hid (b = 0) := by show b = 0; simpa using hz
        go_wp2
        go_roundg 0
        case measure => omega
        case rel => exact ⟨2, rfl, rfl, rfl, fun _ => (unhide H1) (Nat.le_refl _), fun _ => unhide HB⟩
    · obtain rfl : gk = 0 := by omega
      have HA : Hid (R = 0) := by show R = 0; rw [unhide HR]; unfold orI; rw [if_pos ((unhide H1) (by omega))]; exact (unhide H2) (Nat.le_refl _)
      go_wp2
      go_ret
      exact ⟨by rw [unhide HA]; rfl, Below.refl _ _⟩
/-- how seats compare. -/
def cmpS (s t : Seat) : Int := orI (cmpL s.part t.part) (cmpL s.ord t.ord)
/-- a seat's numbers, off the seats' block. -/
structure SeatAt (g : Nat) (W : World) (s : Seat) : Prop where
  part : OffAt g W (.slice s.pa s.pl s.pc) s.part
  ord : OffAt g W (.slice s.oa s.ol s.oc) s.ord
theorem SeatAt.keep {g : Nat} {W W' : World} {s : Seat} (h : SeatAt g W s) (hk : Kp g W W') : SeatAt g W' s := ⟨h.part.keep hk.size hk.block, h.ord.keep hk.size hk.block⟩
set_option maxRecDepth 100000 in
set_option maxHeartbeats 1000000 in
theorem scmp_any (g : Nat) (W : World) (s t : Seat) (hs : SeatAt g W s) (ht : SeatAt g W t) :
    Calls Tryz.prog 332 #[.agg #[.int .i64 (s.row : Nat), .slice s.pa s.pl s.pc, .slice s.oa s.ol s.oc], .agg #[.int .i64 (t.row : Nat), .slice t.pa t.pl t.pc, .slice t.oa t.ol t.oc]] W fun e w' => e = .returned (.int .i64 (cmpS s t)) ∧ Below W.heap.size W w' := by
  have HS := hide hs
  have HT := hide ht
  clear hs ht
  go_enter Tryz.func332, Tryz.ntmps332
  go_wp2_with fail
  have hb2 : Below W.heap.size W ((W.alloc (.cells #[.int .i64 (s.row : Nat), .slice s.pa s.pl s.pc, .slice s.oa s.ol s.oc] 479)).alloc (.cells #[.int .i64 (t.row : Nat), .slice t.pa t.pl t.pc, .slice t.oa t.ol t.oc] 479)) := ((Below.refl _ _).alloc (Nat.le_refl _) _).alloc (by simp) _
  have hx : ((W.alloc (.cells #[.int .i64 (s.row : Nat), .slice s.pa s.pl s.pc, .slice s.oa s.ol s.oc] 479)).alloc (.cells #[.int .i64 (t.row : Nat), .slice t.pa t.pl t.pc, .slice t.oa t.ol t.oc] 479)).heap[W.heap.size]? = some (.cells #[.int .i64 (s.row : Nat), .slice s.pa s.pl s.pc, .slice s.oa s.ol s.oc] 479 (0, 0)) := heap_prev (heap_last rfl)
  have hy : ((W.alloc (.cells #[.int .i64 (s.row : Nat), .slice s.pa s.pl s.pc, .slice s.oa s.ol s.oc] 479)).alloc (.cells #[.int .i64 (t.row : Nat), .slice t.pa t.pl t.pc, .slice t.oa t.ol t.oc] 479)).heap[W.heap.size + 1]? = some (.cells #[.int .i64 (t.row : Nat), .slice t.pa t.pl t.pc, .slice t.oa t.ol t.oc] 479 (0, 0)) := heap_last (by simp)
  generalize ((W.alloc (.cells #[.int .i64 (s.row : Nat), .slice s.pa s.pl s.pc, .slice s.oa s.ol s.oc] 479)).alloc (.cells #[.int .i64 (t.row : Nat), .slice t.pa t.pl t.pc, .slice t.oa t.ol t.oc] 479)) = W2 at *
  have HB2 := hide hb2
  have R1 := hide ((unhide HS).part.row.keep hb2)
  have R2 := hide ((unhide HT).part.row.keep hb2)
  have R3 := hide ((unhide HS).ord.row.keep hb2)
  have R4 := hide ((unhide HT).ord.row.keep hb2)
  obtain ⟨kx, -⟩ := blk hx
  obtain ⟨ky, -⟩ := blk hy
  have x1 : W2.cell? ⟨W.heap.size, 1, none⟩ = some (.slice s.pa s.pl s.pc) := kx 1
  have x2 : W2.cell? ⟨W.heap.size, 2, none⟩ = some (.slice s.oa s.ol s.oc) := kx 2
  have y1 : W2.cell? ⟨W.heap.size + 1, 1, none⟩ = some (.slice t.pa t.pl t.pc) := ky 1
  have y2 : W2.cell? ⟨W.heap.size + 1, 2, none⟩ = some (.slice t.oa t.ol t.oc) := ky 2
  have zx := lt_of_heap hx
  have zy := lt_of_heap hy
  have hz := hb2.size
  have HCM : Hid (∀ (u v : Value) (zs ys : List Int), RowAt W2 u (intsV zs) → RowAt W2 v (intsV ys) → Calls Tryz.prog 128 #[u, v] W2.drew fun e w' => e = .returned (.int .i64 (cmpL zs ys)) ∧ w' = W2.drew) := fun u v zs ys h1 h2 => sCompare_any u v zs ys W2.drew (h1.keep (Below.refl _ _).drew) (h2.keep (Below.refl _ _).drew)
  have HOR : Hid (∀ W3 v p q, W3.heap[v]? = some (.cells #[.int .i64 p, .int .i64 q] 3 (0, 0)) → Calls Tryz.prog 333 #[.slice (some ⟨v, 0, none⟩) 2 2] W3 fun e w' => e = .returned (.int .i64 (orI p q)) ∧ Below W3.heap.size W3 w') := fun W3 v p q h => cOr_any W3 v p q h
  clear kx ky hx hy hb2
  go_region_held3 (fun w' => w'.cell? ⟨W.heap.size, 1, none⟩ = some (.slice s.pa s.pl s.pc) ∧ w'.cell? ⟨W.heap.size, 2, none⟩ = some (.slice s.oa s.ol s.oc) ∧ w'.cell? ⟨W.heap.size + 1, 1, none⟩ = some (.slice t.pa t.pl t.pc) ∧ w'.cell? ⟨W.heap.size + 1, 2, none⟩ = some (.slice t.oa t.ol t.oc)) (go_keep) (first
    | (go_at_call 128; refine ((unhide HCM) _ _ _ _ (by first | exact unhide R1 | exact unhide R3) (by first | exact unhide R2 | exact unhide R4)).mono ?_; rintro e w3 ⟨rfl, hw3⟩; obtain rfl := hw3.symm)
    | (go_at_call 333; refine ((unhide HOR) _ _ _ _ (by exact heap_last rfl)).mono ?_; rintro e w3 ⟨rfl, hb3⟩; have HB3 := hide hb3; have j1 := ((hb3.cell (p := ⟨W.heap.size, 1, none⟩) (by simp; omega)).trans (World.cell?_alloc_lt _ _ ⟨W.heap.size, 1, none⟩ zx)).trans x1; have j2 := ((hb3.cell (p := ⟨W.heap.size, 2, none⟩) (by simp; omega)).trans (World.cell?_alloc_lt _ _ ⟨W.heap.size, 2, none⟩ zx)).trans x2; have j3 := ((hb3.cell (p := ⟨W.heap.size + 1, 1, none⟩) (by simp; omega)).trans (World.cell?_alloc_lt _ _ ⟨W.heap.size + 1, 1, none⟩ zy)).trans y1; have j4 := ((hb3.cell (p := ⟨W.heap.size + 1, 2, none⟩) (by simp; omega)).trans (World.cell?_alloc_lt _ _ ⟨W.heap.size + 1, 2, none⟩ zy)).trans y2; clear hb3))
  go_wp2
  go_ret
  exact ⟨rfl, (((unhide HB2).drew.alloc (by exact hz) _).trans ((unhide HB3).mono (by simp; omega)))⟩
end Go.Proofs.YtfkeddkfegaeiaaGreatDoor
namespace Go.Proofs.YtfkeddkfegaeiaaGreatDoor
open Go.RowKit
def ltS (s t : Seat) : Bool := decide (cmpS s t < 0)
/-- the seats lie, and so do their numbers. -/
structure Sts2 (W : World) (g n : Nat) (d : Nat → Seat) : Prop where
  lie : Sts W g n d
  ok : ∀ k, k < n → SeatAt g W (d k)
theorem Sts2.next {W W' : World} {g n : Nat} {d d' : Nat → Seat} (h : Sts2 W g n d) (hk : Kp g W W') (hs : Sts W' g n d') (hi : Inc 0 n d d') : Sts2 W' g n d' := ⟨hs, fun k hkn => by
  obtain ⟨i, -, i2, e⟩ := hi.2 k (Nat.zero_le _) hkn
  rw [e]
  exact (h.ok i i2).keep hk⟩
theorem Sts.below {W W' : World} {g n : Nat} {d : Nat → Seat} (h : Sts W g n d) (hb : Below W.heap.size W W') : Sts W' g n d := by
  obtain ⟨cur, h1, h2⟩ := h
  exact ⟨cur, (hb.block g (lt_of_heap h1)).trans h1, h2⟩
theorem Sts2.below {W W' : World} {g n : Nat} {d : Nat → Seat} (h : Sts2 W g n d) (hb : Below W.heap.size W W') : Sts2 W' g n d := h.next (Kp.ofBelow hb) (h.lie.below hb) (Inc.refl _ _ _)
/-- the function that compares. -/
abbrev cmpV : Value := .func (.func 332) #[] #[]
set_option maxRecDepth 100000 in
set_option maxHeartbeats 4000000 in
theorem insertion_any (T : Seat → Seat → Prop) (O : Ordr ltS T) (g n cap : Nat) (hn : n ≤ 4000) (a b : Nat) (ha : a ≤ n) (hb : b ≤ n) (W : World) (d : Nat → Seat) (h : Sts2 W g n d) (hbf : ∀ i j, a ≤ i → i < j → j < b → Bfr ltS T (d i) (d j)) :
    Calls Tryz.prog 339 #[.slice (some ⟨g, 0, none⟩) n cap, .int .i64 (a : Nat), .int .i64 (b : Nat), cmpV] W fun e W' => ∃ d', e = .returned (.tuple #[]) ∧ Sts2 W' g n d' ∧ Kp g W W' ∧ Inc a b d d' ∧ Srt' T d' a b := by
  have HD := hide h
  have HBF := hide hbf
  have HO := hide O
  clear h hbf
  go_enter Tryz.func339, Tryz.ntmps339
  go_wp2_with fail
  go_loopg [8] (b - (a + 1)) (fun f iv W' => ∃ i d', iv = .int .i64 (i : Nat) ∧ f = b - i ∧ a + 1 ≤ i ∧ i ≤ n + 1 ∧ (i ≤ b ∨ (i = a + 1 ∧ d' = d)) ∧ Sts2 W' g n d' ∧ Kp g W W' ∧ Inc a i d d' ∧ Srt' T d' a i)
  case atStart => exact ⟨a + 1, d, rfl, rfl, Nat.le_refl _, by omega, Or.inr ⟨rfl, rfl⟩, unhide HD, Kp.refl _ _, Inc.refl _ _ _, fun x y h1 h2 h3 => by omega⟩
  case round =>
    obtain ⟨i, d1, rfl, rfl, hi1, hi2, hi3, hs, hk, hinc, hsrt⟩ := hrel
    have HS := hide hs
    have HK := hide hk
    have HINC := hide hinc
    have HSRT := hide hsrt
    clear hs hk hinc hsrt
    by_cases hib : i < b
    · have hlt : decide ((i : Int) < (b : Int)) = true := by simp; omega
      have HB1 : Hid (∀ k, a ≤ k → k < i → Bfr ltS T (d1 k) (d1 i)) := fun k k1 k2 => by
        obtain ⟨k', q1, q2, e⟩ := (unhide HINC).2 k k1 k2
        rw [e, (unhide HINC).1 i (Or.inr (Nat.le_refl _))]
        exact (unhide HBF) k' i q1 q2 hib
      have HEND : Hid (∀ W' d2 j, Sts2 W' g n d2 → Kp g W W' → Ins ltS T d1 d2 a i j → (j = a ∨ ltS (d2 j) (d2 (j - 1)) = false) → ∃ i' d', (.int .i64 ((i : Int) + 1) : Value) = .int .i64 (i' : Nat) ∧ b - (i + 1) = b - i' ∧ a + 1 ≤ i' ∧ i' ≤ n + 1 ∧ (i' ≤ b ∨ (i' = a + 1 ∧ d' = d)) ∧ Sts2 W' g n d' ∧ Kp g W W' ∧ Inc a i' d d' ∧ Srt' T d' a i') := fun W' d2 j h1 h2 h3 h4 =>
        ⟨i + 1, d2, rfl, rfl, by omega, by omega, Or.inl (by omega), h1, h2, ((unhide HINC).mono (Nat.le_refl _) (by omega)).trans h3.inc, h3.done (unhide HO) (unhide HSRT) (unhide HB1) h4⟩
      clear hi3
      go_wp2_with fail
      generalize wr = Wi at *
      go_loopg [9] (i - a) (fun f jv W' => ∃ j d2, jv = .int .i64 (j : Nat) ∧ f = j - a ∧ a ≤ j ∧ j ≤ i ∧ Sts2 W' g n d2 ∧ Kp g W W' ∧ Ins ltS T d1 d2 a i j)
      case atStart => exact ⟨i, d1, rfl, rfl, by omega, Nat.le_refl _, unhide HS, unhide HK, Ins.start d1 (by omega)⟩
      case round =>
        obtain ⟨j, d2, rfl, rfl, hj1, hj2, hs2, hk2, hins⟩ := hrel
        have HS2 := hide hs2
        have HK2 := hide hk2
        have HINS := hide hins
        by_cases hja : j = a
        · subst hja
          have hgt : decide ((j : Int) < (j : Int)) = false := by simp
          clear hs2 hk2 hins
          go_wp2_with fail
          go_region
          go_wp2
          go_roundg (b - (i + 1))
          case measure => omega
          case rel => exact (unhide HEND) _ d2 j ((unhide HS2).below (Below.refl _ _).drew) ((unhide HK2).drew) (unhide HINS) (Or.inl rfl)
        · have hja' : a < j := by omega
          clear hja
          have hgt : decide ((a : Int) < (j : Int)) = true := by simp; omega
          obtain ⟨zg, x0, x1, x2⟩ := hs2.lie.at (k := j) (by omega)
          obtain ⟨-, y0, y1, y2⟩ := hs2.lie.at (k := (j - 1)) (by omega)
          have fr := hs2.lie.free
          have HSA := hide (hs2.ok j (by omega))
          have HSB := hide (hs2.ok (j - 1) (by omega))
          obtain ⟨sa, hsa⟩ : ∃ s, d2 j = s := ⟨_, rfl⟩
          obtain ⟨sb, hsb⟩ : ∃ s, d2 (j - 1) = s := ⟨_, rfl⟩
          rw [hsa] at x0 x1 x2 HSA
          rw [hsb] at y0 y1 y2 HSB
          have w1 : IntKind.i64.wrap ((j : Int) - 1) = ((j - 1 : Nat) : Int) := by unfold IntKind.wrap; simp [IntKind.bits, IntKind.signed]; omega
          have q1 : (0 : Int) ≤ (j : Int) := by omega
          have q2 : (j : Int) < (n : Int) := by omega
          have q3 : (0 : Int) ≤ ((j - 1 : Nat) : Int) := by omega
          have q4 : ((j - 1 : Nat) : Int) < (n : Int) := by omega
          have HLT : Hid (ltS (d2 j) (d2 (j - 1)) = decide (cmpS sa sb < 0)) := by show ltS _ _ = _; rw [hsa, hsb]; rfl
          have HSW : Hid (∀ W', Below wr.heap.size wr W' → Sts2 (swpW W' g j (j - 1) sa sb) g n (swp d2 j (j - 1)) ∧ Kp g W (swpW W' g j (j - 1) sa sb)) := fun W' hb' => by
            have h1 := hs2.below hb'
            exact ⟨h1.next (swpW_kp (Kp.refl _ _)) (h1.lie.swap (by omega) (by omega) hsa hsb) (swp_inc _ (by omega) (by omega) (by omega) (by omega)), swpW_kp (hk2.trans (Kp.ofBelow hb'))⟩
          have HCM : Hid (∀ W', SeatAt g W' sa → SeatAt g W' sb → Calls Tryz.prog 332 #[.agg #[.int .i64 (sa.row : Nat), .slice sa.pa sa.pl sa.pc, .slice sa.oa sa.ol sa.oc], .agg #[.int .i64 (sb.row : Nat), .slice sb.pa sb.pl sb.pc, .slice sb.oa sb.ol sb.oc]] W' fun e w' => e = .returned (.int .i64 (cmpS sa sb)) ∧ Below W'.heap.size W' w') := fun W' h1 h2 => scmp_any g W' sa sb h1 h2
          clear hs2 hk2 hins hsa hsb
          generalize cmpS sa sb = C at *
          go_wp2_with fail
          go_region_held3 (fun w' => w'.cell? ⟨g, j * 3, none⟩ = some (.int .i64 (sa.row : Nat)) ∧ w'.cell? ⟨g, j * 3 + 1, none⟩ = some (.slice sa.pa sa.pl sa.pc) ∧ w'.cell? ⟨g, j * 3 + 2, none⟩ = some (.slice sa.oa sa.ol sa.oc) ∧ w'.cell? ⟨g, (j - 1) * 3, none⟩ = some (.int .i64 (sb.row : Nat)) ∧ w'.cell? ⟨g, (j - 1) * 3 + 1, none⟩ = some (.slice sb.pa sb.pl sb.pc) ∧ w'.cell? ⟨g, (j - 1) * 3 + 2, none⟩ = some (.slice sb.oa sb.ol sb.oc)) (go_keep) (first
            | (go_at_call 332; refine ((unhide HCM) _ (by exact (unhide HSA).keep (Kp.refl _ _).drew) (by exact (unhide HSB).keep (Kp.refl _ _).drew)).mono ?_; rintro e w2 ⟨rfl, hb2⟩; have c1 := (hb2.cell (p := ⟨g, j * 3, none⟩) zg).trans x0; have c2 := (hb2.cell (p := ⟨g, j * 3 + 1, none⟩) zg).trans x1; have c3 := (hb2.cell (p := ⟨g, j * 3 + 2, none⟩) zg).trans x2; have c4 := (hb2.cell (p := ⟨g, (j - 1) * 3, none⟩) zg).trans y0; have c5 := (hb2.cell (p := ⟨g, (j - 1) * 3 + 1, none⟩) zg).trans y1; have c6 := (hb2.cell (p := ⟨g, (j - 1) * 3 + 2, none⟩) zg).trans y2; have HB2 : Hid (Below wr.heap.size wr w2) := (Below.refl _ _).drew.trans hb2; clear hb2))
          have zg2 : g < w2.heap.size := Nat.lt_of_lt_of_le zg (unhide HB2).size
          have fr2 : ∀ o, w2.frozen? ⟨g, o, none⟩ = false := ((unhide HS2).below (unhide HB2)).lie.free
          clear x0 x1 x2 y0 y1 y2 fr zg HSA HSB HCM
          by_cases hC : C < 0
          · have hdc : decide (C < 0) = true := by simpa using hC
            have HI2 : Hid (Ins ltS T d1 (swp d2 j (j - 1)) a i (j - 1)) := by
              obtain ⟨j', rfl⟩ : ∃ j', j = j' + 1 := ⟨j - 1, by omega⟩
              exact (unhide HINS).step (unhide HO) (by omega) ((unhide HLT).trans hdc)
            have HSW2 := hide ((unhide HSW) w2 (unhide HB2))
            clear HSW HLT
            go_wp2_with fail
            go_region
            go_wp2
            go_roundg (j - 1 - a)
            case measure => omega
            case rel => exact ⟨j - 1, _, rfl, rfl, by omega, by omega, (unhide HSW2).1, (unhide HSW2).2, unhide HI2⟩
          · have hdc : decide (C < 0) = false := by simpa using hC
            go_wp2
            go_roundg (b - (i + 1))
            case measure => omega
            case rel => exact (unhide HEND) _ d2 j ((unhide HS2).below (unhide HB2)) ((unhide HK2).trans (Kp.ofBelow (unhide HB2))) (unhide HINS) (Or.inr ((unhide HLT).trans hdc))
    · have hlt : decide ((i : Int) < (b : Int)) = false := by simp; omega
      go_wp2
      go_end0
      refine ⟨d1, rfl, unhide HS, unhide HK, ?_, ?_⟩
      · rcases hi3 with h1 | ⟨h1, h2⟩
        · obtain rfl : i = b := by omega
          exact unhide HINC
        · rw [h2]; exact Inc.refl _ _ _
      · exact (unhide HSRT).mono (Nat.le_refl _) (by omega)
end Go.Proofs.YtfkeddkfegaeiaaGreatDoor
namespace Go.Proofs.YtfkeddkfegaeiaaGreatDoor
open Go.RowKit
theorem mvR_start {α : Type} (d : Nat → α) (a : Nat) : mvR d a (a + 1) = d := by
  funext k
  unfold mvR
  repeat' split
  all_goals first | rfl | (exfalso; omega) | (congr 1; omega)
theorem mvR_step {α : Type} (d : Nat → α) {a k : Nat} (h : a ≤ k) : swp (mvR d a (k + 1)) k (k + 1) = mvR d a (k + 1 + 1) := by
  funext x
  unfold swp mvR
  repeat' split
  all_goals first | rfl | (exfalso; omega) | (congr 1; omega)
theorem mvL_start {α : Type} (d : Nat → α) (m : Nat) : mvL d m m = d := by
  funext k
  unfold mvL
  repeat' split
  all_goals first | rfl | (exfalso; omega) | (congr 1; omega)
theorem mvL_step {α : Type} (d : Nat → α) {m k : Nat} (h : k + 1 ≤ m) : swp (mvL d (k + 1) m) (k + 1) k = mvL d k m := by
  funext x
  unfold swp mvL
  repeat' split
  all_goals first | rfl | (exfalso; omega) | (congr 1; omega)
/-- what a merge leaves. -/
def Mrgd (T : Seat → Seat → Prop) (g n : Nat) (a b : Nat) (W : World) (d : Nat → Seat) (e : Ending) (W' : World) : Prop := ∃ d', e = .returned (.tuple #[]) ∧ Sts2 W' g n d' ∧ Kp g W W' ∧ Inc a b d d' ∧ Srt' T d' a b
set_option maxRecDepth 100000 in
set_option maxHeartbeats 1000000 in
theorem symMerge_first (T : Seat → Seat → Prop) (O : Ordr ltS T) (g n cap : Nat) (hn : n ≤ 4000) (a b : Nat) (ha : a + 1 < b) (hb : b ≤ n) (W : World) (d : Nat → Seat) (h : Sts2 W g n d) (hs : Srt' T d (a + 1) b) (hbf : Bef ltS T d a (a + 1) b) :
    Calls Tryz.prog 340 #[.slice (some ⟨g, 0, none⟩) n cap, .int .i64 (a : Nat), .int .i64 ((a + 1 : Nat) : Int), .int .i64 (b : Nat), cmpV] W fun e W' => Mrgd T g n a b W d e W' := by
  have HD := hide h
  have HSR := hide hs
  have HBF := hide hbf
  have HO := hide O
  clear h hs hbf
  obtain ⟨m, hm⟩ : ∃ m, m = a + 1 := ⟨_, rfl⟩
  rw [← hm]
  have HM := hide hm
  have hma : a < m := by omega
  have hmb : m < b := by omega
  have w1 : IntKind.i64.wrap ((m : Int) - (a : Int)) = 1 := by unfold IntKind.wrap; simp [IntKind.bits, IntKind.signed]; omega
  clear hm ha
  go_enter Tryz.func340, Tryz.ntmps340
  go_wp2_with fail
  go_loopg [10, 11] (b - m) (fun f iv jv W' => ∃ i j, iv = .int .i64 (i : Nat) ∧ jv = .int .i64 (j : Nat) ∧ f = j - i ∧ m ≤ i ∧ i ≤ j ∧ j ≤ b ∧ (i = m ∨ ltS (d (i - 1)) (d a) = true) ∧ (j = b ∨ ltS (d j) (d a) = false) ∧ Sts2 W' g n d ∧ Kp g W W')
  case atStart => exact ⟨m, b, rfl, rfl, rfl, Nat.le_refl _, by omega, Nat.le_refl _, Or.inl rfl, Or.inl rfl, unhide HD, Kp.refl _ _⟩
  case round =>
    obtain ⟨i, j, rfl, rfl, rfl, hi1, hij, hjb, hi2, hj2, hs, hk⟩ := hrel
    have HI2 := hide hi2
    have HJ2 := hide hj2
    have HS := hide hs
    have HK := hide hk
    by_cases hlt : i < j
    · have hd : decide ((i : Int) < (j : Int)) = true := by simp; omega
      clear hi2 hj2 hk
      obtain ⟨h, hh⟩ : ∃ h : Nat, ((i : Int) + (j : Int)) / 2 = (h : Int) := ⟨(i + j) / 2, by omega⟩
      have hh1 : i ≤ h := by omega
      have hh2 : h < j := by omega
      obtain ⟨zg, x0, x1, x2⟩ := hs.lie.at (k := h) (by omega)
      obtain ⟨-, y0, y1, y2⟩ := hs.lie.at (k := a) (by omega)
      have HSA := hide (hs.ok h (by omega))
      have HSB := hide (hs.ok a (by omega))
      obtain ⟨sa, hsa⟩ : ∃ s, d h = s := ⟨_, rfl⟩
      obtain ⟨sb, hsb⟩ : ∃ s, d a = s := ⟨_, rfl⟩
      rw [hsa] at x0 x1 x2 HSA
      rw [hsb] at y0 y1 y2 HSB
      have q1 : (0 : Int) ≤ (h : Int) := by omega
      have q2 : (h : Int) < (n : Int) := by omega
      have q3 : (0 : Int) ≤ (a : Int) := by omega
      have q4 : (a : Int) < (n : Int) := by omega
      have HLT : Hid (ltS (d h) (d a) = decide (cmpS sa sb < 0)) := by show ltS _ _ = _; rw [hsa, hsb]; rfl
      have HCM : Hid (∀ W', SeatAt g W' sa → SeatAt g W' sb → Calls Tryz.prog 332 #[.agg #[.int .i64 (sa.row : Nat), .slice sa.pa sa.pl sa.pc, .slice sa.oa sa.ol sa.oc], .agg #[.int .i64 (sb.row : Nat), .slice sb.pa sb.pl sb.pc, .slice sb.oa sb.ol sb.oc]] W' fun e w' => e = .returned (.int .i64 (cmpS sa sb)) ∧ Below W'.heap.size W' w') := fun W' h1 h2 => scmp_any g W' sa sb h1 h2
      clear hs hsa hsb
      generalize cmpS sa sb = C at *
      go_wp2_with fail
      go_region_held3 (fun w' => w'.cell? ⟨g, h * 3, none⟩ = some (.int .i64 (sa.row : Nat)) ∧ w'.cell? ⟨g, h * 3 + 1, none⟩ = some (.slice sa.pa sa.pl sa.pc) ∧ w'.cell? ⟨g, h * 3 + 2, none⟩ = some (.slice sa.oa sa.ol sa.oc) ∧ w'.cell? ⟨g, a * 3, none⟩ = some (.int .i64 (sb.row : Nat)) ∧ w'.cell? ⟨g, a * 3 + 1, none⟩ = some (.slice sb.pa sb.pl sb.pc) ∧ w'.cell? ⟨g, a * 3 + 2, none⟩ = some (.slice sb.oa sb.ol sb.oc)) (go_keep) (first
        | (go_at_call 332; refine ((unhide HCM) _ (by exact (unhide HSA).keep (Kp.refl _ _).drew) (by exact (unhide HSB).keep (Kp.refl _ _).drew)).mono ?_; rintro e w2 ⟨rfl, hb2⟩; have c1 := (hb2.cell (p := ⟨g, h * 3, none⟩) zg).trans x0; have c2 := (hb2.cell (p := ⟨g, h * 3 + 1, none⟩) zg).trans x1; have c3 := (hb2.cell (p := ⟨g, h * 3 + 2, none⟩) zg).trans x2; have c4 := (hb2.cell (p := ⟨g, a * 3, none⟩) zg).trans y0; have c5 := (hb2.cell (p := ⟨g, a * 3 + 1, none⟩) zg).trans y1; have c6 := (hb2.cell (p := ⟨g, a * 3 + 2, none⟩) zg).trans y2; have HB2 : Hid (Below wr.heap.size wr w2) := (Below.refl _ _).drew.trans hb2; clear hb2))
      clear x0 x1 x2 y0 y1 y2 c1 c2 c3 c4 c5 c6 HSA HSB HCM
      have HS3 := hide ((unhide HS).below (unhide HB2))
      have HK3 := hide ((unhide HK).trans (Kp.ofBelow (unhide HB2)))
      by_cases hC : C < 0
      · have hdc : decide (C < 0) = true := by simpa using hC
        go_wp2
        go_roundg (j - (h + 1))
        case measure => omega
        case rel => exact ⟨h + 1, j, rfl, rfl, rfl, by omega, by omega, hjb, Or.inr ((unhide HLT).trans hdc), unhide HJ2, unhide HS3, unhide HK3⟩
      · have hdc : decide (C < 0) = false := by simpa using hC
        go_wp2
        go_roundg (h - i)
        case measure => omega
        case rel => exact ⟨i, h, rfl, rfl, rfl, hi1, by omega, by omega, unhide HI2, Or.inr ((unhide HLT).trans hdc), unhide HS3, unhide HK3⟩
    · have hd : decide ((i : Int) < (j : Int)) = false := by simp; omega
      obtain rfl : i = j := by omega
      have HMV : Hid (Inc a b d (mvR d a i) ∧ Srt' T (mvR d a i) a b) := by
        have hm := unhide HM
        exact mvR_srt (unhide HO) (by omega) hjb (unhide HSR) (unhide HBF) (by rw [← hm]; exact hi2) hj2
      clear hi2 hj2 hk hs
      have w2 : IntKind.i64.wrap ((i : Int) - 1) = ((i - 1 : Nat) : Int) := by unfold IntKind.wrap; simp [IntKind.bits, IntKind.signed]; omega
      go_wp2_with fail
      generalize wr = Wk at *
      go_loopg [13] (i - 1 - a) (fun f kv W' => ∃ k, kv = .int .i64 (k : Nat) ∧ f = i - 1 - k ∧ a ≤ k ∧ k ≤ i - 1 ∧ Sts2 W' g n (mvR d a (k + 1)) ∧ Kp g W W')
      case atStart => exact ⟨a, rfl, rfl, Nat.le_refl _, by omega, by rw [mvR_start]; exact unhide HS, unhide HK⟩
      case round =>
        obtain ⟨k, rfl, rfl, hk1, hk2, hs, hk⟩ := hrel
        have HSk := hide hs
        have HKk := hide hk
        by_cases hlt2 : k < i - 1
        · have hd2 : decide ((k : Int) < ((i - 1 : Nat) : Int)) = true := by simp; omega
          obtain ⟨k1, hk11⟩ : ∃ k1, k1 = k + 1 := ⟨_, rfl⟩
          have e1 : IntKind.i64.wrap ((k : Int) + 1) = (k1 : Int) := by unfold IntKind.wrap; simp [IntKind.bits, IntKind.signed]; omega
          obtain ⟨zg, x0, x1, x2⟩ := hs.lie.at (k := k) (by omega)
          obtain ⟨-, y0, y1, y2⟩ := hs.lie.at (k := k1) (by omega)
          have fr := hs.lie.free
          obtain ⟨sa, hsa⟩ : ∃ s, mvR d a (k + 1) k = s := ⟨_, rfl⟩
          obtain ⟨sb, hsb⟩ : ∃ s, mvR d a (k + 1) k1 = s := ⟨_, rfl⟩
          rw [hsa] at x0 x1 x2
          rw [hsb] at y0 y1 y2
          have q1 : (0 : Int) ≤ (k : Int) := by omega
          have q2 : (k : Int) < (n : Int) := by omega
          have q3 : (0 : Int) ≤ (k1 : Int) := by omega
          have q4 : (k1 : Int) < (n : Int) := by omega
          have hne : k ≠ k1 := by omega
          have HSW : Hid (Sts2 (swpW wr g k k1 sa sb) g n (mvR d a (k1 + 1)) ∧ Kp g W (swpW wr g k k1 sa sb)) := by
            have h1 : Sts (swpW wr g k k1 sa sb) g n (swp (mvR d a (k + 1)) k k1) := Sts.swap (i := k) (j := k1) hs.lie (by omega) (by omega) hsa hsb
            have h2 : swp (mvR d a (k + 1)) k k1 = mvR d a (k1 + 1) := by rw [hk11]; exact mvR_step d hk1
            have h3 : Inc 0 n (mvR d a (k + 1)) (swp (mvR d a (k + 1)) k k1) := swp_inc _ (by omega) (by omega) (by omega) (by omega)
            rw [← h2]
            exact ⟨hs.next (swpW_kp (Kp.refl _ _)) h1 h3, swpW_kp hk⟩
          have hk12 : k < k1 := by omega
          have hk13 : k1 ≤ k + 1 := by omega
          clear hs hk hsa hsb hk11
          go_wp2_with fail
          go_region
          go_wp2
          go_roundg (i - 1 - k1)
          case measure => omega
          case rel => exact ⟨k1, rfl, rfl, by omega, by omega, (unhide HSW).1, (unhide HSW).2⟩
        · have hd2 : decide ((k : Int) < ((i - 1 : Nat) : Int)) = false := by simp; omega
          clear hs hk
          go_wp2
          go_end0
          refine ⟨mvR d a i, rfl, ?_, unhide HKk, (unhide HMV).1, (unhide HMV).2⟩
          have e : k + 1 = i := by omega
          rw [← e]
          exact unhide HSk
end Go.Proofs.YtfkeddkfegaeiaaGreatDoor
