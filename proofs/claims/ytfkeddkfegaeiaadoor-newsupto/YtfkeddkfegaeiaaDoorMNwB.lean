/-
  Part 6.
-/
import Derived.Test.YtfkeddkfegaeiaaDoorMNwA
namespace Go.Proofs.YtfkeddkfegaeiaaDoor
open Go.RowKit

/-- a slice whose elements are one cell each. -/
def RowAt (W : World) (v : Value) (xs : List Value) : Prop := ∃ ad cap, v = .slice ad xs.length cap ∧ xs.length ≤ maxLen ∧ (0 < xs.length → ∃ b o, ad = some ⟨b, o, none⟩ ∧ b < W.heap.size ∧ ∀ j, j < xs.length → W.cell? ⟨b, o + j, none⟩ = xs[j]?)
theorem RowAt.keep {W W' : World} {v : Value} {xs : List Value} (h : RowAt W v xs) (hb : Below W.heap.size W W') : RowAt W' v xs := by
  obtain ⟨ad, cap, h1, h2, h3⟩ := h
  refine ⟨ad, cap, h1, h2, fun hp => ?_⟩
  obtain ⟨b, o, h4, h5, h6⟩ := h3 hp
  exact ⟨b, o, h4, Nat.lt_of_lt_of_le h5 hb.size, fun j hj => by rw [hb.cell (p := ⟨b, o + j, none⟩) h5]; exact h6 j hj⟩
abbrev intsV (zs : List Int) : List Value := zs.map (Value.int .i64)
abbrev textsV (ts : List ByteArray) : List Value := ts.map Value.string

set_option maxRecDepth 100000 in
set_option maxHeartbeats 1000000 in
theorem sameInts_any (a b : Value) (zs ys : List Int) (w : World) (ha : RowAt w a (intsV zs)) (hb : RowAt w b (intsV ys)) :
    Calls Tryd.prog 19 #[a, b] w fun e w' => e = .returned (.bool (decide (zs = ys))) ∧ Below w.heap.size w w' := by
  obtain ⟨ada, capa, rfl, ma, ca⟩ := ha
  obtain ⟨adb, capb, rfl, mb, cb⟩ := hb
  rw [List.length_map] at ma mb ca cb
  unfold maxLen at ma mb
  simp only [List.length_map]
  by_cases hl : zs.length = ys.length
  · have hd : ((zs.length : Int) != (ys.length : Int)) = false := by rw [hl]; simp
    have HL := hide hl
    clear hl
    have HCA := hide ca
    have HCB := hide cb
    clear ca cb
    go_enter Tryd.func19, Tryd.ntmps19
    go_wp2_with fail
    go_loopg [5] zs.length (fun f i W => ∃ pre s1 s2, zs = pre ++ s1 ∧ ys = pre ++ s2 ∧ f = s1.length ∧ i = .int .i64 (pre.length : Nat) ∧ Below w.heap.size w W)
    case atStart => exact ⟨[], zs, ys, rfl, rfl, rfl, rfl, Below.refl _ _⟩
    case round =>
      obtain ⟨pre, s1, s2, h1, h2, rfl, rfl, hbw⟩ := hrel
      have HB := hide hbw
      have HZ := hide h1
      have HY := hide h2
      have l1 : pre.length + s1.length = zs.length := by rw [h1, List.length_append]
      have l2 : pre.length + s2.length = ys.length := by rw [h2, List.length_append]
      clear h1 h2 hbw
      cases s1 with
      | nil =>
        have hlt : decide (pre.length < zs.length) = false := by simp at l1 ⊢; omega
        go_wp2
        go_ret
        have e2 : s2 = [] := by apply List.eq_nil_of_length_eq_zero; have := unhide HL; simp at l1; omega
        have e : decide (zs = ys) = true := by rw [unhide HZ, unhide HY, e2]; simp
        rw [e]
        exact ⟨rfl, unhide HB⟩
      | cons z s1 =>
        cases s2 with
        | nil => exfalso; have := unhide HL; simp at l1 l2; omega
        | cons y s2 =>
          rw [List.length_cons] at l1 l2
          have hlt : decide (pre.length < zs.length) = true := by simp; omega
          obtain ⟨b1, o1, rfl, z1, c1⟩ := (unhide HCA) (by omega)
          obtain ⟨b2, o2, rfl, z2, c2⟩ := (unhide HCB) (by have := unhide HL; omega)
          have k1 : wr.cell? ⟨b1, o1 + pre.length, none⟩ = some (.int .i64 z) := by
            rw [(unhide HB).cell (p := ⟨b1, o1 + pre.length, none⟩) z1, c1 _ (by omega), unhide HZ]
            simp
          have k2 : wr.cell? ⟨b2, o2 + pre.length, none⟩ = some (.int .i64 y) := by
            rw [(unhide HB).cell (p := ⟨b2, o2 + pre.length, none⟩) z2, c2 _ (by omega), unhide HY]
            simp
          have HZ2 : Hid (zs = (pre ++ [z]) ++ s1) := by unfold Hid; rw [unhide HZ]; simp
          have HY2 : Hid (ys = (pre ++ [y]) ++ s2) := by unfold Hid; rw [unhide HY]; simp
          clear c1 c2
          cases hzy : (z != y) with
          | true =>
            have HNE : Hid (decide (zs = ys) = false) := by
              unfold Hid
              rw [decide_eq_false_iff_not, unhide HZ, unhide HY]
              intro e
              have := List.append_cancel_left e
              simp at this hzy
              exact hzy this.1
            go_wp2
            go_region
            go_wp2
            go_ret
            rw [unhide HNE]
            exact ⟨rfl, (unhide HB).drew⟩
          | false =>
            have hze : z = y := by simpa using hzy
            go_wp2
            go_region
            go_wp2
            go_roundg s1.length
            case measure => simp
            case rel =>
              refine ⟨pre ++ [z], s1, s2, unhide HZ2, by rw [hze]; exact unhide HY2, rfl, ?_, (unhide HB).drew⟩
              rw [List.length_append]
              go_num
  · have hd : ((zs.length : Int) != (ys.length : Int)) = true := by
      rw [bne_iff_ne]
      intro e
      exact hl (by exact_mod_cast e)
    have HNE : Hid (decide (zs = ys) = false) := by
      unfold Hid
      rw [decide_eq_false_iff_not]
      intro e
      exact hl (by rw [e])
    clear ca cb
    go_enter Tryd.func19, Tryd.ntmps19
    go_wp2
    go_ret
    rw [unhide HNE]
    exact ⟨rfl, Below.refl _ _⟩
set_option maxRecDepth 100000 in
set_option maxHeartbeats 1000000 in
theorem sameTexts_any (a b : Value) (zs ys : List ByteArray) (w : World) (ha : RowAt w a (textsV zs)) (hb : RowAt w b (textsV ys)) :
    Calls Tryd.prog 18 #[a, b] w fun e w' => e = .returned (.bool (decide (zs = ys))) ∧ Below w.heap.size w w' := by
  obtain ⟨ada, capa, rfl, ma, ca⟩ := ha
  obtain ⟨adb, capb, rfl, mb, cb⟩ := hb
  rw [List.length_map] at ma mb ca cb
  unfold maxLen at ma mb
  simp only [List.length_map]
  by_cases hl : zs.length = ys.length
  · have hd : ((zs.length : Int) != (ys.length : Int)) = false := by rw [hl]; simp
    have HL := hide hl
    clear hl
    have HCA := hide ca
    have HCB := hide cb
    clear ca cb
    go_enter Tryd.func18, Tryd.ntmps18
    go_wp2_with fail
    go_loopg [5] zs.length (fun f i W => ∃ pre s1 s2, zs = pre ++ s1 ∧ ys = pre ++ s2 ∧ f = s1.length ∧ i = .int .i64 (pre.length : Nat) ∧ Below w.heap.size w W)
    case atStart => exact ⟨[], zs, ys, rfl, rfl, rfl, rfl, Below.refl _ _⟩
    case round =>
      obtain ⟨pre, s1, s2, h1, h2, rfl, rfl, hbw⟩ := hrel
      have HB := hide hbw
      have HZ := hide h1
      have HY := hide h2
      have l1 : pre.length + s1.length = zs.length := by rw [h1, List.length_append]
      have l2 : pre.length + s2.length = ys.length := by rw [h2, List.length_append]
      clear h1 h2 hbw
      cases s1 with
      | nil =>
        have hlt : decide (pre.length < zs.length) = false := by simp at l1 ⊢; omega
        go_wp2
        go_ret
        have e2 : s2 = [] := by apply List.eq_nil_of_length_eq_zero; have := unhide HL; simp at l1; omega
        have e : decide (zs = ys) = true := by rw [unhide HZ, unhide HY, e2]; simp
        rw [e]
        exact ⟨rfl, unhide HB⟩
      | cons z s1 =>
        cases s2 with
        | nil => exfalso; have := unhide HL; simp at l1 l2; omega
        | cons y s2 =>
          rw [List.length_cons] at l1 l2
          have hlt : decide (pre.length < zs.length) = true := by simp; omega
          obtain ⟨b1, o1, rfl, z1, c1⟩ := (unhide HCA) (by omega)
          obtain ⟨b2, o2, rfl, z2, c2⟩ := (unhide HCB) (by have := unhide HL; omega)
          have k1 : wr.cell? ⟨b1, o1 + pre.length, none⟩ = some (.string z) := by
            rw [(unhide HB).cell (p := ⟨b1, o1 + pre.length, none⟩) z1, c1 _ (by omega), unhide HZ]
            simp
          have k2 : wr.cell? ⟨b2, o2 + pre.length, none⟩ = some (.string y) := by
            rw [(unhide HB).cell (p := ⟨b2, o2 + pre.length, none⟩) z2, c2 _ (by omega), unhide HY]
            simp
          have HZ2 : Hid (zs = (pre ++ [z]) ++ s1) := by unfold Hid; rw [unhide HZ]; simp
          have HY2 : Hid (ys = (pre ++ [y]) ++ s2) := by unfold Hid; rw [unhide HY]; simp
          clear c1 c2
          cases hzy : (z.toList == y.toList) with
          | false =>
            have HNE : Hid (decide (zs = ys) = false) := by
              unfold Hid
              rw [decide_eq_false_iff_not, unhide HZ, unhide HY]
              intro e
              have := List.append_cancel_left e
              have e1 : z = y := by injection this
              rw [e1] at hzy
              simp at hzy
            go_wp2
            go_region
            go_wp2
            go_ret
            rw [unhide HNE]
            exact ⟨rfl, (unhide HB).drew⟩
          | true =>
            have hze : z = y := by
              rw [beq_iff_eq, ByteArray.toList_eq, ByteArray.toList_eq] at hzy
              exact Go.WideShapes.bytes_inj hzy
            go_wp2
            go_region
            go_wp2
            go_roundg s1.length
            case measure => simp
            case rel =>
              refine ⟨pre ++ [z], s1, s2, unhide HZ2, by rw [hze]; exact unhide HY2, rfl, ?_, (unhide HB).drew⟩
              rw [List.length_append]
              go_num
  · have hd : ((zs.length : Int) != (ys.length : Int)) = true := by
      rw [bne_iff_ne]
      intro e
      exact hl (by exact_mod_cast e)
    have HNE : Hid (decide (zs = ys) = false) := by
      unfold Hid
      rw [decide_eq_false_iff_not]
      intro e
      exact hl (by rw [e])
    clear ca cb
    go_enter Tryd.func18, Tryd.ntmps18
    go_wp2
    go_ret
    rw [unhide HNE]
    exact ⟨rfl, Below.refl _ _⟩
end Go.Proofs.YtfkeddkfegaeiaaDoor
