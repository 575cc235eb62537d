/-
  Part 8.
-/
import Derived.Test.YtfkeddkfegaeiaaDoorMNwC
import Derived.Laws.CopyOwn
import Derived.OwnWalk
namespace Go.Proofs.YtfkeddkfegaeiaaDoor
open Go.RowKit

theorem lt_of_heap {w : World} {b : Nat} {o : Obj} (h : w.heap[b]? = some o) : b < w.heap.size := by
  rcases Nat.lt_or_ge b w.heap.size with h' | h'
  · exact h'
  · rw [Array.getElem?_eq_none h'] at h; cases h
theorem heap_set {w : World} {b off : Nat} {cs : Array Value} {t : TypeId} {f : Nat × Nat} (h : w.heap[b]? = some (.cells cs t f)) (u : Value) : (w.setCell ⟨b, off, none⟩ u).heap[b]? = some (.cells (cs.setIfInBounds off u) t f) := by
  simp only [World.setCell, Array.getElem?_modify, if_pos, h, Option.map_some]
  rfl
theorem infoInt : (Tryd.prog.info? 3).map (fun i => (i.zero, i.size, i.bytes)) = some (some (.int .i64 0), 1, 8) := by kernel_rfl
theorem sizeInt : (Tryd.prog.info? 3).map (·.size) = some 1 := by kernel_rfl
theorem ints_one (zs : List Int) : ∀ v ∈ intsV zs, v.oneCell' = true := by
  intro v hv
  obtain ⟨z, _, rfl⟩ := List.mem_map.1 hv
  rfl

set_option maxRecDepth 100000 in
set_option maxHeartbeats 1000000 in
theorem lentInts_any (a : Value) (zs : List Int) (w : World) (ha : RowAt w a (intsV zs)) (hn : zs.length ≤ 17592186044000) :
    Calls Tryd.prog 14 #[a] w fun e w' => ∃ g, e = .returned (.slice (some ⟨g, 0, none⟩) (zs.length + 8) (zs.length + 8)) ∧ w.heap.size ≤ g ∧ w'.heap[g]? = some (.cells (intsV (zs ++ List.replicate 8 (-77))).toArray 3 (0, 0)) ∧ Below w.heap.size w w' := by
  obtain ⟨i0, hi, hinf⟩ := Option.map_eq_some_iff.1 infoInt
  simp only [Prod.mk.injEq] at hinf
  obtain ⟨hz0, hz1, hz2⟩ := hinf
  have HI := hide hi
  have HZ0 := hide hz0
  have HZ1 := hide hz1
  have HZ2 := hide hz2
  clear hi hz0 hz1 hz2
  have HA := hide ha
  obtain ⟨ada, capa, rfl, ma, ca⟩ := ha
  rw [List.length_map] at ma ca
  simp only [List.length_map]
  have HCA := hide ca
  clear ca ma
  go_enter Tryd.func14, Tryd.ntmps14
  go_wp2_with (at_make; refine wpList_make_full _ rfl _ _ 54 rfl w.heap.size 3 i0 (.int .i64 0) 1 Tryd.underlying54 (unhide HI) (unhide HZ0) (unhide HZ1) .i64 .i64 _ _ (zs.length + 8) rfl rfl ?c1 ?c2 ?c3 ?c4 ?c5 ?_)
  case c1 => simp
  case c2 => simp
  case c3 => rw [unhide HZ2]; omega
  case c4 => unfold maxLen; omega
  case c5 => exact Nat.le_refl _
  intro w1 ho hg
  rcases ho.2 with ⟨hv, _⟩ | ⟨g, cap, cur, hv, hge, hh, c1, c2, c3, c4⟩
  · cases hv
  injection hv with hv1 hv2 hv3
  injection hv1 with hv1
  injection hv1 with hv1
  subst hv1
  have hcl : cur.toList.length = zs.length + 8 := by rw [Array.length_toList, c3]; omega
  have HH1 : Hid (w1.heap[w.heap.size]? = some (.cells cur.toList.toArray 3 (0, 0))) := by unfold Hid; rw [hh]
  have HB1 : Hid (Below w.heap.size w w1) := (Below.refl _ _).grown hg (Nat.le_refl _) (fun k e => by cases e)
  clear ho hg hh c1 c2 c3 c4 hv2 hv3 hge
  generalize cur.toList = L at *
  have HD1 : Hid ((intsV zs).length = Nat.min zs.length (zs.length + 8)) := by unfold Hid; rw [List.length_map]; exact (Nat.min_eq_left (by omega)).symm
  have HD2 : Hid (0 < (intsV zs).length → (some ⟨w.heap.size, 0, none⟩ : Option Addr) = some ⟨w.heap.size, 0, none⟩ ∧ ∃ ad, ada = some ad ∧ ∀ j v, (intsV zs)[j]? = some v → w1.cell? (ad.add j) = some v) := by
    intro hp
    rw [List.length_map] at hp
    obtain ⟨b1, o1, hb1, z1, k1⟩ := (unhide HCA) hp
    refine ⟨rfl, _, hb1, fun j v hv => ?_⟩
    have hj : j < zs.length := by
      rcases Nat.lt_or_ge j zs.length with q | q
      · exact q
      · rw [List.getElem?_eq_none (by rw [List.length_map]; exact q)] at hv; cases hv
    rw [show (Addr.add ⟨b1, o1, none⟩ j) = ⟨b1, o1 + j, none⟩ from by unfold Addr.add; split <;> simp_all]
    rw [(unhide HB1).cell (p := ⟨b1, o1 + j, none⟩) z1, k1 j hj]
    exact hv
  have HD3 : Hid (0 + (intsV zs).length ≤ L.length) := by unfold Hid; rw [List.length_map]; omega
  go_wp2_with (refine wpList_copy_splice rfl _ _ 54 54 rfl 3 Tryd.underlying54 sizeInt _ _ _ _ _ _ rfl rfl w.heap.size 0 L 3 (unhide HH1) (intsV zs) (unhide HD1) (unhide HD2) (unhide HD3) (ints_one zs) w.heap.size w (unhide HB1) (Nat.le_refl _) ?_; intro w2 K2 hb2; have HB2 := hide hb2; clear hb2)
  have hs0 : splice L 0 (intsV zs) = intsV zs ++ (intsV (List.replicate (8 - 8) (-77)) ++ L.drop zs.length) := by
    unfold splice
    simp
  rw [hs0] at K2
  have hld : (L.drop zs.length).length = 8 := by rw [List.length_drop]; omega
  clear hs0 HD1 HD2 HD3 HH1 HB1
  go_loopg [4] 8 (fun f i W => ∃ T : List Value, T.length = f ∧ f ≤ 8 ∧ i = .int .i64 ((zs.length + (8 - f) : Nat) : Int) ∧ W.heap[w.heap.size]? = some (.cells (intsV zs ++ (intsV (List.replicate (8 - f) (-77)) ++ T)).toArray 3 (0, 0)) ∧ Below w.heap.size w W)
  case atStart => exact ⟨_, hld, Nat.le_refl _, by simp, unhide K2, unhide HB2⟩
  case round =>
    obtain ⟨T, hT, hf8, rfl, hh, hbw⟩ := hrel
    have HHW := hide hh
    have HBW := hide hbw
    have zw := lt_of_heap hh
    obtain ⟨kc, kf⟩ := blk hh
    clear hh hbw
    cases T with
    | nil =>
      have h0 : gk = 0 := by rw [← hT]; rfl
      subst h0
      have hd : decide (zs.length + (8 - 0) < zs.length + 8) = false := by simp
      go_wp2
      go_ret
      refine ⟨w.heap.size, rfl, Nat.le_refl _, ?_, unhide HBW⟩
      have := unhide HHW
      rw [List.append_nil] at this
      rw [this]
      simp
    | cons t T =>
      have hg1 : gk = T.length + 1 := by rw [← hT]; rfl
      subst hg1
      have hal : (intsV zs ++ intsV (List.replicate (8 - (T.length + 1)) (-77))).length = zs.length + (8 - (T.length + 1)) := by simp
      have k1 : wr.cell? ⟨w.heap.size, zs.length + (8 - (T.length + 1)), none⟩ = some t := by
        rw [kc, ← hal, ← List.append_assoc]
        simp
      have HNX : Hid ((intsV zs ++ (intsV (List.replicate (8 - (T.length + 1)) (-77)) ++ t :: T)).toArray.setIfInBounds (zs.length + (8 - (T.length + 1))) (.int .i64 (-77)) = (intsV zs ++ (intsV (List.replicate (8 - T.length) (-77)) ++ T)).toArray) := by
        unfold Hid
        rw [← hal, ← List.append_assoc, List.setIfInBounds_toArray, List.set_append_right _ _ (Nat.le_refl _), Nat.sub_self, List.set_cons_zero, show 8 - T.length = (8 - (T.length + 1)) + 1 from by omega, List.replicate_succ']
        simp
      have hq1 : zs.length + (8 - (T.length + 1)) + 1 = zs.length + (8 - T.length) := by omega
      have hq2 : zs.length + (8 - (T.length + 1)) < zs.length + 8 := by omega
      have hq3 : zs.length + (8 - (T.length + 1)) ≤ 17592186044008 := by omega
      clear hal kc
      generalize zs.length + (8 - (T.length + 1)) = q at *
      have hd : decide (q < zs.length + 8) = true := by simpa using hq2
      have HQ1 := hide hq1
      clear hq1
      go_wp2
      go_roundg T.length
      case measure => simp
      case rel =>
        refine ⟨T, rfl, by omega, ?_, ?_, (unhide HBW).setCell (by exact Nat.le_refl _) _⟩
        · rw [← unhide HQ1]
          go_num
        · rw [heap_set (unhide HHW), unhide HNX]
theorem infoStr : (Tryd.prog.info? 9).map (fun i => (i.zero, i.size, i.bytes)) = some (some (.string ⟨#[]⟩), 1, 16) := by kernel_rfl
theorem sizeStr : (Tryd.prog.info? 9).map (·.size) = some 1 := by kernel_rfl
theorem texts_one (zs : List ByteArray) : ∀ v ∈ textsV zs, v.oneCell' = true := by
  intro v hv
  obtain ⟨z, _, rfl⟩ := List.mem_map.1 hv
  rfl

set_option maxRecDepth 100000 in
set_option maxHeartbeats 1000000 in
theorem lentTexts_any (a : Value) (zs : List ByteArray) (w : World) (ha : RowAt w a (textsV zs)) (hn : zs.length ≤ 8796093022000) :
    Calls Tryd.prog 13 #[a] w fun e w' => ∃ g, e = .returned (.slice (some ⟨g, 0, none⟩) (zs.length + 8) (zs.length + 8)) ∧ w.heap.size ≤ g ∧ w'.heap[g]? = some (.cells (textsV (zs ++ List.replicate 8 ⟨#[98, 101, 121, 111, 110, 100]⟩)).toArray 9 (0, 0)) ∧ Below w.heap.size w w' := by
  obtain ⟨i0, hi, hinf⟩ := Option.map_eq_some_iff.1 infoStr
  simp only [Prod.mk.injEq] at hinf
  obtain ⟨hz0, hz1, hz2⟩ := hinf
  have HI := hide hi
  have HZ0 := hide hz0
  have HZ1 := hide hz1
  have HZ2 := hide hz2
  clear hi hz0 hz1 hz2
  have HA := hide ha
  obtain ⟨ada, capa, rfl, ma, ca⟩ := ha
  rw [List.length_map] at ma ca
  simp only [List.length_map]
  have HCA := hide ca
  clear ca ma
  go_enter Tryd.func13, Tryd.ntmps13
  go_wp2_with (at_make; refine wpList_make_full _ rfl _ _ 50 rfl w.heap.size 9 i0 (.string ⟨#[]⟩) 1 Tryd.underlying50 (unhide HI) (unhide HZ0) (unhide HZ1) .i64 .i64 _ _ (zs.length + 8) rfl rfl ?c1 ?c2 ?c3 ?c4 ?c5 ?_)
  case c1 => simp
  case c2 => simp
  case c3 => rw [unhide HZ2]; omega
  case c4 => unfold maxLen; omega
  case c5 => exact Nat.le_refl _
  intro w1 ho hg
  rcases ho.2 with ⟨hv, _⟩ | ⟨g, cap, cur, hv, hge, hh, c1, c2, c3, c4⟩
  · cases hv
  injection hv with hv1 hv2 hv3
  injection hv1 with hv1
  injection hv1 with hv1
  subst hv1
  have hcl : cur.toList.length = zs.length + 8 := by rw [Array.length_toList, c3]; omega
  have HH1 : Hid (w1.heap[w.heap.size]? = some (.cells cur.toList.toArray 9 (0, 0))) := by unfold Hid; rw [hh]
  have HB1 : Hid (Below w.heap.size w w1) := (Below.refl _ _).grown hg (Nat.le_refl _) (fun k e => by cases e)
  clear ho hg hh c1 c2 c3 c4 hv2 hv3 hge
  generalize cur.toList = L at *
  have HD1 : Hid ((textsV zs).length = Nat.min zs.length (zs.length + 8)) := by unfold Hid; rw [List.length_map]; exact (Nat.min_eq_left (by omega)).symm
  have HD2 : Hid (0 < (textsV zs).length → (some ⟨w.heap.size, 0, none⟩ : Option Addr) = some ⟨w.heap.size, 0, none⟩ ∧ ∃ ad, ada = some ad ∧ ∀ j v, (textsV zs)[j]? = some v → w1.cell? (ad.add j) = some v) := by
    intro hp
    rw [List.length_map] at hp
    obtain ⟨b1, o1, hb1, z1, k1⟩ := (unhide HCA) hp
    refine ⟨rfl, _, hb1, fun j v hv => ?_⟩
    have hj : j < zs.length := by
      rcases Nat.lt_or_ge j zs.length with q | q
      · exact q
      · rw [List.getElem?_eq_none (by rw [List.length_map]; exact q)] at hv; cases hv
    rw [show (Addr.add ⟨b1, o1, none⟩ j) = ⟨b1, o1 + j, none⟩ from by unfold Addr.add; split <;> simp_all]
    rw [(unhide HB1).cell (p := ⟨b1, o1 + j, none⟩) z1, k1 j hj]
    exact hv
  have HD3 : Hid (0 + (textsV zs).length ≤ L.length) := by unfold Hid; rw [List.length_map]; omega
  go_wp2_with (refine wpList_copy_splice rfl _ _ 50 50 rfl 9 Tryd.underlying50 sizeStr _ _ _ _ _ _ rfl rfl w.heap.size 0 L 9 (unhide HH1) (textsV zs) (unhide HD1) (unhide HD2) (unhide HD3) (texts_one zs) w.heap.size w (unhide HB1) (Nat.le_refl _) ?_; intro w2 K2 hb2; have HB2 := hide hb2; clear hb2)
  have hs0 : splice L 0 (textsV zs) = textsV zs ++ (textsV (List.replicate (8 - 8) ⟨#[98, 101, 121, 111, 110, 100]⟩) ++ L.drop zs.length) := by
    unfold splice
    simp
  rw [hs0] at K2
  have hld : (L.drop zs.length).length = 8 := by rw [List.length_drop]; omega
  clear hs0 HD1 HD2 HD3 HH1 HB1
  go_loopg [4] 8 (fun f i W => ∃ T : List Value, T.length = f ∧ f ≤ 8 ∧ i = .int .i64 ((zs.length + (8 - f) : Nat) : Int) ∧ W.heap[w.heap.size]? = some (.cells (textsV zs ++ (textsV (List.replicate (8 - f) ⟨#[98, 101, 121, 111, 110, 100]⟩) ++ T)).toArray 9 (0, 0)) ∧ Below w.heap.size w W)
  case atStart => exact ⟨_, hld, Nat.le_refl _, by simp, unhide K2, unhide HB2⟩
  case round =>
    obtain ⟨T, hT, hf8, rfl, hh, hbw⟩ := hrel
    have HHW := hide hh
    have HBW := hide hbw
    have zw := lt_of_heap hh
    obtain ⟨kc, kf⟩ := blk hh
    clear hh hbw
    cases T with
    | nil =>
      have h0 : gk = 0 := by rw [← hT]; rfl
      subst h0
      have hd : decide (zs.length + (8 - 0) < zs.length + 8) = false := by simp
      go_wp2
      go_ret
      refine ⟨w.heap.size, rfl, Nat.le_refl _, ?_, unhide HBW⟩
      have := unhide HHW
      rw [List.append_nil] at this
      rw [this]
      simp
    | cons t T =>
      have hg1 : gk = T.length + 1 := by rw [← hT]; rfl
      subst hg1
      have hal : (textsV zs ++ textsV (List.replicate (8 - (T.length + 1)) ⟨#[98, 101, 121, 111, 110, 100]⟩)).length = zs.length + (8 - (T.length + 1)) := by simp
      have k1 : wr.cell? ⟨w.heap.size, zs.length + (8 - (T.length + 1)), none⟩ = some t := by
        rw [kc, ← hal, ← List.append_assoc]
        simp
      have HNX : Hid ((textsV zs ++ (textsV (List.replicate (8 - (T.length + 1)) ⟨#[98, 101, 121, 111, 110, 100]⟩) ++ t :: T)).toArray.setIfInBounds (zs.length + (8 - (T.length + 1))) (.string ⟨#[98, 101, 121, 111, 110, 100]⟩) = (textsV zs ++ (textsV (List.replicate (8 - T.length) ⟨#[98, 101, 121, 111, 110, 100]⟩) ++ T)).toArray) := by
        unfold Hid
        rw [← hal, ← List.append_assoc, List.setIfInBounds_toArray, List.set_append_right _ _ (Nat.le_refl _), Nat.sub_self, List.set_cons_zero, show 8 - T.length = (8 - (T.length + 1)) + 1 from by omega, List.replicate_succ']
        simp
      have hq1 : zs.length + (8 - (T.length + 1)) + 1 = zs.length + (8 - T.length) := by omega
      have hq2 : zs.length + (8 - (T.length + 1)) < zs.length + 8 := by omega
      have hq3 : zs.length + (8 - (T.length + 1)) ≤ 8796093022008 := by omega
      clear hal kc
      generalize zs.length + (8 - (T.length + 1)) = q at *
      have hd : decide (q < zs.length + 8) = true := by simpa using hq2
      have HQ1 := hide hq1
      clear hq1
      go_wp2
      go_roundg T.length
      case measure => simp
      case rel =>
        refine ⟨T, rfl, by omega, ?_, ?_, (unhide HBW).setCell (by exact Nat.le_refl _) _⟩
        · rw [← unhide HQ1]
          go_num
        · rw [heap_set (unhide HHW), unhide HNX]
end Go.Proofs.YtfkeddkfegaeiaaDoor
