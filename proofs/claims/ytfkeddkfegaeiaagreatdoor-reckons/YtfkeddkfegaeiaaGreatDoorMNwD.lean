/-
  Part 35.
-/
import Derived.Test.YtfkeddkfegaeiaaGreatDoorMNwA
import Derived.Laws.CopyOwn
import Derived.OwnWalk
import Derived.Deep.AppendLies
import Derived.Laws.OwnMore
namespace Go.Proofs.YtfkeddkfegaeiaaGreatDoor
open Go.RowKit

theorem infoInt : (Tryz.prog.info? 3).map (fun i => (i.zero, i.size, i.bytes)) = some (some (.int .i64 0), 1, 8) := by kernel_rfl
theorem sizeInt : (Tryz.prog.info? 3).map (·.size) = some 1 := by kernel_rfl
theorem ints_one (zs : List Int) : ∀ v ∈ intsV zs, v.oneCell' = true := by
  intro v hv
  obtain ⟨z, _, rfl⟩ := List.mem_map.1 hv
  rfl

set_option maxRecDepth 100000 in
set_option maxHeartbeats 1000000 in
theorem lentInts_any (a : Value) (zs : List Int) (w : World) (ha : RowAt w a (intsV zs)) (hn : zs.length ≤ 17592186044000) :
    Calls Tryz.prog 74 #[a] w fun e w' => ∃ g, e = .returned (.slice (some ⟨g, 0, none⟩) (zs.length + 8) (zs.length + 8)) ∧ w.heap.size ≤ g ∧ w'.heap[g]? = some (.cells (intsV (zs ++ List.replicate 8 (-77))).toArray 3 (0, 0)) ∧ Below w.heap.size w w' := by
  obtain ⟨i0, hi, hinf⟩ := Option.map_eq_some_iff.1 infoInt
  simp only [Prod.mk.injEq] at hinf
  obtain ⟨hz0, hz1, hz2⟩ := hinf
  have HI := hide hi
  have HZ0 := hide hz0
  have HZ1 := hide hz1
  have HZ2 := hide hz2
  clear hi hz0 hz1 hz2
  have HA := hide ha
  obtain ⟨ada, capa, rfl, ma, ca⟩ := ha
  rw [List.length_map] at ma ca
  simp only [List.length_map]
  have HCA := hide ca
  clear ca ma
  go_enter Tryz.func74, Tryz.ntmps74
  go_wp2_with (at_make; refine wpList_make_full _ rfl _ _ 32 rfl w.heap.size 3 i0 (.int .i64 0) 1 Tryz.underlying32 (unhide HI) (unhide HZ0) (unhide HZ1) .i64 .i64 _ _ (zs.length + 8) rfl rfl ?c1 ?c2 ?c3 ?c4 ?c5 ?_)
  case c1 => simp
  case c2 => simp
  case c3 => rw [unhide HZ2]; omega
  case c4 => unfold maxLen; omega
  case c5 => exact Nat.le_refl _
  intro w1 ho hg
  rcases ho.2 with ⟨hv, _⟩ | ⟨g, cap, cur, hv, hge, hh, c1, c2, c3, c4⟩
  · cases hv
  injection hv with hv1 hv2 hv3
  injection hv1 with hv1
  injection hv1 with hv1
  subst hv1
  have hcl : cur.toList.length = zs.length + 8 := by rw [Array.length_toList, c3]; omega
  have HH1 : Hid (w1.heap[w.heap.size]? = some (.cells cur.toList.toArray 3 (0, 0))) := by unfold Hid; rw [hh]
  have HB1 : Hid (Below w.heap.size w w1) := (Below.refl _ _).grown hg (Nat.le_refl _) (fun k e => by cases e)
  clear ho hg hh c1 c2 c3 c4 hv2 hv3 hge
  generalize cur.toList = L at *
  have HD1 : Hid ((intsV zs).length = Nat.min zs.length (zs.length + 8)) := by unfold Hid; rw [List.length_map]; exact (Nat.min_eq_left (by omega)).symm
  have HD2 : Hid (0 < (intsV zs).length → (some ⟨w.heap.size, 0, none⟩ : Option Addr) = some ⟨w.heap.size, 0, none⟩ ∧ ∃ ad, ada = some ad ∧ ∀ j v, (intsV zs)[j]? = some v → w1.cell? (ad.add j) = some v) := by
    intro hp
    rw [List.length_map] at hp
    obtain ⟨b1, o1, hb1, z1, k1⟩ := (unhide HCA) hp
    refine ⟨rfl, _, hb1, fun j v hv => ?_⟩
    have hj : j < zs.length := by
      rcases Nat.lt_or_ge j zs.length with q | q
      · exact q
      · rw [List.getElem?_eq_none (by rw [List.length_map]; exact q)] at hv; cases hv
    rw [show (Addr.add ⟨b1, o1, none⟩ j) = ⟨b1, o1 + j, none⟩ from by unfold Addr.add; split <;> simp_all]
    rw [(unhide HB1).cell (p := ⟨b1, o1 + j, none⟩) z1, k1 j hj]
    exact hv
  have HD3 : Hid (0 + (intsV zs).length ≤ L.length) := by unfold Hid; rw [List.length_map]; omega
  go_wp2_with (refine wpList_copy_splice rfl _ _ 32 32 rfl 3 Tryz.underlying32 sizeInt _ _ _ _ _ _ rfl rfl w.heap.size 0 L 3 (unhide HH1) (intsV zs) (unhide HD1) (unhide HD2) (unhide HD3) (ints_one zs) w.heap.size w (unhide HB1) (Nat.le_refl _) ?_; intro w2 K2 hb2; have HB2 := hide hb2; clear hb2)
  have hs0 : splice L 0 (intsV zs) = intsV zs ++ (intsV (List.replicate (8 - 8) (-77)) ++ L.drop zs.length) := by
    unfold splice
    simp
  rw [hs0] at K2
  have hld : (L.drop zs.length).length = 8 := by rw [List.length_drop]; omega
  clear hs0 HD1 HD2 HD3 HH1 HB1
  go_loopg [4] 8 (fun f i W => ∃ T : List Value, T.length = f ∧ f ≤ 8 ∧ i = .int .i64 ((zs.length + (8 - f) : Nat) : Int) ∧ W.heap[w.heap.size]? = some (.cells (intsV zs ++ (intsV (List.replicate (8 - f) (-77)) ++ T)).toArray 3 (0, 0)) ∧ Below w.heap.size w W)
  case atStart => exact ⟨_, hld, Nat.le_refl _, by simp, unhide K2, unhide HB2⟩
  case round =>
    obtain ⟨T, hT, hf8, rfl, hh, hbw⟩ := hrel
    have HHW := hide hh
    have HBW := hide hbw
    have zw := lt_of_heap hh
    obtain ⟨kc, kf⟩ := blk hh
    clear hh hbw
    cases T with
    | nil =>
      have h0 : gk = 0 := by rw [← hT]; rfl
      subst h0
      have hd : decide (zs.length + (8 - 0) < zs.length + 8) = false := by simp
      go_wp2
      go_ret
      refine ⟨w.heap.size, rfl, Nat.le_refl _, ?_, unhide HBW⟩
      have := unhide HHW
      rw [List.append_nil] at this
      rw [this]
      simp
    | cons t T =>
      have hg1 : gk = T.length + 1 := by rw [← hT]; rfl
      subst hg1
      have hal : (intsV zs ++ intsV (List.replicate (8 - (T.length + 1)) (-77))).length = zs.length + (8 - (T.length + 1)) := by simp
      have k1 : wr.cell? ⟨w.heap.size, zs.length + (8 - (T.length + 1)), none⟩ = some t := by
        rw [kc, ← hal, ← List.append_assoc]
        simp
      have HNX : Hid ((intsV zs ++ (intsV (List.replicate (8 - (T.length + 1)) (-77)) ++ t :: T)).toArray.setIfInBounds (zs.length + (8 - (T.length + 1))) (.int .i64 (-77)) = (intsV zs ++ (intsV (List.replicate (8 - T.length) (-77)) ++ T)).toArray) := by
        unfold Hid
        rw [← hal, ← List.append_assoc, List.setIfInBounds_toArray, List.set_append_right _ _ (Nat.le_refl _), Nat.sub_self, List.set_cons_zero, show 8 - T.length = (8 - (T.length + 1)) + 1 from by omega, List.replicate_succ']
        simp
      have hq1 : zs.length + (8 - (T.length + 1)) + 1 = zs.length + (8 - T.length) := by omega
      have hq2 : zs.length + (8 - (T.length + 1)) < zs.length + 8 := by omega
      have hq3 : zs.length + (8 - (T.length + 1)) ≤ 17592186044008 := by omega
      clear hal kc
      generalize zs.length + (8 - (T.length + 1)) = q at *
      have hd : decide (q < zs.length + 8) = true := by simpa using hq2
      have HQ1 := hide hq1
      clear hq1
      go_wp2
      go_roundg T.length
      case measure => simp
      case rel =>
        refine ⟨T, rfl, by omega, ?_, ?_, (unhide HBW).setCell (by exact Nat.le_refl _) _⟩
        · rw [← unhide HQ1]
          go_num
        · rw [heap_set (unhide HHW), unhide HNX]
theorem infoStr : (Tryz.prog.info? 9).map (fun i => (i.zero, i.size, i.bytes)) = some (some (.string ⟨#[]⟩), 1, 16) := by kernel_rfl
theorem sizeStr : (Tryz.prog.info? 9).map (·.size) = some 1 := by kernel_rfl
theorem texts_one (zs : List ByteArray) : ∀ v ∈ textsV zs, v.oneCell' = true := by
  intro v hv
  obtain ⟨z, _, rfl⟩ := List.mem_map.1 hv
  rfl

set_option maxRecDepth 100000 in
set_option maxHeartbeats 1000000 in
theorem lentTexts_any (a : Value) (zs : List ByteArray) (w : World) (ha : RowAt w a (textsV zs)) (hn : zs.length ≤ 8796093022000) :
    Calls Tryz.prog 71 #[a] w fun e w' => ∃ g, e = .returned (.slice (some ⟨g, 0, none⟩) (zs.length + 8) (zs.length + 8)) ∧ w.heap.size ≤ g ∧ w'.heap[g]? = some (.cells (textsV (zs ++ List.replicate 8 ⟨#[98, 101, 121, 111, 110, 100]⟩)).toArray 9 (0, 0)) ∧ Below w.heap.size w w' := by
  obtain ⟨i0, hi, hinf⟩ := Option.map_eq_some_iff.1 infoStr
  simp only [Prod.mk.injEq] at hinf
  obtain ⟨hz0, hz1, hz2⟩ := hinf
  have HI := hide hi
  have HZ0 := hide hz0
  have HZ1 := hide hz1
  have HZ2 := hide hz2
  clear hi hz0 hz1 hz2
  have HA := hide ha
  obtain ⟨ada, capa, rfl, ma, ca⟩ := ha
  rw [List.length_map] at ma ca
  simp only [List.length_map]
  have HCA := hide ca
  clear ca ma
  go_enter Tryz.func71, Tryz.ntmps71
  go_wp2_with (at_make; refine wpList_make_full _ rfl _ _ 39 rfl w.heap.size 9 i0 (.string ⟨#[]⟩) 1 Tryz.underlying39 (unhide HI) (unhide HZ0) (unhide HZ1) .i64 .i64 _ _ (zs.length + 8) rfl rfl ?c1 ?c2 ?c3 ?c4 ?c5 ?_)
  case c1 => simp
  case c2 => simp
  case c3 => rw [unhide HZ2]; omega
  case c4 => unfold maxLen; omega
  case c5 => exact Nat.le_refl _
  intro w1 ho hg
  rcases ho.2 with ⟨hv, _⟩ | ⟨g, cap, cur, hv, hge, hh, c1, c2, c3, c4⟩
  · cases hv
  injection hv with hv1 hv2 hv3
  injection hv1 with hv1
  injection hv1 with hv1
  subst hv1
  have hcl : cur.toList.length = zs.length + 8 := by rw [Array.length_toList, c3]; omega
  have HH1 : Hid (w1.heap[w.heap.size]? = some (.cells cur.toList.toArray 9 (0, 0))) := by unfold Hid; rw [hh]
  have HB1 : Hid (Below w.heap.size w w1) := (Below.refl _ _).grown hg (Nat.le_refl _) (fun k e => by cases e)
  clear ho hg hh c1 c2 c3 c4 hv2 hv3 hge
  generalize cur.toList = L at *
  have HD1 : Hid ((textsV zs).length = Nat.min zs.length (zs.length + 8)) := by unfold Hid; rw [List.length_map]; exact (Nat.min_eq_left (by omega)).symm
  have HD2 : Hid (0 < (textsV zs).length → (some ⟨w.heap.size, 0, none⟩ : Option Addr) = some ⟨w.heap.size, 0, none⟩ ∧ ∃ ad, ada = some ad ∧ ∀ j v, (textsV zs)[j]? = some v → w1.cell? (ad.add j) = some v) := by
    intro hp
    rw [List.length_map] at hp
    obtain ⟨b1, o1, hb1, z1, k1⟩ := (unhide HCA) hp
    refine ⟨rfl, _, hb1, fun j v hv => ?_⟩
    have hj : j < zs.length := by
      rcases Nat.lt_or_ge j zs.length with q | q
      · exact q
      · rw [List.getElem?_eq_none (by rw [List.length_map]; exact q)] at hv; cases hv
    rw [show (Addr.add ⟨b1, o1, none⟩ j) = ⟨b1, o1 + j, none⟩ from by unfold Addr.add; split <;> simp_all]
    rw [(unhide HB1).cell (p := ⟨b1, o1 + j, none⟩) z1, k1 j hj]
    exact hv
  have HD3 : Hid (0 + (textsV zs).length ≤ L.length) := by unfold Hid; rw [List.length_map]; omega
  go_wp2_with (refine wpList_copy_splice rfl _ _ 39 39 rfl 9 Tryz.underlying39 sizeStr _ _ _ _ _ _ rfl rfl w.heap.size 0 L 9 (unhide HH1) (textsV zs) (unhide HD1) (unhide HD2) (unhide HD3) (texts_one zs) w.heap.size w (unhide HB1) (Nat.le_refl _) ?_; intro w2 K2 hb2; have HB2 := hide hb2; clear hb2)
  have hs0 : splice L 0 (textsV zs) = textsV zs ++ (textsV (List.replicate (8 - 8) ⟨#[98, 101, 121, 111, 110, 100]⟩) ++ L.drop zs.length) := by
    unfold splice
    simp
  rw [hs0] at K2
  have hld : (L.drop zs.length).length = 8 := by rw [List.length_drop]; omega
  clear hs0 HD1 HD2 HD3 HH1 HB1
  go_loopg [4] 8 (fun f i W => ∃ T : List Value, T.length = f ∧ f ≤ 8 ∧ i = .int .i64 ((zs.length + (8 - f) : Nat) : Int) ∧ W.heap[w.heap.size]? = some (.cells (textsV zs ++ (textsV (List.replicate (8 - f) ⟨#[98, 101, 121, 111, 110, 100]⟩) ++ T)).toArray 9 (0, 0)) ∧ Below w.heap.size w W)
  case atStart => exact ⟨_, hld, Nat.le_refl _, by simp, unhide K2, unhide HB2⟩
  case round =>
    obtain ⟨T, hT, hf8, rfl, hh, hbw⟩ := hrel
    have HHW := hide hh
    have HBW := hide hbw
    have zw := lt_of_heap hh
    obtain ⟨kc, kf⟩ := blk hh
    clear hh hbw
    cases T with
    | nil =>
      have h0 : gk = 0 := by rw [← hT]; rfl
      subst h0
      have hd : decide (zs.length + (8 - 0) < zs.length + 8) = false := by simp
      go_wp2
      go_ret
      refine ⟨w.heap.size, rfl, Nat.le_refl _, ?_, unhide HBW⟩
      have := unhide HHW
      rw [List.append_nil] at this
      rw [this]
      simp
    | cons t T =>
      have hg1 : gk = T.length + 1 := by rw [← hT]; rfl
      subst hg1
      have hal : (textsV zs ++ textsV (List.replicate (8 - (T.length + 1)) ⟨#[98, 101, 121, 111, 110, 100]⟩)).length = zs.length + (8 - (T.length + 1)) := by simp
      have k1 : wr.cell? ⟨w.heap.size, zs.length + (8 - (T.length + 1)), none⟩ = some t := by
        rw [kc, ← hal, ← List.append_assoc]
        simp
      have HNX : Hid ((textsV zs ++ (textsV (List.replicate (8 - (T.length + 1)) ⟨#[98, 101, 121, 111, 110, 100]⟩) ++ t :: T)).toArray.setIfInBounds (zs.length + (8 - (T.length + 1))) (.string ⟨#[98, 101, 121, 111, 110, 100]⟩) = (textsV zs ++ (textsV (List.replicate (8 - T.length) ⟨#[98, 101, 121, 111, 110, 100]⟩) ++ T)).toArray) := by
        unfold Hid
        rw [← hal, ← List.append_assoc, List.setIfInBounds_toArray, List.set_append_right _ _ (Nat.le_refl _), Nat.sub_self, List.set_cons_zero, show 8 - T.length = (8 - (T.length + 1)) + 1 from by omega, List.replicate_succ']
        simp
      have hq1 : zs.length + (8 - (T.length + 1)) + 1 = zs.length + (8 - T.length) := by omega
      have hq2 : zs.length + (8 - (T.length + 1)) < zs.length + 8 := by omega
      have hq3 : zs.length + (8 - (T.length + 1)) ≤ 8796093022008 := by omega
      clear hal kc
      generalize zs.length + (8 - (T.length + 1)) = q at *
      have hd : decide (q < zs.length + 8) = true := by simpa using hq2
      have HQ1 := hide hq1
      clear hq1
      go_wp2
      go_roundg T.length
      case measure => simp
      case rel =>
        refine ⟨T, rfl, by omega, ?_, ?_, (unhide HBW).setCell (by exact Nat.le_refl _) _⟩
        · rw [← unhide HQ1]
          go_num
        · rw [heap_set (unhide HHW), unhide HNX]
end Go.Proofs.YtfkeddkfegaeiaaGreatDoor
namespace Go.Proofs.YtfkeddkfegaeiaaGreatDoor
open Go.RowKit

/-- a table. -/
structure Tb where
  name : ByteArray
  cols : List ByteArray
  rows : List (List Int)
/-- rows of numbers: a slice of slices. -/
def RowsAt (W : World) (v : Value) (rows : List (List Int)) : Prop := ∃ vs : List Value, RowAt W v vs ∧ vs.length = rows.length ∧ ∀ (k : Nat) (r : List Int) (u : Value), rows[k]? = some r → vs[k]? = some u → RowAt W u (intsV r)
theorem RowsAt.keep {W W' : World} {v : Value} {rows : List (List Int)} (h : RowsAt W v rows) (hb : Below W.heap.size W W') : RowsAt W' v rows := by
  obtain ⟨vs, h1, h2, h3⟩ := h
  exact ⟨vs, h1.keep hb, h2, fun k r u e1 e2 => (h3 k r u e1 e2).keep hb⟩
/-- the room of a slice. -/
def scap : Value → Nat
  | .slice _ _ c => c
  | _ => 0
/-- the three cells of a table. -/
def TbV (W : World) (cs : List Value) (t : Tb) : Prop := ∃ cv rv, cs = [.string t.name, cv, rv] ∧ RowAt W cv (textsV t.cols) ∧ t.cols.length ≤ scap cv ∧ RowsAt W rv t.rows
theorem TbV.keep {W W' : World} {cs : List Value} {t : Tb} (h : TbV W cs t) (hb : Below W.heap.size W W') : TbV W' cs t := by
  obtain ⟨cv, rv, h1, h2, h3, h4⟩ := h
  exact ⟨cv, rv, h1, h2.keep hb, h3, h4.keep hb⟩
/-- a list of tables: three cells an element. -/
def TabsAt (W : World) (v : Value) (l : List Tb) : Prop := ∃ ad cap, v = .slice ad l.length cap ∧ l.length ≤ maxLen ∧ l.length ≤ cap ∧ (0 < l.length → ∃ b o, ad = some ⟨b, o, none⟩ ∧ b < W.heap.size ∧ ∀ (j : Nat) (t : Tb), l[j]? = some t → ∃ cv rv, TbV W [.string t.name, cv, rv] t ∧ W.cell? ⟨b, o + j * 3, none⟩ = some (.string t.name) ∧ W.cell? ⟨b, o + j * 3 + 1, none⟩ = some cv ∧ W.cell? ⟨b, o + j * 3 + 2, none⟩ = some rv)
theorem TabsAt.keep {W W' : World} {v : Value} {l : List Tb} (h : TabsAt W v l) (hb : Below W.heap.size W W') : TabsAt W' v l := by
  obtain ⟨ad, cap, h1, h2, h2', h3⟩ := h
  refine ⟨ad, cap, h1, h2, h2', fun hp => ?_⟩
  obtain ⟨b, o, h4, h5, h6⟩ := h3 hp
  refine ⟨b, o, h4, Nat.lt_of_lt_of_le h5 hb.size, fun j t e => ?_⟩
  obtain ⟨cv, rv, k1, k2, k3, k4⟩ := h6 j t e
  exact ⟨cv, rv, k1.keep hb, by rw [hb.cell (p := ⟨b, o + j * 3, none⟩) h5]; exact k2, by rw [hb.cell (p := ⟨b, o + j * 3 + 1, none⟩) h5]; exact k3, by rw [hb.cell (p := ⟨b, o + j * 3 + 2, none⟩) h5]; exact k4⟩
/-- the tables ahead of one. -/
theorem TabsAt.ahead {W : World} {ad : Option Addr} {n cap : Nat} {pre suf : List Tb} (h : TabsAt W (.slice ad n cap) (pre ++ suf)) : TabsAt W (.slice ad pre.length cap) pre := by
  obtain ⟨ad', cap', h1, h2, h2', h3⟩ := h
  injection h1 with e1 e2 e3
  subst e1 e3
  rw [List.length_append] at h2 h2' h3
  refine ⟨ad, cap, rfl, by omega, by omega, fun hp => ?_⟩
  obtain ⟨b, o, h4, h5, h6⟩ := h3 (by omega)
  refine ⟨b, o, h4, h5, fun j t e => h6 j t ?_⟩
  have hj : j < pre.length := by
    rcases Nat.lt_or_ge j pre.length with h' | h'
    · exact h'
    · rw [List.getElem?_eq_none h'] at e; cases e
  rw [List.getElem?_append_left hj]
  exact e

/-! ### P6, plain -/
def dupF : List ByteArray → List ByteArray → Bool
  | _, [] => false
  | pre, a :: r => Lib.containsS pre a || dupF (pre ++ [a]) r
/-- what is wrong with a table that has these ahead of it, by the document's numbers. -/
def p6 (t : Tb) (ahead : List Tb) : Int :=
  if !nameB t.name.data.toList || t.cols.any (fun c => !nameB c.data.toList) then 4
  else if decide (t.cols.length < 1) || decide (6 < t.cols.length) || decide (200 < t.rows.length) then 9
  else if ahead.any (fun u => u.name.toList == t.name.toList) || dupF [] t.cols then 7
  else if t.rows.any (fun r => decide (r.length ≠ t.cols.length)) then 10
  else 0
/-- the first that is wrong, of tables that have these ahead of them. -/
def p6from : List Tb → List Tb → Int
  | _, [] => 0
  | pre, t :: r => if p6 t pre = 0 then p6from (pre ++ [t]) r else p6 t pre
def p6all (l : List Tb) : Int := if 4 < l.length then 9 else p6from [] l
end Go.Proofs.YtfkeddkfegaeiaaGreatDoor
namespace Go.Proofs.YtfkeddkfegaeiaaGreatDoor
open Go.RowKit

/-! ### what lies in the heap and stays: by blocks -/
abbrev Fx := Nat → Option Obj
def Fx.le (F F' : Fx) : Prop := ∀ b o, F b = some o → F' b = some o
theorem Fx.le.refl (F : Fx) : F.le F := fun _ _ h => h
theorem Fx.le.trans {F F' F'' : Fx} (h : F.le F') (k : F'.le F'') : F.le F'' := fun b o e => k b o (h b o e)
def Fx.set (F : Fx) (b : Nat) (o : Obj) : Fx := fun k => if k = b then some o else F k
theorem Fx.set_same (F : Fx) (b : Nat) (o : Obj) : F.set b o b = some o := by simp [Fx.set]
theorem Fx.set_other (F : Fx) {b k : Nat} (o : Obj) (h : k ≠ b) : F.set b o k = F k := by simp [Fx.set, h]
theorem Fx.le_set {F : Fx} {b : Nat} (o : Obj) (h : F b = none) : F.le (F.set b o) := fun k x e => by
  have hk : k ≠ b := fun e' => by rw [e', h] at e; cases e
  rw [Fx.set_other F o hk]; exact e
/-- two values have no own block in common. -/
def Dis (u v : Value) : Prop := ∀ b, u.ownBlock = some b → v.ownBlock ≠ some b
theorem Dis.symm {u v : Value} (h : Dis u v) : Dis v u := fun b e1 e2 => h b e2 e1
theorem Dis.nilL (v : Value) (a b : Nat) : Dis (.slice none a b) v := fun b e => by simp [Value.ownBlock] at e
theorem Dis.nilR (v : Value) (a b : Nat) : Dis v (.slice none a b) := fun _ _ e => by simp [Value.ownBlock] at e
/-- the fixed blocks F, a box p, and lists that grow, all apart. -/
structure Grow (lo : Nat) (F : Fx) (p : Nat) (vs : List Value) (W : World) : Prop where
  fits : ∀ b o, F b = some o → lo ≤ b ∧ W.heap[b]? = some o
  offp : F p = none
  ltp : p < W.heap.size
  off : ∀ v ∈ vs, ∀ b, v.ownBlock = some b → F b = none ∧ b ≠ p ∧ lo ≤ b ∧ b < W.heap.size
  dis : vs.Pairwise Dis

theorem lt_size {W : World} {b : Nat} {o : Obj} (h : W.heap[b]? = some o) : b < W.heap.size := by
  rcases Nat.lt_or_ge b W.heap.size with h' | h'
  · exact h'
  · rw [Array.getElem?_eq_none h'] at h; cases h
theorem Grow.ltF {lo p : Nat} {F : Fx} {vs : List Value} {W : World} (h : Grow lo F p vs W) {b : Nat} {o : Obj} (hb : F b = some o) : b < W.heap.size := lt_size (h.fits b o hb).2
theorem Grow.noneF {lo p : Nat} {F : Fx} {vs : List Value} {W : World} (h : Grow lo F p vs W) {b : Nat} (hb : W.heap.size ≤ b) : F b = none := by
  cases e : F b with
  | none => rfl
  | some o => have := h.ltF e; omega
/-- the world grew, all that was below is as it was. -/
theorem Grow.keep {lo p : Nat} {F : Fx} {vs : List Value} {W W' : World} (h : Grow lo F p vs W) (hs : W.heap.size ≤ W'.heap.size) (hb : ∀ k, k < W.heap.size → W'.heap[k]? = W.heap[k]?) : Grow lo F p vs W' :=
  ⟨fun b o e => ⟨(h.fits b o e).1, by rw [hb b (h.ltF e)]; exact (h.fits b o e).2⟩, h.offp, Nat.lt_of_lt_of_le h.ltp hs, fun v hv b e => ⟨(h.off v hv b e).1, (h.off v hv b e).2.1, (h.off v hv b e).2.2.1, Nat.lt_of_lt_of_le (h.off v hv b e).2.2.2 hs⟩, h.dis⟩
theorem Grow.below {lo p : Nat} {F : Fx} {vs : List Value} {W W' : World} (h : Grow lo F p vs W) (hb : Below W.heap.size W W') : Grow lo F p vs W' := h.keep hb.size hb.block
theorem Grow.alloc {lo p : Nat} {F : Fx} {vs : List Value} {W : World} (h : Grow lo F p vs W) (o : Obj) : Grow lo F p vs (W.alloc o) :=
  h.keep (by simp) (fun k hk => Below.heap_alloc _ _ _ hk)
/-- the box is written. -/
theorem Grow.box {lo p : Nat} {F : Fx} {vs : List Value} {W : World} (h : Grow lo F p vs W) (off : Nat) (u : Value) : Grow lo F p vs (W.setCell ⟨p, off, none⟩ u) :=
  ⟨fun b o e => ⟨(h.fits b o e).1, by rw [Below.heap_setCell _ _ _ _ (fun e' => by simp at e'; rw [e', h.offp] at e; cases e)]; exact (h.fits b o e).2⟩, h.offp, by simpa using h.ltp, fun v hv b e => by simpa using h.off v hv b e, h.dis⟩
/-- one of the lists grew. -/
theorem Grow.app {lo p g : Nat} {F : Fx} {vs1 vs2 : List Value} {v v' : Value} {W W' : World} (h : Grow lo F p (vs1 ++ v :: vs2) W) (hlo : lo ≤ W.heap.size) (hg : W.grownBy W' v.ownBlock) (hv' : v'.ownBlock = some g) (hat : v.ownBlock = some g ∨ W.heap.size ≤ g) (hlt : g < W'.heap.size) : Grow lo F p (vs1 ++ v' :: vs2) W' := by
  have hin : v ∈ vs1 ++ v :: vs2 := List.mem_append_right _ List.mem_cons_self
  refine ⟨fun b o e => ⟨(h.fits b o e).1, ?_⟩, h.offp, Nat.lt_of_lt_of_le h.ltp hg.size, ?_, ?_⟩
  · rw [hg.block b (h.ltF e) (fun e' => by rw [(h.off v hin b e'.symm).1] at e; cases e)]
    exact (h.fits b o e).2
  · intro u hu b e
    have old : ∀ u ∈ vs1 ++ v :: vs2, ∀ b, u.ownBlock = some b → F b = none ∧ b ≠ p ∧ lo ≤ b ∧ b < W'.heap.size := fun u hu b e => ⟨(h.off u hu b e).1, (h.off u hu b e).2.1, (h.off u hu b e).2.2.1, Nat.lt_of_lt_of_le (h.off u hu b e).2.2.2 hg.size⟩
    rcases List.mem_append.1 hu with hu | hu
    · exact old u (List.mem_append_left _ hu) b e
    · rcases List.mem_cons.1 hu with rfl | hu
      · rw [hv'] at e
        injection e with e
        subst e
        rcases hat with hat | hat
        · exact old v hin _ hat
        · exact ⟨h.noneF hat, fun e => by have := h.ltp; omega, Nat.le_trans hlo hat, hlt⟩
      · exact old u (List.mem_append_right _ (List.mem_cons_of_mem _ hu)) b e
  · have hd := h.dis
    rw [List.pairwise_append, List.pairwise_cons] at hd ⊢
    obtain ⟨d1, ⟨d2, d3⟩, d4⟩ := hd
    have key : ∀ u, u ∈ vs1 ++ v :: vs2 → Dis v u → Dis v' u := by
      intro u hu hd b e1 e2
      rw [hv'] at e1
      injection e1 with e1
      subst e1
      rcases hat with hat | hat
      · exact hd _ hat e2
      · have := (h.off u hu _ e2).2.2.2
        omega
    refine ⟨d1, ⟨fun u hu => key u (List.mem_append_right _ (List.mem_cons_of_mem _ hu)) (d2 u hu), d3⟩, fun a ha b hb => ?_⟩
    rcases List.mem_cons.1 hb with rfl | hb
    · exact (key a (List.mem_append_left _ ha) (d4 a ha v List.mem_cons_self).symm).symm
    · exact d4 a ha b (List.mem_cons_of_mem _ hb)
/-- a block is laid down for good. -/
theorem Grow.fix {lo p b : Nat} {F : Fx} {vs : List Value} {W : World} {o : Obj} (h : Grow lo F p vs W) (hlo : lo ≤ b) (hb : W.heap[b]? = some o) (hp : b ≠ p) (hv : ∀ v ∈ vs, v.ownBlock ≠ some b) : Grow lo (F.set b o) p vs W := by
  refine ⟨fun k x e => ?_, by rw [Fx.set_other F o (Ne.symm hp)]; exact h.offp, h.ltp, fun v hv' k e => ?_, h.dis⟩
  · by_cases hk : k = b
    · subst hk
      rw [Fx.set_same] at e
      injection e with e
      subst e
      exact ⟨hlo, hb⟩
    · rw [Fx.set_other F o hk] at e
      exact h.fits k x e
  · have hk : k ≠ b := fun e' => hv v hv' (by rw [e, e'])
    rw [Fx.set_other F o hk]
    exact h.off v hv' k e
/-- a fixed block is written. -/
theorem Grow.write {lo p b : Nat} {F : Fx} {vs : List Value} {W : World} {cs : Array Value} {t : TypeId} {f : Nat × Nat} (h : Grow lo F p vs W) (hb : F b = some (.cells cs t f)) (off : Nat) (u : Value) : Grow lo (F.set b (.cells (cs.setIfInBounds off u) t f)) p vs (W.setCell ⟨b, off, none⟩ u) := by
  have hh := (h.fits b _ hb).2
  have hbp : b ≠ p := fun e => by rw [e, h.offp] at hb; cases hb
  have hbv : ∀ v ∈ vs, v.ownBlock ≠ some b := fun v hv e => by rw [(h.off v hv b e).1] at hb; cases hb
  have h1 : Grow lo (fun k => if k = b then none else F k) p vs W := ⟨fun k x e => by
    by_cases hk : k = b
    · simp [hk] at e
    · simp [hk] at e; exact h.fits k x e, by simp [Ne.symm hbp, h.offp], h.ltp, fun v hv k e => by
      have hk : k ≠ b := fun e' => hbv v hv (by rw [e, e'])
      simp only [hk, if_false]
      exact h.off v hv k e, h.dis⟩
  have h2 : Grow lo (fun k => if k = b then none else F k) p vs (W.setCell ⟨b, off, none⟩ u) := ⟨fun k x e => ⟨(h1.fits k x e).1, by
    rw [Below.heap_setCell _ _ _ _ (fun e' => by simp at e'; simp [e'] at e)]
    exact (h1.fits k x e).2⟩, h1.offp, by simpa using h1.ltp, fun v hv k e => by simpa using h1.off v hv k e, h1.dis⟩
  have h3 := h2.fix (h.fits b _ hb).1 (o := .cells (cs.setIfInBounds off u) t f) (b := b) (by
    simp only [World.setCell, Array.getElem?_modify, if_pos, hh, Option.map_some]
    rfl) hbp hbv
  have e : Fx.set (fun k => if k = b then none else F k) b (.cells (cs.setIfInBounds off u) t f) = F.set b (.cells (cs.setIfInBounds off u) t f) := by
    funext k
    by_cases hk : k = b
    · simp [Fx.set, hk]
    · simp [Fx.set, hk]
  rw [e] at h3
  exact h3
/-- a list is done: its block is laid down for good, and the list is no more one that grows. -/
theorem Grow.drop {lo p : Nat} {F : Fx} {v : Value} {vs : List Value} {W : World} (h : Grow lo F p (v :: vs) W) : Grow lo F p vs W :=
  ⟨h.fits, h.offp, h.ltp, fun u hu => h.off u (List.mem_cons_of_mem _ hu), (List.pairwise_cons.1 h.dis).2⟩
theorem Grow.seal {lo p g : Nat} {F : Fx} {v : Value} {vs : List Value} {W : World} {o : Obj} (h : Grow lo F p (v :: vs) W) (hv : v.ownBlock = some g) (hg : W.heap[g]? = some o) : Grow lo (F.set g o) p vs W :=
  h.drop.fix (h.off v List.mem_cons_self g hv).2.2.1 hg (h.off v List.mem_cons_self g hv).2.1 (fun u hu e => (List.pairwise_cons.1 h.dis).1 u hu g hv e)
theorem Grow.add {lo p : Nat} {F : Fx} {vs : List Value} {W : World} (h : Grow lo F p vs W) (a b : Nat) : Grow lo F p (.slice none a b :: vs) W :=
  ⟨h.fits, h.offp, h.ltp, fun u hu k e => by
    rcases List.mem_cons.1 hu with rfl | hu
    · simp [Value.ownBlock] at e
    · exact h.off u hu k e, List.pairwise_cons.2 ⟨fun u _ => Dis.nilL u a b, h.dis⟩⟩
/-- what a list holds is kept where the world grew by another one. -/
theorem owns_other {W W' : World} {base n : Nat} {e : TypeId} {size : Nat} {u v : Value} {xs : List Value} (h : W.ownsRow base e size u n xs) (hd : Dis v u) (hg : W.grownBy W' v.ownBlock) : W'.ownsRow base e size u n xs := by
  refine h.kept hg ?_
  cases hu : u.ownBlock with
  | none => exact .inl rfl
  | some b => exact .inr (fun e => hd b e.symm hu)
theorem owns_below {W W' : World} {base n : Nat} {e : TypeId} {size : Nat} {u : Value} {xs : List Value} (h : W.ownsRow base e size u n xs) (hb : Below W.heap.size W W') : W'.ownsRow base e size u n xs :=
  h.kept (row := none) ⟨hb.os, hb.tape, hb.output, hb.size, fun k hk _ => hb.block k hk⟩ (by cases u.ownBlock <;> simp)
theorem owns_set {W : World} {base n b off : Nat} {e : TypeId} {size : Nat} {u x : Value} {xs : List Value} (h : W.ownsRow base e size u n xs) (hb : u.ownBlock ≠ some b) : (W.setCell ⟨b, off, none⟩ x).ownsRow base e size u n xs :=
  h.kept (row := some b) ⟨rfl, rfl, rfl, by simp, fun k _ hk => Below.heap_setCell _ _ _ _ (fun e => hk (by rw [e]))⟩ (.inr hb)
end Go.Proofs.YtfkeddkfegaeiaaGreatDoor
namespace Go.Proofs.YtfkeddkfegaeiaaGreatDoor
open Go.RowKit

abbrev beyondB : ByteArray := ⟨#[98, 101, 121, 111, 110, 100]⟩
/-- a list of texts as it is lent. -/
def LTexts (F : Fx) (g : Nat) (ts : List ByteArray) : Prop := F g = some (.cells (textsV (ts ++ List.replicate 8 beyondB)).toArray 9 (0, 0))
/-- a list of numbers as it is lent. -/
def LInts (F : Fx) (g : Nat) (zs : List Int) : Prop := F g = some (.cells (intsV (zs ++ List.replicate 8 (-77))).toArray 3 (0, 0))
/-- the elements of a list of rows: the rows themselves, and the lists that they are cut from. -/
inductive LRows (F : Fx) : List (List Int) → List Value → List Value → Prop
  | nil : LRows F [] [] []
  | snoc {rs : List (List Int)} {es ls : List Value} (z : List Int) (g : Nat) : LRows F rs es ls → LInts F g z → LRows F (rs ++ [z]) (es ++ [.slice (some ⟨g, 0, none⟩) z.length (z.length + 8)]) (ls ++ [.slice (some ⟨g, 0, none⟩) (z.length + 8) (z.length + 8)])
theorem LRows.mono {F F' : Fx} (hF : F.le F') {rs : List (List Int)} {es ls : List Value} (h : LRows F rs es ls) : LRows F' rs es ls := by
  induction h with
  | nil => exact .nil
  | snoc z g _ hi ih => exact .snoc z g ih (hF _ _ hi)
theorem LRows.len {F : Fx} {rs : List (List Int)} {es ls : List Value} (h : LRows F rs es ls) : es.length = rs.length ∧ ls.length = rs.length := by
  induction h with
  | nil => exact ⟨rfl, rfl⟩
  | snoc z g _ hi ih => simp [ih.1, ih.2]
theorem LRows.at {F : Fx} {rs : List (List Int)} {es ls : List Value} (h : LRows F rs es ls) : ∀ (k : Nat) (z : List Int), rs[k]? = some z → ∃ g, LInts F g z ∧ es[k]? = some (.slice (some ⟨g, 0, none⟩) z.length (z.length + 8)) ∧ ls[k]? = some (.slice (some ⟨g, 0, none⟩) (z.length + 8) (z.length + 8)) := by
  induction h with
  | nil => intro k z e; simp at e
  | @snoc rs es ls z g hr hi ih =>
    intro k y e
    have hl := hr.len
    rcases Nat.lt_trichotomy k rs.length with hk | hk | hk
    · rw [List.getElem?_append_left hk] at e
      obtain ⟨g', h1, h2, h3⟩ := ih k y e
      exact ⟨g', h1, by rw [List.getElem?_append_left (by omega)]; exact h2, by rw [List.getElem?_append_left (by omega)]; exact h3⟩
    · subst hk
      rw [List.getElem?_append_right (Nat.le_refl _), Nat.sub_self] at e
      simp at e
      subst e
      refine ⟨g, hi, ?_, ?_⟩
      · rw [← hl.1, List.getElem?_append_right (Nat.le_refl _), Nat.sub_self]; rfl
      · rw [← hl.2, List.getElem?_append_right (Nat.le_refl _), Nat.sub_self]; rfl
    · rw [List.getElem?_eq_none (by simp; omega)] at e
      cases e
/-- what stands behind the rows. -/
def LPad (F : Fx) (v : Value) : Prop := ∃ q, v = .slice (some ⟨q, 0, none⟩) 1 1 ∧ F q = some (.cells #[.int .i64 (-77)] 3 (0, 0))
theorem LPad.mono {F F' : Fx} (hF : F.le F') {v : Value} (h : LPad F v) : LPad F' v := by
  obtain ⟨q, h1, h2⟩ := h
  exact ⟨q, h1, hF _ _ h2⟩
/-- a table as it is lent: its three cells, its columns, its rows, its lists. -/
structure LTab (F : Fx) (t : Tb) (gc gr capr : Nat) (cur : Array Value) (ls : List Value) : Prop where
  cols : LTexts F gc t.cols
  rows : F gr = some (.cells cur 32 (0, 0))
  els : ∃ es ps, LRows F t.rows es ls ∧ ps.length = 8 ∧ (∀ v ∈ ps, LPad F v) ∧ cur.toList.take (t.rows.length + 8) = es ++ ps
theorem LTab.mono {F F' : Fx} (hF : F.le F') {t : Tb} {gc gr capr : Nat} {cur : Array Value} {ls : List Value} (h : LTab F t gc gr capr cur ls) : LTab F' t gc gr capr cur ls := by
  obtain ⟨h1, h2, es, ps, h3, h4, h5, h6⟩ := h
  exact ⟨hF _ _ h1, hF _ _ h2, es, ps, h3.mono hF, h4, fun v hv => (h5 v hv).mono hF, h6⟩
/-- tables as they are lent: the cells of the tables, of the columns, of the rows, of the lists. -/
inductive LTabs (F : Fx) : List Tb → List Value → List Value → List Value → List Value → Prop
  | nil : LTabs F [] [] [] [] []
  | snoc {l : List Tb} {ts cs rs ls ls2 : List Value} (t : Tb) (gc gr capr : Nat) (cur : Array Value) : LTabs F l ts cs rs ls → LTab F t gc gr capr cur ls2 →
      LTabs F (l ++ [t]) (ts ++ [.string t.name, .slice (some ⟨gc, 0, none⟩) t.cols.length (t.cols.length + 8), .slice (some ⟨gr, 0, none⟩) t.rows.length capr]) (cs ++ [.slice (some ⟨gc, 0, none⟩) (t.cols.length + 8) (t.cols.length + 8)]) (rs ++ [.slice (some ⟨gr, 0, none⟩) (t.rows.length + 8) capr]) (ls ++ ls2)
theorem LTabs.mono {F F' : Fx} (hF : F.le F') {l : List Tb} {ts cs rs ls : List Value} (h : LTabs F l ts cs rs ls) : LTabs F' l ts cs rs ls := by
  induction h with
  | nil => exact .nil
  | snoc t gc gr capr cur _ ht ih => exact .snoc t gc gr capr cur ih (ht.mono hF)
/-- how many rows tables have. -/
def nrows : List Tb → Nat
  | [] => 0
  | t :: r => t.rows.length + nrows r
theorem nrows_append (a b : List Tb) : nrows (a ++ b) = nrows a + nrows b := by
  induction a with
  | nil => simp [nrows]
  | cons t r ih => simp only [List.cons_append, nrows, ih]; omega
theorem LTabs.len {F : Fx} {l : List Tb} {ts cs rs ls : List Value} (h : LTabs F l ts cs rs ls) : ts.length = l.length * 3 ∧ cs.length = l.length ∧ rs.length = l.length ∧ ls.length = nrows l := by
  induction h with
  | nil => exact ⟨rfl, rfl, rfl, rfl⟩
  | snoc t gc gr capr cur _ ht ih =>
    obtain ⟨_, _, es, ps, h3, _⟩ := ht
    refine ⟨?_, ?_, ?_, ?_⟩
    · simp; omega
    · simp [ih.2.1]
    · simp [ih.2.2.1]
    · rw [List.length_append, nrows_append, ih.2.2.2, h3.len.2]; simp [nrows]
/-- the table at a place. -/
theorem LTabs.at {F : Fx} {l : List Tb} {ts cs rs ls : List Value} (h : LTabs F l ts cs rs ls) : ∀ (pre suf : List Tb) (t : Tb), l = pre ++ t :: suf → ∃ gc gr capr cur ls1 ls2 ls3, LTab F t gc gr capr cur ls2 ∧ ls = ls1 ++ (ls2 ++ ls3) ∧ ls1.length = nrows pre ∧
    ts[pre.length * 3]? = some (.string t.name) ∧ ts[pre.length * 3 + 1]? = some (.slice (some ⟨gc, 0, none⟩) t.cols.length (t.cols.length + 8)) ∧ ts[pre.length * 3 + 2]? = some (.slice (some ⟨gr, 0, none⟩) t.rows.length capr) ∧
    cs[pre.length]? = some (.slice (some ⟨gc, 0, none⟩) (t.cols.length + 8) (t.cols.length + 8)) ∧ rs[pre.length]? = some (.slice (some ⟨gr, 0, none⟩) (t.rows.length + 8) capr) := by
  induction h with
  | nil => intro pre suf t e; simp at e
  | @snoc l ts cs rs ls ls2 u gc gr capr cur hr ht ih =>
    intro pre suf t e
    have hl := hr.len
    rcases List.eq_nil_or_concat suf with rfl | ⟨suf', x, rfl⟩
    · obtain ⟨rfl, e2⟩ := List.append_inj' e rfl
      injection e2 with e2
      subst e2
      refine ⟨gc, gr, capr, cur, ls, ls2, [], ht, by simp, hl.2.2.2, ?_, ?_, ?_, ?_, ?_⟩
      · rw [← hl.1, List.getElem?_append_right (Nat.le_refl _), Nat.sub_self]; rfl
      · rw [← hl.1, List.getElem?_append_right (by omega), Nat.add_sub_cancel_left]; rfl
      · rw [← hl.1, List.getElem?_append_right (by omega), Nat.add_sub_cancel_left]; rfl
      · rw [← hl.2.1, List.getElem?_append_right (Nat.le_refl _), Nat.sub_self]; rfl
      · rw [← hl.2.2.1, List.getElem?_append_right (Nat.le_refl _), Nat.sub_self]; rfl
    · have e' : l ++ [u] = (pre ++ t :: suf') ++ [x] := by rw [e]; simp
      obtain ⟨e1, e2⟩ := List.append_inj' e' rfl
      obtain ⟨gc', gr', capr', cur', l1, l2, l3, k1, k2, k3, k4, k5, k6, k7, k8⟩ := ih pre suf' t e1
      have hlen : pre.length < l.length := by rw [e1]; simp
      refine ⟨gc', gr', capr', cur', l1, l2, l3 ++ ls2, k1, by rw [k2]; simp, k3, ?_, ?_, ?_, ?_, ?_⟩
      · rw [List.getElem?_append_left (by omega)]; exact k4
      · rw [List.getElem?_append_left (by omega)]; exact k5
      · rw [List.getElem?_append_left (by omega)]; exact k6
      · rw [List.getElem?_append_left (by omega)]; exact k7
      · rw [List.getElem?_append_left (by omega)]; exact k8
end Go.Proofs.YtfkeddkfegaeiaaGreatDoor
