/-
  Part 48.
-/
import Derived.Test.YtfkeddkfegaeiaaGreatDoorMvStV
import Derived.Test.YtfkeddkfegaeiaaGreatDoorMvStU
import Derived.Test.YtfkeddkfegaeiaaGreatDoorMvNwA
import Derived.Test.YtfkeddkfegaeiaaGreatDoorMvPlBe
import Derived.Test.YtfkeddkfegaeiaaGreatDoorMvTkB
import Derived.Test.YtfkeddkfegaeiaaGreatDoorMvRdgB
namespace Go.Proofs.YtfkeddkfegaeiaaGreatDoor
open Go.RowKit
/-- rows of three numbers, as they lie. -/
structure RwM (W : World) (lo : Nat) (adv : Option Addr) (capv : Nat) (vs : List Value) (rows : Rws') : Prop where
  own : W.ownsRow lo 32 1 (.slice adv vs.length capv) vs.length vs
  rn : RowsN W 3 vs rows
theorem RwM.keep {W W' : World} {lo : Nat} {adv : Option Addr} {capv : Nat} {vs : List Value} {rows : Rws'} (h : RwM W lo adv capv vs rows) (hb : Below W.heap.size W W') : RwM W' lo adv capv vs rows := ⟨owns_below h.own hb, h.rn.below hb⟩
theorem RwM.at {W : World} {lo : Nat} {adv : Option Addr} {capv : Nat} {vs : List Value} {rows : Rws'} (h : RwM W lo adv capv vs rows) {i : Nat} (hl : i < rows.length) : ∃ g b, adv = some ⟨g, 0, none⟩ ∧ g < W.heap.size ∧ b < W.heap.size ∧ W.cell? ⟨g, i, none⟩ = some (.slice (some ⟨b, 0, none⟩) 3 3) ∧ W.cell? ⟨b, 0, none⟩ = some (.int .i64 (aAt rows i)) ∧ W.cell? ⟨b, 1, none⟩ = some (.int .i64 (bAt rows i)) ∧ W.cell? ⟨b, 2, none⟩ = some (.int .i64 (cAt rows i)) := by
  have hl2 : i < vs.length := by rw [h.rn.1]; exact hl
  obtain ⟨b, e1, e2, e3⟩ := h.rn.2 i _ _ (List.getElem?_eq_getElem hl2) (List.getElem?_eq_getElem hl)
  have er : rows.getD i [] = rows[i] := by rw [List.getD_eq_getElem?_getD, List.getElem?_eq_getElem hl]; rfl
  have cel : ∀ k, k < 3 → W.cell? ⟨b, k, none⟩ = some (.int .i64 ((rows.getD i []).getD k 0)) := fun k hk => by
    rw [(blk e3).1, er, List.getElem?_toArray, List.getElem?_map, List.getD_eq_getElem?_getD, List.getElem?_eq_getElem (by omega)]; rfl
  rcases h.own.2 with ⟨hv, h0⟩ | ⟨g, c, cur, hv, hge, hh, c1, c2, c3, c4⟩
  · omega
  · injection hv with hv _ _
    refine ⟨g, b, hv, lt_of_heap hh, lt_of_heap e3, ?_, cel 0 (by omega), cel 1 (by omega), cel 2 (by omega)⟩
    rw [(blk hh).1, ← Array.getElem?_toList]
    have : (cur.toList.take (vs.length * 1))[i]? = vs[i]? := by rw [c4]
    rw [Nat.mul_one, List.getElem?_take_of_lt hl2] at this
    rw [this, List.getElem?_eq_getElem hl2, e1]
def upP (rows : Rws') (part : Int) (b : Nat) : List Int := ((ordI rows b).filter fun j => aAt rows j == part).map (cAt rows)
def upV (rows : Rws') (part : Int) (b i : Nat) : List Int := ((vis rows b i).filter fun j => aAt rows j == part).map (cAt rows)
theorem vis_len (rows : Rws') (b i : Nat) : (vis rows b i).length ≤ b * rows.length + i := by
  unfold vis ordI
  have h1 : ∀ b : Nat, ((List.range b).flatMap fun (k : Nat) => (List.range rows.length).filter fun j => bAt rows j == (k : Int)).length ≤ b * rows.length := fun b => by
    induction b with
    | zero => simp
    | succ b ih =>
      rw [List.range_succ, List.flatMap_append, List.length_append, Nat.succ_mul]
      have := List.length_filter_le (fun j => bAt rows j == (b : Int)) (List.range rows.length)
      rw [List.length_range] at this
      rw [List.flatMap_cons, List.flatMap_nil, List.append_nil]
      omega
  have h2 := List.length_filter_le (fun j => bAt rows j == (b : Int)) (List.range i)
  have h3 := h1 b
  rw [List.length_append]
  simp at h2
  omega
theorem upV_len (rows : Rws') (part : Int) (b i : Nat) : (upV rows part b i).length ≤ b * rows.length + i := by
  unfold upV
  rw [List.length_map]
  exact Nat.le_trans (List.length_filter_le _ _) (vis_len rows b i)
theorem upV_no {rows : Rws'} {part : Int} {b i : Nat} (h : ¬ (aAt rows i = part ∧ bAt rows i = (b : Int))) : upV rows part b (i + 1) = upV rows part b i := by
  unfold upV
  by_cases hb : bAt rows i = (b : Int)
  · rw [vis_yes hb, List.filter_append]
    have : (aAt rows i == part) = false := by rw [beq_eq_false_iff_ne]; exact fun e => h ⟨e, hb⟩
    simp [this]
  · rw [vis_no hb]
theorem upV_yes {rows : Rws'} {part : Int} {b i : Nat} (ha : aAt rows i = part) (hb : bAt rows i = (b : Int)) : upV rows part b (i + 1) = upV rows part b i ++ [cAt rows i] := by
  unfold upV
  rw [vis_yes hb, List.filter_append, List.map_append]
  simp [ha]
theorem upV_next (rows : Rws') (part : Int) (b : Nat) : upV rows part b rows.length = upV rows part (b + 1) 0 := by
  unfold upV
  rw [vis_full, vis_zero]
theorem upV_zero (rows : Rws') (part : Int) (b : Nat) : upV rows part b 0 = upP rows part b := by unfold upV upP; rw [vis_zero]
theorem one1i (z : Int) : ∀ u ∈ [Value.int .i64 z], u.oneCell' = true := by
  intro u hu
  simp only [List.mem_cons, List.mem_nil_iff, or_false] at hu
  subst hu
  rfl
set_option maxRecDepth 100000 in
set_option maxHeartbeats 1000000 in
theorem up_any (lo : Nat) (adv : Option Addr) (capv : Nat) (vs : List Value) (rows : Rws') (h9 : rows.length ≤ 40) (part : Int) (b : Nat) (hb : b ≤ 41) (W : World) (h : RwM W lo adv capv vs rows) :
    Calls Tryz.prog 33 #[.slice adv vs.length capv, .int .i64 part, .int .i64 (b : Nat)] W fun e W' => ∃ adu capu, e = .returned (.slice adu (upP rows part (b + 1)).length capu) ∧ RowAt W' (.slice adu (upP rows part (b + 1)).length capu) (intsV (upP rows part (b + 1))) ∧ (upP rows part (b + 1)).length ≤ capu ∧ Below W.heap.size W W' := by
  have HH := hide h
  have HVL : Hid (vs.length = rows.length) := h.rn.1
  obtain ⟨i0, hi, hinf⟩ := Option.map_eq_some_iff.1 infoInt
  simp only [Prod.mk.injEq] at hinf
  obtain ⟨hz0, hz1, hz2⟩ := hinf
  have HI := hide hi
  have HZ0 := hide hz0
  have HZ1 := hide hz1
  have HZ2 := hide hz2
  clear hi hz0 hz1 hz2 h
  go_enter Tryz.func33, Tryz.ntmps33
  go_wp2_with fail
  go_loopg [7, 8] (b + 1) (fun q ov nv W' => ∃ (k : Nat) (l : List Int), k + q = b + 1 ∧ nv = .int .i64 (k : Nat) ∧ l = upV rows part k 0 ∧ W'.ownsRow W.heap.size 3 1 ov l.length (intsV l) ∧ Below W.heap.size W W')
  case atStart => exact ⟨0, [], by omega, rfl, by unfold upV vis ordI; simp, World.ownsRow_nil _ _ _ _, Below.refl _ _⟩
  case round =>
    obtain ⟨k, l, hkq, rfl, hl, hown, hbw⟩ := hrel
    have HL := hide hl
    have HOW := hide hown
    have HBW := hide hbw
    obtain ⟨ado, capo, rfl⟩ := owns_shape hown
    clear hl hown hbw
    by_cases hlt : k ≤ b
    · have hd : decide ((k : Int) ≤ (b : Int)) = true := by simp; omega
      obtain ⟨gm, rfl⟩ : ∃ gm, gk = gm + 1 := ⟨gk - 1, by omega⟩
      go_wp2_with fail
      go_loopg [7, 9] rows.length (fun q ov iv W' => ∃ (i : Nat) (l : List Int), i + q = rows.length ∧ iv = .int .i64 (i : Nat) ∧ l = upV rows part k i ∧ W'.ownsRow W.heap.size 3 1 ov l.length (intsV l) ∧ Below W.heap.size W W')
      case atStart => exact ⟨0, l, by omega, rfl, unhide HL, unhide HOW, unhide HBW⟩
      case round =>
        clear HL HOW HBW
        obtain ⟨i, l, hiq, rfl, hl, hown, hbw⟩ := hrel
        have HL := hide hl
        have HOW := hide hown
        have HBW := hide hbw
        have hll : l.length ≤ 2000 := by
          have := upV_len rows part k i
          rw [← hl] at this
          have := Nat.mul_le_mul (show k ≤ 41 by omega) h9
          omega
        obtain ⟨ado, capo, rfl⟩ := owns_shape hown
        clear hl hown hbw
        by_cases hi : i < rows.length
        · have hd2 : decide (i < vs.length) = true := by rw [unhide HVL]; simp; omega
          have hzw : W.heap.size ≤ wr.heap.size := (unhide HBW).size
          obtain ⟨gn, rfl⟩ : ∃ gn, gk = gn + 1 := ⟨gk - 1, by omega⟩
          obtain ⟨g, b', rfl, zg, zb', k0, k1, k2, k3⟩ := ((unhide HH).keep (unhide HBW)).at hi
          have q1 : (0 : Int) ≤ (i : Int) := by omega
          have q2 : (i : Int) < (vs.length : Int) := by rw [unhide HVL]; omega
          by_cases hc : aAt rows i = part ∧ bAt rows i = (k : Int)
          · have e1 : (aAt rows i == part) = true := by simp [hc.1]
            have e2 : (bAt rows i == (k : Int)) = true := by simp [hc.2]
            have HNX := hide (upV_yes hc.1 hc.2)
            generalize aAt rows i = x at *
            generalize bAt rows i = y at *
            generalize cAt rows i = z at *
            clear hc
            go_wp2_with (at_builtin; refine wpList_append_lies _ rfl _ _ 32 rfl W.heap.size 3 i0 (.int .i64 0) 1 8 Tryz.underlying32 (unhide HI) (unhide HZ0) (unhide HZ1) (unhide HZ2) rfl (by decide) _ _ _ rfl ((unhide HOW).alloc _) ⟨wr.heap.size, 0, none⟩ 1 1 [.int .i64 z] rfl rfl ?c1 ?c2 (by decide) ?c3 ?c4 ?c5 _ rfl ?_)
            case c1 => exact news1 (heap_last rfl)
            case c2 => exact one1i _
            case c3 => unfold maxLen; omega
            case c4 => omega
            case c5 => simp; omega
            intro g9 cap9 w4 ho hg hat _
            have HO4 := hide ho
            have HB4 : Hid (Below W.heap.size W w4) := ((unhide HBW).alloc (unhide HBW).size _).grown hg (by simp; omega) (fun b e => ((unhide HOW).lt b e).1)
            clear ho hg hat
            go_wp2
            go_roundg gn
            case measure => simp
            case rel =>
              refine ⟨i + 1, l ++ [z], by omega, by go_num, ?_, ?_, unhide HB4⟩
              · rw [unhide HNX, unhide HL]
              · rw [List.length_append, intsV, List.map_append]; exact unhide HO4
          · have HNX := hide (upV_no hc)
            have HFIN : Hid (∃ (i' : Nat) (l' : List Int), i' + gn = rows.length ∧ Value.int .i64 ((i : Int) + 1) = .int .i64 (i' : Nat) ∧ l' = upV rows part k i' ∧ wr.ownsRow W.heap.size 3 1 (.slice ado l.length capo) l'.length (intsV l') ∧ Below W.heap.size W wr) := ⟨i + 1, l, by omega, rfl, by rw [unhide HNX]; exact unhide HL, unhide HOW, unhide HBW⟩
            by_cases hx : aAt rows i = part
            · have e1 : (aAt rows i == part) = true := by simp [hx]
              have e2 : (bAt rows i == (k : Int)) = false := by rw [beq_eq_false_iff_ne]; exact fun e => hc ⟨hx, e⟩
              generalize aAt rows i = x at *
              generalize bAt rows i = y at *
              generalize cAt rows i = z at *
              clear hc hx HNX
              go_wp2
              go_roundg gn
              case measure => simp
              case rel => exact unhide HFIN
            · have e1 : (aAt rows i == part) = false := by rw [beq_eq_false_iff_ne]; exact hx
              generalize aAt rows i = x at *
              generalize bAt rows i = y at *
              generalize cAt rows i = z at *
              clear hc hx HNX
              go_wp2
              go_roundg gn
              case measure => simp
              case rel => exact unhide HFIN
        · have hd2 : decide (i < vs.length) = false := by rw [unhide HVL]; simp; omega
          have hin : i = rows.length := by omega
          have HL2 : Hid (l = upV rows part (k + 1) 0) := by rw [unhide HL, hin]; exact upV_next rows part k
          clear hin
          go_wp2
          go_roundg gm
          case measure => simp
          case rel => exact ⟨k + 1, l, by omega, by go_num, unhide HL2, unhide HOW, unhide HBW⟩
    · have hd : decide ((k : Int) ≤ (b : Int)) = false := by simp; omega
      have hkb : k = b + 1 := by omega
      have HL2 : Hid (l = upP rows part (b + 1)) := by rw [unhide HL, hkb]; exact upV_zero _ _ _
      clear hkb
      go_wp2
      go_ret
      have e := unhide HL2
      subst e
      refine ⟨ado, capo, rfl, owns_rowAt (unhide HOW), ?_, unhide HBW⟩
      rcases (unhide HOW).2 with ⟨hv, h0⟩ | ⟨g, c, cur, hv, -, -, c1, -⟩
      · omega
      · injection hv with _ _ hv
        omega
end Go.Proofs.YtfkeddkfegaeiaaGreatDoor
namespace Go.Proofs.YtfkeddkfegaeiaaGreatDoor
open Go.RowKit
theorem pickI_lt (c n : Int) (hn : 0 < n) : 0 ≤ pickI c n ∧ pickI c n < n := by
  unfold pickI
  exact ⟨Int.emod_nonneg _ (by omega), Int.emod_lt_of_pos _ hn⟩
theorem spr_app (l m : List (List UInt8 × Tk)) : spr (l ++ m) = spr l ++ spr m := by simp [spr]
end Go.Proofs.YtfkeddkfegaeiaaGreatDoor
namespace Go.Proofs.YtfkeddkfegaeiaaGreatDoor
open Go.RowKit
/-- rows of two small numbers. -/
def Sm (n : Int) (rows : List (List Int)) : Prop := ∀ r ∈ rows, ∃ a b, r = [a, b] ∧ 0 ≤ a ∧ a < n ∧ 0 ≤ b ∧ b < n
end Go.Proofs.YtfkeddkfegaeiaaGreatDoor
namespace Go.Proofs.YtfkeddkfegaeiaaGreatDoor
open Go.RowKit
/-- what counting from a number comes to. -/
inductive Ch (d t v0 : Int) : Int → Prop
  | base : Ch d t v0 v0
  | step {v : Int} : Ch d t v0 v → v < t → Ch d t v0 (v + d)
/-- what the rows' first numbers count to. -/
def Cn (d t : Int) (rows : Rws') (v : Int) : Prop := ∃ r ∈ rows, Ch d t (r.getD 0 0) v
theorem Cn.snoc {d t : Int} {rows : Rws'} {r : List Int} {v : Int} : Cn d t (rows ++ [r]) v ↔ Cn d t rows v ∨ Ch d t (r.getD 0 0) v := by
  unfold Cn
  constructor
  · rintro ⟨x, hx, h⟩
    rcases List.mem_append.1 hx with hx | hx
    · exact Or.inl ⟨x, hx, h⟩
    · simp at hx; subst hx; exact Or.inr h
  · rintro (⟨x, hx, h⟩ | h)
    · exact ⟨x, List.mem_append_left _ hx, h⟩
    · exact ⟨r, by simp, h⟩
end Go.Proofs.YtfkeddkfegaeiaaGreatDoor
namespace Go.Proofs.YtfkeddkfegaeiaaGreatDoor
open Go.RowKit
/-- a hundred marks, those of a set. -/
def HasI (h : List Bool) (S : Int → Prop) : Prop := h.length = 100 ∧ ∀ k : Nat, k < 100 → (h[k]? = some true ↔ S k)
theorem HasI.start : HasI (List.replicate 100 false) (fun _ => False) := ⟨by simp, fun k hk => by rw [List.getElem?_replicate, if_pos hk]; simp⟩
end Go.Proofs.YtfkeddkfegaeiaaGreatDoor
namespace Go.Proofs.YtfkeddkfegaeiaaGreatDoor
open Go.RowKit
/-- a hundred marks: all of a set L, none outside of U. -/
structure CanI (h : List Bool) (L U : Nat → Nat → Prop) : Prop where
  len : h.length = 100
  low : ∀ i j, i < 10 → j < 10 → L i j → h[i * 10 + j]? = some true
  up : ∀ i j, i < 10 → j < 10 → h[i * 10 + j]? = some true → U i j
theorem CanI.start (U : Nat → Nat → Prop) : CanI (List.replicate 100 false) (fun _ _ => False) U := ⟨by simp, fun i j _ _ h => h.elim, fun i j hi hj h => by
  rw [List.getElem?_replicate, if_pos (by omega)] at h
  simp at h⟩
end Go.Proofs.YtfkeddkfegaeiaaGreatDoor
namespace Go.Proofs.YtfkeddkfegaeiaaGreatDoor
open Go.RowKit
set_option maxRecDepth 100000
theorem dig_len (n : Nat) : (dig n).length ≤ 3 := by
  unfold dig
  split
  · simp
  · split <;> simp
end Go.Proofs.YtfkeddkfegaeiaaGreatDoor
namespace Go.Proofs.YtfkeddkfegaeiaaGreatDoor
open Go.RowKit
def mTA : ByteArray := ⟨#[115, 101, 108, 101, 99, 116, 32, 120, 46, 98, 44, 32, 120, 46, 97, 44, 32, 114, 111, 119, 95, 110, 117, 109, 98, 101, 114, 40, 41, 32, 111, 118, 101, 114, 32, 40, 112, 97, 114, 116, 105, 116, 105, 111, 110, 32, 98, 121, 32, 120, 46, 97, 32, 111, 114, 100, 101, 114, 32, 98, 121, 32, 120, 46, 98, 41, 44, 32, 99, 111, 117, 110, 116, 40, 41]⟩
def mTS : ByteArray := ⟨#[44, 32, 115, 117, 109, 40, 120, 46, 99, 41]⟩
def mTM : ByteArray := ⟨#[44, 32, 109, 105, 110, 40, 120, 46, 99, 41]⟩
def mTF : ByteArray := ⟨#[32, 102, 114, 111, 109, 32, 101, 32, 120]⟩
def mTB : ByteArray := ⟨#[115, 101, 108, 101, 99, 116, 32, 120, 46, 98, 44, 32, 109, 97, 120, 40, 120, 46, 99, 41]⟩
def mTG : ByteArray := ⟨#[44, 32, 115, 117, 109, 40, 120, 46, 99, 41, 32, 111, 118, 101, 114, 32, 40, 111, 114, 100, 101, 114, 32, 98, 121, 32, 120, 46, 98, 41, 32, 102, 114, 111, 109, 32, 101, 32, 120]⟩
def mW1 : ByteArray := ⟨#[32, 111, 118, 101, 114, 32, 40, 112, 97, 114, 116, 105, 116, 105, 111, 110, 32, 98, 121, 32, 120, 46, 97, 32, 111, 114, 100, 101, 114, 32, 98, 121, 32, 120, 46, 98, 32, 114, 111, 119, 115, 32]⟩
def mW2 : ByteArray := ⟨#[32, 112, 114, 101, 99, 101, 100, 105, 110, 103, 41]⟩
def mWn (D : ByteArray) : ByteArray := (mW1 ++ D) ++ mW2
def mT1 (D : ByteArray) : ByteArray := (((((mTA ++ mWn D) ++ mTS) ++ mWn D) ++ mTM) ++ mWn D) ++ mTF
def mT2 (D : ByteArray) : ByteArray := (mTB ++ mWn D) ++ mTG
theorem t_p1 (x : List UInt8) : mTA.data.toList ++ (mW1.data.toList ++ x) = spr mP1 ++ ([32] ++ x) := by rw [← List.append_assoc, ← List.append_assoc]; exact congrArg (· ++ x) (by kernel_rfl)
theorem t_p2 (x : List UInt8) : mW2.data.toList ++ (mTS.data.toList ++ (mW1.data.toList ++ x)) = spr mP2 ++ ([32] ++ x) := by rw [← List.append_assoc, ← List.append_assoc, ← List.append_assoc]; exact congrArg (· ++ x) (by kernel_rfl)
theorem t_p3 (x : List UInt8) : mW2.data.toList ++ (mTM.data.toList ++ (mW1.data.toList ++ x)) = spr mP3 ++ ([32] ++ x) := by rw [← List.append_assoc, ← List.append_assoc, ← List.append_assoc]; exact congrArg (· ++ x) (by kernel_rfl)
theorem t_p4 : mW2.data.toList ++ mTF.data.toList = spr mP4 := by kernel_rfl
theorem t_q1 (x : List UInt8) : mTB.data.toList ++ (mW1.data.toList ++ x) = spr mQ1 ++ ([32] ++ x) := by rw [← List.append_assoc, ← List.append_assoc]; exact congrArg (· ++ x) (by kernel_rfl)
theorem t_q2 : mW2.data.toList ++ mTG.data.toList = spr mQ2 := by kernel_rfl
theorem text_m1 (n : Nat) : (mT1 ⟨(dig n).toArray⟩).data.toList = spr (mL1 n) := by
  unfold mT1 mWn mL1
  simp only [ByteArray.data_append, Array.toList_append, List.append_assoc, t_p1, t_p2, t_p3, t_p4, spr_app, spr_cons]
theorem text_m2 (n : Nat) : (mT2 ⟨(dig n).toArray⟩).data.toList = spr (mL2 n) := by
  unfold mT2 mWn mL2
  simp only [ByteArray.data_append, Array.toList_append, List.append_assoc, t_q1, t_q2, spr_app, spr_cons]
theorem size_m (n : Nat) : (mT1 ⟨(dig n).toArray⟩).size ≤ 1000 ∧ (mT2 ⟨(dig n).toArray⟩).size ≤ 1000 := by
  have e : (⟨(dig n).toArray⟩ : ByteArray).size = (dig n).length := by simp [ByteArray.size]
  have h4 := dig_len n
  have s1 : mTA.size ≤ 90 := by decide
  have s2 : mTS.size ≤ 90 := by decide
  have s3 : mTM.size ≤ 90 := by decide
  have s4 : mTF.size ≤ 90 := by decide
  have s5 : mTB.size ≤ 90 := by decide
  have s6 : mTG.size ≤ 90 := by decide
  have s7 : mW1.size ≤ 90 := by decide
  have s8 : mW2.size ≤ 90 := by decide
  unfold mT1 mT2 mWn
  simp only [ByteArray.size_append, e]
  omega
/-- what the two texts give. -/
theorem moves_askd {rows : Rws'} (hd : Dst rows) (h9 : rows.length ≤ 40) {n : Nat} (hn : n < 5) : (∃ X fs, AskdV [tM rows] (mT1 ⟨(dig n).toArray⟩) X fs rows.length rows ((List.range rows.length).map (rowW n rows))) ∧ (∃ X fs, AskdV [tM rows] (mT2 ⟨(dig n).toArray⟩) X fs rows.length rows ((List.range rows.length).map (rowM n rows))) ∧ sortL ((List.range rows.length).map (rowW n rows)) = (ordI rows 41).map (rowW n rows) ∧ sortL ((List.range rows.length).map (rowM n rows)) = (ordI rows 41).map (rowM n rows) :=
  ⟨m1_asked hd (by omega) (by omega) (text_m1 n) (size_m n).1, m2_asked hd (by omega) (by omega) (text_m2 n) (size_m n).2, sorted_of hd _ (fun i => ⟨rfl, by unfold rowW; simp⟩), sorted_of hd _ (fun i => ⟨rfl, by unfold rowM; simp⟩)⟩
end Go.Proofs.YtfkeddkfegaeiaaGreatDoor
namespace Go.Proofs.YtfkeddkfegaeiaaGreatDoor
open Go.RowKit
theorem sumW_snoc (l : List Int) (z : Int) : sumW (l ++ [z]) = wrap64 (sumW l + z) := by unfold sumW; rw [List.foldl_append]; rfl
def lstU (x : Int) (l : List Int) : Int := l.foldl (fun a y => if y < a then y else a) x
def mstU (x : Int) (l : List Int) : Int := l.foldl (fun a y => if a < y then y else a) x
theorem lstU_snoc (x : Int) (l : List Int) (z : Int) : lstU x (l ++ [z]) = if z < lstU x l then z else lstU x l := by unfold lstU; rw [List.foldl_append]; rfl
theorem mstU_snoc (x : Int) (l : List Int) (z : Int) : mstU x (l ++ [z]) = if mstU x l < z then z else mstU x l := by unfold mstU; rw [List.foldl_append]; rfl
theorem lstU_min (x : Int) (r : List Int) : lstU x (x :: r) = minL (x :: r) := by
  unfold lstU minL
  rw [List.foldl_cons, if_neg (by omega)]
  congr 1
  funext a y
  by_cases h : y < a
  · rw [if_pos h]; omega
  · rw [if_neg h]; omega
theorem mstU_max (x : Int) (r : List Int) : mstU x (x :: r) = maxL (x :: r) := by
  unfold mstU maxL
  rw [List.foldl_cons, if_neg (by omega)]
  congr 1
  funext a y
  by_cases h : a < y
  · rw [if_pos h]; omega
  · rw [if_neg h]; omega
theorem upP_upC {rows : Rws'} {b i : Nat} (h : bAt rows i = (b : Int)) : upP rows (aAt rows i) (b + 1) = upC rows i := by
  unfold upP upC upL
  rw [h]; rfl
theorem upC_pos {rows : Rws'} (hd : Dst rows) {i : Nat} (hi : i < rows.length) : 0 < (upC rows i).length := by
  unfold upC upL
  rw [List.length_map]
  refine List.length_pos_of_mem (a := i) ?_
  have := hd.lo i hi
  rw [List.mem_filter, mem_ordI]
  exact ⟨⟨hi, this.1, by omega⟩, by simp⟩
theorem ordI_len {rows : Rws'} (hd : Dst rows) (b : Nat) : (ordI rows b).length ≤ rows.length := by
  have h1 := len_subN (l := ordI rows b) (m := List.range rows.length) ((ord_srt hd _).imp fun h e => by rw [e] at h; omega) (fun x hx => List.mem_range.2 (mem_ordI.1 hx).1)
  simpa using h1
theorem upC_len {rows : Rws'} (hd : Dst rows) (i : Nat) : (upC rows i).length ≤ rows.length := by
  unfold upC upL
  rw [List.length_map]
  exact Nat.le_trans (List.length_filter_le _ _) (ordI_len hd _)
theorem vis_ord {rows : Rws'} (hd : Dst rows) {b i : Nat} (hi : i < rows.length) (hb : bAt rows i = (b : Int)) : (vis rows b i).length < rows.length := by
  have h1 := ordI_len hd (b + 1)
  rw [ord_at hd hi hb] at h1
  simp at h1
  omega
/-- the two lists that Moves makes. -/
structure MvS (W6 W : World) (A B : List (List Int)) (wv mv : Value) (vW vM : List Value) : Prop where
  ow : W.ownsRow W6.heap.size 32 1 wv vW.length vW
  om : W.ownsRow W6.heap.size 32 1 mv vM.length vM
  rw' : RowsN W 6 vW A
  rm : RowsN W 3 vM B
  dis : Dis wv mv
  bel : Below W6.heap.size W6 W
theorem MvS.below {W6 W W' : World} {A B : List (List Int)} {wv mv : Value} {vW vM : List Value} (h : MvS W6 W A B wv mv vW vM) (hb : Below W.heap.size W W') : MvS W6 W' A B wv mv vW vM :=
  ⟨owns_below h.ow hb, owns_below h.om hb, h.rw'.below hb, h.rm.below hb, h.dis, h.bel.trans (hb.mono h.bel.size)⟩
theorem MvS.addW {W6 W W9 : World} {A B : List (List Int)} {wv mv : Value} {vW vM : List Value} (h : MvS W6 W A B wv mv vW vM) (r : List Int) (hr : r.length = 6) (b : Nat) (hb : W.heap[b]? = some (.cells (intsV r).toArray 3 (0, 0))) (hg : W.grownBy W9 wv.ownBlock) {g9 cap9 : Nat} (hat : wv.ownBlock = some g9 ∨ W.heap.size ≤ g9) (ho : W9.ownsRow W6.heap.size 32 1 (.slice (some ⟨g9, 0, none⟩) (vW.length + 1) cap9) (vW.length + 1) (vW ++ [.slice (some ⟨b, 0, none⟩) 6 6])) :
    MvS W6 W9 (A ++ [r]) B (.slice (some ⟨g9, 0, none⟩) (vW.length + 1) cap9) mv (vW ++ [.slice (some ⟨b, 0, none⟩) 6 6]) vM := by
  refine ⟨by rw [List.length_append]; exact ho, owns_other h.om h.dis hg, (h.rw'.snoc hr hb).grown h.ow hg, h.rm.grown h.ow hg, fun k e1 e2 => ?_, h.bel.grown hg h.bel.size (fun k e => (h.ow.lt k e).1)⟩
  injection e1 with e1
  subst e1
  rcases hat with hat | hat
  · exact h.dis _ hat e2
  · have : g9 < W.heap.size := (h.om.lt _ e2).2
    omega
theorem MvS.addM {W6 W W9 : World} {A B : List (List Int)} {wv mv : Value} {vW vM : List Value} (h : MvS W6 W A B wv mv vW vM) (r : List Int) (hr : r.length = 3) (b : Nat) (hb : W.heap[b]? = some (.cells (intsV r).toArray 3 (0, 0))) (hg : W.grownBy W9 mv.ownBlock) {g9 cap9 : Nat} (hat : mv.ownBlock = some g9 ∨ W.heap.size ≤ g9) (ho : W9.ownsRow W6.heap.size 32 1 (.slice (some ⟨g9, 0, none⟩) (vM.length + 1) cap9) (vM.length + 1) (vM ++ [.slice (some ⟨b, 0, none⟩) 3 3])) :
    MvS W6 W9 A (B ++ [r]) wv (.slice (some ⟨g9, 0, none⟩) (vM.length + 1) cap9) vW (vM ++ [.slice (some ⟨b, 0, none⟩) 3 3]) := by
  refine ⟨owns_other h.ow h.dis.symm hg, by rw [List.length_append]; exact ho, h.rw'.grown h.om hg, (h.rm.snoc hr hb).grown h.om hg, fun k e1 e2 => ?_, h.bel.grown hg h.bel.size (fun k e => (h.om.lt k e).1)⟩
  injection e2 with e2
  subst e2
  rcases hat with hat | hat
  · exact h.dis _ e1 hat
  · have : g9 < W.heap.size := (h.ow.lt _ e1).2
    omega
end Go.Proofs.YtfkeddkfegaeiaaGreatDoor
