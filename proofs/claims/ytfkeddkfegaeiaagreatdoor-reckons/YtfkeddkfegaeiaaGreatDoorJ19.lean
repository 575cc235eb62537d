/-
  Part 19.
-/
import Derived.Test.YtfkeddkfegaeiaaGreatDoorJ18
import Derived.Shelf.Strings.Builder1
namespace Go.Proofs.YtfkeddkfegaeiaaGreatDoor
open Go.RowKit

theorem cellsU8 : Tryz.prog.cellsOf 5 = 1 := by kernel_rfl

set_option maxHeartbeats 1000000 in
set_option maxRecDepth 100000 in
theorem string_any (tl : Nat) (w : World) (l : List UInt8) (gg : Bool) (h : TL tl w l gg) (h0 : l ≠ []) :
    Calls Tryz.prog 38 #[.pointer (some ⟨tl, 0, none⟩)] w fun e w' => e = .returned (.string ⟨l.toArray⟩) ∧ Below tl w w' := by
  obtain ⟨p, v, hp, hb, hown⟩ := h
  have hl0 : l.length ≠ 0 := by simpa using h0
  obtain ⟨g, cap, cur, rfl, hbg, hg, hnc, hcm, hcs, htake⟩ : ∃ g cap cur, v = .slice (some ⟨g, 0, none⟩) l.length cap ∧ tl + 1 ≤ g ∧ w.heap[g]? = some (.cells cur 5 (0, 0)) ∧ l.length ≤ cap ∧ cap ≤ maxLen ∧ cur.size = cap * 1 ∧ cur.toList.take (l.length * 1) = Lib.byteCells l := by
    rcases hown.2 with ⟨_, hz⟩ | ⟨g, cap, cur, hv, r⟩
    · exact absurd hz hl0
    · exact ⟨g, cap, cur, hv, r⟩
  have c1 : w.drew.cell? ⟨tl, 1, none⟩ = some (.slice (some ⟨g, 0, none⟩) l.length cap) := by
    have : w.drew.heap[tl]? = some (.cells #[p, .slice (some ⟨g, 0, none⟩) l.length cap, .bool gg] 93 (0, 0)) := hb
    rw [Lib.cell_of_heap this]; rfl
  have hSD : (Builtin.unsafeSliceData_ #[89] 183 #[.slice (some ⟨g, 0, none⟩) l.length cap]).run Tryz.prog w.drew = .ok (.pointer (some ⟨g, 0, none⟩)) w.drew :=
    Lib.run_unsafeSliceData_row _ _ _ _ _ _ (by omega)
  have hUS : (Builtin.unsafeString_ #[183, 3] 9 #[.pointer (some ⟨g, 0, none⟩), .int .i64 l.length]).run Tryz.prog w.drew = .ok (.string ⟨l.toArray⟩) (w.drew.freeze ⟨g, 0, none⟩ l.length) := by
    refine Lib.run_unsafeString_row w.drew 183 3 9 5 Tryz.underlying183 cellsU8 g cur.size (by have hg' : w.drew.heap[g]? = some (.cells cur 5 (0, 0)) := hg; simp [World.shape?, hg']) l h0 (by omega) (by unfold maxLen at hcm; omega) ?_
    intro j x hx
    have := hown.cells (g := g) rfl j (.int .u8 x.toNat) (by simp [Lib.byteCells, hx])
    exact this
  have HB := hide hb
  clear hb hown hg htake
  go_enter Tryz.func38, Tryz.ntmps38
  go_wp2
  go_region
  all_goals (go_wp2; go_ret; exact ⟨rfl, Lib.below_freeze (Below.drew (Below.refl tl w)) (p := ⟨g, 0, none⟩) (by show tl ≤ g; omega) _⟩)

theorem TL.ts {tl : Nat} {W : World} {o : List UInt8} {g : Bool} (h : TL tl W o g) : tl < W.heap.size := let ⟨_, _, _, hb, _⟩ := h; lt_of_heap hb

set_option maxHeartbeats 2000000 in
set_option maxRecDepth 100000 in
theorem tokens_any (tl : Nat) (w : World) (o : Out) (b : Nat) (xs : List ByteArray) (cs : Array Value) (hT : TL tl w o.1 o.2) (hb : w.heap[b]? = some (.cells cs 9 (0, 0))) (hx : cs.toList = xs.map .string) (hlen : o.1.length + cost (xs.map tx) ≤ 1099511627776) (hn : xs.length ≤ 100) :
    Calls Tryz.prog 100 #[.pointer (some ⟨tl, 0, none⟩), .slice (some ⟨b, 0, none⟩) xs.length xs.length] w fun e w' => e = .returned (.tuple #[]) ∧ TL tl w' (layAll o (xs.map tx)).1 (layAll o (xs.map tx)).2 ∧ TSt tl w w' := by
  have HT := hide hT
  have HB := hide hb
  have HX := hide hx
  have HLEN := hide hlen
  clear hT hb hx hlen
  go_enter Tryz.func100, Tryz.ntmps100
  go_wp2_with fail
  go_loopg [8] xs.length (fun f i wr => ∃ pre suf, xs = pre ++ suf ∧ i = .int .i64 pre.length ∧ f = suf.length ∧ TL tl wr (layAll o (pre.map tx)).1 (layAll o (pre.map tx)).2 ∧ TSt tl w wr)
  case atStart => exact ⟨[], xs, rfl, rfl, rfl, unhide HT, TSt.refl _ _⟩
  case round =>
    obtain ⟨pre, suf, hxs, hi, hf, hTL, hTS⟩ := hrel
    subst hi
    have HTL := hide hTL
    have HTS := hide hTS
    have HXS0 := hide hxs
    clear hTL hTS hxs
    match suf, HXS0, hf with
    | [], HXS0, _ =>
      have hxs' : xs = pre := by simpa using unhide HXS0
      clear HXS0
      subst hxs'
      have hd : decide (((xs.length : Nat) : Int) < (xs.length : Int)) = false := by simp
      go_wp2
      go_end0
      exact ⟨rfl, unhide HTL, unhide HTS⟩
    | x :: suf', HXS, hf =>
      subst hf
      have hxs := unhide HXS
      have hlt : pre.length < xs.length := by rw [hxs]; simp
      have hd : decide (((pre.length : Nat) : Int) < (xs.length : Int)) = true := by simp; omega
      have hcost : (layAll o (pre.map tx)).1.length + (x.size + 1) ≤ 1099511627776 := by
        have h1 := layAll_len o (pre.map tx)
        have h2 := unhide HLEN
        rw [hxs, List.map_append, List.map_cons, cost_append, cost_cons] at h2
        simp only [tx] at h2 h1 ⊢
        omega
      have hbr := ((unhide HTS).keep b _ _ (Nat.zero_le _) (unhide HB) rfl).trans (unhide HB)
      have hcx : cs[pre.length]? = some (.string x) := by
        rw [← Array.getElem?_toList, unhide HX, hxs]
        simp
      obtain ⟨kb, fb⟩ := blk hbr
      have kbx := (kb pre.length).trans hcx
      have zb := lt_of_heap hbr
      clear hxs kb hbr
      generalize hO : layAll o (pre.map tx) = O at *
      have HNEXT : Hid (layAll o ((pre ++ [x]).map tx) = lay O (tx x)) := by unfold Hid; rw [List.map_append, layAll_append, hO]; rfl
      clear hO hcx
      obtain ⟨p0, v0, hp0, hb0, ho0⟩ := unhide HTL
      obtain ⟨k0, f0⟩ := blk hb0
      have z0 := lt_of_heap hb0
      clear hp0 hb0 ho0
      cases hL : decide (0 < ((O.1.length : Nat) : Int)) with
      | false =>
        have hLn : ¬ 0 < O.1.length := by have := of_decide_eq_false hL; omega
        obtain ⟨sp, hsp⟩ : ∃ sp : List UInt8, sp = [] := ⟨_, rfl⟩
        have HNX2 : Hid (lay O (tx x) = (O.1 ++ sp ++ x.data.toList, tightB x)) := by
          unfold Hid lay tx gapped
          rw [hsp]
          simp [hLn]
        have HTW : Hid (TL tl wr (O.1 ++ sp) O.2) := by unfold Hid; rw [hsp, List.append_nil]; exact unhide HTL
        have HTSW := HTS
        have hspl : sp.length = 0 := by rw [hsp]; rfl
        clear hsp
        go_wp2_with fail
        refine (len_any tl _ O.1 O.2 (by exact unhide HTL)).mono ?_
        rintro e w3 ⟨rfl, rfl⟩
        go_wp2_with fail
        refine (writeString_any tl _ (O.1 ++ sp) O.2 x (by exact unhide HTW) (by rw [List.length_append]; omega)).mono ?_
        rintro e w4 ⟨rfl, hT4, hS4⟩
        have HTS4 := hide ((unhide HTSW).trans hS4)
        obtain ⟨p4, v4, hp4, hb4, ho4⟩ := hT4
        obtain ⟨k4, f4⟩ := blk hb4
        have z4 := lt_of_heap hb4
        obtain ⟨ga, cap4, rfl⟩ := row_slice ho4
        have HP4 := hide hp4
        have HB4 := hide hb4
        have HO4 := hide ho4
        clear hp4 hb4 ho4 hS4
        go_wp2_with fail
        refine (tightBehind_any x _).mono ?_
        rintro e w5 ⟨rfl, rfl⟩
        go_wp2
        go_roundg suf'.length
        case measure => simp
        case rel =>
         refine ⟨pre ++ [x], suf', by rw [unhide HXS]; simp, by simp, rfl, ?_, ?_⟩
         · rw [unhide HNEXT, unhide HNX2]
           exact ⟨p4, _, unhide HP4, (heap_set (unhide HB4) _).trans rfl, row_kp (unhide HO4) ((Kp.refl _ _).setCell _ _)⟩
         · exact (unhide HTS4).trans (TSt.kp (unhide HB4) ((Kp.refl _ _).setCell _ _))
      | true =>
        have hLn : 0 < O.1.length := by have := of_decide_eq_true hL; omega
        cases hg2 : O.2 with
        | true =>
          obtain ⟨sp, hsp⟩ : ∃ sp : List UInt8, sp = [] := ⟨_, rfl⟩
          have HNX2 : Hid (lay O (tx x) = (O.1 ++ sp ++ x.data.toList, tightB x)) := by
            unfold Hid lay tx gapped
            rw [hsp]
            simp [hLn, hg2]
          have HTW : Hid (TL tl wr (O.1 ++ sp) O.2) := by unfold Hid; rw [hsp, List.append_nil]; exact unhide HTL
          have HTSW := HTS
          have hspl : sp.length = 0 := by rw [hsp]; rfl
          clear hsp
          have kt : wr.cell? ⟨tl, 1 + 1, none⟩ = some (.bool true) := by rw [k0, hg2]; rfl
          rw [hg2] at k0 HTL HTW
          go_wp2_with fail
          refine (len_any tl _ O.1 true (by exact unhide HTL)).mono ?_
          rintro e w3 ⟨rfl, rfl⟩
          go_wp2_with fail
          refine (writeString_any tl _ (O.1 ++ sp) true x (by exact unhide HTW) (by rw [List.length_append]; omega)).mono ?_
          rintro e w4 ⟨rfl, hT4, hS4⟩
          have HTS4 := hide ((unhide HTSW).trans hS4)
          obtain ⟨p4, v4, hp4, hb4, ho4⟩ := hT4
          obtain ⟨k4, f4⟩ := blk hb4
          have z4 := lt_of_heap hb4
          obtain ⟨ga, cap4, rfl⟩ := row_slice ho4
          have HP4 := hide hp4
          have HB4 := hide hb4
          have HO4 := hide ho4
          clear hp4 hb4 ho4 hS4
          go_wp2_with fail
          refine (tightBehind_any x _).mono ?_
          rintro e w5 ⟨rfl, rfl⟩
          go_wp2
          go_roundg suf'.length
          case measure => simp
          case rel =>
           refine ⟨pre ++ [x], suf', by rw [unhide HXS]; simp, by simp, rfl, ?_, ?_⟩
           · rw [unhide HNEXT, unhide HNX2]
             exact ⟨p4, _, unhide HP4, (heap_set (unhide HB4) _).trans rfl, row_kp (unhide HO4) ((Kp.refl _ _).setCell _ _)⟩
           · exact (unhide HTS4).trans (TSt.kp (unhide HB4) ((Kp.refl _ _).setCell _ _))
        | false =>
          rw [hg2] at k0 HTL
          cases htA : tightA x with
          | true =>
            obtain ⟨sp, hsp⟩ : ∃ sp : List UInt8, sp = [] := ⟨_, rfl⟩
            have HNX2 : Hid (lay O (tx x) = (O.1 ++ sp ++ x.data.toList, tightB x)) := by
              unfold Hid lay tx gapped
              rw [hsp]
              simp [hLn, hg2, htA]
            have HTW : Hid (TL tl wr (O.1 ++ sp) false) := by unfold Hid; rw [hsp, List.append_nil]; exact unhide HTL
            have HTSW := HTS
            have hspl : sp.length = 0 := by rw [hsp]; rfl
            clear hsp
            go_wp2_with fail
            refine (len_any tl _ O.1 false (by exact unhide HTL)).mono ?_
            rintro e w3 ⟨rfl, rfl⟩
            go_wp2_with fail
            refine (tightAhead_any x _).mono ?_
            rw [htA]
            rintro e w3 ⟨rfl, rfl⟩
            go_wp2_with fail
            refine (writeString_any tl _ (O.1 ++ sp) false x (by exact unhide HTW) (by rw [List.length_append]; omega)).mono ?_
            rintro e w4 ⟨rfl, hT4, hS4⟩
            have HTS4 := hide ((unhide HTSW).trans hS4)
            obtain ⟨p4, v4, hp4, hb4, ho4⟩ := hT4
            obtain ⟨k4, f4⟩ := blk hb4
            have z4 := lt_of_heap hb4
            obtain ⟨ga, cap4, rfl⟩ := row_slice ho4
            have HP4 := hide hp4
            have HB4 := hide hb4
            have HO4 := hide ho4
            clear hp4 hb4 ho4 hS4
            go_wp2_with fail
            refine (tightBehind_any x _).mono ?_
            rintro e w5 ⟨rfl, rfl⟩
            go_wp2
            go_roundg suf'.length
            case measure => simp
            case rel =>
             refine ⟨pre ++ [x], suf', by rw [unhide HXS]; simp, by simp, rfl, ?_, ?_⟩
             · rw [unhide HNEXT, unhide HNX2]
               exact ⟨p4, _, unhide HP4, (heap_set (unhide HB4) _).trans rfl, row_kp (unhide HO4) ((Kp.refl _ _).setCell _ _)⟩
             · exact (unhide HTS4).trans (TSt.kp (unhide HB4) ((Kp.refl _ _).setCell _ _))
          | false =>
            have HNX2 : Hid (lay O (tx x) = (O.1 ++ [32] ++ x.data.toList, tightB x)) := by
              unfold Hid lay tx gapped
              simp [hLn, hg2, htA]
            go_wp2_with fail
            refine (len_any tl _ O.1 false (by exact unhide HTL)).mono ?_
            rintro e w3 ⟨rfl, rfl⟩
            go_wp2_with fail
            refine (tightAhead_any x _).mono ?_
            rw [htA]
            rintro e w3 ⟨rfl, rfl⟩
            go_wp2_with fail
            refine (writeByte_any tl _ O.1 false 32 (by exact unhide HTL) (by omega)).mono ?_
            rintro e w6 ⟨rfl, hT6, hS6⟩
            have HTSW := hide ((unhide HTS).trans hS6)
            have HTW := hide hT6
            clear hT6 hS6
            obtain ⟨sp, hsp⟩ : ∃ sp : List UInt8, sp = [32] := ⟨_, rfl⟩
            have hspl : sp.length = 1 := by rw [hsp]; rfl
            rw [← hsp] at HTW HNX2
            clear hsp
            go_wp2_with fail
            refine (writeString_any tl _ (O.1 ++ sp) false x (by exact unhide HTW) (by rw [List.length_append]; omega)).mono ?_
            rintro e w4 ⟨rfl, hT4, hS4⟩
            have HTS4 := hide ((unhide HTSW).trans hS4)
            obtain ⟨p4, v4, hp4, hb4, ho4⟩ := hT4
            obtain ⟨k4, f4⟩ := blk hb4
            have z4 := lt_of_heap hb4
            obtain ⟨ga, cap4, rfl⟩ := row_slice ho4
            have HP4 := hide hp4
            have HB4 := hide hb4
            have HO4 := hide ho4
            clear hp4 hb4 ho4 hS4
            go_wp2_with fail
            refine (tightBehind_any x _).mono ?_
            rintro e w5 ⟨rfl, rfl⟩
            go_wp2
            go_roundg suf'.length
            case measure => simp
            case rel =>
             refine ⟨pre ++ [x], suf', by rw [unhide HXS]; simp, by simp, rfl, ?_, ?_⟩
             · rw [unhide HNEXT, unhide HNX2]
               exact ⟨p4, _, unhide HP4, (heap_set (unhide HB4) _).trans rfl, row_kp (unhide HO4) ((Kp.refl _ _).setCell _ _)⟩
             · exact (unhide HTS4).trans (TSt.kp (unhide HB4) ((Kp.refl _ _).setCell _ _))
end Go.Proofs.YtfkeddkfegaeiaaGreatDoor
