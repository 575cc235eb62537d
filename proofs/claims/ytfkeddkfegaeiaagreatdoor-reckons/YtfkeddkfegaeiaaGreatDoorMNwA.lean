/-
  Part 34.
-/
import Derived.Test.YtfkeddkfegaeiaaGreatDoorMRfA
import Derived.Lib.SlicesS
import Derived.Deep.RegionWith
import Derived.Deep.LoopGhost
import Derived.Deep.DeepCutAuto
namespace Go.Proofs.YtfkeddkfegaeiaaGreatDoor
open Go.RowKit

/-- is a text a name? -/
def nameB (l : List UInt8) : Bool := decide (0 < l.length) && decide (l.length ≤ 8) && l.all (fun c => letterI c.toNat) && !wordB l

theorem nameB_no {l : List UInt8} (h : l.length < 1 ∨ 8 < l.length ∨ wordB l = true) : nameB l = false := by
  unfold nameB
  rcases h with h | h | h
  · rw [decide_eq_false (by omega)]; rfl
  · rw [show decide (l.length ≤ 8) = false from decide_eq_false (by omega), Bool.and_false]; rfl
  · rw [h, Bool.not_true, Bool.and_false]

set_option maxRecDepth 100000 in
set_option maxHeartbeats 1000000 in
theorem risName_any (s : ByteArray) (w : World) :
    Calls Tryz.prog 118 #[.string s] w fun e w' => e = .returned (.bool (nameB s.data.toList)) ∧ Below w.heap.size w w' := by
  have hsz : s.data.toList.length = s.size := by rw [Array.length_toList]; rfl
  go_enter Tryz.func118, Tryz.ntmps118
  go_wp2_with fail
  refine (Words_any _).mono ?_
  rintro e w1 ⟨rfl, htx, hb⟩
  have HTX := hide htx
  have HB := hide hb
  clear htx hb
  go_wp2_with fail
  refine (in_any s _ _ words18 (by exact unhide HTX) (by decide)).mono ?_
  rintro e w2 ⟨rfl, hw2⟩
  obtain rfl := hw2.symm
  rw [words_in]
  cases hwb : wordB s.data.toList with
  | true =>
    have HN := hide (nameB_no (Or.inr (Or.inr hwb)))
    by_cases h1 : s.size < 1
    · have hd : decide ((s.size : Int) < 1) = true := by simp; omega
      go_wp2
      go_ret
      exact ⟨by rw [unhide HN]; rfl, unhide HB⟩
    · have hd : decide ((s.size : Int) < 1) = false := by simp; omega
      by_cases h8 : 8 < s.size
      · have hd8 : decide ((8 : Int) < (s.size : Int)) = true := by simp; omega
        go_wp2
        go_ret
        exact ⟨by rw [unhide HN]; rfl, unhide HB⟩
      · have hd8 : decide ((8 : Int) < (s.size : Int)) = false := by simp; omega
        go_wp2
        go_ret
        exact ⟨by rw [unhide HN]; rfl, unhide HB⟩
  | false =>
    by_cases h1 : s.size < 1
    · have hd : decide ((s.size : Int) < 1) = true := by simp; omega
      have HN := hide (nameB_no (l := s.data.toList) (Or.inl (by omega)))
      go_wp2
      go_ret
      exact ⟨by rw [unhide HN]; rfl, unhide HB⟩
    · have hd : decide ((s.size : Int) < 1) = false := by simp; omega
      by_cases h8 : 8 < s.size
      · have hd8 : decide ((8 : Int) < (s.size : Int)) = true := by simp; omega
        have HN := hide (nameB_no (l := s.data.toList) (Or.inr (Or.inl (by omega))))
        go_wp2
        go_ret
        exact ⟨by rw [unhide HN]; rfl, unhide HB⟩
      · have hd8 : decide ((8 : Int) < (s.size : Int)) = false := by simp; omega
        have HWB := hide hwb
        clear hwb
        go_wp2_with fail
        go_loopg [4] s.size (fun f i W => ∃ pre suf, s.data.toList = pre ++ suf ∧ f = suf.length ∧ i = .int .i64 (pre.length : Nat) ∧ pre.all (fun c => letterI c.toNat) = true ∧ W = w1)
        case atStart => exact ⟨[], s.data.toList, rfl, hsz.symm, rfl, rfl, rfl⟩
        case round =>
          obtain ⟨pre, suf, hs, rfl, rfl, hall, rfl⟩ := hrel
          have hl : pre.length + suf.length = s.size := by rw [← hsz, hs, List.length_append]
          have HALL := hide hall
          have HS := hide hs
          clear hall hs
          cases suf with
          | nil =>
            have hlt : decide (pre.length < s.size) = false := by simp at hl ⊢; omega
            go_wp2
            go_ret
            refine ⟨?_, unhide HB⟩
            have e : s.data.toList = pre := by rw [unhide HS, List.append_nil]
            rw [e]
            unfold nameB
            rw [unhide HALL, ← e, unhide HWB, decide_eq_true (by omega), decide_eq_true (by omega)]
            rfl
          | cons c suf =>
            rw [List.length_cons] at hl
            have hlt : decide (pre.length < s.size) = true := by simp; omega
            have hlt2 : pre.length < s.size := by omega
            have hc := getB_at (unhide HS) hlt2
            go_wp2_with fail
            refine (rletter_any _ _).mono ?_
            rintro e w3 ⟨rfl, hw3⟩
            obtain rfl := hw3.symm
            have hsp : s.data.toList = (pre ++ [c]) ++ suf := by rw [unhide HS]; simp
            have HSP := hide hsp
            clear hc hsp
            cases hlc : letterI (c.toNat : Int) with
            | false =>
              have HLC := hide hlc
              clear hlc
              go_wp2
              go_ret
              refine ⟨?_, unhide HB⟩
              have hn : nameB s.data.toList = false := by
                unfold nameB
                rw [unhide HS, List.all_append, List.all_cons, unhide HLC, Bool.false_and, Bool.and_false, Bool.and_false]
                rfl
              rw [hn]
              rfl
            | true =>
              have HLC := hide hlc
              clear hlc
              go_wp2
              go_roundg suf.length
              case measure => simp
              case rel =>
                exact ⟨pre ++ [c], suf, unhide HSP, rfl, by rw [List.length_append]; go_num, by rw [List.all_append, unhide HALL, List.all_cons, unhide HLC]; rfl, rfl⟩
theorem take_while_all (l : List UInt8) : (l.take (lead letterI l) == l) = l.all (fun c => letterI c.toNat) := by
  rw [Bool.eq_iff_iff, beq_iff_eq, List.all_eq_true]
  have e : l.take (lead letterI l) = l.takeWhile (fun c => letterI c.toNat) := by
    unfold lead
    exact (List.prefix_iff_eq_take.1 (List.takeWhile_prefix _)).symm
  rw [e]
  constructor
  · intro h c hc
    rw [← h] at hc
    have := List.all_takeWhile (p := fun c => letterI (UInt8.toNat c)) (l := l)
    rw [List.all_eq_true] at this
    exact this c hc
  · intro h
    induction l with
    | nil => rfl
    | cons a r ih =>
      rw [List.takeWhile_cons, if_pos (h a List.mem_cons_self), ih (by unfold lead; exact (List.prefix_iff_eq_take.1 (List.takeWhile_prefix _)).symm) (fun c hc => h c (List.mem_cons_of_mem _ hc))]

set_option maxRecDepth 100000 in
set_option maxHeartbeats 1000000 in
theorem isName_any (s : ByteArray) (w : World) :
    Calls Tryz.prog 135 #[.string s] w fun e w' => e = .returned (.bool (nameB s.data.toList)) ∧ w' = w := by
  have hsz : s.data.toList.length = s.size := by rw [Array.length_toList]; rfl
  have hnil : (s.toList == []) = decide (s.size = 0) := by
    rw [Bool.eq_iff_iff, beq_iff_eq, decide_eq_true_eq, ByteArray.toList_eq, ← hsz, List.length_eq_zero_iff]
  by_cases h0 : s.size = 0
  · have hd : (s.toList == []) = true := by rw [hnil]; simp [h0]
    have HN := hide (nameB_no (l := s.data.toList) (Or.inl (by omega)))
    clear hnil
    go_enter Tryz.func135, Tryz.ntmps135
    go_wp2
    go_ret
    exact ⟨by rw [unhide HN]; rfl, rfl⟩
  · have hd : (s.toList == []) = false := by rw [hnil]; simp [h0]
    clear hnil
    by_cases h8 : s.size ≤ 8
    · have hd8 : decide ((s.size : Int) ≤ 8) = true := by simp; omega
      have hta := take_while_all s.data.toList
      have hcut : (s.extract 0 (lead letterI s.data.toList)).toList = s.data.toList.take (lead letterI s.data.toList) := by
        rw [ByteArray.toList_eq, ByteArray.data_extract, Array.toList_extract]
        simp
      go_enter Tryz.func135, Tryz.ntmps135
      go_wp2_with fail
      refine (leading_letter s _ (by unfold maxLen; omega)).mono ?_
      rintro e w1 ⟨rfl, hw1⟩
      obtain rfl := hw1.symm
      have hq : ((s.extract 0 (lead letterI s.data.toList)).toList == s.toList) = s.data.toList.all (fun c => letterI c.toNat) := by rw [hcut, ByteArray.toList_eq, hta]
      clear hcut hta
      generalize s.extract 0 (lead letterI s.data.toList) = r at *
      cases hall : s.data.toList.all (fun c => letterI c.toNat) with
      | false =>
        rw [hall] at hq
        have HN : Hid (nameB s.data.toList = false) := by unfold Hid nameB; rw [hall, Bool.and_false]; rfl
        clear hall
        go_wp2
        go_ret
        exact ⟨by rw [unhide HN]; rfl, rfl⟩
      | true =>
        rw [hall] at hq
        have HN : Hid (nameB s.data.toList = !wordB s.data.toList) := by
          unfold Hid nameB
          rw [hall, decide_eq_true (by omega), decide_eq_true (by omega)]
          rfl
        clear hall
        go_wp2_with fail
        refine (isWord_any s _).mono ?_
        rintro e w1 ⟨rfl, hw1⟩
        obtain rfl := hw1.symm
        generalize wordB s.data.toList = wb at *
        go_wp2
        go_ret
        exact ⟨by rw [unhide HN]; rfl, rfl⟩
    · have hd8 : decide ((s.size : Int) ≤ 8) = false := by simp; omega
      have HN := hide (nameB_no (l := s.data.toList) (Or.inr (Or.inl (by omega))))
      go_enter Tryz.func135, Tryz.ntmps135
      go_wp2
      go_ret
      exact ⟨by rw [unhide HN]; rfl, rfl⟩

end Go.Proofs.YtfkeddkfegaeiaaGreatDoor
namespace Go.Proofs.YtfkeddkfegaeiaaGreatDoor
open Go.RowKit

/-- a slice whose elements are one cell each. -/
def RowAt (W : World) (v : Value) (xs : List Value) : Prop := ∃ ad cap, v = .slice ad xs.length cap ∧ xs.length ≤ maxLen ∧ (0 < xs.length → ∃ b o, ad = some ⟨b, o, none⟩ ∧ b < W.heap.size ∧ ∀ j, j < xs.length → W.cell? ⟨b, o + j, none⟩ = xs[j]?)
theorem RowAt.keep {W W' : World} {v : Value} {xs : List Value} (h : RowAt W v xs) (hb : Below W.heap.size W W') : RowAt W' v xs := by
  obtain ⟨ad, cap, h1, h2, h3⟩ := h
  refine ⟨ad, cap, h1, h2, fun hp => ?_⟩
  obtain ⟨b, o, h4, h5, h6⟩ := h3 hp
  exact ⟨b, o, h4, Nat.lt_of_lt_of_le h5 hb.size, fun j hj => by rw [hb.cell (p := ⟨b, o + j, none⟩) h5]; exact h6 j hj⟩
abbrev intsV (zs : List Int) : List Value := zs.map (Value.int .i64)
abbrev textsV (ts : List ByteArray) : List Value := ts.map Value.string

set_option maxRecDepth 100000 in
set_option maxHeartbeats 1000000 in
theorem sameInts_any (a b : Value) (zs ys : List Int) (w : World) (ha : RowAt w a (intsV zs)) (hb : RowAt w b (intsV ys)) :
    Calls Tryz.prog 45 #[a, b] w fun e w' => e = .returned (.bool (decide (zs = ys))) ∧ Below w.heap.size w w' := by
  obtain ⟨ada, capa, rfl, ma, ca⟩ := ha
  obtain ⟨adb, capb, rfl, mb, cb⟩ := hb
  rw [List.length_map] at ma mb ca cb
  unfold maxLen at ma mb
  simp only [List.length_map]
  by_cases hl : zs.length = ys.length
  · have hd : ((zs.length : Int) != (ys.length : Int)) = false := by rw [hl]; simp
    have HL := hide hl
    clear hl
    have HCA := hide ca
    have HCB := hide cb
    clear ca cb
    go_enter Tryz.func45, Tryz.ntmps45
    go_wp2_with fail
    go_loopg [5] zs.length (fun f i W => ∃ pre s1 s2, zs = pre ++ s1 ∧ ys = pre ++ s2 ∧ f = s1.length ∧ i = .int .i64 (pre.length : Nat) ∧ Below w.heap.size w W)
    case atStart => exact ⟨[], zs, ys, rfl, rfl, rfl, rfl, Below.refl _ _⟩
    case round =>
      obtain ⟨pre, s1, s2, h1, h2, rfl, rfl, hbw⟩ := hrel
      have HB := hide hbw
      have HZ := hide h1
      have HY := hide h2
      have l1 : pre.length + s1.length = zs.length := by rw [h1, List.length_append]
      have l2 : pre.length + s2.length = ys.length := by rw [h2, List.length_append]
      clear h1 h2 hbw
      cases s1 with
      | nil =>
        have hlt : decide (pre.length < zs.length) = false := by simp at l1 ⊢; omega
        go_wp2
        go_ret
        have e2 : s2 = [] := by apply List.eq_nil_of_length_eq_zero; have := unhide HL; simp at l1; omega
        have e : decide (zs = ys) = true := by rw [unhide HZ, unhide HY, e2]; simp
        rw [e]
        exact ⟨rfl, unhide HB⟩
      | cons z s1 =>
        cases s2 with
        | nil => exfalso; have := unhide HL; simp at l1 l2; omega
        | cons y s2 =>
          rw [List.length_cons] at l1 l2
          have hlt : decide (pre.length < zs.length) = true := by simp; omega
          obtain ⟨b1, o1, rfl, z1, c1⟩ := (unhide HCA) (by omega)
          obtain ⟨b2, o2, rfl, z2, c2⟩ := (unhide HCB) (by have := unhide HL; omega)
          have k1 : wr.cell? ⟨b1, o1 + pre.length, none⟩ = some (.int .i64 z) := by
            rw [(unhide HB).cell (p := ⟨b1, o1 + pre.length, none⟩) z1, c1 _ (by omega), unhide HZ]
            simp
          have k2 : wr.cell? ⟨b2, o2 + pre.length, none⟩ = some (.int .i64 y) := by
            rw [(unhide HB).cell (p := ⟨b2, o2 + pre.length, none⟩) z2, c2 _ (by omega), unhide HY]
            simp
          have HZ2 : Hid (zs = (pre ++ [z]) ++ s1) := by unfold Hid; rw [unhide HZ]; simp
          have HY2 : Hid (ys = (pre ++ [y]) ++ s2) := by unfold Hid; rw [unhide HY]; simp
          clear c1 c2
          cases hzy : (z != y) with
          | true =>
            have HNE : Hid (decide (zs = ys) = false) := by
              unfold Hid
              rw [decide_eq_false_iff_not, unhide HZ, unhide HY]
              intro e
              have := List.append_cancel_left e
              simp at this hzy
              exact hzy this.1
            go_wp2
            go_region
            go_wp2
            go_ret
            rw [unhide HNE]
            exact ⟨rfl, (unhide HB).drew⟩
          | false =>
            have hze : z = y := by simpa using hzy
            go_wp2
            go_region
            go_wp2
            go_roundg s1.length
            case measure => simp
            case rel =>
              refine ⟨pre ++ [z], s1, s2, unhide HZ2, by rw [hze]; exact unhide HY2, rfl, ?_, (unhide HB).drew⟩
              rw [List.length_append]
              go_num
  · have hd : ((zs.length : Int) != (ys.length : Int)) = true := by
      rw [bne_iff_ne]
      intro e
      exact hl (by exact_mod_cast e)
    have HNE : Hid (decide (zs = ys) = false) := by
      unfold Hid
      rw [decide_eq_false_iff_not]
      intro e
      exact hl (by rw [e])
    clear ca cb
    go_enter Tryz.func45, Tryz.ntmps45
    go_wp2
    go_ret
    rw [unhide HNE]
    exact ⟨rfl, Below.refl _ _⟩
set_option maxRecDepth 100000 in
set_option maxHeartbeats 1000000 in
theorem sameTexts_any (a b : Value) (zs ys : List ByteArray) (w : World) (ha : RowAt w a (textsV zs)) (hb : RowAt w b (textsV ys)) :
    Calls Tryz.prog 53 #[a, b] w fun e w' => e = .returned (.bool (decide (zs = ys))) ∧ Below w.heap.size w w' := by
  obtain ⟨ada, capa, rfl, ma, ca⟩ := ha
  obtain ⟨adb, capb, rfl, mb, cb⟩ := hb
  rw [List.length_map] at ma mb ca cb
  unfold maxLen at ma mb
  simp only [List.length_map]
  by_cases hl : zs.length = ys.length
  · have hd : ((zs.length : Int) != (ys.length : Int)) = false := by rw [hl]; simp
    have HL := hide hl
    clear hl
    have HCA := hide ca
    have HCB := hide cb
    clear ca cb
    go_enter Tryz.func53, Tryz.ntmps53
    go_wp2_with fail
    go_loopg [5] zs.length (fun f i W => ∃ pre s1 s2, zs = pre ++ s1 ∧ ys = pre ++ s2 ∧ f = s1.length ∧ i = .int .i64 (pre.length : Nat) ∧ Below w.heap.size w W)
    case atStart => exact ⟨[], zs, ys, rfl, rfl, rfl, rfl, Below.refl _ _⟩
    case round =>
      obtain ⟨pre, s1, s2, h1, h2, rfl, rfl, hbw⟩ := hrel
      have HB := hide hbw
      have HZ := hide h1
      have HY := hide h2
      have l1 : pre.length + s1.length = zs.length := by rw [h1, List.length_append]
      have l2 : pre.length + s2.length = ys.length := by rw [h2, List.length_append]
      clear h1 h2 hbw
      cases s1 with
      | nil =>
        have hlt : decide (pre.length < zs.length) = false := by simp at l1 ⊢; omega
        go_wp2
        go_ret
        have e2 : s2 = [] := by apply List.eq_nil_of_length_eq_zero; have := unhide HL; simp at l1; omega
        have e : decide (zs = ys) = true := by rw [unhide HZ, unhide HY, e2]; simp
        rw [e]
        exact ⟨rfl, unhide HB⟩
      | cons z s1 =>
        cases s2 with
        | nil => exfalso; have := unhide HL; simp at l1 l2; omega
        | cons y s2 =>
          rw [List.length_cons] at l1 l2
          have hlt : decide (pre.length < zs.length) = true := by simp; omega
          obtain ⟨b1, o1, rfl, z1, c1⟩ := (unhide HCA) (by omega)
          obtain ⟨b2, o2, rfl, z2, c2⟩ := (unhide HCB) (by have := unhide HL; omega)
          have k1 : wr.cell? ⟨b1, o1 + pre.length, none⟩ = some (.string z) := by
            rw [(unhide HB).cell (p := ⟨b1, o1 + pre.length, none⟩) z1, c1 _ (by omega), unhide HZ]
            simp
          have k2 : wr.cell? ⟨b2, o2 + pre.length, none⟩ = some (.string y) := by
            rw [(unhide HB).cell (p := ⟨b2, o2 + pre.length, none⟩) z2, c2 _ (by omega), unhide HY]
            simp
          have HZ2 : Hid (zs = (pre ++ [z]) ++ s1) := by unfold Hid; rw [unhide HZ]; simp
          have HY2 : Hid (ys = (pre ++ [y]) ++ s2) := by unfold Hid; rw [unhide HY]; simp
          clear c1 c2
          cases hzy : (z.toList == y.toList) with
          | false =>
            have HNE : Hid (decide (zs = ys) = false) := by
              unfold Hid
              rw [decide_eq_false_iff_not, unhide HZ, unhide HY]
              intro e
              have := List.append_cancel_left e
              have e1 : z = y := by injection this
              rw [e1] at hzy
              simp at hzy
            go_wp2
            go_region
            go_wp2
            go_ret
            rw [unhide HNE]
            exact ⟨rfl, (unhide HB).drew⟩
          | true =>
            have hze : z = y := by
              rw [beq_iff_eq, ByteArray.toList_eq, ByteArray.toList_eq] at hzy
              exact Go.WideShapes.bytes_inj hzy
            go_wp2
            go_region
            go_wp2
            go_roundg s1.length
            case measure => simp
            case rel =>
              refine ⟨pre ++ [z], s1, s2, unhide HZ2, by rw [hze]; exact unhide HY2, rfl, ?_, (unhide HB).drew⟩
              rw [List.length_append]
              go_num
  · have hd : ((zs.length : Int) != (ys.length : Int)) = true := by
      rw [bne_iff_ne]
      intro e
      exact hl (by exact_mod_cast e)
    have HNE : Hid (decide (zs = ys) = false) := by
      unfold Hid
      rw [decide_eq_false_iff_not]
      intro e
      exact hl (by rw [e])
    clear ca cb
    go_enter Tryz.func53, Tryz.ntmps53
    go_wp2
    go_ret
    rw [unhide HNE]
    exact ⟨rfl, Below.refl _ _⟩
end Go.Proofs.YtfkeddkfegaeiaaGreatDoor
namespace Go.Proofs.YtfkeddkfegaeiaaGreatDoor
open Go.RowKit

theorem idx_skip {pre : List ByteArray} {s : ByteArray} (h : ¬ s ∈ pre) : ∀ (suf : List ByteArray) (i : Nat), Lib.idxFromS (pre ++ suf) s i = Lib.idxFromS suf s (i + pre.length) := by
  induction pre with
  | nil => intro suf i; rfl
  | cons a r ih =>
    intro suf i
    have ha : ¬ a = s := fun e => h (by rw [e]; exact List.mem_cons_self)
    rw [List.cons_append, Lib.idxFromS, if_neg ha, ih (fun hm => h (List.mem_cons_of_mem _ hm)), List.length_cons]
    congr 1
    omega

set_option maxRecDepth 100000 in
set_option maxHeartbeats 1000000 in
theorem place_any (a : Value) (ts : List ByteArray) (s : ByteArray) (w : World) (ha : RowAt w a (textsV ts)) :
    Calls Tryz.prog 85 #[a, .string s] w fun e w' => e = .returned (.int .i64 (Lib.idxOfS ts s)) ∧ w' = w := by
  obtain ⟨ada, capa, rfl, ma, ca⟩ := ha
  rw [List.length_map] at ma ca
  unfold maxLen at ma
  simp only [List.length_map]
  have HCA := hide ca
  clear ca
  go_enter Tryz.func85, Tryz.ntmps85
  go_wp2_with fail
  go_loopg [5] ts.length (fun f i W => ∃ pre suf, ts = pre ++ suf ∧ ¬ s ∈ pre ∧ f = suf.length ∧ i = .int .i64 (pre.length : Nat) ∧ W = w)
  case atStart => exact ⟨[], ts, rfl, (fun h => by cases h), rfl, rfl, rfl⟩
  case round =>
    obtain ⟨pre, suf, h1, h2, rfl, rfl, hw⟩ := hrel
    obtain rfl := hw.symm
    have l1 : pre.length + suf.length = ts.length := by rw [h1, List.length_append]
    have HZ := hide h1
    have HN := hide h2
    clear h1 h2
    cases suf with
    | nil =>
      have hlt : decide (pre.length < ts.length) = false := by simp at l1 ⊢; omega
      go_wp2
      go_ret
      refine ⟨?_, rfl⟩
      have e : Lib.idxOfS ts s = -1 := by
        unfold Lib.idxOfS
        rw [unhide HZ, idx_skip (unhide HN)]
        rfl
      rw [e]
      rfl
    | cons z suf =>
      rw [List.length_cons] at l1
      have hlt : decide (pre.length < ts.length) = true := by simp; omega
      obtain ⟨b1, o1, rfl, z1, c1⟩ := (unhide HCA) (by omega)
      have k1 : w.cell? ⟨b1, o1 + pre.length, none⟩ = some (.string z) := by
        rw [c1 _ (by omega), unhide HZ]
        simp
      have HZ2 : Hid (ts = (pre ++ [z]) ++ suf) := by unfold Hid; rw [unhide HZ]; simp
      clear c1
      cases hzy : (z.toList == s.toList) with
      | true =>
        have hze : z = s := by
          rw [beq_iff_eq, ByteArray.toList_eq, ByteArray.toList_eq] at hzy
          exact Go.WideShapes.bytes_inj hzy
        have HE : Hid (Lib.idxOfS ts s = pre.length) := by
          unfold Hid Lib.idxOfS
          rw [unhide HZ, idx_skip (unhide HN), Lib.idxFromS, if_pos hze]
          simp
        clear hze
        go_wp2
        go_ret
        exact ⟨by rw [unhide HE]; rfl, rfl⟩
      | false =>
        have HNE : Hid (¬ s ∈ pre ++ [z]) := fun hm => by
          rcases List.mem_append.1 hm with q | q
          · exact (unhide HN) q
          · rw [List.mem_singleton] at q
            rw [q] at hzy
            simp at hzy
        go_wp2
        go_roundg suf.length
        case measure => simp
        case rel =>
          refine ⟨pre ++ [z], suf, unhide HZ2, unhide HNE, rfl, ?_, rfl⟩
          rw [List.length_append]
          go_num
end Go.Proofs.YtfkeddkfegaeiaaGreatDoor
