/-
  Part 5.
-/
import Derived.Test.YtfkeddkfegaeiaaDoorRows
import Derived.Test.YtfkeddkfegaeiaaDoorMPure
import Derived.WalkKit
import Derived.WalkSpells
import Derived.WalkLawsBesides
import Derived.Lib.SlicesS
import Derived.Deep.RegionWith
import Derived.Deep.LoopGhost
import Derived.Deep.DeepCutAuto
namespace Go.Proofs.YtfkeddkfegaeiaaDoor
open Go.RowKit

theorem hide {p : Prop} (h : p) : Hid p := h
theorem unhide {p : Prop} (h : Hid p) : p := h
theorem heap_last {w : World} {o : Obj} {n : Nat} (h : n = w.heap.size) : (w.alloc o).heap[n]? = some o := by
  subst h
  show (w.heap.push o)[w.heap.size]? = _
  rw [Array.getElem?_push, if_pos rfl]
theorem blk {w : World} {b : Nat} {c : Array Value} {t : TypeId} (h : w.heap[b]? = some (.cells c t (0, 0))) : (∀ o, w.cell? ⟨b, o, none⟩ = c[o]?) ∧ ∀ o, w.frozen? ⟨b, o, none⟩ = false := by
  refine ⟨fun o => by simp [World.cell?, h], fun o => by simp [World.frozen?, h]⟩
theorem heap_prev {w : World} {o : Obj} {n : Nat} {x : Obj} (h : w.heap[n]? = some x) : (w.alloc o).heap[n]? = some x := by
  have hn : n < w.heap.size := by
    rcases Nat.lt_or_ge n w.heap.size with h' | h'
    · exact h'
    · rw [Array.getElem?_eq_none h'] at h; cases h
  rw [Below.heap_alloc _ _ _ hn]; exact h
set_option maxHeartbeats 400000 in
theorem isLetter_any (n : Int) (w : World) : Calls Tryd.prog 37 #[.int .u8 n] w fun e w' => e = .returned (.bool (letterI n)) ∧ w' = w := by
  by_cases h1 : 97 ≤ n
  · have b1 : decide (97 ≤ n) = true := by simp [h1]
    by_cases h2 : n ≤ 122
    · have b2 : decide (n ≤ 122) = true := by simp [h2]
      go_enter Tryd.func37, Tryd.ntmps37
      go_wp2
      go_ret
      exact ⟨by simp [letterI, h1, h2], rfl⟩
    · have b2 : decide (n ≤ 122) = false := by simp; omega
      go_enter Tryd.func37, Tryd.ntmps37
      go_wp2
      go_ret
      exact ⟨by simp [letterI, b2], rfl⟩
  · have b1 : decide (97 ≤ n) = false := by simp; omega
    go_enter Tryd.func37, Tryd.ntmps37
    go_wp2
    go_ret
    exact ⟨by simp [letterI, b1], rfl⟩
set_option maxHeartbeats 1000000 in
theorem isWord_any (s : ByteArray) (w : World) : Calls Tryd.prog 38 #[.string s] w fun e w' => e = .returned (.bool (wordB s.data.toList)) ∧ w' = w := by
  go_enter Tryd.func38, Tryd.ntmps38
  go_wp2
  all_goals first
    | (exfalso; simp_all; done)
    | (go_ret; refine ⟨?_, rfl⟩; rw [← ByteArray.toList_eq]; simp only [wordB, wordList, List.any_cons, List.any_nil, *, Bool.or_true, Bool.true_or, Bool.or_false]; rfl)
set_option maxHeartbeats 400000 in
theorem leading_letter (s : ByteArray) (w : World) (hs : s.size ≤ maxLen) :
    Calls Tryd.prog 36 #[.string s, .func (.func 37) #[] #[]] w fun e w' => e = .returned (.string (s.extract 0 (lead letterI s.data.toList))) ∧ w' = w := by
  unfold maxLen at hs
  go_enter Tryd.func36, Tryd.ntmps36
  go_wp2
  go_loop [5] (fun i => ∃ k : Nat, k ≤ s.size ∧ (∀ j (hj : j < k) (hj' : j < s.data.toList.length), letterI (s.data.toList[j]).toNat = true) ∧ i = .int .i64 k) (fun i => s.size - (intOf i).toNat)
  case atStart => exact ⟨0, Nat.zero_le _, fun j hj => absurd hj (Nat.not_lt_zero _), rfl⟩
  case round =>
    obtain ⟨k, hk, hall, rfl⟩ := hrel
    have HA : Hid (∀ j (hj : j < k) (hj' : j < s.data.toList.length), letterI (s.data.toList[j]).toNat = true) := hall
    clear hall
    have hsz : s.data.toList.length = s.size := by rw [Array.length_toList]; rfl
    have HZ : Hid (s.data.toList.length = s.size) := hsz
    clear hsz
    by_cases hlt : k < s.size
    · have hb : ((s[k]).toNat : Int) = ((s.data.toList[k]'(by rw [HZ.out]; exact hlt)).toNat : Int) := rfl
      have HB : Hid (((s[k]).toNat : Int) = ((s.data.toList[k]'(by rw [HZ.out]; exact hlt)).toNat : Int)) := hb
      clear hb
      cases hp : letterI (s[k]).toNat with
      | true =>
        have HP : Hid (letterI (s[k]).toNat = true) := hp
        go_wp2_with (go_at_call 37; refine (isLetter_any _ _).mono ?_; rintro e w' ⟨rfl, rfl⟩)
        go_round
        case rel =>
          refine ⟨k + 1, by omega, fun j hj hj' => ?_, by go_num⟩
          rcases Nat.lt_or_ge j k with h | h
          · exact HA.out j h hj'
          · obtain rfl : j = k := by omega
            exact HP.out
        case measure => simp [intOf]; omega
      | false =>
        have HP : Hid (letterI (s[k]).toNat = false) := hp
        go_wp2_with (go_at_call 37; refine (isLetter_any _ _).mono ?_; rintro e w' ⟨rfl, rfl⟩)
        go_ret
        have e1 : lead letterI s.data.toList = k := lead_eq _ _ k (by rw [HZ.out]; exact hk) (fun j hj => HA.out j hj (by rw [HZ.out]; omega)) (fun _ => HP.out)
        exact ⟨by rw [e1]; rfl, rfl⟩
    · go_wp2
      go_ret
      have e1 : lead letterI s.data.toList = k := lead_eq _ _ k (by rw [HZ.out]; exact hk) (fun j hj => HA.out j hj (by rw [HZ.out]; omega)) (fun h => absurd h (by rw [HZ.out]; omega))
      exact ⟨by rw [e1]; rfl, rfl⟩
/-- a list of texts as a call's own row. -/
def Texts (w : World) (b : Nat) (xs : List ByteArray) : Prop := b < w.heap.size ∧ ∀ j, j < xs.length → w.cell? ⟨b, 0 + j, none⟩ = some (.string (xs.getD j ByteArray.empty))
theorem texts_new {w : World} {x : List ByteArray} {cs : Array Value} {t : TypeId} {n : Nat} (hn : n = w.heap.size) (h : ∀ j, j < x.length → cs[j]? = some (.string (x.getD j ByteArray.empty))) : Texts (w.alloc (.cells cs t)) n x := by
  subst hn
  refine ⟨by simp, fun j hj => ?_⟩
  rw [Nat.zero_add, (blk (heap_last (w := w) (o := .cells cs t) rfl)).1]
  exact h j hj
set_option maxHeartbeats 400000 in
theorem rletter_any (n : Int) (w : World) : Calls Tryd.prog 35 #[.int .u8 n] w fun e w' => e = .returned (.bool (letterI n)) ∧ w' = w := by
  by_cases h1 : 97 ≤ n
  · have b1 : decide (97 ≤ n) = true := by simp [h1]
    by_cases h2 : n ≤ 122
    · have b2 : decide (n ≤ 122) = true := by simp [h2]
      go_enter Tryd.func35, Tryd.ntmps35
      go_wp2
      go_ret
      exact ⟨by simp [letterI, h1, h2], rfl⟩
    · have b2 : decide (n ≤ 122) = false := by simp; omega
      go_enter Tryd.func35, Tryd.ntmps35
      go_wp2
      go_ret
      exact ⟨by simp [letterI, b2], rfl⟩
  · have b1 : decide (97 ≤ n) = false := by simp; omega
    go_enter Tryd.func35, Tryd.ntmps35
    go_wp2
    go_ret
    exact ⟨by simp [letterI, b1], rfl⟩
theorem getB_at {S : ByteArray} {pre r : List UInt8} {c : UInt8} (h : S.data.toList = pre ++ c :: r) (hlt : pre.length < S.size) : S[pre.length] = c := by
  have : S.data.toList[pre.length]? = some c := by rw [h]; simp
  rw [Array.getElem?_toList] at this
  exact (Array.getElem?_eq_some_iff.1 this).2
theorem contains_split {pre suf : List ByteArray} {s : ByteArray} (h : ¬ s ∈ pre) : Lib.containsS (pre ++ suf) s = Lib.containsS suf s := by
  cases h2 : Lib.containsS suf s with
  | true => rw [Lib.containsS_iff] at h2 ⊢; exact List.mem_append_right _ h2
  | false =>
    cases h3 : Lib.containsS (pre ++ suf) s with
    | false => rfl
    | true =>
      rw [Lib.containsS_iff, List.mem_append] at h3
      rcases h3 with h3 | h3
      · exact (h h3).elim
      · rw [(Lib.containsS_iff _ _).2 h3] at h2; cases h2
set_option maxRecDepth 100000 in
set_option maxHeartbeats 1000000 in
theorem in_any (s : ByteArray) (w : World) (b : Nat) (xs : List ByteArray) (hx : Texts w b xs) (hl : xs.length ≤ 100) :
    Calls Tryd.prog 33 #[.string s, .slice (some ⟨b, 0, none⟩) xs.length xs.length] w fun e w' => e = .returned (.bool (Lib.containsS xs s)) ∧ w' = w := by
  obtain ⟨zb, hc⟩ := hx
  have HC := hide hc
  clear hc
  go_enter Tryd.func33, Tryd.ntmps33
  go_wp2_with fail
  go_loop [5] (fun i => ∃ pre suf, xs = pre ++ suf ∧ i = .int .i64 pre.length ∧ ¬ s ∈ pre) (fun i => xs.length - (intOf i).toNat)
  case atStart => exact ⟨[], xs, rfl, rfl, by simp⟩
  case round =>
    obtain ⟨pre, suf, hxs, rfl, hn⟩ := hrel
    have HN := hide hn
    have HXS := hide hxs
    clear hn hxs
    match suf, HXS with
    | [], HXS =>
      have hge : xs.length ≤ pre.length := by rw [unhide HXS]; simp
      have hnl : ¬ ((pre.length : Int) < (xs.length : Int)) := by omega
      have hd : decide ((pre.length : Int) < (xs.length : Int)) = false := by simp; omega
      have HF : Hid (Lib.containsS xs s = false) := by
        unfold Hid
        rw [unhide HXS, contains_split (unhide HN)]
        rfl
      go_wp2
      go_ret
      rw [unhide HF]
      exact ⟨rfl, rfl⟩
    | x :: r, HXS =>
      have hlt : pre.length < xs.length := by rw [unhide HXS]; simp
      have hd : decide ((pre.length : Int) < (xs.length : Int)) = true := by simp; omega
      have hcl : w.cell? ⟨b, 0 + pre.length, none⟩ = some (.string x) := by
        rw [(unhide HC) pre.length hlt, unhide HXS]
        simp
      rw [Nat.zero_add] at hcl
      by_cases he : x = s
      · subst he
        have HT : Hid (Lib.containsS xs x = true) := by
          unfold Hid
          rw [Lib.containsS_iff, unhide HXS]
          simp
        go_wp2
        go_ret
        rw [unhide HT]
        exact ⟨rfl, rfl⟩
      · have hq : (x.toList == s.toList) = false := by
          simp only [beq_eq_false_iff_ne, ne_eq]
          intro e
          rw [ByteArray.toList_eq, ByteArray.toList_eq] at e
          exact he (Go.WideShapes.bytes_inj e)
        have HE := hide he
        clear he
        go_wp2
        go_round
        case rel => exact ⟨pre ++ [x], r, by rw [unhide HXS]; simp, by simp, fun hm => (List.mem_append.1 hm).elim (unhide HN) (fun h => unhide HE (List.mem_singleton.1 h).symm)⟩
        case measure => simp [intOf]; omega
def words18 : List ByteArray := wordList.map fun l => ⟨l.toArray⟩
theorem words_in (s : ByteArray) : Lib.containsS words18 s = wordB s.data.toList := by
  rw [Bool.eq_iff_iff, Lib.containsS_iff]
  unfold words18 wordB
  simp only [List.mem_map, List.any_eq_true, beq_iff_eq]
  constructor
  · rintro ⟨l, hl, rfl⟩
    exact ⟨l, hl, by simp⟩
  · rintro ⟨l, hl, e⟩
    exact ⟨l, hl, Go.WideShapes.bytes_inj (by simp [e])⟩
set_option maxRecDepth 100000 in
set_option maxHeartbeats 1000000 in
theorem Words_any (w : World) :
    Calls Tryd.prog 34 #[] w fun e w' => e = .returned (.slice (some ⟨w.heap.size, 0, none⟩) 18 18) ∧ Texts w' w.heap.size words18 ∧ Below w.heap.size w w' := by
  go_enter Tryd.func34, Tryd.ntmps34
  go_wp2
  go_ret
  refine ⟨rfl, ?_, (Below.refl _ _).alloc (Nat.le_refl _) _⟩
  exact texts_new rfl (fun j hj => by
    match j, hj with
    | 0, _ | 1, _ | 2, _ | 3, _ | 4, _ | 5, _ | 6, _ | 7, _ | 8, _ | 9, _ | 10, _ | 11, _ | 12, _ | 13, _ | 14, _ | 15, _ | 16, _ | 17, _ => rfl
    | _ + 18, h => exact absurd h (by simp [words18, wordList]))

/-- is a text a name? -/
def nameB (l : List UInt8) : Bool := decide (0 < l.length) && decide (l.length ≤ 8) && l.all (fun c => letterI c.toNat) && !wordB l

theorem nameB_no {l : List UInt8} (h : l.length < 1 ∨ 8 < l.length ∨ wordB l = true) : nameB l = false := by
  unfold nameB
  rcases h with h | h | h
  · rw [decide_eq_false (by omega)]; rfl
  · rw [show decide (l.length ≤ 8) = false from decide_eq_false (by omega), Bool.and_false]; rfl
  · rw [h, Bool.not_true, Bool.and_false]

set_option maxRecDepth 100000 in
set_option maxHeartbeats 1000000 in
theorem risName_any (s : ByteArray) (w : World) :
    Calls Tryd.prog 23 #[.string s] w fun e w' => e = .returned (.bool (nameB s.data.toList)) ∧ Below w.heap.size w w' := by
  have hsz : s.data.toList.length = s.size := by rw [Array.length_toList]; rfl
  go_enter Tryd.func23, Tryd.ntmps23
  go_wp2_with fail
  refine (Words_any _).mono ?_
  rintro e w1 ⟨rfl, htx, hb⟩
  have HTX := hide htx
  have HB := hide hb
  clear htx hb
  go_wp2_with fail
  refine (in_any s _ _ words18 (by exact unhide HTX) (by decide)).mono ?_
  rintro e w2 ⟨rfl, hw2⟩
  obtain rfl := hw2.symm
  rw [words_in]
  cases hwb : wordB s.data.toList with
  | true =>
    have HN := hide (nameB_no (Or.inr (Or.inr hwb)))
    by_cases h1 : s.size < 1
    · have hd : decide ((s.size : Int) < 1) = true := by simp; omega
      go_wp2
      go_ret
      exact ⟨by rw [unhide HN]; rfl, unhide HB⟩
    · have hd : decide ((s.size : Int) < 1) = false := by simp; omega
      by_cases h8 : 8 < s.size
      · have hd8 : decide ((8 : Int) < (s.size : Int)) = true := by simp; omega
        go_wp2
        go_ret
        exact ⟨by rw [unhide HN]; rfl, unhide HB⟩
      · have hd8 : decide ((8 : Int) < (s.size : Int)) = false := by simp; omega
        go_wp2
        go_ret
        exact ⟨by rw [unhide HN]; rfl, unhide HB⟩
  | false =>
    by_cases h1 : s.size < 1
    · have hd : decide ((s.size : Int) < 1) = true := by simp; omega
      have HN := hide (nameB_no (l := s.data.toList) (Or.inl (by omega)))
      go_wp2
      go_ret
      exact ⟨by rw [unhide HN]; rfl, unhide HB⟩
    · have hd : decide ((s.size : Int) < 1) = false := by simp; omega
      by_cases h8 : 8 < s.size
      · have hd8 : decide ((8 : Int) < (s.size : Int)) = true := by simp; omega
        have HN := hide (nameB_no (l := s.data.toList) (Or.inr (Or.inl (by omega))))
        go_wp2
        go_ret
        exact ⟨by rw [unhide HN]; rfl, unhide HB⟩
      · have hd8 : decide ((8 : Int) < (s.size : Int)) = false := by simp; omega
        have HWB := hide hwb
        clear hwb
        go_wp2_with fail
        go_loopg [4] s.size (fun f i W => ∃ pre suf, s.data.toList = pre ++ suf ∧ f = suf.length ∧ i = .int .i64 (pre.length : Nat) ∧ pre.all (fun c => letterI c.toNat) = true ∧ W = w1)
        case atStart => exact ⟨[], s.data.toList, rfl, hsz.symm, rfl, rfl, rfl⟩
        case round =>
          obtain ⟨pre, suf, hs, rfl, rfl, hall, rfl⟩ := hrel
          have hl : pre.length + suf.length = s.size := by rw [← hsz, hs, List.length_append]
          have HALL := hide hall
          have HS := hide hs
          clear hall hs
          cases suf with
          | nil =>
            have hlt : decide (pre.length < s.size) = false := by simp at hl ⊢; omega
            go_wp2
            go_ret
            refine ⟨?_, unhide HB⟩
            have e : s.data.toList = pre := by rw [unhide HS, List.append_nil]
            rw [e]
            unfold nameB
            rw [unhide HALL, ← e, unhide HWB, decide_eq_true (by omega), decide_eq_true (by omega)]
            rfl
          | cons c suf =>
            rw [List.length_cons] at hl
            have hlt : decide (pre.length < s.size) = true := by simp; omega
            have hlt2 : pre.length < s.size := by omega
            have hc := getB_at (unhide HS) hlt2
            go_wp2_with fail
            refine (rletter_any _ _).mono ?_
            rintro e w3 ⟨rfl, hw3⟩
            obtain rfl := hw3.symm
            have hsp : s.data.toList = (pre ++ [c]) ++ suf := by rw [unhide HS]; simp
            have HSP := hide hsp
            clear hc hsp
            cases hlc : letterI (c.toNat : Int) with
            | false =>
              have HLC := hide hlc
              clear hlc
              go_wp2
              go_ret
              refine ⟨?_, unhide HB⟩
              have hn : nameB s.data.toList = false := by
                unfold nameB
                rw [unhide HS, List.all_append, List.all_cons, unhide HLC, Bool.false_and, Bool.and_false, Bool.and_false]
                rfl
              rw [hn]
              rfl
            | true =>
              have HLC := hide hlc
              clear hlc
              go_wp2
              go_roundg suf.length
              case measure => simp
              case rel =>
                exact ⟨pre ++ [c], suf, unhide HSP, rfl, by rw [List.length_append]; go_num, by rw [List.all_append, unhide HALL, List.all_cons, unhide HLC]; rfl, rfl⟩
theorem take_while_all (l : List UInt8) : (l.take (lead letterI l) == l) = l.all (fun c => letterI c.toNat) := by
  rw [Bool.eq_iff_iff, beq_iff_eq, List.all_eq_true]
  have e : l.take (lead letterI l) = l.takeWhile (fun c => letterI c.toNat) := by
    unfold lead
    exact (List.prefix_iff_eq_take.1 (List.takeWhile_prefix _)).symm
  rw [e]
  constructor
  · intro h c hc
    rw [← h] at hc
    have := List.all_takeWhile (p := fun c => letterI (UInt8.toNat c)) (l := l)
    rw [List.all_eq_true] at this
    exact this c hc
  · intro h
    induction l with
    | nil => rfl
    | cons a r ih =>
      rw [List.takeWhile_cons, if_pos (h a List.mem_cons_self), ih (by unfold lead; exact (List.prefix_iff_eq_take.1 (List.takeWhile_prefix _)).symm) (fun c hc => h c (List.mem_cons_of_mem _ hc))]

set_option maxRecDepth 100000 in
set_option maxHeartbeats 1000000 in
theorem isName_any (s : ByteArray) (w : World) :
    Calls Tryd.prog 25 #[.string s] w fun e w' => e = .returned (.bool (nameB s.data.toList)) ∧ w' = w := by
  have hsz : s.data.toList.length = s.size := by rw [Array.length_toList]; rfl
  have hnil : (s.toList == []) = decide (s.size = 0) := by
    rw [Bool.eq_iff_iff, beq_iff_eq, decide_eq_true_eq, ByteArray.toList_eq, ← hsz, List.length_eq_zero_iff]
  by_cases h0 : s.size = 0
  · have hd : (s.toList == []) = true := by rw [hnil]; simp [h0]
    have HN := hide (nameB_no (l := s.data.toList) (Or.inl (by omega)))
    clear hnil
    go_enter Tryd.func25, Tryd.ntmps25
    go_wp2
    go_ret
    exact ⟨by rw [unhide HN]; rfl, rfl⟩
  · have hd : (s.toList == []) = false := by rw [hnil]; simp [h0]
    clear hnil
    by_cases h8 : s.size ≤ 8
    · have hd8 : decide ((s.size : Int) ≤ 8) = true := by simp; omega
      have hta := take_while_all s.data.toList
      have hcut : (s.extract 0 (lead letterI s.data.toList)).toList = s.data.toList.take (lead letterI s.data.toList) := by
        rw [ByteArray.toList_eq, ByteArray.data_extract, Array.toList_extract]
        simp
      go_enter Tryd.func25, Tryd.ntmps25
      go_wp2_with fail
      refine (leading_letter s _ (by unfold maxLen; omega)).mono ?_
      rintro e w1 ⟨rfl, hw1⟩
      obtain rfl := hw1.symm
      have hq : ((s.extract 0 (lead letterI s.data.toList)).toList == s.toList) = s.data.toList.all (fun c => letterI c.toNat) := by rw [hcut, ByteArray.toList_eq, hta]
      clear hcut hta
      generalize s.extract 0 (lead letterI s.data.toList) = r at *
      cases hall : s.data.toList.all (fun c => letterI c.toNat) with
      | false =>
        rw [hall] at hq
        have HN : Hid (nameB s.data.toList = false) := by unfold Hid nameB; rw [hall, Bool.and_false]; rfl
        clear hall
        go_wp2
        go_ret
        exact ⟨by rw [unhide HN]; rfl, rfl⟩
      | true =>
        rw [hall] at hq
        have HN : Hid (nameB s.data.toList = !wordB s.data.toList) := by
          unfold Hid nameB
          rw [hall, decide_eq_true (by omega), decide_eq_true (by omega)]
          rfl
        clear hall
        go_wp2_with fail
        refine (isWord_any s _).mono ?_
        rintro e w1 ⟨rfl, hw1⟩
        obtain rfl := hw1.symm
        generalize wordB s.data.toList = wb at *
        go_wp2
        go_ret
        exact ⟨by rw [unhide HN]; rfl, rfl⟩
    · have hd8 : decide ((s.size : Int) ≤ 8) = false := by simp; omega
      have HN := hide (nameB_no (l := s.data.toList) (Or.inr (Or.inl (by omega))))
      go_enter Tryd.func25, Tryd.ntmps25
      go_wp2
      go_ret
      exact ⟨by rw [unhide HN]; rfl, rfl⟩

end Go.Proofs.YtfkeddkfegaeiaaDoor
