/-
  Part 4.
-/
import Derived.Test.YtfkeddkfegaeiaaGreatDoorMvScanA
import Derived.Deep.RegionWith
namespace Go.Proofs.YtfkeddkfegaeiaaGreatDoor
open Go.RowKit
abbrev eByte : Nat := 1
abbrev eNumber : Nat := 2
abbrev eSyntax : Nat := 3
abbrev eMany : Nat := 4
/-- an error's value: variable e's. -/
abbrev errV (a : Nat → Addr) (e : Nat) : Value := .iface 496 (.pointer (some (a e)))
abbrev tkVal (t : Tk) : Value := .agg #[.int .i64 t.place, .int .i64 t.kind, .string t.text, .int .i64 t.value]
abbrev tk0 : Value := .agg #[.int .i64 0, .int .i64 0, .string ⟨#[]⟩, .int .i64 0]
def scanOneP (s : ByteArray) (i : Nat) : Except (Nat × Nat) Tk :=
  let rest := s.extract i s.size
  let l := rest.data.toList
  if letterI (l.headD 0).toNat then
    let t := rest.extract 0 (lead letterI l)
    if wordB t.data.toList then .ok ⟨i, 1, t, 0⟩ else if 8 < t.size then .error (i, eSyntax) else .ok ⟨i, 2, t, 0⟩
  else if digitI (l.headD 0).toNat then
    let t := rest.extract 0 (lead digitI l)
    match numOf t.data.toList with
    | some v => .ok ⟨i, 3, t, v⟩
    | none => .error (i, eNumber)
  else if signLen l = 0 then .error (i, eByte) else .ok ⟨i, 1, rest.extract 0 (signLen l), 0⟩
/-- the bytes from i on, as a text of its own. -/
theorem rest_size (s : ByteArray) (i : Nat) : (s.extract i s.size).size = s.size - i := by simp [ByteArray.size_extract]
theorem AtBlk.set {w : World} {b : Nat} {p : Int} {ev : Value} (h : AtBlk w b p ev) {q : Addr} {u : Value} (hq : q.block ≠ b) : AtBlk (w.setCell q u) b p ev := by
  unfold AtBlk at h ⊢
  rw [Below.heap_setCell _ _ _ _ (by omega)]; exact h
theorem AtBlk.alloc {w : World} {b : Nat} {p : Int} {ev : Value} (h : AtBlk w b p ev) (o : Obj) : AtBlk (w.alloc o) b p ev := heap_prev h
theorem AtBlk.keep {w w' : World} {b : Nat} {p : Int} {ev : Value} (h : AtBlk w b p ev) {B : Nat} (hb : Below B w w') (hB : b < B) : AtBlk w' b p ev := (hb.block b hB).trans h
set_option maxHeartbeats 400000 in
theorem scanOne_word (s t : ByteArray) (i : Nat) (w : World) (hi : i < s.size) (hs : s.size ≤ 1000) (HT : Hid (t = (s.extract i s.size).extract 0 (lead letterI (s.extract i s.size).data.toList))) (HL : Hid (letterI (((s.extract i s.size).data.toList.headD 0).toNat : Int) = true)) (HW : Hid (wordB t.data.toList = true)) :
    Calls Tryz.prog 95 #[.string s, .int .i64 i] w fun e w' => e = .returned (.tuple #[.agg #[.int .i64 i, .int .i64 1, .string t, .int .i64 0], .nilIface]) ∧ Below w.heap.size w w' := by
  have hz : (s.extract i s.size).size = s.size - i := rest_size s i
  have HZ := hide hz
  clear hz
  go_enter Tryz.func95, Tryz.ntmps95
  go_wp2_with fail
  have hz0 : 0 < (s.extract i s.size).size := by rw [unhide HZ]; omega
  have hc0 := head0 _ hz0
  generalize (s.extract i s.size)[0]'hz0 = c at *
  rw [hc0] at HL
  have hl := unhide HL
  clear HL hc0
  have hm : (s.extract i s.size).size ≤ maxLen := by rw [unhide HZ]; unfold maxLen; omega
  have HM := hide hm
  clear hm
  have HZ0 := hide hz0
  clear hz0
  generalize s.extract i s.size = r at *
  refine (isLetter_any _ _).mono ?_
  rintro e w' ⟨rfl, rfl⟩
  go_wp2_with fail
  go_region_with (first | (go_at_call 93; refine (leading_letter _ _ (unhide HM)).mono ?_; rintro e w' ⟨rfl, rfl⟩; rw [← unhide HT]) | (go_at_call 143; refine (letters_word _ _ _ (unhide HW)).mono ?_; rintro e w1 ⟨rfl, hb⟩; have hz1 : w.heap.size + 1 < w1.heap.size := (by have := hb.size; simp at this; omega); have hz2 : w.heap.size < w1.heap.size := (by omega); have hz3 : w.heap.size ≤ w1.heap.size := (by omega); obtain ⟨k0, f0⟩ := blk ((hb.block w.heap.size (by simp; omega)).trans (heap_prev (heap_last rfl))); have HB := hide ((((Below.refl w.heap.size w).alloc (Nat.le_refl _) _).alloc (by simp) _).drew.trans (hb.mono (by simp; omega))); clear hb))
  all_goals
    go_wp2
    refine bodyPost_ret (v := .tuple #[.agg #[.int .i64 i, .int .i64 1, .string t, .int .i64 0], .nilIface]) (by simp [results, Tryz.results95, go_sem, k0]) rfl ⟨rfl, ?_⟩
    repeat (first | with_reducible exact unhide HB | refine Below.setCell ?_ (by simp) _)
set_option maxHeartbeats 400000 in
theorem scanOne_name (s t : ByteArray) (i : Nat) (w : World) (hi : i < s.size) (hs : s.size ≤ 1000) (HT : Hid (t = (s.extract i s.size).extract 0 (lead letterI (s.extract i s.size).data.toList))) (HL : Hid (letterI (((s.extract i s.size).data.toList.headD 0).toNat : Int) = true)) (HW : Hid (wordB t.data.toList = false)) (HS : Hid (t.size ≤ 8)) :
    Calls Tryz.prog 95 #[.string s, .int .i64 i] w fun e w' => e = .returned (.tuple #[.agg #[.int .i64 i, .int .i64 2, .string t, .int .i64 0], .nilIface]) ∧ Below w.heap.size w w' := by
  have hz : (s.extract i s.size).size = s.size - i := rest_size s i
  have HZ := hide hz
  clear hz
  go_enter Tryz.func95, Tryz.ntmps95
  go_wp2_with fail
  have hz0 : 0 < (s.extract i s.size).size := by rw [unhide HZ]; omega
  have hc0 := head0 _ hz0
  generalize (s.extract i s.size)[0]'hz0 = c at *
  rw [hc0] at HL
  have hl := unhide HL
  clear HL hc0
  have hm : (s.extract i s.size).size ≤ maxLen := by rw [unhide HZ]; unfold maxLen; omega
  have HM := hide hm
  clear hm
  have HZ0 := hide hz0
  clear hz0
  generalize s.extract i s.size = r at *
  refine (isLetter_any _ _).mono ?_
  rintro e w' ⟨rfl, rfl⟩
  go_wp2_with fail
  go_region_with (first | (go_at_call 93; refine (leading_letter _ _ (unhide HM)).mono ?_; rintro e w' ⟨rfl, rfl⟩; rw [← unhide HT]) | (go_at_call 143; refine (letters_name _ _ _ (unhide HW) (unhide HS)).mono ?_; rintro e w1 ⟨rfl, hb⟩; have hz1 : w.heap.size + 1 < w1.heap.size := (by have := hb.size; simp at this; omega); have hz2 : w.heap.size < w1.heap.size := (by omega); have hz3 : w.heap.size ≤ w1.heap.size := (by omega); obtain ⟨k0, f0⟩ := blk ((hb.block w.heap.size (by simp; omega)).trans (heap_prev (heap_last rfl))); have HB := hide ((((Below.refl w.heap.size w).alloc (Nat.le_refl _) _).alloc (by simp) _).drew.trans (hb.mono (by simp; omega))); clear hb))
  all_goals
    go_wp2
    refine bodyPost_ret (v := .tuple #[.agg #[.int .i64 i, .int .i64 2, .string t, .int .i64 0], .nilIface]) (by simp [results, Tryz.results95, go_sem, k0]) rfl ⟨rfl, ?_⟩
    repeat (first | with_reducible exact unhide HB | refine Below.setCell ?_ (by simp) _)
set_option maxHeartbeats 400000 in
theorem scanOne_long (s t : ByteArray) (i : Nat) (a : Nat → Addr) (B : Nat) (w : World) (HE : Hid (Env a B w)) (hi : i < s.size) (hs : s.size ≤ 1000) (HT : Hid (t = (s.extract i s.size).extract 0 (lead letterI (s.extract i s.size).data.toList))) (HL : Hid (letterI (((s.extract i s.size).data.toList.headD 0).toNat : Int) = true)) (HW : Hid (wordB t.data.toList = false)) (HS : Hid (8 < t.size)) :
    Calls Tryz.prog 95 #[.string s, .int .i64 i] w fun e w' => ∃ b, e = .returned (.tuple #[tk0, .iface 110 (.pointer (some ⟨b, 0, none⟩))]) ∧ w.heap.size ≤ b ∧ b < w'.heap.size ∧ AtBlk w' b i (errV a eSyntax) ∧ Below w.heap.size w w' := by
  have hz : (s.extract i s.size).size = s.size - i := rest_size s i
  have HZ := hide hz
  clear hz
  go_enter Tryz.func95, Tryz.ntmps95
  go_wp2_with fail
  have hz0 : 0 < (s.extract i s.size).size := by rw [unhide HZ]; omega
  have hc0 := head0 _ hz0
  generalize (s.extract i s.size)[0]'hz0 = c at *
  rw [hc0] at HL
  have hl := unhide HL
  clear HL hc0
  have hm : (s.extract i s.size).size ≤ maxLen := by rw [unhide HZ]; unfold maxLen; omega
  have HM := hide hm
  clear hm
  have HZ0 := hide hz0
  clear hz0
  generalize s.extract i s.size = r at *
  refine (isLetter_any _ _).mono ?_
  rintro e w' ⟨rfl, rfl⟩
  go_wp2_with fail
  go_region_with (first | (go_at_call 93; refine (leading_letter _ _ (unhide HM)).mono ?_; rintro e w' ⟨rfl, rfl⟩; rw [← unhide HT]) | (go_at_call 143; refine (letters_long _ _ a B _ (by exact (((unhide HE).alloc _).alloc _).drew) (unhide HW) (unhide HS)).mono ?_; rintro e w1 ⟨b, rfl, hb1, hb2, hat, hb⟩; have HAT := hide hat; clear hat; have hb3 : w.heap.size + 1 < b := (by have := hb1; simp at this; omega); clear hb1; have hz1 : w.heap.size + 1 < w1.heap.size := (by have := hb.size; simp at this; omega); have hz2 : w.heap.size < w1.heap.size := (by omega); have hz3 : w.heap.size ≤ w1.heap.size := (by omega); obtain ⟨k0, f0⟩ := blk ((hb.block w.heap.size (by simp; omega)).trans (heap_prev (heap_last rfl))); have HB := hide ((((Below.refl w.heap.size w).alloc (Nat.le_refl _) _).alloc (by simp) _).drew.trans (hb.mono (by simp; omega))); clear hb))
  all_goals
    go_wp2
    refine bodyPost_ret (v := .tuple #[tk0, .iface 110 (.pointer (some ⟨b, 0, none⟩))]) (by simp [results, Tryz.results95, go_sem, k0]) rfl ⟨b, rfl, by omega, by simpa [World.setCell] using hb2, ?_, ?_⟩
    · exact AtBlk.set (AtBlk.set (AtBlk.set (AtBlk.set (unhide HAT) (by show w.heap.size ≠ b; omega)) (by show w.heap.size ≠ b; omega)) (by show w.heap.size ≠ b; omega)) (by show w.heap.size ≠ b; omega)
    repeat (first | with_reducible exact unhide HB | refine Below.setCell ?_ (by simp) _)
set_option maxHeartbeats 400000 in
theorem scanOne_num (s t : ByteArray) (i : Nat) (a : Nat → Addr) (B : Nat) (w : World) (HE : Hid (Env a B w)) (hi : i < s.size) (hs : s.size ≤ 1000) (HT : Hid (t = (s.extract i s.size).extract 0 (lead digitI (s.extract i s.size).data.toList))) (HL : Hid (letterI (((s.extract i s.size).data.toList.headD 0).toNat : Int) = false)) (HD : Hid (digitI (((s.extract i s.size).data.toList.headD 0).toNat : Int) = true)) (v : Int) (HN : Hid (numOf t.data.toList = some v)) (HS : Hid (t.size ≤ 1000)) :
    Calls Tryz.prog 95 #[.string s, .int .i64 i] w fun e w' => e = .returned (.tuple #[.agg #[.int .i64 i, .int .i64 3, .string t, .int .i64 v], .nilIface]) ∧ Below w.heap.size w w' := by
  have hz : (s.extract i s.size).size = s.size - i := rest_size s i
  have HZ := hide hz
  clear hz
  go_enter Tryz.func95, Tryz.ntmps95
  go_wp2_with fail
  have hz0 : 0 < (s.extract i s.size).size := by rw [unhide HZ]; omega
  have hc0 := head0 _ hz0
  generalize (s.extract i s.size)[0]'hz0 = c at *
  rw [hc0] at HL
  have hl := unhide HL
  clear HL hc0
  have hm : (s.extract i s.size).size ≤ maxLen := by rw [unhide HZ]; unfold maxLen; omega
  have HM := hide hm
  clear hm
  have HZ0 := hide hz0
  clear hz0
  generalize s.extract i s.size = r at *
  refine (isLetter_any _ _).mono ?_
  rintro e w' ⟨rfl, rfl⟩
  go_wp2_with fail
  have hd : digitI ((r[0]'(unhide HZ0)).toNat : Int) = true := by rw [← head0 _ (unhide HZ0)]; exact unhide HD
  refine (isDigit_any _ _).mono ?_
  rintro e w' ⟨rfl, rfl⟩
  go_wp2_with fail
  go_region_with (first | (go_at_call 93; refine (leading_digit _ _ (unhide HM)).mono ?_; rintro e w' ⟨rfl, rfl⟩; rw [← unhide HT]) | (go_at_call 145; refine (digits_num _ _ a B _ (by exact (((unhide HE).alloc _).alloc _).drew) (unhide HS) v (unhide HN)).mono ?_; rintro e w1 ⟨rfl, hb⟩; have hz1 : w.heap.size + 1 < w1.heap.size := (by have := hb.size; simp at this; omega); have hz2 : w.heap.size < w1.heap.size := (by omega); have hz3 : w.heap.size ≤ w1.heap.size := (by omega); obtain ⟨k0, f0⟩ := blk ((hb.block w.heap.size (by simp; omega)).trans (heap_prev (heap_last rfl))); have HB := hide ((((Below.refl w.heap.size w).alloc (Nat.le_refl _) _).alloc (by simp) _).drew.trans (hb.mono (by simp; omega))); clear hb))
  all_goals
    go_wp2
    refine bodyPost_ret (v := .tuple #[.agg #[.int .i64 i, .int .i64 3, .string t, .int .i64 v], .nilIface]) (by simp [results, Tryz.results95, go_sem, k0]) rfl ⟨rfl, ?_⟩
    repeat (first | with_reducible exact unhide HB | refine Below.setCell ?_ (by simp) _)
set_option maxHeartbeats 400000 in
theorem scanOne_great (s t : ByteArray) (i : Nat) (a : Nat → Addr) (B : Nat) (w : World) (HE : Hid (Env a B w)) (hi : i < s.size) (hs : s.size ≤ 1000) (HT : Hid (t = (s.extract i s.size).extract 0 (lead digitI (s.extract i s.size).data.toList))) (HL : Hid (letterI (((s.extract i s.size).data.toList.headD 0).toNat : Int) = false)) (HD : Hid (digitI (((s.extract i s.size).data.toList.headD 0).toNat : Int) = true)) (HX : Hid (Lib.atoiAll t.data.toList ≠ .«syntax»)) (HN : Hid (numOf t.data.toList = none)) (HS : Hid (t.size ≤ 1000)) :
    Calls Tryz.prog 95 #[.string s, .int .i64 i] w fun e w' => ∃ b, e = .returned (.tuple #[tk0, .iface 110 (.pointer (some ⟨b, 0, none⟩))]) ∧ w.heap.size ≤ b ∧ b < w'.heap.size ∧ AtBlk w' b i (errV a eNumber) ∧ Below w.heap.size w w' := by
  have hz : (s.extract i s.size).size = s.size - i := rest_size s i
  have HZ := hide hz
  clear hz
  go_enter Tryz.func95, Tryz.ntmps95
  go_wp2_with fail
  have hz0 : 0 < (s.extract i s.size).size := by rw [unhide HZ]; omega
  have hc0 := head0 _ hz0
  generalize (s.extract i s.size)[0]'hz0 = c at *
  rw [hc0] at HL
  have hl := unhide HL
  clear HL hc0
  have hm : (s.extract i s.size).size ≤ maxLen := by rw [unhide HZ]; unfold maxLen; omega
  have HM := hide hm
  clear hm
  have HZ0 := hide hz0
  clear hz0
  generalize s.extract i s.size = r at *
  refine (isLetter_any _ _).mono ?_
  rintro e w' ⟨rfl, rfl⟩
  go_wp2_with fail
  have hd : digitI ((r[0]'(unhide HZ0)).toNat : Int) = true := by rw [← head0 _ (unhide HZ0)]; exact unhide HD
  refine (isDigit_any _ _).mono ?_
  rintro e w' ⟨rfl, rfl⟩
  go_wp2_with fail
  go_region_with (first | (go_at_call 93; refine (leading_digit _ _ (unhide HM)).mono ?_; rintro e w' ⟨rfl, rfl⟩; rw [← unhide HT]) | (go_at_call 145; refine (digits_bad _ _ a B _ (by exact (((unhide HE).alloc _).alloc _).drew) (unhide HS) (unhide HX) (unhide HN)).mono ?_; rintro e w1 ⟨b, rfl, hb1, hb2, hat, hb⟩; have HAT := hide hat; clear hat; have hb3 : w.heap.size + 1 < b := (by have := hb1; simp at this; omega); clear hb1; have hz1 : w.heap.size + 1 < w1.heap.size := (by have := hb.size; simp at this; omega); have hz2 : w.heap.size < w1.heap.size := (by omega); have hz3 : w.heap.size ≤ w1.heap.size := (by omega); obtain ⟨k0, f0⟩ := blk ((hb.block w.heap.size (by simp; omega)).trans (heap_prev (heap_last rfl))); have HB := hide ((((Below.refl w.heap.size w).alloc (Nat.le_refl _) _).alloc (by simp) _).drew.trans (hb.mono (by simp; omega))); clear hb))
  all_goals
    go_wp2
    refine bodyPost_ret (v := .tuple #[tk0, .iface 110 (.pointer (some ⟨b, 0, none⟩))]) (by simp [results, Tryz.results95, go_sem, k0]) rfl ⟨b, rfl, by omega, by simpa [World.setCell] using hb2, ?_, ?_⟩
    · exact AtBlk.set (AtBlk.set (AtBlk.set (AtBlk.set (unhide HAT) (by show w.heap.size ≠ b; omega)) (by show w.heap.size ≠ b; omega)) (by show w.heap.size ≠ b; omega)) (by show w.heap.size ≠ b; omega)
    repeat (first | with_reducible exact unhide HB | refine Below.setCell ?_ (by simp) _)
end Go.Proofs.YtfkeddkfegaeiaaGreatDoor
namespace Go.Proofs.YtfkeddkfegaeiaaGreatDoor
open Go.RowKit
theorem parse_digits : ∀ (l : List UInt8) (n : Nat), (∀ c, c ∈ l → digitI c.toNat = true) → Lib.parseUint10 n l ≠ .«syntax»
  | [], n, _ => by simp [Lib.parseUint10]
  | c :: r, n, h => by
    have hc := h c List.mem_cons_self
    unfold digitI at hc
    simp only [Bool.and_eq_true, decide_eq_true_eq] at hc
    unfold Lib.parseUint10
    rw [if_pos (by omega)]
    split
    · simp
    · split
      · simp
      · exact parse_digits r _ (fun d hd => h d (List.mem_cons_of_mem _ hd))
theorem no_syntax {l : List UInt8} (h : ∀ c, c ∈ l → digitI c.toNat = true) (hne : l ≠ []) : Lib.atoiAll l ≠ .«syntax» := by
  match l, hne with
  | c :: r, _ =>
    have hc := h c List.mem_cons_self
    unfold digitI at hc
    simp only [Bool.and_eq_true, decide_eq_true_eq] at hc
    have hp := parse_digits (c :: r) 0 h
    unfold Lib.atoiAll
    simp only
    rw [if_neg (by omega : ¬ (c.toNat = 43 ∨ c.toNat = 45))]
    unfold Lib.parseMag
    rw [if_neg (by simp)]
    cases hq : Lib.parseUint10 0 (c :: r) with
    | «syntax» => exact (hp hq).elim
    | range => simp
    | ok u =>
      simp only
      split
      · simp
      · split <;> simp
theorem while_dig (l : List UInt8) : ∀ c, c ∈ l.takeWhile (fun c => digitI c.toNat) → digitI c.toNat = true := by
  induction l with
  | nil => intro c hc; cases hc
  | cons a r ih =>
    intro c hc
    rw [List.takeWhile_cons] at hc
    by_cases ha : digitI a.toNat = true
    · rw [if_pos ha] at hc
      rcases List.mem_cons.1 hc with rfl | hc
      · exact ha
      · exact ih c hc
    · rw [if_neg ha] at hc; cases hc
theorem lead_no_syntax (r : ByteArray) (hr : 0 < r.size) (hd : digitI ((r.data.toList.headD 0).toNat : Int) = true) : Lib.atoiAll (r.extract 0 (lead digitI r.data.toList)).data.toList ≠ .«syntax» := by
  have e : (r.extract 0 (lead digitI r.data.toList)).data.toList = r.data.toList.takeWhile (fun c => digitI c.toNat) := by
    rw [ByteArray.data_extract, Array.toList_extract]
    unfold lead
    simp only [List.extract_eq_take_drop, List.drop_zero, Nat.sub_zero]
    exact (List.prefix_iff_eq_take.1 (List.takeWhile_prefix _)).symm
  rw [e]
  refine no_syntax (while_dig _) ?_
  cases hl : r.data.toList with
  | nil =>
    have := congrArg List.length hl
    rw [Array.length_toList, List.length_nil] at this
    have h2 : r.size = r.data.size := rfl
    omega
  | cons c t =>
    rw [hl] at hd
    simp only [List.headD_cons] at hd
    rw [List.takeWhile_cons, if_pos hd]
    simp
set_option maxHeartbeats 400000 in
theorem scanOne_sign (s t : ByteArray) (i : Nat) (w : World) (hi : i < s.size) (hs : s.size ≤ 1000) (HT : Hid (t = (s.extract i s.size).extract 0 (signLen (s.extract i s.size).data.toList))) (HL : Hid (letterI (((s.extract i s.size).data.toList.headD 0).toNat : Int) = false)) (HD : Hid (digitI (((s.extract i s.size).data.toList.headD 0).toNat : Int) = false)) (hn : (t.toList == []) = false) :
    Calls Tryz.prog 95 #[.string s, .int .i64 i] w fun e w' => e = .returned (.tuple #[.agg #[.int .i64 i, .int .i64 1, .string t, .int .i64 0], .nilIface]) ∧ Below w.heap.size w w' := by
  have hz : (s.extract i s.size).size = s.size - i := rest_size s i
  have HZ := hide hz
  clear hz
  go_enter Tryz.func95, Tryz.ntmps95
  go_wp2_with fail
  have hz0 : 0 < (s.extract i s.size).size := by rw [unhide HZ]; omega
  have hc0 := head0 _ hz0
  generalize (s.extract i s.size)[0]'hz0 = c at *
  rw [hc0] at HL
  have hl := unhide HL
  clear HL hc0
  have hm : (s.extract i s.size).size ≤ maxLen := by rw [unhide HZ]; unfold maxLen; omega
  have HM := hide hm
  clear hm
  have HZ0 := hide hz0
  clear hz0
  generalize s.extract i s.size = r at *
  refine (isLetter_any _ _).mono ?_
  rintro e w' ⟨rfl, rfl⟩
  go_wp2_with fail
  have hd : digitI ((r[0]'(unhide HZ0)).toNat : Int) = false := by rw [← head0 _ (unhide HZ0)]; exact unhide HD
  refine (isDigit_any _ _).mono ?_
  rintro e w' ⟨rfl, rfl⟩
  go_wp2_with fail
  refine (leadingSign_any _ _ (unhide HZ0) (unhide HM)).mono ?_
  rintro e w' ⟨rfl, rfl⟩
  rw [← unhide HT]
  go_wp2
  refine bodyPost_ret (v := .tuple #[.agg #[.int .i64 i, .int .i64 1, .string t, .int .i64 0], .nilIface]) (by simp [results, Tryz.results95, go_sem]) rfl ⟨rfl, ?_⟩
  exact ((Below.refl _ _).alloc (Nat.le_refl _) _).alloc (by simp) _
set_option maxHeartbeats 400000 in
theorem scanOne_byte (s t : ByteArray) (i : Nat) (a : Nat → Addr) (B : Nat) (w : World) (HE : Hid (Env a B w)) (hi : i < s.size) (hs : s.size ≤ 1000) (HT : Hid (t = (s.extract i s.size).extract 0 (signLen (s.extract i s.size).data.toList))) (HL : Hid (letterI (((s.extract i s.size).data.toList.headD 0).toNat : Int) = false)) (HD : Hid (digitI (((s.extract i s.size).data.toList.headD 0).toNat : Int) = false)) (hn : (t.toList == []) = true) :
    Calls Tryz.prog 95 #[.string s, .int .i64 i] w fun e w' => ∃ b, e = .returned (.tuple #[tk0, .iface 110 (.pointer (some ⟨b, 0, none⟩))]) ∧ w.heap.size ≤ b ∧ b < w'.heap.size ∧ AtBlk w' b i (errV a eByte) ∧ Below w.heap.size w w' := by
  have hg := (unhide HE).cell 1 (by decide)
  have hlow : 1 < w.heap.size := by have := (unhide HE).low; have := (unhide HE).size; omega
  have hpos : 0 < w.heap.size := by omega
  have hz : (s.extract i s.size).size = s.size - i := rest_size s i
  have HZ := hide hz
  clear hz
  go_enter Tryz.func95, Tryz.ntmps95
  go_wp2_with fail
  have hz0 : 0 < (s.extract i s.size).size := by rw [unhide HZ]; omega
  have hc0 := head0 _ hz0
  generalize (s.extract i s.size)[0]'hz0 = c at *
  rw [hc0] at HL
  have hl := unhide HL
  clear HL hc0
  have hm : (s.extract i s.size).size ≤ maxLen := by rw [unhide HZ]; unfold maxLen; omega
  have HM := hide hm
  clear hm
  have HZ0 := hide hz0
  clear hz0
  generalize s.extract i s.size = r at *
  refine (isLetter_any _ _).mono ?_
  rintro e w' ⟨rfl, rfl⟩
  go_wp2_with fail
  have hd : digitI ((r[0]'(unhide HZ0)).toNat : Int) = false := by rw [← head0 _ (unhide HZ0)]; exact unhide HD
  refine (isDigit_any _ _).mono ?_
  rintro e w' ⟨rfl, rfl⟩
  go_wp2_with fail
  refine (leadingSign_any _ _ (unhide HZ0) (unhide HM)).mono ?_
  rintro e w' ⟨rfl, rfl⟩
  rw [← unhide HT]
  go_wp2_with fail
  refine (Wrong_any _ _ _ _).mono ?_
  rintro e w' ⟨rfl, rfl⟩
  go_wp2
  refine bodyPost_ret (v := .tuple #[tk0, .iface 110 (.pointer (some ⟨w.heap.size + 1 + 1 + 1, 0, none⟩))]) (by simp [results, Tryz.results95, go_sem]) rfl ⟨w.heap.size + 1 + 1 + 1, rfl, by omega, by simp, heap_last (by simp), ?_⟩
  exact ((((Below.refl _ _).alloc (Nat.le_refl _) _).alloc (by simp) _).alloc (by simp; omega) _).alloc (by simp; omega) _
theorem sizeL (r : ByteArray) : r.data.toList.length = r.size := by rw [Array.length_toList]; rfl
theorem ext_size (r : ByteArray) (k : Nat) (h : r.size ≤ 1000) : (r.extract 0 k).size ≤ 1000 := by
  rw [ByteArray.size_extract]; omega
theorem toList_size (t : ByteArray) : t.toList.length = t.size := by rw [ByteArray.toList_eq, sizeL]
theorem sign_cut (r : ByteArray) (h : 0 < r.size) : ((r.extract 0 (signLen r.data.toList)).toList == []) = decide (signLen r.data.toList = 0) := by
  have hk : signLen r.data.toList ≤ r.size := by
    unfold signLen
    split
    · rename_i h2
      have : ¬ ¬ 2 ≤ r.size := fun hn => by rw [sign2_short r hn] at h2; cases h2
      omega
    · split <;> omega
  have hsz : (r.extract 0 (signLen r.data.toList)).size = signLen r.data.toList := by rw [ByteArray.size_extract]; omega
  generalize r.extract 0 (signLen r.data.toList) = t at *
  generalize signLen r.data.toList = n at *
  have ht := toList_size t
  cases hl : t.toList with
  | nil => rw [hl] at ht; simp at ht; simp; omega
  | cons c q => rw [hl] at ht; simp at ht; simp; omega
/-- scanOne where it finds a token. -/
theorem scanOne_ok (s : ByteArray) (i : Nat) (t : Tk) (a : Nat → Addr) (B : Nat) (w : World) (hE : Env a B w) (hi : i < s.size) (hs : s.size ≤ 1000) (h : scanOneP s i = .ok t) :
    Calls Tryz.prog 95 #[.string s, .int .i64 i] w fun e w' => e = .returned (.tuple #[tkVal t, .nilIface]) ∧ Below w.heap.size w w' := by
  have hrs : (s.extract i s.size).size ≤ 1000 := by rw [rest_size]; omega
  have hr0 : 0 < (s.extract i s.size).size := by rw [rest_size]; omega
  unfold scanOneP at h
  simp only at h
  by_cases hl : letterI (((s.extract i s.size).data.toList.headD 0).toNat : Int) = true
  · rw [if_pos hl] at h
    by_cases hw : wordB ((s.extract i s.size).extract 0 (lead letterI (s.extract i s.size).data.toList)).data.toList = true
    · rw [if_pos hw] at h
      cases h
      refine (scanOne_word s _ i w hi hs rfl hl hw).mono ?_
      rintro e w' ⟨rfl, hb⟩
      exact ⟨rfl, hb⟩
    · rw [if_neg hw] at h
      by_cases h8 : 8 < ((s.extract i s.size).extract 0 (lead letterI (s.extract i s.size).data.toList)).size
      · rw [if_pos h8] at h; cases h
      · rw [if_neg h8] at h
        cases h
        refine (scanOne_name s _ i w hi hs rfl hl (hide (by simpa using hw)) (Nat.le_of_not_lt h8)).mono ?_
        rintro e w' ⟨rfl, hb⟩
        exact ⟨rfl, hb⟩
  · rw [if_neg hl] at h
    by_cases hd : digitI (((s.extract i s.size).data.toList.headD 0).toNat : Int) = true
    · rw [if_pos hd] at h
      cases hn : numOf ((s.extract i s.size).extract 0 (lead digitI (s.extract i s.size).data.toList)).data.toList with
      | none => rw [hn] at h; cases h
      | some v =>
        rw [hn] at h
        cases h
        refine (scanOne_num s _ i a B w hE hi hs rfl (hide (by simpa using hl)) hd v hn (ext_size _ _ hrs)).mono ?_
        rintro e w' ⟨rfl, hb⟩
        exact ⟨rfl, hb⟩
    · rw [if_neg hd] at h
      by_cases h0 : signLen (s.extract i s.size).data.toList = 0
      · rw [if_pos h0] at h; cases h
      · rw [if_neg h0] at h
        cases h
        refine (scanOne_sign s _ i w hi hs rfl (hide (by simpa using hl)) (hide (by simpa using hd)) (by rw [sign_cut _ hr0]; simpa using h0)).mono ?_
        rintro e w' ⟨rfl, hb⟩
        exact ⟨rfl, hb⟩
/-- scanOne where it finds an error. -/
theorem scanOne_err (s : ByteArray) (i : Nat) (p e : Nat) (a : Nat → Addr) (B : Nat) (w : World) (hE : Env a B w) (hi : i < s.size) (hs : s.size ≤ 1000) (h : scanOneP s i = .error (p, e)) :
    Calls Tryz.prog 95 #[.string s, .int .i64 i] w fun en w' => ∃ b, en = .returned (.tuple #[tk0, .iface 110 (.pointer (some ⟨b, 0, none⟩))]) ∧ w.heap.size ≤ b ∧ b < w'.heap.size ∧ AtBlk w' b p (errV a e) ∧ Below w.heap.size w w' := by
  have hrs : (s.extract i s.size).size ≤ 1000 := by rw [rest_size]; omega
  have hr0 : 0 < (s.extract i s.size).size := by rw [rest_size]; omega
  unfold scanOneP at h
  simp only at h
  by_cases hl : letterI (((s.extract i s.size).data.toList.headD 0).toNat : Int) = true
  · rw [if_pos hl] at h
    by_cases hw : wordB ((s.extract i s.size).extract 0 (lead letterI (s.extract i s.size).data.toList)).data.toList = true
    · rw [if_pos hw] at h; cases h
    · rw [if_neg hw] at h
      by_cases h8 : 8 < ((s.extract i s.size).extract 0 (lead letterI (s.extract i s.size).data.toList)).size
      · rw [if_pos h8] at h
        cases h
        exact scanOne_long s _ i a B w hE hi hs rfl hl (hide (by simpa using hw)) h8
      · rw [if_neg h8] at h; cases h
  · rw [if_neg hl] at h
    by_cases hd : digitI (((s.extract i s.size).data.toList.headD 0).toNat : Int) = true
    · rw [if_pos hd] at h
      cases hn : numOf ((s.extract i s.size).extract 0 (lead digitI (s.extract i s.size).data.toList)).data.toList with
      | none =>
        rw [hn] at h
        cases h
        exact scanOne_great s _ i a B w hE hi hs rfl (hide (by simpa using hl)) hd (lead_no_syntax _ hr0 hd) hn (ext_size _ _ hrs)
      | some v => rw [hn] at h; cases h
    · rw [if_neg hd] at h
      by_cases h0 : signLen (s.extract i s.size).data.toList = 0
      · rw [if_pos h0] at h
        cases h
        exact scanOne_byte s _ i a B w hE hi hs rfl (hide (by simpa using hl)) (hide (by simpa using hd)) (by rw [sign_cut _ hr0]; simpa using h0)
      · rw [if_neg h0] at h; cases h
end Go.Proofs.YtfkeddkfegaeiaaGreatDoor
