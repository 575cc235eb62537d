/-
  Part 4.
-/
import Derived.Test.YtfkeddkfegaeiaaGreatDoorJ03
import Derived.Deep.RegionWith
namespace Go.Proofs.YtfkeddkfegaeiaaGreatDoor
open Go.RowKit

abbrev eLong : Nat := 0
abbrev eByte : Nat := 1
abbrev eNumber : Nat := 2
abbrev eSyntax : Nat := 3
abbrev eMany : Nat := 4

/-- an error's value: variable e's. -/
abbrev errV (a : Nat → Addr) (e : Nat) : Value := .iface 496 (.pointer (some (a e)))
abbrev tkVal (t : Tk) : Value := .agg #[.int .i64 t.place, .int .i64 t.kind, .string t.text, .int .i64 t.value]
abbrev tk0 : Value := .agg #[.int .i64 0, .int .i64 0, .string ⟨#[]⟩, .int .i64 0]

def scanOneP (s : ByteArray) (i : Nat) : Except (Nat × Nat) Tk :=
  let rest := s.extract i s.size
  let l := rest.data.toList
  if letterI (l.headD 0).toNat then
    let t := rest.extract 0 (lead letterI l)
    if wordB t.data.toList then .ok ⟨i, 1, t, 0⟩ else if 8 < t.size then .error (i, eSyntax) else .ok ⟨i, 2, t, 0⟩
  else if digitI (l.headD 0).toNat then
    let t := rest.extract 0 (lead digitI l)
    match numOf t.data.toList with
    | some v => .ok ⟨i, 3, t, v⟩
    | none => .error (i, eNumber)
  else if signLen l = 0 then .error (i, eByte) else .ok ⟨i, 1, rest.extract 0 (signLen l), 0⟩

/-- the bytes from i on, as a text of its own. -/
theorem rest_size (s : ByteArray) (i : Nat) : (s.extract i s.size).size = s.size - i := by simp [ByteArray.size_extract]

theorem AtBlk.set {w : World} {b : Nat} {p : Int} {ev : Value} (h : AtBlk w b p ev) {q : Addr} {u : Value} (hq : q.block ≠ b) : AtBlk (w.setCell q u) b p ev := by
  unfold AtBlk at h ⊢
  rw [Below.heap_setCell _ _ _ _ (by omega)]; exact h
theorem AtBlk.alloc {w : World} {b : Nat} {p : Int} {ev : Value} (h : AtBlk w b p ev) (o : Obj) : AtBlk (w.alloc o) b p ev := heap_prev h
theorem AtBlk.keep {w w' : World} {b : Nat} {p : Int} {ev : Value} (h : AtBlk w b p ev) {B : Nat} (hb : Below B w w') (hB : b < B) : AtBlk w' b p ev := (hb.block b hB).trans h

set_option maxHeartbeats 400000 in
theorem scanOne_word (s t : ByteArray) (i : Nat) (w : World) (hi : i < s.size) (hs : s.size ≤ 1000) (HT : Hid (t = (s.extract i s.size).extract 0 (lead letterI (s.extract i s.size).data.toList))) (HL : Hid (letterI (((s.extract i s.size).data.toList.headD 0).toNat : Int) = true)) (HW : Hid (wordB t.data.toList = true)) :
    Calls Tryz.prog 95 #[.string s, .int .i64 i] w fun e w' => e = .returned (.tuple #[.agg #[.int .i64 i, .int .i64 1, .string t, .int .i64 0], .nilIface]) ∧ Below w.heap.size w w' := by
  have hz : (s.extract i s.size).size = s.size - i := rest_size s i
  have HZ := hide hz
  clear hz
  go_enter Tryz.func95, Tryz.ntmps95
  go_wp2_with fail
  have hz0 : 0 < (s.extract i s.size).size := by rw [unhide HZ]; omega
  have hc0 := head0 _ hz0
  generalize (s.extract i s.size)[0]'hz0 = c at *
  rw [hc0] at HL
  have hl := unhide HL
  clear HL hc0
  have hm : (s.extract i s.size).size ≤ maxLen := by rw [unhide HZ]; unfold maxLen; omega
  have HM := hide hm
  clear hm
  have HZ0 := hide hz0
  clear hz0
  generalize s.extract i s.size = r at *
  refine (isLetter_any _ _).mono ?_
  rintro e w' ⟨rfl, rfl⟩
  go_wp2_with fail
  go_region_with (first | (go_at_call 93; refine (leading_letter _ _ (unhide HM)).mono ?_; rintro e w' ⟨rfl, rfl⟩; rw [← unhide HT]) | (go_at_call 143; refine (letters_word _ _ _ (unhide HW)).mono ?_; rintro e w1 ⟨rfl, hb⟩; have hz1 : w.heap.size + 1 < w1.heap.size := (by have := hb.size; simp at this; omega); have hz2 : w.heap.size < w1.heap.size := (by omega); have hz3 : w.heap.size ≤ w1.heap.size := (by omega); obtain ⟨k0, f0⟩ := blk ((hb.block w.heap.size (by simp; omega)).trans (heap_prev (heap_last rfl))); have HB := hide ((((Below.refl w.heap.size w).alloc (Nat.le_refl _) _).alloc (by simp) _).drew.trans (hb.mono (by simp; omega))); clear hb))
  all_goals
    go_wp2
    refine bodyPost_ret (v := .tuple #[.agg #[.int .i64 i, .int .i64 1, .string t, .int .i64 0], .nilIface]) (by simp [results, Tryz.results95, go_sem, k0]) rfl ⟨rfl, ?_⟩
    repeat (first | with_reducible exact unhide HB | refine Below.setCell ?_ (by simp) _)

set_option maxHeartbeats 400000 in
theorem scanOne_name (s t : ByteArray) (i : Nat) (w : World) (hi : i < s.size) (hs : s.size ≤ 1000) (HT : Hid (t = (s.extract i s.size).extract 0 (lead letterI (s.extract i s.size).data.toList))) (HL : Hid (letterI (((s.extract i s.size).data.toList.headD 0).toNat : Int) = true)) (HW : Hid (wordB t.data.toList = false)) (HS : Hid (t.size ≤ 8)) :
    Calls Tryz.prog 95 #[.string s, .int .i64 i] w fun e w' => e = .returned (.tuple #[.agg #[.int .i64 i, .int .i64 2, .string t, .int .i64 0], .nilIface]) ∧ Below w.heap.size w w' := by
  have hz : (s.extract i s.size).size = s.size - i := rest_size s i
  have HZ := hide hz
  clear hz
  go_enter Tryz.func95, Tryz.ntmps95
  go_wp2_with fail
  have hz0 : 0 < (s.extract i s.size).size := by rw [unhide HZ]; omega
  have hc0 := head0 _ hz0
  generalize (s.extract i s.size)[0]'hz0 = c at *
  rw [hc0] at HL
  have hl := unhide HL
  clear HL hc0
  have hm : (s.extract i s.size).size ≤ maxLen := by rw [unhide HZ]; unfold maxLen; omega
  have HM := hide hm
  clear hm
  have HZ0 := hide hz0
  clear hz0
  generalize s.extract i s.size = r at *
  refine (isLetter_any _ _).mono ?_
  rintro e w' ⟨rfl, rfl⟩
  go_wp2_with fail
  go_region_with (first | (go_at_call 93; refine (leading_letter _ _ (unhide HM)).mono ?_; rintro e w' ⟨rfl, rfl⟩; rw [← unhide HT]) | (go_at_call 143; refine (letters_name _ _ _ (unhide HW) (unhide HS)).mono ?_; rintro e w1 ⟨rfl, hb⟩; have hz1 : w.heap.size + 1 < w1.heap.size := (by have := hb.size; simp at this; omega); have hz2 : w.heap.size < w1.heap.size := (by omega); have hz3 : w.heap.size ≤ w1.heap.size := (by omega); obtain ⟨k0, f0⟩ := blk ((hb.block w.heap.size (by simp; omega)).trans (heap_prev (heap_last rfl))); have HB := hide ((((Below.refl w.heap.size w).alloc (Nat.le_refl _) _).alloc (by simp) _).drew.trans (hb.mono (by simp; omega))); clear hb))
  all_goals
    go_wp2
    refine bodyPost_ret (v := .tuple #[.agg #[.int .i64 i, .int .i64 2, .string t, .int .i64 0], .nilIface]) (by simp [results, Tryz.results95, go_sem, k0]) rfl ⟨rfl, ?_⟩
    repeat (first | with_reducible exact unhide HB | refine Below.setCell ?_ (by simp) _)

set_option maxHeartbeats 400000 in
theorem scanOne_long (s t : ByteArray) (i : Nat) (a : Nat → Addr) (B : Nat) (w : World) (HE : Hid (Env a B w)) (hi : i < s.size) (hs : s.size ≤ 1000) (HT : Hid (t = (s.extract i s.size).extract 0 (lead letterI (s.extract i s.size).data.toList))) (HL : Hid (letterI (((s.extract i s.size).data.toList.headD 0).toNat : Int) = true)) (HW : Hid (wordB t.data.toList = false)) (HS : Hid (8 < t.size)) :
    Calls Tryz.prog 95 #[.string s, .int .i64 i] w fun e w' => ∃ b, e = .returned (.tuple #[tk0, .iface 110 (.pointer (some ⟨b, 0, none⟩))]) ∧ w.heap.size ≤ b ∧ b < w'.heap.size ∧ AtBlk w' b i (errV a eSyntax) ∧ Below w.heap.size w w' := by
  have hz : (s.extract i s.size).size = s.size - i := rest_size s i
  have HZ := hide hz
  clear hz
  go_enter Tryz.func95, Tryz.ntmps95
  go_wp2_with fail
  have hz0 : 0 < (s.extract i s.size).size := by rw [unhide HZ]; omega
  have hc0 := head0 _ hz0
  generalize (s.extract i s.size)[0]'hz0 = c at *
  rw [hc0] at HL
  have hl := unhide HL
  clear HL hc0
  have hm : (s.extract i s.size).size ≤ maxLen := by rw [unhide HZ]; unfold maxLen; omega
  have HM := hide hm
  clear hm
  have HZ0 := hide hz0
  clear hz0
  generalize s.extract i s.size = r at *
  refine (isLetter_any _ _).mono ?_
  rintro e w' ⟨rfl, rfl⟩
  go_wp2_with fail
  go_region_with (first | (go_at_call 93; refine (leading_letter _ _ (unhide HM)).mono ?_; rintro e w' ⟨rfl, rfl⟩; rw [← unhide HT]) | (go_at_call 143; refine (letters_long _ _ a B _ (by exact (((unhide HE).alloc _).alloc _).drew) (unhide HW) (unhide HS)).mono ?_; rintro e w1 ⟨b, rfl, hb1, hb2, hat, hb⟩; have HAT := hide hat; clear hat; have hb3 : w.heap.size + 1 < b := (by have := hb1; simp at this; omega); clear hb1; have hz1 : w.heap.size + 1 < w1.heap.size := (by have := hb.size; simp at this; omega); have hz2 : w.heap.size < w1.heap.size := (by omega); have hz3 : w.heap.size ≤ w1.heap.size := (by omega); obtain ⟨k0, f0⟩ := blk ((hb.block w.heap.size (by simp; omega)).trans (heap_prev (heap_last rfl))); have HB := hide ((((Below.refl w.heap.size w).alloc (Nat.le_refl _) _).alloc (by simp) _).drew.trans (hb.mono (by simp; omega))); clear hb))
  all_goals
    go_wp2
    refine bodyPost_ret (v := .tuple #[tk0, .iface 110 (.pointer (some ⟨b, 0, none⟩))]) (by simp [results, Tryz.results95, go_sem, k0]) rfl ⟨b, rfl, by omega, by simpa [World.setCell] using hb2, ?_, ?_⟩
    · exact AtBlk.set (AtBlk.set (AtBlk.set (AtBlk.set (unhide HAT) (by show w.heap.size ≠ b; omega)) (by show w.heap.size ≠ b; omega)) (by show w.heap.size ≠ b; omega)) (by show w.heap.size ≠ b; omega)
    repeat (first | with_reducible exact unhide HB | refine Below.setCell ?_ (by simp) _)

set_option maxHeartbeats 400000 in
theorem scanOne_num (s t : ByteArray) (i : Nat) (a : Nat → Addr) (B : Nat) (w : World) (HE : Hid (Env a B w)) (hi : i < s.size) (hs : s.size ≤ 1000) (HT : Hid (t = (s.extract i s.size).extract 0 (lead digitI (s.extract i s.size).data.toList))) (HL : Hid (letterI (((s.extract i s.size).data.toList.headD 0).toNat : Int) = false)) (HD : Hid (digitI (((s.extract i s.size).data.toList.headD 0).toNat : Int) = true)) (v : Int) (HN : Hid (numOf t.data.toList = some v)) (HS : Hid (t.size ≤ 1000)) :
    Calls Tryz.prog 95 #[.string s, .int .i64 i] w fun e w' => e = .returned (.tuple #[.agg #[.int .i64 i, .int .i64 3, .string t, .int .i64 v], .nilIface]) ∧ Below w.heap.size w w' := by
  have hz : (s.extract i s.size).size = s.size - i := rest_size s i
  have HZ := hide hz
  clear hz
  go_enter Tryz.func95, Tryz.ntmps95
  go_wp2_with fail
  have hz0 : 0 < (s.extract i s.size).size := by rw [unhide HZ]; omega
  have hc0 := head0 _ hz0
  generalize (s.extract i s.size)[0]'hz0 = c at *
  rw [hc0] at HL
  have hl := unhide HL
  clear HL hc0
  have hm : (s.extract i s.size).size ≤ maxLen := by rw [unhide HZ]; unfold maxLen; omega
  have HM := hide hm
  clear hm
  have HZ0 := hide hz0
  clear hz0
  generalize s.extract i s.size = r at *
  refine (isLetter_any _ _).mono ?_
  rintro e w' ⟨rfl, rfl⟩
  go_wp2_with fail
  have hd : digitI ((r[0]'(unhide HZ0)).toNat : Int) = true := by rw [← head0 _ (unhide HZ0)]; exact unhide HD
  refine (isDigit_any _ _).mono ?_
  rintro e w' ⟨rfl, rfl⟩
  go_wp2_with fail
  go_region_with (first | (go_at_call 93; refine (leading_digit _ _ (unhide HM)).mono ?_; rintro e w' ⟨rfl, rfl⟩; rw [← unhide HT]) | (go_at_call 145; refine (digits_num _ _ a B _ (by exact (((unhide HE).alloc _).alloc _).drew) (unhide HS) v (unhide HN)).mono ?_; rintro e w1 ⟨rfl, hb⟩; have hz1 : w.heap.size + 1 < w1.heap.size := (by have := hb.size; simp at this; omega); have hz2 : w.heap.size < w1.heap.size := (by omega); have hz3 : w.heap.size ≤ w1.heap.size := (by omega); obtain ⟨k0, f0⟩ := blk ((hb.block w.heap.size (by simp; omega)).trans (heap_prev (heap_last rfl))); have HB := hide ((((Below.refl w.heap.size w).alloc (Nat.le_refl _) _).alloc (by simp) _).drew.trans (hb.mono (by simp; omega))); clear hb))
  all_goals
    go_wp2
    refine bodyPost_ret (v := .tuple #[.agg #[.int .i64 i, .int .i64 3, .string t, .int .i64 v], .nilIface]) (by simp [results, Tryz.results95, go_sem, k0]) rfl ⟨rfl, ?_⟩
    repeat (first | with_reducible exact unhide HB | refine Below.setCell ?_ (by simp) _)

set_option maxHeartbeats 400000 in
theorem scanOne_great (s t : ByteArray) (i : Nat) (a : Nat → Addr) (B : Nat) (w : World) (HE : Hid (Env a B w)) (hi : i < s.size) (hs : s.size ≤ 1000) (HT : Hid (t = (s.extract i s.size).extract 0 (lead digitI (s.extract i s.size).data.toList))) (HL : Hid (letterI (((s.extract i s.size).data.toList.headD 0).toNat : Int) = false)) (HD : Hid (digitI (((s.extract i s.size).data.toList.headD 0).toNat : Int) = true)) (HX : Hid (Lib.atoiAll t.data.toList ≠ .«syntax»)) (HN : Hid (numOf t.data.toList = none)) (HS : Hid (t.size ≤ 1000)) :
    Calls Tryz.prog 95 #[.string s, .int .i64 i] w fun e w' => ∃ b, e = .returned (.tuple #[tk0, .iface 110 (.pointer (some ⟨b, 0, none⟩))]) ∧ w.heap.size ≤ b ∧ b < w'.heap.size ∧ AtBlk w' b i (errV a eNumber) ∧ Below w.heap.size w w' := by
  have hz : (s.extract i s.size).size = s.size - i := rest_size s i
  have HZ := hide hz
  clear hz
  go_enter Tryz.func95, Tryz.ntmps95
  go_wp2_with fail
  have hz0 : 0 < (s.extract i s.size).size := by rw [unhide HZ]; omega
  have hc0 := head0 _ hz0
  generalize (s.extract i s.size)[0]'hz0 = c at *
  rw [hc0] at HL
  have hl := unhide HL
  clear HL hc0
  have hm : (s.extract i s.size).size ≤ maxLen := by rw [unhide HZ]; unfold maxLen; omega
  have HM := hide hm
  clear hm
  have HZ0 := hide hz0
  clear hz0
  generalize s.extract i s.size = r at *
  refine (isLetter_any _ _).mono ?_
  rintro e w' ⟨rfl, rfl⟩
  go_wp2_with fail
  have hd : digitI ((r[0]'(unhide HZ0)).toNat : Int) = true := by rw [← head0 _ (unhide HZ0)]; exact unhide HD
  refine (isDigit_any _ _).mono ?_
  rintro e w' ⟨rfl, rfl⟩
  go_wp2_with fail
  go_region_with (first | (go_at_call 93; refine (leading_digit _ _ (unhide HM)).mono ?_; rintro e w' ⟨rfl, rfl⟩; rw [← unhide HT]) | (go_at_call 145; refine (digits_bad _ _ a B _ (by exact (((unhide HE).alloc _).alloc _).drew) (unhide HS) (unhide HX) (unhide HN)).mono ?_; rintro e w1 ⟨b, rfl, hb1, hb2, hat, hb⟩; have HAT := hide hat; clear hat; have hb3 : w.heap.size + 1 < b := (by have := hb1; simp at this; omega); clear hb1; have hz1 : w.heap.size + 1 < w1.heap.size := (by have := hb.size; simp at this; omega); have hz2 : w.heap.size < w1.heap.size := (by omega); have hz3 : w.heap.size ≤ w1.heap.size := (by omega); obtain ⟨k0, f0⟩ := blk ((hb.block w.heap.size (by simp; omega)).trans (heap_prev (heap_last rfl))); have HB := hide ((((Below.refl w.heap.size w).alloc (Nat.le_refl _) _).alloc (by simp) _).drew.trans (hb.mono (by simp; omega))); clear hb))
  all_goals
    go_wp2
    refine bodyPost_ret (v := .tuple #[tk0, .iface 110 (.pointer (some ⟨b, 0, none⟩))]) (by simp [results, Tryz.results95, go_sem, k0]) rfl ⟨b, rfl, by omega, by simpa [World.setCell] using hb2, ?_, ?_⟩
    · exact AtBlk.set (AtBlk.set (AtBlk.set (AtBlk.set (unhide HAT) (by show w.heap.size ≠ b; omega)) (by show w.heap.size ≠ b; omega)) (by show w.heap.size ≠ b; omega)) (by show w.heap.size ≠ b; omega)
    repeat (first | with_reducible exact unhide HB | refine Below.setCell ?_ (by simp) _)

end Go.Proofs.YtfkeddkfegaeiaaGreatDoor
