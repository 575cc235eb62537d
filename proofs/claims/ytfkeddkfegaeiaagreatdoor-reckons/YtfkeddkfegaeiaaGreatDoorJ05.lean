/-
  Part 5.
-/
import Derived.Test.YtfkeddkfegaeiaaGreatDoorJ04
namespace Go.Proofs.YtfkeddkfegaeiaaGreatDoor
open Go.RowKit

theorem parse_digits : ∀ (l : List UInt8) (n : Nat), (∀ c, c ∈ l → digitI c.toNat = true) → Lib.parseUint10 n l ≠ .«syntax»
  | [], n, _ => by simp [Lib.parseUint10]
  | c :: r, n, h => by
    have hc := h c List.mem_cons_self
    unfold digitI at hc
    simp only [Bool.and_eq_true, decide_eq_true_eq] at hc
    unfold Lib.parseUint10
    rw [if_pos (by omega)]
    split
    · simp
    · split
      · simp
      · exact parse_digits r _ (fun d hd => h d (List.mem_cons_of_mem _ hd))
theorem no_syntax {l : List UInt8} (h : ∀ c, c ∈ l → digitI c.toNat = true) (hne : l ≠ []) : Lib.atoiAll l ≠ .«syntax» := by
  match l, hne with
  | c :: r, _ =>
    have hc := h c List.mem_cons_self
    unfold digitI at hc
    simp only [Bool.and_eq_true, decide_eq_true_eq] at hc
    have hp := parse_digits (c :: r) 0 h
    unfold Lib.atoiAll
    simp only
    rw [if_neg (by omega : ¬ (c.toNat = 43 ∨ c.toNat = 45))]
    unfold Lib.parseMag
    rw [if_neg (by simp)]
    cases hq : Lib.parseUint10 0 (c :: r) with
    | «syntax» => exact (hp hq).elim
    | range => simp
    | ok u =>
      simp only
      split
      · simp
      · split <;> simp
theorem while_dig (l : List UInt8) : ∀ c, c ∈ l.takeWhile (fun c => digitI c.toNat) → digitI c.toNat = true := by
  induction l with
  | nil => intro c hc; cases hc
  | cons a r ih =>
    intro c hc
    rw [List.takeWhile_cons] at hc
    by_cases ha : digitI a.toNat = true
    · rw [if_pos ha] at hc
      rcases List.mem_cons.1 hc with rfl | hc
      · exact ha
      · exact ih c hc
    · rw [if_neg ha] at hc; cases hc
theorem lead_no_syntax (r : ByteArray) (hr : 0 < r.size) (hd : digitI ((r.data.toList.headD 0).toNat : Int) = true) : Lib.atoiAll (r.extract 0 (lead digitI r.data.toList)).data.toList ≠ .«syntax» := by
  have e : (r.extract 0 (lead digitI r.data.toList)).data.toList = r.data.toList.takeWhile (fun c => digitI c.toNat) := by
    rw [ByteArray.data_extract, Array.toList_extract]
    unfold lead
    simp only [List.extract_eq_take_drop, List.drop_zero, Nat.sub_zero]
    exact (List.prefix_iff_eq_take.1 (List.takeWhile_prefix _)).symm
  rw [e]
  refine no_syntax (while_dig _) ?_
  cases hl : r.data.toList with
  | nil =>
    have := congrArg List.length hl
    rw [Array.length_toList, List.length_nil] at this
    have h2 : r.size = r.data.size := rfl
    omega
  | cons c t =>
    rw [hl] at hd
    simp only [List.headD_cons] at hd
    rw [List.takeWhile_cons, if_pos hd]
    simp

set_option maxHeartbeats 400000 in
theorem scanOne_sign (s t : ByteArray) (i : Nat) (w : World) (hi : i < s.size) (hs : s.size ≤ 1000) (HT : Hid (t = (s.extract i s.size).extract 0 (signLen (s.extract i s.size).data.toList))) (HL : Hid (letterI (((s.extract i s.size).data.toList.headD 0).toNat : Int) = false)) (HD : Hid (digitI (((s.extract i s.size).data.toList.headD 0).toNat : Int) = false)) (hn : (t.toList == []) = false) :
    Calls Tryz.prog 95 #[.string s, .int .i64 i] w fun e w' => e = .returned (.tuple #[.agg #[.int .i64 i, .int .i64 1, .string t, .int .i64 0], .nilIface]) ∧ Below w.heap.size w w' := by
  have hz : (s.extract i s.size).size = s.size - i := rest_size s i
  have HZ := hide hz
  clear hz
  go_enter Tryz.func95, Tryz.ntmps95
  go_wp2_with fail
  have hz0 : 0 < (s.extract i s.size).size := by rw [unhide HZ]; omega
  have hc0 := head0 _ hz0
  generalize (s.extract i s.size)[0]'hz0 = c at *
  rw [hc0] at HL
  have hl := unhide HL
  clear HL hc0
  have hm : (s.extract i s.size).size ≤ maxLen := by rw [unhide HZ]; unfold maxLen; omega
  have HM := hide hm
  clear hm
  have HZ0 := hide hz0
  clear hz0
  generalize s.extract i s.size = r at *
  refine (isLetter_any _ _).mono ?_
  rintro e w' ⟨rfl, rfl⟩
  go_wp2_with fail
  have hd : digitI ((r[0]'(unhide HZ0)).toNat : Int) = false := by rw [← head0 _ (unhide HZ0)]; exact unhide HD
  refine (isDigit_any _ _).mono ?_
  rintro e w' ⟨rfl, rfl⟩
  go_wp2_with fail
  refine (leadingSign_any _ _ (unhide HZ0) (unhide HM)).mono ?_
  rintro e w' ⟨rfl, rfl⟩
  rw [← unhide HT]
  go_wp2
  refine bodyPost_ret (v := .tuple #[.agg #[.int .i64 i, .int .i64 1, .string t, .int .i64 0], .nilIface]) (by simp [results, Tryz.results95, go_sem]) rfl ⟨rfl, ?_⟩
  exact ((Below.refl _ _).alloc (Nat.le_refl _) _).alloc (by simp) _

set_option maxHeartbeats 400000 in
theorem scanOne_byte (s t : ByteArray) (i : Nat) (a : Nat → Addr) (B : Nat) (w : World) (HE : Hid (Env a B w)) (hi : i < s.size) (hs : s.size ≤ 1000) (HT : Hid (t = (s.extract i s.size).extract 0 (signLen (s.extract i s.size).data.toList))) (HL : Hid (letterI (((s.extract i s.size).data.toList.headD 0).toNat : Int) = false)) (HD : Hid (digitI (((s.extract i s.size).data.toList.headD 0).toNat : Int) = false)) (hn : (t.toList == []) = true) :
    Calls Tryz.prog 95 #[.string s, .int .i64 i] w fun e w' => ∃ b, e = .returned (.tuple #[tk0, .iface 110 (.pointer (some ⟨b, 0, none⟩))]) ∧ w.heap.size ≤ b ∧ b < w'.heap.size ∧ AtBlk w' b i (errV a eByte) ∧ Below w.heap.size w w' := by
  have hg := (unhide HE).cell 1 (by decide)
  have hlow : 1 < w.heap.size := by have := (unhide HE).low; have := (unhide HE).size; omega
  have hpos : 0 < w.heap.size := by omega
  have hz : (s.extract i s.size).size = s.size - i := rest_size s i
  have HZ := hide hz
  clear hz
  go_enter Tryz.func95, Tryz.ntmps95
  go_wp2_with fail
  have hz0 : 0 < (s.extract i s.size).size := by rw [unhide HZ]; omega
  have hc0 := head0 _ hz0
  generalize (s.extract i s.size)[0]'hz0 = c at *
  rw [hc0] at HL
  have hl := unhide HL
  clear HL hc0
  have hm : (s.extract i s.size).size ≤ maxLen := by rw [unhide HZ]; unfold maxLen; omega
  have HM := hide hm
  clear hm
  have HZ0 := hide hz0
  clear hz0
  generalize s.extract i s.size = r at *
  refine (isLetter_any _ _).mono ?_
  rintro e w' ⟨rfl, rfl⟩
  go_wp2_with fail
  have hd : digitI ((r[0]'(unhide HZ0)).toNat : Int) = false := by rw [← head0 _ (unhide HZ0)]; exact unhide HD
  refine (isDigit_any _ _).mono ?_
  rintro e w' ⟨rfl, rfl⟩
  go_wp2_with fail
  refine (leadingSign_any _ _ (unhide HZ0) (unhide HM)).mono ?_
  rintro e w' ⟨rfl, rfl⟩
  rw [← unhide HT]
  go_wp2_with fail
  refine (Wrong_any _ _ _ _).mono ?_
  rintro e w' ⟨rfl, rfl⟩
  go_wp2
  refine bodyPost_ret (v := .tuple #[tk0, .iface 110 (.pointer (some ⟨w.heap.size + 1 + 1 + 1, 0, none⟩))]) (by simp [results, Tryz.results95, go_sem]) rfl ⟨w.heap.size + 1 + 1 + 1, rfl, by omega, by simp, heap_last (by simp), ?_⟩
  exact ((((Below.refl _ _).alloc (Nat.le_refl _) _).alloc (by simp) _).alloc (by simp; omega) _).alloc (by simp; omega) _

theorem sizeL (r : ByteArray) : r.data.toList.length = r.size := by rw [Array.length_toList]; rfl
theorem ext_size (r : ByteArray) (k : Nat) (h : r.size ≤ 1000) : (r.extract 0 k).size ≤ 1000 := by
  rw [ByteArray.size_extract]; omega
theorem toList_size (t : ByteArray) : t.toList.length = t.size := by rw [ByteArray.toList_eq, sizeL]
theorem sign_cut (r : ByteArray) (h : 0 < r.size) : ((r.extract 0 (signLen r.data.toList)).toList == []) = decide (signLen r.data.toList = 0) := by
  have hk : signLen r.data.toList ≤ r.size := by
    unfold signLen
    split
    · rename_i h2
      have : ¬ ¬ 2 ≤ r.size := fun hn => by rw [sign2_short r hn] at h2; cases h2
      omega
    · split <;> omega
  have hsz : (r.extract 0 (signLen r.data.toList)).size = signLen r.data.toList := by rw [ByteArray.size_extract]; omega
  generalize r.extract 0 (signLen r.data.toList) = t at *
  generalize signLen r.data.toList = n at *
  have ht := toList_size t
  cases hl : t.toList with
  | nil => rw [hl] at ht; simp at ht; simp; omega
  | cons c q => rw [hl] at ht; simp at ht; simp; omega

/-- scanOne where it finds a token. -/
theorem scanOne_ok (s : ByteArray) (i : Nat) (t : Tk) (a : Nat → Addr) (B : Nat) (w : World) (hE : Env a B w) (hi : i < s.size) (hs : s.size ≤ 1000) (h : scanOneP s i = .ok t) :
    Calls Tryz.prog 95 #[.string s, .int .i64 i] w fun e w' => e = .returned (.tuple #[tkVal t, .nilIface]) ∧ Below w.heap.size w w' := by
  have hrs : (s.extract i s.size).size ≤ 1000 := by rw [rest_size]; omega
  have hr0 : 0 < (s.extract i s.size).size := by rw [rest_size]; omega
  unfold scanOneP at h
  simp only at h
  by_cases hl : letterI (((s.extract i s.size).data.toList.headD 0).toNat : Int) = true
  · rw [if_pos hl] at h
    by_cases hw : wordB ((s.extract i s.size).extract 0 (lead letterI (s.extract i s.size).data.toList)).data.toList = true
    · rw [if_pos hw] at h
      cases h
      refine (scanOne_word s _ i w hi hs rfl hl hw).mono ?_
      rintro e w' ⟨rfl, hb⟩
      exact ⟨rfl, hb⟩
    · rw [if_neg hw] at h
      by_cases h8 : 8 < ((s.extract i s.size).extract 0 (lead letterI (s.extract i s.size).data.toList)).size
      · rw [if_pos h8] at h; cases h
      · rw [if_neg h8] at h
        cases h
        refine (scanOne_name s _ i w hi hs rfl hl (hide (by simpa using hw)) (Nat.le_of_not_lt h8)).mono ?_
        rintro e w' ⟨rfl, hb⟩
        exact ⟨rfl, hb⟩
  · rw [if_neg hl] at h
    by_cases hd : digitI (((s.extract i s.size).data.toList.headD 0).toNat : Int) = true
    · rw [if_pos hd] at h
      cases hn : numOf ((s.extract i s.size).extract 0 (lead digitI (s.extract i s.size).data.toList)).data.toList with
      | none => rw [hn] at h; cases h
      | some v =>
        rw [hn] at h
        cases h
        refine (scanOne_num s _ i a B w hE hi hs rfl (hide (by simpa using hl)) hd v hn (ext_size _ _ hrs)).mono ?_
        rintro e w' ⟨rfl, hb⟩
        exact ⟨rfl, hb⟩
    · rw [if_neg hd] at h
      by_cases h0 : signLen (s.extract i s.size).data.toList = 0
      · rw [if_pos h0] at h; cases h
      · rw [if_neg h0] at h
        cases h
        refine (scanOne_sign s _ i w hi hs rfl (hide (by simpa using hl)) (hide (by simpa using hd)) (by rw [sign_cut _ hr0]; simpa using h0)).mono ?_
        rintro e w' ⟨rfl, hb⟩
        exact ⟨rfl, hb⟩

/-- scanOne where it finds an error. -/
theorem scanOne_err (s : ByteArray) (i : Nat) (p e : Nat) (a : Nat → Addr) (B : Nat) (w : World) (hE : Env a B w) (hi : i < s.size) (hs : s.size ≤ 1000) (h : scanOneP s i = .error (p, e)) :
    Calls Tryz.prog 95 #[.string s, .int .i64 i] w fun en w' => ∃ b, en = .returned (.tuple #[tk0, .iface 110 (.pointer (some ⟨b, 0, none⟩))]) ∧ w.heap.size ≤ b ∧ b < w'.heap.size ∧ AtBlk w' b p (errV a e) ∧ Below w.heap.size w w' := by
  have hrs : (s.extract i s.size).size ≤ 1000 := by rw [rest_size]; omega
  have hr0 : 0 < (s.extract i s.size).size := by rw [rest_size]; omega
  unfold scanOneP at h
  simp only at h
  by_cases hl : letterI (((s.extract i s.size).data.toList.headD 0).toNat : Int) = true
  · rw [if_pos hl] at h
    by_cases hw : wordB ((s.extract i s.size).extract 0 (lead letterI (s.extract i s.size).data.toList)).data.toList = true
    · rw [if_pos hw] at h; cases h
    · rw [if_neg hw] at h
      by_cases h8 : 8 < ((s.extract i s.size).extract 0 (lead letterI (s.extract i s.size).data.toList)).size
      · rw [if_pos h8] at h
        cases h
        exact scanOne_long s _ i a B w hE hi hs rfl hl (hide (by simpa using hw)) h8
      · rw [if_neg h8] at h; cases h
  · rw [if_neg hl] at h
    by_cases hd : digitI (((s.extract i s.size).data.toList.headD 0).toNat : Int) = true
    · rw [if_pos hd] at h
      cases hn : numOf ((s.extract i s.size).extract 0 (lead digitI (s.extract i s.size).data.toList)).data.toList with
      | none =>
        rw [hn] at h
        cases h
        exact scanOne_great s _ i a B w hE hi hs rfl (hide (by simpa using hl)) hd (lead_no_syntax _ hr0 hd) hn (ext_size _ _ hrs)
      | some v => rw [hn] at h; cases h
    · rw [if_neg hd] at h
      by_cases h0 : signLen (s.extract i s.size).data.toList = 0
      · rw [if_pos h0] at h
        cases h
        exact scanOne_byte s _ i a B w hE hi hs rfl (hide (by simpa using hl)) (hide (by simpa using hd)) (by rw [sign_cut _ hr0]; simpa using h0)
      · rw [if_neg h0] at h; cases h

end Go.Proofs.YtfkeddkfegaeiaaGreatDoor
namespace Go.Proofs.YtfkeddkfegaeiaaGreatDoor
open Go.RowKit

def tkEnd (i : Nat) : Tk := ⟨i, 0, ⟨#[]⟩, 0⟩
/-- the tokens from byte i on, and behind them one for the end (so many rounds at most). -/
def scanFrom (s : ByteArray) : Nat → Nat → Except (Nat × Nat) (List Tk)
  | 0, _ => .ok []
  | f + 1, i =>
    let j := i + lead blankI (s.extract i s.size).data.toList
    if j = s.size then .ok [tkEnd j]
    else match scanOneP s j with
      | .error e => .error e
      | .ok t => match scanFrom s f (j + t.text.size) with
        | .error e => .error e
        | .ok r => .ok (t :: r)
def scanP (s : ByteArray) : Except (Nat × Nat) (List Tk) := scanFrom s (s.size + 1) 0

def tkCells (ts : List Tk) : List Value := ts.flatMap fun t => [.int .i64 t.place, .int .i64 t.kind, .string t.text, .int .i64 t.value]
theorem tkCells_len (ts : List Tk) : (tkCells ts).length = ts.length * 4 := by
  induction ts with
  | nil => rfl
  | cons t r ih =>
    show ([Value.int .i64 t.place, .int .i64 t.kind, .string t.text, .int .i64 t.value] ++ tkCells r).length = _
    rw [List.length_append, ih]; simp; omega
theorem tkCells_snoc (ts : List Tk) (t : Tk) : tkCells ts ++ [.int .i64 t.place, .int .i64 t.kind, .string t.text, .int .i64 t.value] = tkCells (ts ++ [t]) := by
  simp [tkCells]

theorem ownsRow_keep {w w' : World} {base : Nat} {e : TypeId} {size : Nat} {v : Value} {n : Nat} {xs : List Value} (h : w.ownsRow base e size v n xs) (hb : Below w.heap.size w w') : w'.ownsRow base e size v n xs := by
  obtain ⟨h1, h2⟩ := h
  refine ⟨h1, ?_⟩
  rcases h2 with h2 | ⟨g, cap, cur, hv, hg, hh, r⟩
  · exact Or.inl h2
  · have hlt : g < w.heap.size := by
      rcases Nat.lt_or_ge g w.heap.size with h' | h'
      · exact h'
      · rw [Array.getElem?_eq_none h'] at hh; cases hh
    exact Or.inr ⟨g, cap, cur, hv, hg, by rw [hb.block g hlt]; exact hh, r⟩

theorem lead_pos (p : Int → Bool) (l : List UInt8) (h : p (l.headD 0).toNat = true) (hl : 0 < l.length) : 0 < lead p l := by
  match l, hl with
  | c :: r, _ =>
    have h' : p c.toNat = true := h
    simp [lead, h']

theorem tok_size (s : ByteArray) (i : Nat) (t : Tk) (hi : i < s.size) (h : scanOneP s i = .ok t) : 0 < t.text.size ∧ i + t.text.size ≤ s.size := by
  have hrs : (s.extract i s.size).size = s.size - i := rest_size s i
  have hln := sizeL (s.extract i s.size)
  unfold scanOneP at h
  simp only at h
  have cut : ∀ k, 0 < k → k ≤ (s.extract i s.size).data.toList.length → 0 < ((s.extract i s.size).extract 0 k).size ∧ i + ((s.extract i s.size).extract 0 k).size ≤ s.size := fun k h0 hk => by
    have e : ((s.extract i s.size).extract 0 k).size = k := by rw [ByteArray.size_extract]; omega
    rw [e]; omega
  by_cases hl : letterI (((s.extract i s.size).data.toList.headD 0).toNat : Int) = true
  · rw [if_pos hl] at h
    have hp := lead_pos letterI _ hl (by omega)
    have hq := lead_le letterI (s.extract i s.size).data.toList
    split at h
    · cases h; exact cut _ hp hq
    · split at h
      · cases h
      · cases h; exact cut _ hp hq
  · rw [if_neg hl] at h
    by_cases hd : digitI (((s.extract i s.size).data.toList.headD 0).toNat : Int) = true
    · rw [if_pos hd] at h
      have hp := lead_pos digitI _ hd (by omega)
      have hq := lead_le digitI (s.extract i s.size).data.toList
      split at h
      · cases h; exact cut _ hp hq
      · cases h
    · rw [if_neg hd] at h
      split at h
      · cases h
      · rename_i h0
        cases h
        refine cut _ (Nat.pos_of_ne_zero h0) ?_
        rw [hln]
        unfold signLen
        split
        · rename_i h2
          have : ¬ ¬ 2 ≤ (s.extract i s.size).size := fun hn => by rw [sign2_short _ hn] at h2; cases h2
          omega
        · split <;> omega

theorem infoTk : (Tryz.prog.info? 173).map (fun i => (i.zero, i.size, i.bytes)) = some (some (.agg #[.int .i64 0, .int .i64 0, .string ⟨#[]⟩, .int .i64 0]), 4, 40) := by kernel_rfl

theorem cell_new {w : World} {cs : List Value} {t : TypeId} {n : Nat} (hn : n = w.heap.size) : ∀ j u, cs[j]? = some u → (w.alloc (.cells cs.toArray t)).cell? ((⟨n, 0, none⟩ : Addr).add j) = some u := by
  intro j u h
  obtain ⟨hc, _⟩ := blk (heap_last (w := w) (o := .cells cs.toArray t) hn)
  have e : ((⟨n, 0, none⟩ : Addr).add j) = ⟨n, j, none⟩ := by simp [Addr.add]; omega
  rw [e, hc]
  simpa using h
theorem one4 (a b : Int) (s : ByteArray) (c : Int) : ∀ u ∈ [Value.int .i64 a, .int .i64 b, .string s, .int .i64 c], u.oneCell' = true := by
  intro u hu
  simp only [List.mem_cons, List.mem_nil_iff, or_false] at hu
  rcases hu with rfl | rfl | rfl | rfl <;> rfl

/-- what scan leaves. -/
def ScanPost (a : Nat → Addr) (w : World) (R : Except (Nat × Nat) (List Tk)) (e : Ending) (w' : World) : Prop := match R with
  | .ok ts => ∃ v, e = .returned (.tuple #[v, .nilIface]) ∧ w'.ownsRow w.heap.size 173 4 v ts.length (tkCells ts) ∧ Below w.heap.size w w'
  | .error (p, k) => ∃ b, e = .returned (.tuple #[.slice none 0 0, .iface 110 (.pointer (some ⟨b, 0, none⟩))]) ∧ w.heap.size ≤ b ∧ b < w'.heap.size ∧ AtBlk w' b p (errV a k) ∧ Below w.heap.size w w'

theorem scan_end {a : Nat → Addr} {w w' w1 : World} {R : Except (Nat × Nat) (List Tk)} {ts : List Tk} {i n : Nat} {v' : Value} {row : Option Nat} {o : Obj} (hX : R = .ok (ts ++ [tkEnd (i + n)])) (hB : Below w.heap.size w w')
    (ho : w1.ownsRow w.heap.size 173 4 v' (ts.length + 1) (tkCells ts ++ [.int .i64 ((i : Int) + (n : Int)), .int .i64 0, .string ⟨#[]⟩, .int .i64 0]))
    (hg : (w'.alloc o).grownBy w1 row) (hr : ∀ k, row = some k → w.heap.size ≤ k) : ScanPost a w R (.returned (.tuple #[v', .nilIface])) w1 := by
  subst hX
  refine ⟨v', rfl, ?_, ?_⟩
  · have e : tkCells (ts ++ [tkEnd (i + n)]) = tkCells ts ++ [.int .i64 ((i : Int) + (n : Int)), .int .i64 0, .string ⟨#[]⟩, .int .i64 0] := by
      rw [← tkCells_snoc]; simp [tkEnd]
    rw [e, List.length_append]; exact ho
  · exact (hB.alloc hB.size _).grown hg (Nat.le_trans hB.size (by simp)) hr

theorem scan_bad {a : Nat → Addr} {w w' w1 : World} {R : Except (Nat × Nat) (List Tk)} {p k b : Nat} {o : Obj} (hX : R = .error (p, k)) (hB : Below w.heap.size w w') (hb : Below w'.heap.size w' w1) (h1 : w'.heap.size ≤ b) (h2 : b < w1.heap.size)
    (hat : AtBlk w1 b p (errV a k)) : ScanPost a w R (.returned (.tuple #[.slice none 0 0, .iface 110 (.pointer (some ⟨b, 0, none⟩))])) (w1.alloc o) := by
  subst hX
  have := hB.size
  have := hb.size
  exact ⟨b, rfl, by omega, by simp; omega, hat.alloc _, (hB.trans (hb.mono hB.size)).alloc (by omega) _⟩

/-- the token's own box, behind the append. -/
theorem scan_kept {w' w1 w2 : World} {row : Option Nat} {c : Array Value} {t : TypeId} {o : Obj} (hb : Below w'.heap.size w' w1) (hg : ((w1.alloc (.cells c t)).alloc o).grownBy w2 row) (hr : ∀ k, row = some k → k < w'.heap.size) :
    ∀ j, w2.cell? ⟨w1.heap.size, j, none⟩ = c[j]? := by
  have h : w2.heap[w1.heap.size]? = some (.cells c t (0, 0)) := by
    rw [hg.block _ (by simp; omega) (fun e => by have := hr _ e.symm; have := hb.size; omega)]
    exact heap_prev (heap_last rfl)
  exact (blk h).1

/-- the loop's relation: so far the tokens ts, and what comes of the rest. -/
def ScanRel (s : ByteArray) (w : World) (R : Except (Nat × Nat) (List Tk)) (v : Value) (i : Nat) (wr : World) : Prop :=
  ∃ (f : Nat) (ts : List Tk), s.size < f + i ∧ ts.length ≤ i ∧ wr.ownsRow w.heap.size 173 4 v ts.length (tkCells ts) ∧ Below w.heap.size w wr ∧
    R = match scanFrom s f i with
      | .error e => .error e
      | .ok r => .ok (ts ++ r)

theorem scan_next {s : ByteArray} {w w' w1 w2 : World} {R : Except (Nat × Nat) (List Tk)} {v' : Value} {i n f : Nat} {ts : List Tk} {t : Tk} {row : Option Nat} {o o' : Obj} (hf : s.size < f + 1 + i) (htl : ts.length ≤ i) (htz : 0 < t.text.size)
    (hX : R = match (match scanFrom s f (i + n + t.text.size) with
          | .error e => .error e
          | .ok r => .ok (t :: r) : Except (Nat × Nat) (List Tk)) with
          | .error e => .error e
          | .ok r => .ok (ts ++ r)) (hB : Below w.heap.size w w') (hb : Below w'.heap.size w' w1)
    (ho : w2.ownsRow w.heap.size 173 4 v' (ts.length + 1) (tkCells ts ++ [.int .i64 t.place, .int .i64 t.kind, .string t.text, .int .i64 t.value]))
    (hg : ((w1.alloc o).alloc o').grownBy w2 row) (hr : ∀ k, row = some k → w.heap.size ≤ k) : ScanRel s w R v' (i + n + t.text.size) w2 := by
  have h1 := hB.size
  have h2 := hb.size
  refine ⟨f, ts ++ [t], by omega, by simp; omega, ?_, ?_, ?_⟩
  · rw [← tkCells_snoc, List.length_append]; exact ho
  · exact ((((hB.trans (hb.mono h1)).alloc (by omega) _).alloc (by simp; omega) _).grown hg (by simp; omega) hr)
  · rw [hX]
    cases scanFrom s f (i + n + t.text.size) with
    | error e => rfl
    | ok r => simp

set_option maxHeartbeats 1000000 in
theorem scan_walk (s : ByteArray) (a : Nat → Addr) (B : Nat) (w : World) (HE : Hid (Env a B w)) (hs : s.size ≤ 1000) (R : Except (Nat × Nat) (List Tk)) (HR : Hid (R = scanP s)) :
    Calls Tryz.prog 60 #[.string s] w fun e w' => ScanPost a w R e w' := by
  have hd : decide (1000 < (s.size : Int)) = false := by simp; omega
  obtain ⟨i0, hi, hinf⟩ := Option.map_eq_some_iff.1 infoTk
  simp only [Prod.mk.injEq] at hinf
  obtain ⟨hz0, hz1, hz2⟩ := hinf
  have HI := hide hi
  have HZ0 := hide hz0
  have HZ1 := hide hz1
  have HZ2 := hide hz2
  clear hi hz0 hz1 hz2
  go_enter Tryz.func60, Tryz.ntmps60
  go_wp2_with fail
  go_loopw [4, 5] (fun v t wr => ∃ i : Nat, i ≤ s.size ∧ t = .int .i64 i ∧ ScanRel s w R v i wr) (fun _ t _ => s.size - (intOf t).toNat)
  case atStart => exact ⟨0, Nat.zero_le _, rfl, s.size + 1, [], by omega, by simp, World.ownsRow_nil _ _ _ _, Below.refl _ _, by rw [unhide HR]; unfold scanP; cases scanFrom s (s.size + 1) 0 <;> rfl⟩
  case round =>
    obtain ⟨i, hi, rfl, hrel⟩ := hrel
    obtain ⟨f, ts, hf, htl, hown, hbl, hR⟩ := hrel
    have HRR := hide hR
    have HO := hide hown
    have HBL := hide hbl
    clear hR hown hbl
    match f, hf, HRR with
    | 0, hf, _ => exact absurd hf (by omega)
    | f + 1, hf, HRR =>
    have hlead := lead_le blankI (s.extract i s.size).data.toList
    rw [sizeL, rest_size] at hlead
    have hm : (s.extract i s.size).size ≤ maxLen := by rw [rest_size]; unfold maxLen; omega
    have HM := hide hm
    clear hm
    have hq : ((s.extract i s.size).extract 0 (lead blankI (s.extract i s.size).data.toList)).size = lead blankI (s.extract i s.size).data.toList := by
      rw [ByteArray.size_extract, rest_size]; omega
    have HQ := hide hq
    clear hq
    go_wp2_with fail
    refine (leading_blank _ _ (unhide HM)).mono ?_
    rintro e w' ⟨rfl, rfl⟩
    have hq := unhide HQ
    clear HQ HM
    have HN : Hid (R = match (if i + lead blankI (s.extract i s.size).data.toList = s.size then .ok [tkEnd (i + lead blankI (s.extract i s.size).data.toList)] else match scanOneP s (i + lead blankI (s.extract i s.size).data.toList) with
      | .error e => .error e
      | .ok t => match scanFrom s f (i + lead blankI (s.extract i s.size).data.toList + t.text.size) with
        | .error e => .error e
        | .ok r => .ok (t :: r) : Except (Nat × Nat) (List Tk)) with
      | .error e => .error e
      | .ok r => .ok (ts ++ r)) := unhide HRR
    clear HRR
    generalize (s.extract i s.size).extract 0 (lead blankI (s.extract i s.size).data.toList) = q at *
    generalize lead blankI (s.extract i s.size).data.toList = n at *
    by_cases hj : i + n = s.size
    · have hb : (((i : Int) + (n : Int)) == (s.size : Int)) = true := by simp; omega
      have HX : Hid (R = .ok (ts ++ [tkEnd (i + n)])) := by have := unhide HN; rw [if_pos hj] at this; exact this
      clear HN
      go_wp2_with (at_builtin; refine wpList_append_own _ rfl _ _ 162 rfl w.heap.size 173 i0 (.agg #[.int .i64 0, .int .i64 0, .string ⟨#[]⟩, .int .i64 0]) 4 40 Tryz.underlying162 (unhide HI) (unhide HZ0) (unhide HZ1) (unhide HZ2) rfl (by decide) _ _ _ rfl ((unhide HO).alloc _) ⟨w'.heap.size, 0, none⟩ 1 1 [.int .i64 ((i : Int) + (n : Int)), .int .i64 0, .string ⟨#[]⟩, .int .i64 0] rfl rfl ?c1 ?c2 ?c3 ?c4 ?c5 ?_)
      case c1 => exact cell_new rfl
      case c2 => exact one4 _ _ _ _
      case c3 => unfold maxLen; omega
      case c4 => omega
      case c5 => have := (unhide HBL).size; simp; omega
      intro v' w1 ho hg _
      have HO1 := hide ho
      have HG := hide hg
      clear ho hg
      go_wp2
      go_ret2
      exact scan_end (unhide HX) (unhide HBL) (unhide HO1) (unhide HG) (fun k hk => ((unhide HO).lt k hk).1)
    · have hb : (((i : Int) + (n : Int)) == (s.size : Int)) = false := by simp; omega
      cases hsc : scanOneP s (i + n) with
      | error pk =>
        obtain ⟨p, k⟩ := pk
        have HX : Hid (R = .error (p, k)) := by have := unhide HN; rw [if_neg hj, hsc] at this; exact this
        have HSC := hide hsc
        clear HN hsc
        go_wp2_with fail
        rw [show ((i : Int) + (n : Int)) = ((i + n : Nat) : Int) from by omega]
        refine (scanOne_err s (i + n) p k a B _ ((unhide HE).keep ((unhide HBL).mono (unhide HE).size)) (by omega) hs (unhide HSC)).mono ?_
        rintro e w1 ⟨b, rfl, hb1, hb2, hat, hbe⟩
        have HAT := hide hat
        have HBE := hide hbe
        clear hat hbe
        go_wp2
        go_ret2
        exact scan_bad (unhide HX) (unhide HBL) (unhide HBE) hb1 hb2 (unhide HAT)
      | ok t =>
        have HX : Hid (R = match (match scanFrom s f (i + n + t.text.size) with
          | .error e => .error e
          | .ok r => .ok (t :: r) : Except (Nat × Nat) (List Tk)) with
          | .error e => .error e
          | .ok r => .ok (ts ++ r)) := by have := unhide HN; rw [if_neg hj, hsc] at this; exact this
        have htz := tok_size s (i + n) t (by omega) hsc
        have HSC := hide hsc
        clear HN hsc
        go_wp2_with fail
        rw [show ((i : Int) + (n : Int)) = ((i + n : Nat) : Int) from by omega]
        refine (scanOne_ok s (i + n) t a B _ ((unhide HE).keep ((unhide HBL).mono (unhide HE).size)) (by omega) hs (unhide HSC)).mono ?_
        rintro e w1 ⟨rfl, hbe⟩
        have HBE := hide hbe
        clear hbe
        go_wp2_with (at_builtin; refine wpList_append_own _ rfl _ _ 162 rfl w.heap.size 173 i0 (.agg #[.int .i64 0, .int .i64 0, .string ⟨#[]⟩, .int .i64 0]) 4 40 Tryz.underlying162 (unhide HI) (unhide HZ0) (unhide HZ1) (unhide HZ2) rfl (by decide) _ _ _ rfl (((ownsRow_keep (unhide HO) (unhide HBE)).alloc _).alloc _) ⟨w1.heap.size + 1, 0, none⟩ 1 1 [.int .i64 t.place, .int .i64 t.kind, .string t.text, .int .i64 t.value] rfl rfl ?c1 ?c2 ?c3 ?c4 ?c5 ?_)
        case c1 => exact cell_new (by simp)
        case c2 => exact one4 _ _ _ _
        case c3 => unfold maxLen; omega
        case c4 => omega
        case c5 => have := (unhide HBL).size; have := (unhide HBE).size; simp; omega
        intro v' w2 ho hg _
        have HO1 := hide ho
        have HG := hide hg
        have hc := scan_kept (unhide HBE) (unhide HG) (fun k hk => ((unhide HO).lt k hk).2)
        clear ho hg
        go_wp2
        exact ⟨⟨i + n + t.text.size, by omega, by go_num, scan_next hf htl htz.1 (unhide HX) (unhide HBL) (unhide HBE) (unhide HO1) (unhide HG) (fun k hk => ((unhide HO).lt k hk).1)⟩, by simp [intOf]; omega⟩

set_option maxHeartbeats 400000 in
theorem scan_long (s : ByteArray) (a : Nat → Addr) (B : Nat) (w : World) (hE : Env a B w) (hs : 1000 < s.size) :
    Calls Tryz.prog 60 #[.string s] w fun e w' => e = .returned (.tuple #[.slice none 0 0, errV a eLong]) ∧ Below w.heap.size w w' := by
  have hg := hE.cell 0 (by decide)
  clear hE
  have hd : decide (1000 < (s.size : Int)) = true := by simp; omega
  go_enter Tryz.func60, Tryz.ntmps60
  go_wp2
  go_region
  go_wp2
  go_ret2
  exact ⟨rfl, (Below.refl _ _).drew⟩
end Go.Proofs.YtfkeddkfegaeiaaGreatDoor
