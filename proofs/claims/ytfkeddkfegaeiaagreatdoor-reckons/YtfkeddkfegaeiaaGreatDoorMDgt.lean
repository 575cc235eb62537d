/-
  Part 49.
-/
import Derived.Test.YtfkeddkfegaeiaaGreatDoorJ01
import Derived.WalkLawsBesides
import Derived.Lib.SlBytesRow
import Derived.Deep.RegionWith
import Derived.Test.YtfkeddkfegaeiaaGreatDoorJ27
import Derived.Test.YtfkeddkfegaeiaaGreatDoorMPlA
import Derived.Test.YtfkeddkfegaeiaaGreatDoorMNwA
namespace Go.Proofs.YtfkeddkfegaeiaaGreatDoor
open Go.RowKit

theorem byteS (w : World) (b : Nat) (c : UInt8) (n : Int) (hn : n = c.toNat) (hc : w.cell? ⟨b, 0, none⟩ = some (.int .u8 n)) : (convert 89 9 (.slice (some ⟨b, 0, none⟩) 1 1)).run Tryz.prog w = .ok (.string ⟨#[c]⟩) w := by
  subst hn
  refine Lib.run_convert_whole (P := Tryz.prog) w 89 5 9 Tryz.underlying89 Tryz.underlying5 Tryz.underlying9 b 0 ⟨#[c]⟩ (fun i hi => ?_) 1
  have e : i = 0 := by have : i < 1 := hi; omega
  subst e
  exact hc

/-- a number below 1000, as digits. -/
def dig (n : Nat) : List UInt8 := if n < 10 then [UInt8.ofNat (48 + n)] else if n < 100 then [UInt8.ofNat (48 + n / 10), UInt8.ofNat (48 + n % 10)] else [UInt8.ofNat (48 + n / 100), UInt8.ofNat (48 + n / 10 % 10), UInt8.ofNat (48 + n % 10)]
theorem dig_one {n : Nat} (h : n < 10) : dig n = [UInt8.ofNat (48 + n)] := by unfold dig; rw [if_pos h]
theorem dig_more {n : Nat} (h : 10 ≤ n) (h2 : n < 1000) : dig n = dig (n / 10) ++ [UInt8.ofNat (48 + n % 10)] := by
  unfold dig
  rw [if_neg (by omega)]
  by_cases h3 : n < 100
  · rw [if_pos h3, if_pos (by omega)]; rfl
  · rw [if_neg h3, if_neg (by omega), if_pos (by omega), Nat.div_div_eq_div_mul]; rfl

theorem u8_of {n : Nat} (h : n < 10) : ((UInt8.ofNat (48 + n)).toNat : Int) = 48 + (n : Int) := by
  rw [UInt8.toNat_ofNat', Nat.mod_eq_of_lt (by omega)]; omega

set_option maxRecDepth 100000 in
set_option maxHeartbeats 1000000 in
theorem digits_one (n : Nat) (h : n < 10) (w : World) : Calls Tryz.prog 32 #[.int .i64 (n : Nat)] w fun e w' => e = .returned (.string ⟨(dig n).toArray⟩) ∧ Below w.heap.size w w' := by
  have hd : decide ((n : Int) < 10) = true := by simp; omega
  rw [dig_one h]
  have hu := (u8_of h).symm
  generalize UInt8.ofNat (48 + n) = c at *
  have hcv := byteS (w.alloc (.cells #[.int .u8 (48 + (n : Int))] 5)) w.heap.size c (48 + (n : Int)) hu (by simp)
  have hw : IntKind.u8.wrap (48 + (n : Int)) = 48 + (n : Int) := by unfold IntKind.wrap; simp [IntKind.bits, IntKind.signed]; omega
  clear hu
  go_enter Tryz.func32, Tryz.ntmps32
  go_wp2
  go_ret
  exact ⟨rfl, (Below.refl _ _).alloc (Nat.le_refl _) _⟩
set_option maxRecDepth 100000 in
set_option maxHeartbeats 1000000 in
theorem digits_step (n m : Nat) (h1 : 10 ≤ n) (h2 : n < 1000) (hm : n / 10 = m) (w : World) (IH : ∀ w, Calls Tryz.prog 32 #[.int .i64 (m : Nat)] w fun e w' => e = .returned (.string ⟨(dig m).toArray⟩) ∧ Below w.heap.size w w') : Calls Tryz.prog 32 #[.int .i64 (n : Nat)] w fun e w' => e = .returned (.string ⟨(dig n).toArray⟩) ∧ Below w.heap.size w w' := by
  have hd : decide ((n : Int) < 10) = false := by simp; omega
  have hq : (n : Int) / 10 = (m : Nat) := by omega
  have hr : (n : Int) % 10 = ((n % 10 : Nat) : Int) := by omega
  have hq2 : (n : Int).tdiv 10 = (m : Nat) := by rw [Int.tdiv_eq_ediv_of_nonneg (by omega)]; exact hq
  have hr2 : (n : Int).tmod 10 = ((n % 10 : Nat) : Int) := by rw [Int.tmod_eq_emod_of_nonneg (by omega)]; exact hr
  rw [dig_more h1 h2, hm]
  have h3 : n % 10 < 10 := Nat.mod_lt _ (by omega)
  generalize n % 10 = k at *
  have hu := (u8_of h3).symm
  generalize UInt8.ofNat (48 + k) = c at *
  have hcv : ∀ (W : World) (b : Nat), W.cell? ⟨b, 0, none⟩ = some (.int .u8 (48 + (k : Int))) → Sem.run Tryz.prog (convert 89 9 (.slice (some ⟨b, 0, none⟩) 1 1)) W = .ok (.string ⟨#[c]⟩) W := fun W b hc => byteS W b c (48 + (k : Int)) hu hc
  have hw : IntKind.u8.wrap (48 + (k : Int)) = 48 + (k : Int) := by unfold IntKind.wrap; simp [IntKind.bits, IntKind.signed]; omega
  have hwk : IntKind.i64.wrap (48 + (k : Int)) = 48 + (k : Int) := by unfold IntKind.wrap; simp [IntKind.bits, IntKind.signed]; omega
  have hwm : IntKind.i64.wrap (m : Int) = (m : Int) := by unfold IntKind.wrap; simp [IntKind.bits, IntKind.signed]; omega
  have HI := hide IH
  clear hu IH
  have HR : Hid ((⟨(dig m ++ [c]).toArray⟩ : ByteArray) = ⟨(dig m).toArray⟩ ++ ⟨#[c]⟩) := by
    unfold Hid
    apply Go.WideShapes.bytes_inj
    simp
  have hsz : (⟨(dig m).toArray⟩ : ByteArray).size ≤ 3 := by show (dig m).toArray.size ≤ 3; rw [List.size_toArray]; unfold dig; split <;> (try split) <;> simp
  rw [unhide HR]
  clear HR
  generalize (⟨(dig m).toArray⟩ : ByteArray) = L at *
  go_enter Tryz.func32, Tryz.ntmps32
  go_wp2_with fail
  go_region_with (first | (go_at_call 32; refine ((unhide HI) _).mono ?_; rintro e w2 ⟨rfl, hb⟩; have kx := fun (b o : Nat) (h : b < _) => hb.cell (p := ⟨b, o, none⟩) h; have HB := hide hb; clear hb))
  all_goals go_wp2
  all_goals go_ret
  all_goals refine ⟨rfl, ?_⟩
  all_goals first
    | exact (((Below.refl w.heap.size w).drew).trans (unhide HB)).alloc (unhide HB).size _
    | exact (((Below.refl w.heap.size w).drew).alloc (Nat.le_refl _) _).trans ((unhide HB).mono (by simp))
theorem digits_any (n : Nat) (h : n < 1000) (w : World) : Calls Tryz.prog 32 #[.int .i64 (n : Nat)] w fun e w' => e = .returned (.string ⟨(dig n).toArray⟩) ∧ Below w.heap.size w w' := by
  by_cases h1 : n < 10
  · exact digits_one n h1 w
  · refine digits_step n (n / 10) (by omega) h rfl w (fun w => ?_)
    by_cases h2 : n / 10 < 10
    · exact digits_one _ h2 w
    · exact digits_step (n / 10) (n / 10 / 10) (by omega) (by omega) rfl w (fun w => digits_one _ (by omega) w)
def pickI (c n : Int) : Int := (if c < 0 then -(c + 1) else c) % n
set_option maxRecDepth 100000 in
set_option maxHeartbeats 1000000 in
theorem pick_any (c n : Int) (h0 : -9223372036854775808 ≤ c) (h1 : c < 9223372036854775808) (hn : 0 < n) (hn2 : n < 9223372036854775808) (w : World) : Calls Tryz.prog 31 #[.int .i64 c, .int .i64 n] w fun e w' => e = .returned (.int .i64 (pickI c n)) ∧ w' = w := by
  have hz : ¬ n = 0 := by omega
  by_cases hc : c < 0
  · have hd : decide (c < 0) = true := by simp; omega
    have e1 : wrap64 (-wrap64 (c + 1)) = -(c + 1) := by unfold wrap64; omega
    have e2 : (-(c + 1)).tmod n = pickI c n := by unfold pickI; rw [if_pos hc, Int.tmod_eq_emod_of_nonneg (by omega)]
    have e3 : wrap64 (pickI c n) = pickI c n := by
      have := Int.emod_nonneg (-(c + 1)) hz
      have := Int.emod_lt_of_pos (-(c + 1)) hn
      unfold pickI; rw [if_pos hc]; unfold wrap64; omega
    go_enter Tryz.func31, Tryz.ntmps31
    go_wp2_with fail
    go_ret
    exact ⟨rfl, rfl⟩
  · have hd : decide (c < 0) = false := by simp; omega
    have e2 : c.tmod n = pickI c n := by unfold pickI; rw [if_neg hc, Int.tmod_eq_emod_of_nonneg (by omega)]
    have e3 : wrap64 (pickI c n) = pickI c n := by
      have := Int.emod_nonneg c hz
      have := Int.emod_lt_of_pos c hn
      unfold pickI; rw [if_neg hc]; unfold wrap64; omega
    go_enter Tryz.func31, Tryz.ntmps31
    go_wp2_with fail
    go_ret
    exact ⟨rfl, rfl⟩
end Go.Proofs.YtfkeddkfegaeiaaGreatDoor
namespace Go.Proofs.YtfkeddkfegaeiaaGreatDoor

def spr (l : List (List UInt8 × Tk)) : List UInt8 := l.flatMap fun x => x.1 ++ x.2.text.data.toList
theorem spr_cons (x : List UInt8 × Tk) (r : List (List UInt8 × Tk)) : spr (x :: r) = x.1 ++ (x.2.text.data.toList ++ spr r) := by simp [spr]
def FitT : List (List UInt8 × Tk) → Prop
  | [] => True
  | [_] => True
  | x :: y :: r => (y.1 = [] → okNext x.2.text.data.toList (y.2.text.data.toList.headD 0) = true) ∧ FitT (y :: r)
def Blank (l : List UInt8) : Prop := ∀ c, c ∈ l → blankI c.toNat = true
def strip (t : Tk) : Nat × ByteArray := (t.kind, t.text)

set_option maxRecDepth 100000 in
theorem letter_blank (c : UInt8) : (!(letterI c.toNat && blankI c.toNat)) = true := byte_all (fun c => !(letterI c.toNat && blankI c.toNat)) (by decide) c
set_option maxRecDepth 100000 in
theorem digit_blank (c : UInt8) : (!(digitI c.toNat && blankI c.toNat)) = true := byte_all (fun c => !(digitI c.toNat && blankI c.toNat)) (by decide) c
/-- blanks, and what is tight ahead. -/
def softB (c : UInt8) : Bool := blankI c.toNat || c == 41 || c == 44 || c == 46
set_option maxRecDepth 100000 in
theorem soft_letter (c : UInt8) : (!softB c || !letterI c.toNat) = true := byte_all (fun c => !softB c || !letterI c.toNat) (by decide) c
set_option maxRecDepth 100000 in
theorem soft_digit (c : UInt8) : (!softB c || !digitI c.toNat) = true := byte_all (fun c => !softB c || !digitI c.toNat) (by decide) c
set_option maxRecDepth 100000 in
theorem soft_sign (c : UInt8) : (!softB c || signL.all fun l => okNext l c) = true := byte_all (fun c => !softB c || signL.all fun l => okNext l c) (by decide) c
theorem IsTok.ne {t : Tk} (h : IsTok t) : t.text.data.toList ≠ [] := by
  rcases h with ⟨h1, _, _, _, _⟩ | ⟨h1, _, _, _, _, _⟩ | ⟨h1, _, _, _⟩ | ⟨h1, _, _⟩
  · exact h1
  · exact h1
  · exact h1
  · intro e; rw [e] at h1; revert h1; decide
theorem ok_soft {t : Tk} (h : IsTok t) {c : UInt8} (hc : softB c = true) : okNext t.text.data.toList c = true := by
  have hl := soft_letter c
  have hd := soft_digit c
  have hs := soft_sign c
  rw [hc] at hl hd hs
  simp only [Bool.not_true, Bool.false_or] at hl hd hs
  rcases h with ⟨h1, h2, _, _, _⟩ | ⟨h1, h2, _, _, _, _⟩ | ⟨h1, h2, _, _⟩ | ⟨h1, _, _⟩
  · unfold okNext; rw [if_pos (h2 _ (head_mem h1))]; exact hl
  · unfold okNext; rw [if_pos (h2 _ (head_mem h1))]; exact hl
  · have h4 := h2 _ (head_mem h1)
    have hn : ¬ letterI (t.text.data.toList.headD 0).toNat = true := fun e => by have := letter_digit (t.text.data.toList.headD 0); rw [e, h4] at this; cases this
    unfold okNext; rw [if_neg hn, if_pos h4]; exact hd
  · exact List.all_eq_true.1 hs _ h1
theorem sign_blank : ∀ l, l ∈ signL → blankI (l.headD 0).toNat = false := by decide
theorem sign_32 : ∀ l, l ∈ signL → ∀ c, c ∈ l → c ≠ 32 := by decide
theorem tok_nb {t : Tk} (h : IsTok t) : blankI (t.text.data.toList.headD 0).toNat = false := by
  rcases h with ⟨h1, h2, _, _, _⟩ | ⟨h1, h2, _, _, _, _⟩ | ⟨h1, h2, _, _⟩ | ⟨h1, _, _⟩
  · have := letter_blank (t.text.data.toList.headD 0); rw [h2 _ (head_mem h1)] at this; simpa using this
  · have := letter_blank (t.text.data.toList.headD 0); rw [h2 _ (head_mem h1)] at this; simpa using this
  · have := digit_blank (t.text.data.toList.headD 0); rw [h2 _ (head_mem h1)] at this; simpa using this
  · exact sign_blank _ h1
theorem tok_32 {t : Tk} (h : IsTok t) : ∀ c, c ∈ t.text.data.toList → c ≠ 32 := fun c hc => by
  rcases h with ⟨_, h2, _, _, _⟩ | ⟨_, h2, _, _, _, _⟩ | ⟨_, h2, _, _⟩ | ⟨h1, _, _⟩
  · intro e; have := h2 c hc; rw [e] at this; revert this; decide
  · intro e; have := h2 c hc; rw [e] at this; revert this; decide
  · intro e; have := h2 c hc; rw [e] at this; revert this; decide
  · exact sign_32 _ h1 c hc
theorem rest_list (s : ByteArray) (a : Nat) : (s.extract a s.size).data.toList = s.data.toList.drop a := by
  simp only [ByteArray.data_extract, Array.toList_extract, List.extract_eq_take_drop]
  exact List.take_of_length_le (by rw [List.length_drop, sizeL]; exact Nat.le_refl _)
theorem drop_pre {s : ByteArray} {pre b : List UInt8} (h : s.data.toList = pre ++ b) : (s.extract pre.length s.size).data.toList = b := by
  rw [rest_list, h, List.drop_left]
theorem size_list (s : ByteArray) {l : List UInt8} (h : s.data.toList = l) : s.size = l.length := by rw [← sizeL, h]

set_option maxRecDepth 100000 in
theorem free_next (c : UInt8) : (okNext [40] c && okNext [46] c && okNext [45] c) = true := byte_all (fun c => okNext [40] c && okNext [46] c && okNext [45] c) (by decide) c
end Go.Proofs.YtfkeddkfegaeiaaGreatDoor
namespace Go.Proofs.YtfkeddkfegaeiaaGreatDoor
open Go.RowKit

/-! ### words of 64 bits -/
def InR (x : Int) : Prop := -9223372036854775808 ≤ x ∧ x < 9223372036854775808
theorem wrap_in (n : Int) : InR (wrap64 n) := by unfold InR wrap64; omega
theorem wrap_id {n : Int} (h : InR n) : wrap64 n = n := by unfold InR at h; unfold wrap64; omega
theorem wrap_addR (c x : Int) : wrap64 (c + wrap64 x) = wrap64 (c + x) := by unfold wrap64; omega
theorem wrap_addL (c x : Int) : wrap64 (wrap64 c + x) = wrap64 (c + x) := by unfold wrap64; omega
theorem wrap_subL (c x : Int) : wrap64 (wrap64 c - x) = wrap64 (c - x) := by unfold wrap64; omega
theorem op_add (a b : Int) : opOf ⟨#[43]⟩ a b = wrap64 (a + b) := by
  have h : ((⟨#[43]⟩ : ByteArray).toList == [43]) = true := by kernel_rfl
  unfold opOf; rw [h]; rfl
theorem op_sub (a b : Int) : opOf ⟨#[45]⟩ a b = wrap64 (a - b) := by
  have h : ((⟨#[45]⟩ : ByteArray).toList == [43]) = false := by kernel_rfl
  have h2 : ((⟨#[45]⟩ : ByteArray).toList == [45]) = true := by kernel_rfl
  unfold opOf; rw [h, h2]; rfl
theorem op_mul (a b : Int) : opOf ⟨#[42]⟩ a b = wrap64 (a * b) := by
  have h : ((⟨#[42]⟩ : ByteArray).toList == [43]) = false := by kernel_rfl
  have h2 : ((⟨#[42]⟩ : ByteArray).toList == [45]) = false := by kernel_rfl
  unfold opOf; rw [h, h2]; rfl

/-! ### tokens -/
abbrev tkW (l : List UInt8) : Tk := ⟨0, 1, ⟨l.toArray⟩, 0⟩
abbrev tkM (l : List UInt8) : Tk := ⟨0, 2, ⟨l.toArray⟩, 0⟩
abbrev tkD (n : Nat) : Tk := ⟨0, 3, ⟨(dig n).toArray⟩, n⟩

inductive Bex where
  | num (v : Fin 1000)
  | cola
  | colb
  | neg (e : Bex)
  | mul (e f : Bex)
  | sub (e f : Bex)
  | add (e f : Bex)
/-- a blank ahead of the first. -/
def sp1 : List (List UInt8 × Tk) → List (List UInt8 × Tk)
  | [] => []
  | x :: r => (32 :: x.1, x.2) :: r
def Bex.tks : Bex → List (List UInt8 × Tk)
  | .num v => [([], tkD v.1)]
  | .cola => [([], tkM [120]), ([], tkW [46]), ([], tkM [97])]
  | .colb => [([], tkM [120]), ([32], tkW [46]), ([32], tkM [98])]
  | .neg e => ([], tkW [45]) :: ([], tkW [40]) :: (e.tks ++ [([], tkW [41])])
  | .mul e f => ([], tkW [40]) :: (e.tks ++ ([], tkW [41]) :: ([32], tkW [42]) :: ([], tkW [40]) :: (f.tks ++ [([], tkW [41])]))
  | .sub e f => e.tks ++ ([32], tkW [45]) :: ([32], tkW [40]) :: (f.tks ++ [([], tkW [41])])
  | .add e f => e.tks ++ ([], tkW [43]) :: sp1 f.tks
def Bex.toks (e : Bex) : List Tk := e.tks.map (·.2)
theorem sp1_toks (l : List (List UInt8 × Tk)) : (sp1 l).map (·.2) = l.map (·.2) := by cases l <;> rfl
def Bex.val (A B : Int) : Bex → Int
  | .num v => v.1
  | .cola => A
  | .colb => B
  | .neg e => wrap64 (-(e.val A B))
  | .mul e f => wrap64 (e.val A B * f.val A B)
  | .sub e f => wrap64 (e.val A B - f.val A B)
  | .add e f => wrap64 (e.val A B + f.val A B)
def Bex.need : Bex → Nat
  | .num _ => 1
  | .cola => 1
  | .colb => 1
  | .neg e => e.need + 2
  | .mul e f => max e.need f.need + 1
  | .sub e f => max e.need (f.need + 1)
  | .add e f => max e.need f.need
def Bex.ops : Bex → Nat
  | .num _ => 0
  | .cola => 0
  | .colb => 0
  | .neg _ => 0
  | .mul _ _ => 0
  | .sub e _ => e.ops + 1
  | .add e f => f.ops + 1 + e.ops
theorem Bex.val_in {A B : Int} (hA : InR A) (hB : InR B) : ∀ e : Bex, InR (e.val A B)
  | .num v => by have := v.2; unfold Bex.val InR; omega
  | .cola => hA
  | .colb => hB
  | .neg _ => wrap_in _
  | .mul _ _ => wrap_in _
  | .sub _ _ => wrap_in _
  | .add _ _ => wrap_in _
theorem Bex.need_pos : ∀ e : Bex, 1 ≤ e.need
  | .num _ => Nat.le_refl _
  | .cola => Nat.le_refl _
  | .colb => Nat.le_refl _
  | .neg e => by unfold Bex.need; omega
  | .mul e f => by unfold Bex.need; omega
  | .sub e f => by have := e.need_pos; unfold Bex.need; omega
  | .add e f => by have := e.need_pos; unfold Bex.need; omega
theorem Bex.ops_lt : ∀ e : Bex, e.ops < e.toks.length
  | .num _ => by simp [Bex.toks, Bex.tks, Bex.ops]
  | .cola => by simp [Bex.toks, Bex.tks, Bex.ops]
  | .colb => by simp [Bex.toks, Bex.tks, Bex.ops]
  | .neg e => by simp [Bex.toks, Bex.tks, Bex.ops]
  | .mul e f => by simp [Bex.toks, Bex.tks, Bex.ops]
  | .sub e f => by
    have := e.ops_lt
    simp only [Bex.toks, List.length_map] at this
    simp [Bex.toks, Bex.tks, Bex.ops]; omega
  | .add e f => by
    have h1 := e.ops_lt
    have h2 := f.ops_lt
    have h3 : (sp1 f.tks).length = f.tks.length := by cases f.tks <;> rfl
    simp only [Bex.toks, List.length_map] at h1 h2
    simp [Bex.toks, Bex.tks, Bex.ops, h3]; omega

/-! ### where tokens stand -/
def AtT (ts : List Tk) (p : Nat) (l : List Tk) : Prop := ∀ i t, l[i]? = some t → (tkAt ts (p + i)).kind = t.kind ∧ (tkAt ts (p + i)).text = t.text ∧ (tkAt ts (p + i)).value = t.value
theorem AtT.head {ts : List Tk} {p : Nat} {t : Tk} {l : List Tk} (h : AtT ts p (t :: l)) : (tkAt ts p).kind = t.kind ∧ (tkAt ts p).text = t.text ∧ (tkAt ts p).value = t.value := h 0 t rfl
theorem AtT.tail {ts : List Tk} {p : Nat} {t : Tk} {l : List Tk} (h : AtT ts p (t :: l)) : AtT ts (p + 1) l := fun i u hu => by
  have := h (i + 1) u (by simpa using hu)
  rwa [show p + (i + 1) = p + 1 + i by omega] at this
theorem AtT.left {ts : List Tk} {p : Nat} {l m : List Tk} (h : AtT ts p (l ++ m)) : AtT ts p l := fun i t ht => h i t (by rw [List.getElem?_append_left (List.getElem?_eq_some_iff.1 ht).1]; exact ht)
theorem AtT.right {ts : List Tk} {p : Nat} {l m : List Tk} (h : AtT ts p (l ++ m)) : AtT ts (p + l.length) m := fun i t ht => by
  have := h (l.length + i) t (by rw [List.getElem?_append_right (by omega), Nat.add_sub_cancel_left]; exact ht)
  rwa [← Nat.add_assoc] at this
theorem AtT.right' {ts : List Tk} {p q : Nat} {l m : List Tk} (h : AtT ts p (l ++ m)) (e : q = p + l.length) : AtT ts q m := e ▸ h.right

theorem hit_val {ts : List Tk} {p d k : Nat} {tx : ByteArray} (xs : List ByteArray) (hk : (tkAt ts p).kind = k) (ht : (tkAt ts p).text = tx) : hitP ts ⟨p, d, none⟩ xs = (k == 1 && Lib.containsS xs tx) := by unfold hitP; simp only [hk, ht]
theorem wk_at {ts : List Tk} {p d k : Nat} (hk : (tkAt ts p).kind = k) : wkP ts ⟨p, d, none⟩ k = ⟨p + 1, d, none⟩ := by unfold wkP; simp only [hk, if_true]; rfl
theorem wkT_at {ts : List Tk} {p d k : Nat} (hk : (tkAt ts p).kind = k) : wkT ts ⟨p, d, none⟩ k = tkAt ts p := by unfold wkT; simp only [hk, if_true]
theorem want_at {ts : List Tk} {p d : Nat} {xs : List ByteArray} (h : hitP ts ⟨p, d, none⟩ xs = true) : wantP ts ⟨p, d, none⟩ xs = ⟨p + 1, d, none⟩ := by unfold wantP; rw [if_pos h]; rfl

section
variable (at' : ByteArray → ByteArray → Int) (T : List Tb) (ss : List Sr) (r : List Int)
/-- nodes that come to x. -/
structure Okk (k : List Nd) (x : Int) : Prop where
  wf : WfV at' k
  er : exErr T ss k = none
  ev : evE at' k r = x
  rg : InR x
end
section
variable {at' : ByteArray → ByteArray → Int} {T : List Tb} {ss : List Sr} {r : List Int}
theorem okk_num {t : Tk} {x : Int} (h : t.value = x) (hx : InR x) : Okk at' T ss r [ndNum t] x := ⟨(ev_num at' t).1, rfl, by rw [(ev_num at' t).2]; exact h, hx⟩
theorem okk_minus {k : List Nd} {x : Int} (h : Okk at' T ss r k x) (p : Nat) : Okk at' T ss r (ndMinus p :: k) (wrap64 (-x)) :=
  ⟨(ev_minus h.wf p).1, by rw [exErr_cons, h.er]; rfl, by rw [(ev_minus h.wf p).2]; show wrap64 (-(evE at' k r)) = _; rw [h.ev], wrap_in _⟩
theorem okk_br {k : List Nd} {x : Int} (h : Okk at' T ss r k x) (p : Nat) : Okk at' T ss r (ndBr p :: k) x :=
  ⟨(ev_br h.wf p).1, by rw [exErr_cons, h.er]; rfl, by rw [(ev_br h.wf p).2]; exact h.ev, h.rg⟩
theorem okk_pair {k m : List Nd} {x y z : Int} (h : Okk at' T ss r k x) (g : Okk at' T ss r m y) (p : Nat) (sg : ByteArray) (hz : opOf sg x y = z) (hr : InR z) : Okk at' T ss r (ndPair p sg :: (k ++ m)) z :=
  ⟨(ev_pair h.wf g.wf p sg).1, by rw [exErr_cons, exErr_append, h.er, g.er]; rfl, by rw [(ev_pair h.wf g.wf p sg).2]; show opOf sg (evE at' k r) (evE at' m r) = _; rw [h.ev, g.ev, hz], hr⟩

/-- no more of a chain. -/
theorem chain_stop {ts : List Tk} {one : St → Rx} {xs : List ByteArray} {st : St} (h : hitP ts st xs = false) (pl : Nat) (l : List Nd) : ∀ f, chainLoop ts one xs pl f l st = (l, st)
  | 0 => rfl
  | f + 1 => by unfold chainLoop; rw [h]; rfl
theorem chain_go {ts : List Tk} {one : St → Rx} {xs : List ByteArray} {st : St} (h : hitP ts st xs = true) (pl : Nat) (l : List Nd) (f : Nat) : chainLoop ts one xs pl (f + 1) l st = chainLoop ts one xs pl f (ndPair pl (tkAt ts st.nx).text :: (l ++ (one (adv st)).1)) (one (adv st)).2 := by
  rw [chainLoop, if_pos h]
theorem term_one {ts : List Tk} {fac : St → Rx} {st st' : St} {k : List Nd} (h : fac st = (k, st')) (hs : hitP ts st' xMul = false) : termOf ts fac st = (k, st') := by
  unfold termOf chainP
  rw [h]
  exact chain_stop hs _ _ _

def PB (at' : ByteArray → ByteArray → Int) (T : List Tb) (ss : List Sr) (A B : Int) (ts : List Tk) (e : Bex) : Prop := ∀ n, e.need ≤ n → ∀ (p d pl f : Nat) (h : List Nd → List Nd) (c : Int), AtT ts p e.toks → p + e.toks.length < ts.length → (∀ d', hitP ts ⟨p + e.toks.length, d', none⟩ xMul = false) →
  (∀ k x, Okk at' T ss [A, B] k x → Okk at' T ss [A, B] (h k) (wrap64 (c + x))) →
  ∃ l', chainLoop ts (termOf ts (factorP ts n)) xAdd pl (f + e.ops) (h (termOf ts (factorP ts n) ⟨p, d, none⟩).1) (termOf ts (factorP ts n) ⟨p, d, none⟩).2 = chainLoop ts (termOf ts (factorP ts n)) xAdd pl f l' ⟨p + e.toks.length, d, none⟩ ∧ Okk at' T ss [A, B] l' (wrap64 (c + e.val A B))

theorem pb_expr {A B : Int} {ts : List Tk} {e : Bex} (hP : PB at' T ss A B ts e) (hi : InR (e.val A B)) {n : Nat} (hn : e.need ≤ n) (p d : Nat) (ha : AtT ts p e.toks) (hl : p + e.toks.length < ts.length) (hs : ∀ d', hitP ts ⟨p + e.toks.length, d', none⟩ xMul = false) (hs2 : ∀ d', hitP ts ⟨p + e.toks.length, d', none⟩ xAdd = false) :
    ∃ l', exprOf ts (factorP ts n) ⟨p, d, none⟩ = (l', ⟨p + e.toks.length, d, none⟩) ∧ Okk at' T ss [A, B] l' (e.val A B) := by
  obtain ⟨l', h1, h2⟩ := hP n hn p d (tkAt ts p).place (ts.length - e.ops) id 0 ha hl hs (fun k x hk => by rw [Int.zero_add, wrap_id hk.rg]; exact hk)
  rw [Int.zero_add, wrap_id hi] at h2
  refine ⟨l', ?_, h2⟩
  have := e.ops_lt
  rw [Nat.sub_add_cancel (by omega), chain_stop (hs2 d)] at h1
  exact h1

theorem pb_par {A B : Int} {ts : List Tk} {e : Bex} (hP : PB at' T ss A B ts e) (hi : InR (e.val A B)) {n : Nat} (hn : e.need ≤ n) (p d : Nat) (ha : AtT ts p (tkW [40] :: (e.toks ++ [tkW [41]]))) (hl : p + 1 + e.toks.length < ts.length) :
    ∃ l', factorP ts (n + 1) ⟨p, d, none⟩ = (l', ⟨p + 1 + e.toks.length + 1, d, none⟩) ∧ Okk at' T ss [A, B] l' (e.val A B) := by
  obtain ⟨h0, h1, _⟩ := ha.head
  have hc := ha.tail.right.head
  have hb := ha.tail.left
  have hm : ∀ d', hitP ts ⟨p + 1 + e.toks.length, d', none⟩ xMul = false := fun d' => by rw [hit_val xMul hc.1 hc.2.1]; kernel_rfl
  have hd : ∀ d', hitP ts ⟨p + 1 + e.toks.length, d', none⟩ xAdd = false := fun d' => by rw [hit_val xAdd hc.1 hc.2.1]; kernel_rfl
  obtain ⟨l', e1, o1⟩ := pb_expr hP hi hn (p + 1) (d + 1) hb hl hm hd
  refine ⟨ndBr (tkAt ts p).place :: l', ?_, okk_br o1 _⟩
  have g1 : hitP ts ⟨p, d, none⟩ xMin = false := by rw [hit_val xMin h0 h1]; kernel_rfl
  have g2 : hitP ts ⟨p, d, none⟩ xOpen = true := by rw [hit_val xOpen h0 h1]; kernel_rfl
  rw [factorP, g1, g2, if_neg Bool.false_ne_true, if_pos rfl]
  have hde : deepP (exprOf ts (factorP ts n)) (adv ⟨p, d, none⟩) = (l', ⟨p + 1 + e.toks.length, d, none⟩) := by
    unfold deepP
    have : ({ adv ⟨p, d, none⟩ with dp := (adv ⟨p, d, none⟩).dp + 1 } : St) = ⟨p + 1, d + 1, none⟩ := rfl
    rw [this, e1]
    rfl
  rw [hde]
  simp only
  rw [want_at (by rw [hit_val xClose hc.1 hc.2.1]; kernel_rfl)]
end
end Go.Proofs.YtfkeddkfegaeiaaGreatDoor
namespace Go.Proofs.YtfkeddkfegaeiaaGreatDoor
open Go.RowKit

section
variable {at' : ByteArray → ByteArray → Int} {T : List Tb} {ss : List Sr}
/-- a column is found. -/
structure ColOk (at' : ByteArray → ByteArray → Int) (T : List Tb) (ss : List Sr) (A B : Int) : Prop where
  a : InR A
  b : InR B
  ca : ∀ t u : Tk, t.text = ⟨#[120]⟩ → u.text = ⟨#[97]⟩ → ndErr T ss (ndCol t u) = none ∧ at' t.text u.text = 0
  cb : ∀ t u : Tk, t.text = ⟨#[120]⟩ → u.text = ⟨#[98]⟩ → ndErr T ss (ndCol t u) = none ∧ at' t.text u.text = 1
theorem okk_cola {A B : Int} (h : ColOk at' T ss A B) {t u : Tk} (ht : t.text = ⟨#[120]⟩) (hu : u.text = ⟨#[97]⟩) : Okk at' T ss [A, B] [ndCol t u] A :=
  ⟨(ev_col at' t u).1, by rw [exErr_cons, (h.ca t u ht hu).1]; rfl, by rw [(ev_col at' t u).2, (h.ca t u ht hu).2]; rfl, h.a⟩
theorem okk_colb {A B : Int} (h : ColOk at' T ss A B) {t u : Tk} (ht : t.text = ⟨#[120]⟩) (hu : u.text = ⟨#[98]⟩) : Okk at' T ss [A, B] [ndCol t u] B :=
  ⟨(ev_col at' t u).1, by rw [exErr_cons, (h.cb t u ht hu).1]; rfl, by rw [(ev_col at' t u).2, (h.cb t u ht hu).2]; rfl, h.b⟩

theorem fac_num {ts : List Tk} {n p d : Nat} {x : Nat} (ha : AtT ts p [tkD x]) : factorP ts (n + 1) ⟨p, d, none⟩ = ([ndNum (tkAt ts p)], ⟨p + 1, d, none⟩) := by
  obtain ⟨h0, h1, _⟩ := ha.head
  have g1 : hitP ts ⟨p, d, none⟩ xMin = false := by rw [hit_val xMin h0 h1]; rfl
  have g2 : hitP ts ⟨p, d, none⟩ xOpen = false := by rw [hit_val xOpen h0 h1]; rfl
  have h3 : (tkAt ts p).kind = 3 := h0
  rw [factorP, g1, g2, if_neg Bool.false_ne_true, if_neg Bool.false_ne_true, if_pos h3, wkT_at h3, wk_at h3]
theorem fac_col {ts : List Tk} {n p d : Nat} {x y : List UInt8} (ha : AtT ts p [tkM x, tkW [46], tkM y]) : factorP ts (n + 1) ⟨p, d, none⟩ = ([ndCol (tkAt ts p) (tkAt ts (p + 1 + 1))], ⟨p + 1 + 1 + 1, d, none⟩) := by
  obtain ⟨h0, h1, _⟩ := ha.head
  obtain ⟨i0, i1, _⟩ := ha.tail.head
  obtain ⟨j0, j1, _⟩ := ha.tail.tail.head
  have g1 : hitP ts ⟨p, d, none⟩ xMin = false := by rw [hit_val xMin h0 h1]; rfl
  have g2 : hitP ts ⟨p, d, none⟩ xOpen = false := by rw [hit_val xOpen h0 h1]; rfl
  have g3 : hitP ts ⟨p + 1, d, none⟩ [⟨#[46]⟩] = true := by rw [hit_val _ i0 i1]; kernel_rfl
  have h2 : (tkAt ts p).kind = 2 := h0
  have j2 : (tkAt ts (p + 1 + 1)).kind = 2 := j0
  rw [factorP, g1, g2, if_neg Bool.false_ne_true, if_neg Bool.false_ne_true, if_neg (by show ¬ (tkAt ts p).kind = 3; rw [h2]; decide)]
  unfold colP
  rw [wkT_at h2, wk_at h2, want_at g3, wkT_at j2, wk_at j2]

theorem pb_any {A B : Int} (hc : ColOk at' T ss A B) (ts : List Tk) : ∀ e : Bex, PB at' T ss A B ts e
  | .num v => fun n hn p d pl f h c ha hl hs hh => by
    obtain ⟨m, rfl⟩ : ∃ m, n = m + 1 := ⟨n - 1, by unfold Bex.need at hn; omega⟩
    have e1 := term_one (fac_num (n := m) (d := d) ha) (hs d)
    rw [e1]
    exact ⟨_, rfl, hh _ _ (okk_num ha.head.2.2 (by have := v.2; unfold Bex.val InR; omega))⟩
  | .cola => fun n hn p d pl f h c ha hl hs hh => by
    obtain ⟨m, rfl⟩ : ∃ m, n = m + 1 := ⟨n - 1, by unfold Bex.need at hn; omega⟩
    have e1 := term_one (fac_col (n := m) (d := d) ha) (hs d)
    rw [e1]
    exact ⟨_, rfl, hh _ _ (okk_cola hc ha.head.2.1 ha.tail.tail.head.2.1)⟩
  | .colb => fun n hn p d pl f h c ha hl hs hh => by
    obtain ⟨m, rfl⟩ : ∃ m, n = m + 1 := ⟨n - 1, by unfold Bex.need at hn; omega⟩
    have e1 := term_one (fac_col (n := m) (d := d) ha) (hs d)
    rw [e1]
    exact ⟨_, rfl, hh _ _ (okk_colb hc ha.head.2.1 ha.tail.tail.head.2.1)⟩
  | .neg e => fun n hn p d pl f h c ha hl hs hh => by
    obtain ⟨m, rfl⟩ : ∃ m, n = m + 1 + 1 := ⟨n - 2, by unfold Bex.need at hn; omega⟩
    have ha' : AtT ts p (tkW [45] :: tkW [40] :: (e.toks ++ [tkW [41]])) := by simpa [Bex.toks, Bex.tks] using ha
    have hlen : (Bex.neg e).toks.length = 2 + e.toks.length + 1 := by simp [Bex.toks, Bex.tks]; omega
    rw [hlen] at hl hs ⊢
    obtain ⟨h0, h1, _⟩ := ha'.head
    obtain ⟨k, e1, o1⟩ := pb_par (pb_any hc ts e) (e.val_in hc.a hc.b) (n := m) (by unfold Bex.need at hn; omega) (p + 1) (d + 1) ha'.tail (by omega)
    have g1 : hitP ts ⟨p, d, none⟩ xMin = true := by rw [hit_val xMin h0 h1]; kernel_rfl
    have e2 : factorP ts (m + 1 + 1) ⟨p, d, none⟩ = (ndMinus (tkAt ts p).place :: k, ⟨p + (2 + e.toks.length + 1), d, none⟩) := by
      rw [factorP, if_pos g1]
      have hde : deepP (factorP ts (m + 1)) (adv ⟨p, d, none⟩) = (k, ⟨p + 1 + 1 + e.toks.length + 1, d, none⟩) := by
        unfold deepP
        have : ({ adv ⟨p, d, none⟩ with dp := (adv ⟨p, d, none⟩).dp + 1 } : St) = ⟨p + 1, d + 1, none⟩ := rfl
        rw [this, e1]
        rfl
      rw [hde]
      simp only [Prod.mk.injEq, St.mk.injEq, and_true, true_and]
      omega
    rw [term_one e2 (hs d)]
    exact ⟨_, rfl, hh _ _ (okk_minus o1 _)⟩
  | .mul e g => fun n hn p d pl f h c ha hl hs hh => by
    obtain ⟨m, rfl⟩ : ∃ m, n = m + 1 := ⟨n - 1, by unfold Bex.need at hn; omega⟩
    have ha' : AtT ts p ((tkW [40] :: (e.toks ++ [tkW [41]])) ++ (tkW [42] :: (tkW [40] :: (g.toks ++ [tkW [41]])))) := by simpa [Bex.toks, Bex.tks] using ha
    have hlen : (Bex.mul e g).toks.length = e.toks.length + g.toks.length + 5 := by simp [Bex.toks, Bex.tks]; omega
    rw [hlen] at hl hs ⊢
    have hr := ha'.right' (q := p + 1 + e.toks.length + 1) (by simp; omega)
    obtain ⟨h0, h1, _⟩ := hr.head
    obtain ⟨k1, e1, o1⟩ := pb_par (pb_any hc ts e) (e.val_in hc.a hc.b) (n := m) (by unfold Bex.need at hn; omega) p d ha'.left (by omega)
    obtain ⟨k2, e2, o2⟩ := pb_par (pb_any hc ts g) (g.val_in hc.a hc.b) (n := m) (by unfold Bex.need at hn; omega) (p + 1 + e.toks.length + 1 + 1) d hr.tail (by omega)
    have g1 : hitP ts ⟨p + 1 + e.toks.length + 1, d, none⟩ xMul = true := by rw [hit_val xMul h0 h1]; kernel_rfl
    have e3 : termOf ts (factorP ts (m + 1)) ⟨p, d, none⟩ = (ndPair (tkAt ts p).place (tkAt ts (p + 1 + e.toks.length + 1)).text :: (k1 ++ k2), ⟨p + (e.toks.length + g.toks.length + 5), d, none⟩) := by
      unfold termOf chainP
      obtain ⟨q, hq⟩ : ∃ q, ts.length = q + 1 := ⟨ts.length - 1, by omega⟩
      rw [e1, hq]
      simp only
      rw [chain_go g1]
      have ead : adv (⟨p + 1 + e.toks.length + 1, d, none⟩ : St) = ⟨p + 1 + e.toks.length + 1 + 1, d, none⟩ := rfl
      rw [ead, e2]
      simp only
      have es : (⟨p + 1 + e.toks.length + 1 + 1 + 1 + g.toks.length + 1, d, none⟩ : St) = ⟨p + (e.toks.length + g.toks.length + 5), d, none⟩ := by
        simp only [St.mk.injEq, and_true]; omega
      rw [es, chain_stop (hs d)]
    rw [e3]
    refine ⟨_, rfl, hh _ _ (okk_pair o1 o2 _ _ ?_ (wrap_in _))⟩
    rw [h1]
    exact op_mul _ _
  | .sub e g => fun n hn p d pl f h c ha hl hs hh => by
    have ha' : AtT ts p (e.toks ++ (tkW [45] :: (tkW [40] :: (g.toks ++ [tkW [41]])))) := by simpa [Bex.toks, Bex.tks] using ha
    have hlen : (Bex.sub e g).toks.length = e.toks.length + g.toks.length + 3 := by simp [Bex.toks, Bex.tks]; omega
    rw [hlen] at hl hs ⊢
    obtain ⟨h0, h1, _⟩ := ha'.right.head
    have hm : ∀ d', hitP ts ⟨p + e.toks.length, d', none⟩ xMul = false := fun d' => by rw [hit_val xMul h0 h1]; kernel_rfl
    obtain ⟨l1, e1, o1⟩ := pb_any hc ts e n (by unfold Bex.need at hn; omega) p d pl (f + 1) h c ha'.left (by omega) hm hh
    obtain ⟨m, rfl⟩ : ∃ m, n = m + 1 := ⟨n - 1, by have := g.need_pos; unfold Bex.need at hn; omega⟩
    obtain ⟨k2, e2, o2⟩ := pb_par (pb_any hc ts g) (g.val_in hc.a hc.b) (n := m) (by unfold Bex.need at hn; omega) (p + e.toks.length + 1) d ha'.right.tail (by omega)
    have es : (⟨p + e.toks.length + 1 + 1 + g.toks.length + 1, d, none⟩ : St) = ⟨p + (e.toks.length + g.toks.length + 3), d, none⟩ := by
      simp only [St.mk.injEq, and_true]; omega
    rw [es] at e2
    have g1 : hitP ts ⟨p + e.toks.length, d, none⟩ xAdd = true := by rw [hit_val xAdd h0 h1]; kernel_rfl
    rw [show f + (Bex.sub e g).ops = f + 1 + e.ops by show f + (e.ops + 1) = f + 1 + e.ops; omega, e1, chain_go g1]
    have ead : adv (⟨p + e.toks.length, d, none⟩ : St) = ⟨p + e.toks.length + 1, d, none⟩ := rfl
    rw [ead, term_one e2 (hs d)]
    refine ⟨_, rfl, okk_pair o1 o2 _ _ ?_ (wrap_in _)⟩
    show opOf (tkAt ts (p + e.toks.length)).text _ _ = _
    rw [h1]
    refine (op_sub _ _).trans ?_
    show wrap64 (wrap64 (c + e.val A B) - g.val A B) = wrap64 (c + wrap64 (e.val A B - g.val A B))
    rw [wrap_subL, wrap_addR]
    congr 1; omega
  | .add e g => fun n hn p d pl f h c ha hl hs hh => by
    have ha' : AtT ts p (e.toks ++ (tkW [43] :: g.toks)) := by simpa [Bex.toks, Bex.tks, sp1_toks] using ha
    have h3 : (sp1 g.tks).length = g.tks.length := by cases g.tks <;> rfl
    have hlen : (Bex.add e g).toks.length = e.toks.length + 1 + g.toks.length := by simp [Bex.toks, Bex.tks, h3]; omega
    rw [hlen, ← Nat.add_assoc, ← Nat.add_assoc] at hl hs ⊢
    obtain ⟨h0, h1, _⟩ := ha'.right.head
    have hm : ∀ d', hitP ts ⟨p + e.toks.length, d', none⟩ xMul = false := fun d' => by rw [hit_val xMul h0 h1]; kernel_rfl
    obtain ⟨l1, e1, o1⟩ := pb_any hc ts e n (by unfold Bex.need at hn; omega) p d pl (f + g.ops + 1) h c ha'.left (by omega) hm hh
    obtain ⟨l2, e2, o2⟩ := pb_any hc ts g n (by unfold Bex.need at hn; omega) (p + e.toks.length + 1) d pl f (fun k => ndPair pl (tkAt ts (p + e.toks.length)).text :: (l1 ++ k)) (wrap64 (c + e.val A B)) ha'.right.tail (by omega) hs (fun k x hk => okk_pair o1 hk _ _ (by rw [h1]; exact op_add _ _) (wrap_in _))
    have g1 : hitP ts ⟨p + e.toks.length, d, none⟩ xAdd = true := by rw [hit_val xAdd h0 h1]; kernel_rfl
    rw [show f + (Bex.add e g).ops = f + g.ops + 1 + e.ops by show f + (g.ops + 1 + e.ops) = f + g.ops + 1 + e.ops; omega, e1, chain_go g1]
    have ead : adv (⟨p + e.toks.length, d, none⟩ : St) = ⟨p + e.toks.length + 1, d, none⟩ := rfl
    rw [ead, e2]
    refine ⟨l2, rfl, ?_⟩
    have ev : wrap64 (wrap64 (c + e.val A B) + g.val A B) = wrap64 (c + (Bex.add e g).val A B) := by
      show _ = wrap64 (c + wrap64 (e.val A B + g.val A B))
      rw [wrap_addL, wrap_addR]
      congr 1; omega
    rw [← ev]; exact o2
end
end Go.Proofs.YtfkeddkfegaeiaaGreatDoor
namespace Go.Proofs.YtfkeddkfegaeiaaGreatDoor
open Go.RowKit

/-! ### what stands side by side -/
def strip3 (t : Tk) : Nat × ByteArray × Int := (t.kind, t.text, t.value)
theorem scan_spr3 (s : ByteArray) : ∀ (l : List (List UInt8 × Tk)) (pre : List UInt8) (f : Nat), s.data.toList = pre ++ spr l → (∀ x, x ∈ l → Blank x.1 ∧ IsTok x.2) → FitT l → s.size < f + pre.length →
    ∃ us, scanFrom s f pre.length = .ok (us ++ [tkEnd s.size]) ∧ us.map strip3 = l.map fun x => strip3 x.2
  | [], pre, f, hs, _, _, hf => by
    have hz := size_list s hs
    simp only [spr, List.flatMap_nil, List.append_nil] at hz
    match f, hf with
    | 0, hf => omega
    | f + 1, _ =>
      refine ⟨[], ?_, rfl⟩
      unfold scanFrom
      have hd := drop_pre hs
      rw [hd]
      simp only [spr, List.flatMap_nil]
      rw [show lead blankI [] = 0 from rfl, Nat.add_zero, if_pos hz.symm, hz]
      rfl
  | x :: r, pre, f, hs, hx, hF, hf => by
    obtain ⟨hb, ht⟩ := hx x List.mem_cons_self
    rw [spr_cons] at hs
    have hz := size_list s hs
    simp only [List.length_append] at hz
    have htl : 0 < x.2.text.data.toList.length := List.length_pos_iff.2 ht.ne
    match f, hf with
    | 0, hf => omega
    | f + 1, hf =>
      have hlead : lead blankI (x.1 ++ (x.2.text.data.toList ++ spr r)) = x.1.length := by
        refine lead_app hb (fun c r' e => ?_)
        have := tok_nb ht
        rw [← head_app (tail := spr r) ht.ne, e] at this
        exact this
      have hs2 : s.data.toList = (pre ++ x.1) ++ (x.2.text.data.toList ++ spr r) := by rw [hs]; simp
      have hr := rescan (s := s) (j := pre.length + x.1.length) (t := x.2) (tail := spr r) ht (by rw [← List.length_append]; exact drop_pre hs2) (fun c r' e => by
        match r, hF, e, hx with
        | [], _, e, _ => cases e
        | y :: r2, hF, e, hx =>
          obtain ⟨hb2, ht2⟩ := hx y (List.mem_cons_of_mem _ List.mem_cons_self)
          rw [spr_cons] at e
          cases hy : y.1 with
          | nil =>
            rw [hy, List.nil_append] at e
            have h1 := hF.1 hy
            rw [← head_app (tail := spr r2) ht2.ne, e] at h1
            exact h1
          | cons d q =>
            rw [hy, List.cons_append] at e
            have hdc : d = c := by injection e
            subst hdc
            refine ok_soft ht ?_
            unfold softB
            rw [hb2 d (by rw [hy]; exact List.mem_cons_self)]
            rfl)
      have hs3 : s.data.toList = (pre ++ x.1 ++ x.2.text.data.toList) ++ spr r := by rw [hs]; simp
      have hF2 : FitT r := by
        cases r with
        | nil => trivial
        | cons y r2 => exact hF.2
      have hlen : (pre ++ x.1 ++ x.2.text.data.toList).length = pre.length + x.1.length + x.2.text.size := by simp only [List.length_append]; rw [← sizeL x.2.text]
      obtain ⟨us, h1, h2⟩ := scan_spr3 s r (pre ++ x.1 ++ x.2.text.data.toList) f hs3 (fun y hy => hx y (List.mem_cons_of_mem _ hy)) hF2 (by rw [hlen, ← sizeL x.2.text]; omega)
      refine ⟨⟨pre.length + x.1.length, x.2.kind, x.2.text, x.2.value⟩ :: us, ?_, ?_⟩
      · unfold scanFrom
        rw [drop_pre hs, hlead]
        simp only
        rw [if_neg (by omega), hr]
        simp only
        rw [hlen] at h1
        rw [h1]
        rfl
      · simp only [List.map_cons, h2]
        rfl
theorem at_of {ts us : List Tk} {e : Tk} {l : List Tk} (h : ts = us ++ [e]) (hu : us.map strip3 = l.map strip3) : AtT ts 0 l ∧ ts.length = l.length + 1 ∧ tkAt ts l.length = e := by
  have hn : us.length = l.length := by have := congrArg List.length hu; simpa using this
  refine ⟨fun i t ht => ?_, by rw [h]; simp [hn], ?_⟩
  · have hi := (List.getElem?_eq_some_iff.1 ht).1
    have h1 : (us.map strip3)[i]? = (l.map strip3)[i]? := by rw [hu]
    rw [List.getElem?_map, List.getElem?_map, ht] at h1
    obtain ⟨u, hu1⟩ : ∃ u, us[i]? = some u := ⟨_, List.getElem?_eq_getElem (by omega)⟩
    rw [hu1] at h1
    simp only [Option.map_some, Option.some.injEq, strip3, Prod.mk.injEq] at h1
    have h2 : tkAt ts (0 + i) = u := by
      unfold tkAt
      rw [Nat.zero_add, List.getD_eq_getElem?_getD, h, List.getElem?_append_left (by omega), hu1]
      rfl
    rw [h2]
    exact h1
  · unfold tkAt
    rw [List.getD_eq_getElem?_getD, h, List.getElem?_append_right (by omega), hn, Nat.sub_self]
    rfl

theorem gap_no {p : Prop} {c : UInt8} {l : List UInt8} (h : c :: l = []) : p := by cases h
theorem fit_app : ∀ {l : List (List UInt8 × Tk)} {y : List UInt8 × Tk} {m : List (List UInt8 × Tk)}, FitT l → FitT (y :: m) → (∀ x ∈ l, y.1 = [] → okNext x.2.text.data.toList (y.2.text.data.toList.headD 0) = true) → FitT (l ++ y :: m)
  | [], _, _, _, h, _ => h
  | [x], _, _, _, h, k => ⟨k x List.mem_cons_self, h⟩
  | _ :: x :: l, _, _, g, h, k => ⟨g.1, fit_app (l := x :: l) g.2 h (fun z hz => k z (List.mem_cons_of_mem _ hz))⟩
theorem fit_cons {x : List UInt8 × Tk} (hx : ∀ c, okNext x.2.text.data.toList c = true) : ∀ {l : List (List UInt8 × Tk)}, FitT l → FitT (x :: l)
  | [], _ => trivial
  | _ :: _, h => ⟨fun _ => hx _, h⟩
theorem fit_sp1 : ∀ {l : List (List UInt8 × Tk)}, FitT l → FitT (sp1 l)
  | [], _ => trivial
  | [_], _ => trivial
  | _ :: _ :: _, h => h
theorem fit_cons_sp1 {x : List UInt8 × Tk} : ∀ {l : List (List UInt8 × Tk)}, FitT l → FitT (x :: sp1 l)
  | [], _ => trivial
  | y :: l, h => ⟨gap_no, fit_sp1 (l := y :: l) h⟩
set_option maxRecDepth 100000 in
theorem plus_sign : (signL.all fun l => okNext l 43) = true := by decide
theorem ok_plus {t : Tk} (h : IsTok t) : okNext t.text.data.toList 43 = true := by
  rcases h with ⟨h1, h2, _, _, _⟩ | ⟨h1, h2, _, _, _, _⟩ | ⟨h1, h2, _, _⟩ | ⟨h1, _, _⟩
  · unfold okNext; rw [if_pos (h2 _ (head_mem h1))]; rfl
  · unfold okNext; rw [if_pos (h2 _ (head_mem h1))]; rfl
  · have h4 := h2 _ (head_mem h1)
    have hn : ¬ letterI (t.text.data.toList.headD 0).toNat = true := fun e => by have := letter_digit (t.text.data.toList.headD 0); rw [e, h4] at this; cases this
    unfold okNext; rw [if_neg hn, if_pos h4]; rfl
  · exact List.all_eq_true.1 plus_sign _ h1
theorem free_open (c : UInt8) : okNext [40] c = true := by have := free_next c; simp only [Bool.and_eq_true] at this; exact this.1.1
theorem free_dot (c : UInt8) : okNext [46] c = true := by have := free_next c; simp only [Bool.and_eq_true] at this; exact this.1.2
theorem free_minus (c : UInt8) : okNext [45] c = true := by have := free_next c; simp only [Bool.and_eq_true] at this; exact this.2

set_option maxRecDepth 100000 in
theorem dig_all : ((List.range 1000).all fun n => (dig n).all (fun c => digitI c.toNat) && (numOf (dig n) == some (n : Int)) && !(dig n).isEmpty) = true := by kernel_rfl
theorem tok_dig {n : Nat} (h : n < 1000) : IsTok (tkD n) := by
  have := List.all_eq_true.1 dig_all n (List.mem_range.2 h)
  simp only [Bool.and_eq_true, List.all_eq_true, beq_iff_eq, Bool.not_eq_true', List.isEmpty_eq_false_iff] at this
  exact .num this.2 this.1.1 this.1.2 rfl
theorem tok_sign {l : List UInt8} (h : l ∈ signL) : IsTok (tkW l) := .sign h rfl rfl
theorem tok_word {l : List UInt8} (h : (!l.isEmpty && l.all (fun c => letterI c.toNat) && wordB l) = true) : IsTok (tkW l) := by
  simp only [Bool.and_eq_true, List.all_eq_true, Bool.not_eq_true', List.isEmpty_eq_false_iff] at h
  exact .word h.1.1 h.1.2 h.2 rfl rfl
theorem tok_name {l : List UInt8} (h : (!l.isEmpty && l.all (fun c => letterI c.toNat) && !wordB l && decide (l.length ≤ 8)) = true) : IsTok (tkM l) := by
  simp only [Bool.and_eq_true, List.all_eq_true, Bool.not_eq_true', List.isEmpty_eq_false_iff, decide_eq_true_eq] at h
  exact .name h.1.1.1 h.1.1.2 h.1.2 (by show l.toArray.size ≤ 8; simpa using h.2) rfl rfl
theorem blank_nil : Blank [] := fun c h => by cases h
theorem blank_32 {l : List UInt8} (h : Blank l) : Blank (32 :: l) := fun c hc => by
  rcases List.mem_cons.1 hc with rfl | hc
  · rfl
  · exact h c hc
theorem sp1_tok : ∀ {l : List (List UInt8 × Tk)}, (∀ x ∈ l, Blank x.1 ∧ IsTok x.2) → ∀ x ∈ sp1 l, Blank x.1 ∧ IsTok x.2
  | [], h => h
  | y :: l, h => fun x hx => by
    rcases List.mem_cons.1 hx with rfl | hx
    · exact ⟨blank_32 (h y List.mem_cons_self).1, (h y List.mem_cons_self).2⟩
    · exact h x (List.mem_cons_of_mem _ hx)
abbrev TokL (l : List (List UInt8 × Tk)) : Prop := ∀ x ∈ l, Blank x.1 ∧ IsTok x.2
theorem tokL_nil : TokL [] := fun _ h => by cases h
theorem tokL_cons {x : List UInt8 × Tk} {l : List (List UInt8 × Tk)} (h1 : Blank x.1) (h2 : IsTok x.2) (h : TokL l) : TokL (x :: l) := fun y hy => by
  rcases List.mem_cons.1 hy with rfl | hy
  · exact ⟨h1, h2⟩
  · exact h y hy
theorem tokL_app {l m : List (List UInt8 × Tk)} (h : TokL l) (k : TokL m) : TokL (l ++ m) := fun y hy => (List.mem_append.1 hy).elim (h y) (k y)
theorem t_open : IsTok (tkW [40]) := tok_sign (by decide)
theorem t_close : IsTok (tkW [41]) := tok_sign (by decide)
theorem t_comma : IsTok (tkW [44]) := tok_sign (by decide)
theorem t_dot : IsTok (tkW [46]) := tok_sign (by decide)
theorem t_plus : IsTok (tkW [43]) := tok_sign (by decide)
theorem t_minus : IsTok (tkW [45]) := tok_sign (by decide)
theorem t_star : IsTok (tkW [42]) := tok_sign (by decide)
theorem t_less : IsTok (tkW [60]) := tok_sign (by decide)
theorem t_x : IsTok (tkM [120]) := tok_name (by decide)
theorem t_a : IsTok (tkM [97]) := tok_name (by decide)
theorem t_b : IsTok (tkM [98]) := tok_name (by decide)
theorem t_e : IsTok (tkM [101]) := tok_name (by decide)
theorem t_select : IsTok (tkW [115, 101, 108, 101, 99, 116]) := tok_word (by decide)
theorem t_from : IsTok (tkW [102, 114, 111, 109]) := tok_word (by decide)
theorem t_where : IsTok (tkW [119, 104, 101, 114, 101]) := tok_word (by decide)
theorem b_32 : Blank [32] := blank_32 blank_nil

theorem Bex.tok : ∀ e : Bex, TokL e.tks
  | .num v => tokL_cons blank_nil (tok_dig v.2) tokL_nil
  | .cola => tokL_cons blank_nil t_x (tokL_cons blank_nil t_dot (tokL_cons blank_nil t_a tokL_nil))
  | .colb => tokL_cons blank_nil t_x (tokL_cons b_32 t_dot (tokL_cons b_32 t_b tokL_nil))
  | .neg e => tokL_cons blank_nil t_minus (tokL_cons blank_nil t_open (tokL_app e.tok (tokL_cons blank_nil t_close tokL_nil)))
  | .mul e f => tokL_cons blank_nil t_open (tokL_app e.tok (tokL_cons blank_nil t_close (tokL_cons b_32 t_star (tokL_cons blank_nil t_open (tokL_app f.tok (tokL_cons blank_nil t_close tokL_nil))))))
  | .sub e f => tokL_app e.tok (tokL_cons b_32 t_minus (tokL_cons b_32 t_open (tokL_app f.tok (tokL_cons blank_nil t_close tokL_nil))))
  | .add e f => tokL_app e.tok (tokL_cons blank_nil t_plus (sp1_tok f.tok))
theorem close_ok (e : Bex) : ∀ x ∈ e.tks, (([], tkW [41]) : List UInt8 × Tk).1 = [] → okNext x.2.text.data.toList ((([], tkW [41]) : List UInt8 × Tk).2.text.data.toList.headD 0) = true := fun x hx _ => ok_soft (e.tok x hx).2 (by rfl)
theorem Bex.fit : ∀ e : Bex, FitT e.tks
  | .num _ => trivial
  | .cola => ⟨fun _ => by decide, fun _ => free_dot _, trivial⟩
  | .colb => ⟨gap_no, gap_no, trivial⟩
  | .neg e => fit_cons free_minus (fit_cons free_open (fit_app e.fit trivial (close_ok e)))
  | .mul e f => fit_cons free_open (fit_app e.fit ⟨gap_no, ⟨fun _ => by decide, fit_cons free_open (fit_app f.fit trivial (close_ok f))⟩⟩ (close_ok e))
  | .sub e f => fit_app e.fit ⟨gap_no, fit_cons free_open (fit_app f.fit trivial (close_ok f))⟩ (fun _ _ => gap_no)
  | .add e f => fit_app e.fit (fit_cons_sp1 f.fit) (fun x hx _ => ok_plus (e.tok x hx).2)
theorem Bex.ne : ∀ e : Bex, e.tks ≠ []
  | .num _ => by simp [Bex.tks]
  | .cola => by simp [Bex.tks]
  | .colb => by simp [Bex.tks]
  | .neg _ => by simp [Bex.tks]
  | .mul _ _ => by simp [Bex.tks]
  | .sub _ _ => by simp [Bex.tks]
  | .add _ _ => by simp [Bex.tks]
theorem Bex.no_call {ts : List Tk} : ∀ (e : Bex) {p : Nat}, AtT ts p e.toks → ∀ d, hitP ts ⟨p, d, none⟩ xCalls = false
  | .num _, _, h, _ => by rw [hit_val xCalls h.head.1 h.head.2.1]; rfl
  | .cola, _, h, _ => by rw [hit_val xCalls h.head.1 h.head.2.1]; rfl
  | .colb, _, h, _ => by rw [hit_val xCalls h.head.1 h.head.2.1]; rfl
  | .neg e, p, h, d => by
    have h' : AtT ts p (tkW [45] :: tkW [40] :: (e.toks ++ [tkW [41]])) := by simpa [Bex.toks, Bex.tks] using h
    exact (hit_val xCalls h'.head.1 h'.head.2.1).trans (by kernel_rfl)
  | .mul e f, p, h, d => by
    have h' : AtT ts p (tkW [40] :: (e.toks ++ (tkW [41] :: tkW [42] :: tkW [40] :: (f.toks ++ [tkW [41]])))) := by simpa [Bex.toks, Bex.tks] using h
    exact (hit_val xCalls h'.head.1 h'.head.2.1).trans (by kernel_rfl)
  | .sub e f, p, h, d => by
    have h' : AtT ts p (e.toks ++ (tkW [45] :: tkW [40] :: (f.toks ++ [tkW [41]]))) := by simpa [Bex.toks, Bex.tks] using h
    exact e.no_call h'.left d
  | .add e f, p, h, d => by
    have h' : AtT ts p (e.toks ++ (tkW [43] :: f.toks)) := by simpa [Bex.toks, Bex.tks, sp1_toks] using h
    exact e.no_call h'.left d
end Go.Proofs.YtfkeddkfegaeiaaGreatDoor
namespace Go.Proofs.YtfkeddkfegaeiaaGreatDoor
open Go.RowKit

theorem list_one {α : Type} {ts : List Tk} {one : St → α × St} {most : Nat} {st st' : St} {x : α} (h : one st = (x, st')) (hs : hitP ts st' xComma = false) : listP ts one most st = ([x], st') := by
  unfold listP
  rw [h]
  cases ts.length with
  | zero => rfl
  | succ n => simp only [listLoop, hs]; rfl
theorem list_two {α : Type} {ts : List Tk} {one : St → α × St} {most : Nat} {st st1 st2 : St} {x y : α} (h1 : one st = (x, st1)) (hc : hitP ts st1 xComma = true) (hm : 1 ≠ most) (h2 : one (adv st1) = (y, st2)) (hs : hitP ts st2 xComma = false) (hl : 0 < ts.length) : listP ts one most st = ([x, y], st2) := by
  unfold listP
  rw [h1]
  obtain ⟨n, hn⟩ : ∃ n, ts.length = n + 1 := ⟨ts.length - 1, by omega⟩
  rw [hn]
  have hm2 : many ts most 1 (adv st1) = adv st1 := by unfold many; rw [if_neg hm]
  simp only [listLoop, hc, if_true, List.length_cons, List.length_nil, Nat.zero_add, hm2, h2]
  cases n with
  | zero => rfl
  | succ n => simp only [listLoop, hs]; rfl

section
variable {at' : ByteArray → ByteArray → Int} {T : List Tb} {ss : List Sr} {A B : Int}
/-- what stands behind an expr: none of these. -/
structure Beh (ts : List Tk) (q : Nat) : Prop where
  mul : ∀ d, hitP ts ⟨q, d, none⟩ xMul = false
  add : ∀ d, hitP ts ⟨q, d, none⟩ xAdd = false
  nas : ∀ d, hitP ts ⟨q, d, none⟩ [⟨#[97, 115]⟩] = false
theorem beh_of {ts : List Tk} {q k : Nat} {tx : ByteArray} (h0 : (tkAt ts q).kind = k) (h1 : (tkAt ts q).text = tx) (h : (!(k == 1 && Lib.containsS xMul tx) && !(k == 1 && Lib.containsS xAdd tx) && !(k == 1 && Lib.containsS [⟨#[97, 115]⟩] tx)) = true) : Beh ts q := by
  simp only [Bool.and_eq_true, Bool.not_eq_true'] at h
  exact ⟨fun d => (hit_val xMul h0 h1).trans h.1.1, fun d => (hit_val xAdd h0 h1).trans h.1.2, fun d => (hit_val _ h0 h1).trans h.2⟩
theorem expr_bx (hc : ColOk at' T ss A B) {ts : List Tk} (e : Bex) (hn : e.need ≤ 17) {p q d : Nat} (ha : AtT ts p e.toks) (hq : q = p + e.toks.length) (hl : q < ts.length) (hb : Beh ts q) : ∃ l', exprP ts ⟨p, d, none⟩ = (l', ⟨q, d, none⟩) ∧ Okk at' T ss [A, B] l' (e.val A B) := by
  subst hq
  exact pb_expr (pb_any hc ts e) (e.val_in hc.a hc.b) hn p d ha hl hb.mul hb.add
theorem item_bx (hc : ColOk at' T ss A B) {ts : List Tk} (e : Bex) (hn : e.need ≤ 17) {p q d : Nat} (ha : AtT ts p e.toks) (hq : q = p + e.toks.length) (hl : q < ts.length) (hb : Beh ts q) : ∃ i, itemP ts ⟨p, d, none⟩ = (i, ⟨q, d, none⟩) ∧ i.win = none ∧ i.asT = ⟨#[]⟩ ∧ Okk at' T ss [A, B] i.val (e.val A B) := by
  obtain ⟨l', h1, h2⟩ := expr_bx hc e hn (d := d) ha hq hl hb
  have h3 : itOf ts ⟨p, d, none⟩ = ((none, l'), ⟨q, d, none⟩) := by
    unfold itOf
    rw [e.no_call ha d, if_neg Bool.false_ne_true, h1]
  have h4 : itAs ts ⟨q, d, none⟩ = ((0, ⟨#[]⟩), ⟨q, d, none⟩) := by
    unfold itAs
    rw [hb.nas d, if_neg Bool.false_ne_true]
  refine ⟨⟨(tkAt ts p).place, none, l', 0, ⟨#[]⟩⟩, ?_, rfl, rfl, h2⟩
  unfold itemP
  rw [h3]
  simp only
  rw [h4]

def K1 (e : Bex) : List (List UInt8 × Tk) := ([], tkW [115, 101, 108, 101, 99, 116]) :: (sp1 e.tks ++ [([], tkW [44]), ([32], tkM [120]), ([], tkW [46]), ([], tkM [98]), ([32], tkW [102, 114, 111, 109]), ([32], tkM [101]), ([32], tkM [120])])
def K2 (e : Bex) : List (List UInt8 × Tk) := [([], tkW [115, 101, 108, 101, 99, 116]), ([32], tkM [120]), ([], tkW [46]), ([], tkM [97]), ([32], tkW [102, 114, 111, 109]), ([32], tkM [101]), ([32], tkM [120]), ([32], tkW [119, 104, 101, 114, 101])] ++ (sp1 e.tks ++ [([32], tkW [60]), ([32], tkM [120]), ([], tkW [46]), ([], tkM [97])])
theorem tok_K1 (e : Bex) : TokL (K1 e) := tokL_cons blank_nil t_select (tokL_app (sp1_tok e.tok) (tokL_cons blank_nil t_comma (tokL_cons b_32 t_x (tokL_cons blank_nil t_dot (tokL_cons blank_nil t_b (tokL_cons b_32 t_from (tokL_cons b_32 t_e (tokL_cons b_32 t_x tokL_nil))))))))
theorem tok_K2 (e : Bex) : TokL (K2 e) := tokL_app (tokL_cons blank_nil t_select (tokL_cons b_32 t_x (tokL_cons blank_nil t_dot (tokL_cons blank_nil t_a (tokL_cons b_32 t_from (tokL_cons b_32 t_e (tokL_cons b_32 t_x (tokL_cons b_32 t_where tokL_nil)))))))) (tokL_app (sp1_tok e.tok) (tokL_cons b_32 t_less (tokL_cons b_32 t_x (tokL_cons blank_nil t_dot (tokL_cons blank_nil t_a tokL_nil)))))
theorem fit_K1 (e : Bex) : FitT (K1 e) := by
  have h1 : FitT (sp1 e.tks ++ [([], tkW [44]), ([32], tkM [120]), ([], tkW [46]), ([], tkM [98]), ([32], tkW [102, 114, 111, 109]), ([32], tkM [101]), ([32], tkM [120])]) := fit_app (fit_sp1 e.fit) ⟨gap_no, fun _ => by decide, fun _ => free_dot _, gap_no, gap_no, gap_no, trivial⟩ (fun x hx _ => ok_soft (sp1_tok e.tok x hx).2 (by rfl))
  unfold K1
  cases he : e.tks with
  | nil => exact (e.ne he).elim
  | cons y r =>
    rw [he] at h1
    exact ⟨gap_no, h1⟩
theorem fit_K2 (e : Bex) : FitT (K2 e) := by
  have h1 : FitT (sp1 e.tks ++ [([32], tkW [60]), ([32], tkM [120]), ([], tkW [46]), ([], tkM [97])]) := fit_app (fit_sp1 e.fit) ⟨gap_no, fun _ => by decide, fun _ => free_dot _, trivial⟩ (fun _ _ => gap_no)
  unfold K2
  cases he : e.tks with
  | nil => exact (e.ne he).elim
  | cons y r =>
    rw [he] at h1
    exact ⟨gap_no, fun _ => by decide, fun _ => free_dot _, gap_no, gap_no, gap_no, gap_no, gap_no, h1⟩

/-- a text of these tokens, scanned. -/
theorem scan_K {s : ByteArray} {l : List (List UInt8 × Tk)} (hs : s.data.toList = spr l) (ht : TokL l) (hf : FitT l) : ∃ ts, scanP s = .ok ts ∧ AtT ts 0 (l.map (·.2)) ∧ ts.length = l.length + 1 ∧ (tkAt ts l.length).kind = 0 := by
  obtain ⟨us, h1, h2⟩ := scan_spr3 s l [] (s.size + 1) hs ht hf (by simp)
  have h3 : us.map strip3 = (l.map (·.2)).map strip3 := by rw [h2, List.map_map]; rfl
  obtain ⟨h4, h5, h6⟩ := at_of rfl h3
  simp only [List.length_map] at h5 h6
  exact ⟨_, h1, h4, h5, by rw [h6]; rfl⟩

theorem read_q1 (hc : ColOk at' T ss A B) (e : Bex) (hn : e.need ≤ 17) {s : ByteArray} (hs : s.data.toList = spr (K1 e)) :
    ∃ X i j t u, readP s = .ok X ∧ X.wth = none ∧ X.main.items = [i, j] ∧ X.main.srcs = [(t, u)] ∧ X.main.tests = [] ∧ i.win = none ∧ i.asT = ⟨#[]⟩ ∧ Okk at' T ss [A, B] i.val (e.val A B) ∧ j.win = none ∧ j.asT = ⟨#[]⟩ ∧ Okk at' T ss [A, B] j.val B ∧ t.text = ⟨#[101]⟩ ∧ u.text = ⟨#[120]⟩ := by
  obtain ⟨ts, h1, h2, h3, h4⟩ := scan_K hs (tok_K1 e) (fit_K1 e)
  have hl : (K1 e).length = e.toks.length + 8 := by
    have : (sp1 e.tks).length = e.tks.length := by cases e.tks <;> rfl
    simp [K1, Bex.toks, this]
  rw [hl] at h3 h4
  have h2' : AtT ts 0 (tkW [115, 101, 108, 101, 99, 116] :: (e.toks ++ [tkW [44], tkM [120], tkW [46], tkM [98], tkW [102, 114, 111, 109], tkM [101], tkM [120]])) := by simpa [K1, Bex.toks, sp1_toks] using h2
  have a0 := h2'.head
  have aE := h2'.tail.left
  have aR := h2'.tail.right' (q := 1 + e.toks.length) (by omega)
  obtain ⟨n, hN⟩ : ∃ n, n = 1 + e.toks.length := ⟨_, rfl⟩
  rw [← hN] at aR
  have c0 := aR.head
  have c1 : AtT ts (n + 1) Bex.colb.toks := aR.tail.left (l := [tkM [120], tkW [46], tkM [98]])
  have c4 := aR.tail.tail.tail.tail.head
  have c5 := aR.tail.tail.tail.tail.tail.head
  have c6 := aR.tail.tail.tail.tail.tail.tail.head
  have hend : (tkAt ts (n + 1 + 1 + 1 + 1 + 1 + 1 + 1)).kind = 0 := by rw [hN, show 1 + e.toks.length + 1 + 1 + 1 + 1 + 1 + 1 + 1 = e.toks.length + 8 by omega]; exact h4
  obtain ⟨i, i1, i2, i3, i4⟩ := item_bx hc e hn (d := 0) aE hN (by omega) (beh_of c0.1 c0.2.1 (by kernel_rfl))
  obtain ⟨j, j1, j2, j3, j4⟩ := item_bx hc Bex.colb (by decide) (p := n + 1) (q := n + 1 + 3) (d := 0) c1 rfl (by omega) (beh_of c4.1 c4.2.1 (by kernel_rfl))
  have s0 : hitP ts ⟨0, 0, none⟩ [⟨#[119, 105, 116, 104]⟩] = false := by rw [hit_val _ a0.1 a0.2.1]; kernel_rfl
  have s1 : hitP ts ⟨0, 0, none⟩ [⟨#[115, 101, 108, 101, 99, 116]⟩] = true := by rw [hit_val _ a0.1 a0.2.1]; kernel_rfl
  have s2 : hitP ts ⟨n, 0, none⟩ xComma = true := by rw [hit_val _ c0.1 c0.2.1]; kernel_rfl
  have s3 : hitP ts ⟨n + 1 + 3, 0, none⟩ xComma = false := by rw [hit_val (p := n + 1 + 3) _ c4.1 c4.2.1]; kernel_rfl
  have s4 : hitP ts ⟨n + 1 + 3, 0, none⟩ [⟨#[102, 114, 111, 109]⟩] = true := by rw [hit_val (p := n + 1 + 3) _ c4.1 c4.2.1]; kernel_rfl
  have s5 : ∀ xs, hitP ts ⟨n + 1 + 1 + 1 + 1 + 1 + 1 + 1, 0, none⟩ xs = false := fun xs => by unfold hitP; simp only [hend]; rfl
  have e1 : selI ts ⟨0, 0, none⟩ = ([i, j], ⟨n + 1 + 3, 0, none⟩) := by
    unfold selI
    rw [want_at s1]
    exact list_two i1 s2 (by decide) j1 s3 (by omega)
  have k5 : (tkAt ts (n + 1 + 1 + 1 + 1 + 1)).kind = 2 := c5.1
  have k6 : (tkAt ts (n + 1 + 1 + 1 + 1 + 1 + 1)).kind = 2 := c6.1
  have e2 : selS ts ⟨n + 1 + 3, 0, none⟩ = ([(tkAt ts (n + 1 + 1 + 1 + 1 + 1), tkAt ts (n + 1 + 1 + 1 + 1 + 1 + 1))], ⟨n + 1 + 1 + 1 + 1 + 1 + 1 + 1, 0, none⟩) := by
    unfold selS
    rw [want_at s4]
    refine list_one ?_ (s5 _)
    unfold srcP
    rw [show n + 1 + 3 + 1 = n + 1 + 1 + 1 + 1 + 1 from rfl, wk_at k5, wkT_at k5, wk_at k6, wkT_at k6]
  have e3 : whereP ts ⟨n + 1 + 1 + 1 + 1 + 1 + 1 + 1, 0, none⟩ = ([], ⟨n + 1 + 1 + 1 + 1 + 1 + 1 + 1, 0, none⟩) := by unfold whereP; rw [s5, if_neg Bool.false_ne_true]
  have e4 : queryP ts st0 = (⟨(tkAt ts 0).place, none, ⟨(tkAt ts 0).place, [i, j], [(tkAt ts (n + 1 + 1 + 1 + 1 + 1), tkAt ts (n + 1 + 1 + 1 + 1 + 1 + 1))], []⟩⟩, ⟨n + 1 + 1 + 1 + 1 + 1 + 1 + 1, 0, none⟩) := by
    have hq : qHead ts st0 = (none, ⟨0, 0, none⟩) := by unfold qHead st0; rw [s0, if_neg Bool.false_ne_true]
    unfold queryP
    rw [hq]
    simp only
    unfold selP
    rw [e1]
    simp only
    rw [e2]
    simp only
    rw [e3]
    rfl
  refine ⟨⟨(tkAt ts 0).place, none, ⟨(tkAt ts 0).place, [i, j], [(tkAt ts (n + 1 + 1 + 1 + 1 + 1), tkAt ts (n + 1 + 1 + 1 + 1 + 1 + 1))], []⟩⟩, i, j, _, _, ?_, rfl, rfl, rfl, rfl, i2, i3, i4, j2, j3, j4, c5.2.1, c6.2.1⟩
  unfold readP
  rw [h1]
  simp only
  unfold readT
  rw [e4]
  simp only
  have : endP ts ⟨n + 1 + 1 + 1 + 1 + 1 + 1 + 1, 0, none⟩ = ⟨n + 1 + 1 + 1 + 1 + 1 + 1 + 1, 0, none⟩ := by unfold endP; rw [if_pos hend]
  rw [this]

theorem read_q2 (hc : ColOk at' T ss A B) (e : Bex) (hn : e.need ≤ 17) {s : ByteArray} (hs : s.data.toList = spr (K2 e)) :
    ∃ X i t u x, readP s = .ok X ∧ X.wth = none ∧ X.main.items = [i] ∧ X.main.srcs = [(t, u)] ∧ X.main.tests = [x] ∧ i.win = none ∧ i.asT = ⟨#[]⟩ ∧ Okk at' T ss [A, B] i.val A ∧ Okk at' T ss [A, B] x.l (e.val A B) ∧ x.sg = ⟨#[60]⟩ ∧ Okk at' T ss [A, B] x.r A ∧ t.text = ⟨#[101]⟩ ∧ u.text = ⟨#[120]⟩ := by
  obtain ⟨ts, h1, h2, h3, h4⟩ := scan_K hs (tok_K2 e) (fit_K2 e)
  have hl : (K2 e).length = e.toks.length + 12 := by
    have : (sp1 e.tks).length = e.tks.length := by cases e.tks <;> rfl
    simp [K2, Bex.toks, this]
  rw [hl] at h3 h4
  have h2' : AtT ts 0 (tkW [115, 101, 108, 101, 99, 116] :: tkM [120] :: tkW [46] :: tkM [97] :: tkW [102, 114, 111, 109] :: tkM [101] :: tkM [120] :: tkW [119, 104, 101, 114, 101] :: (e.toks ++ [tkW [60], tkM [120], tkW [46], tkM [97]])) := by simpa [K2, Bex.toks, sp1_toks] using h2
  have a0 := h2'.head
  have a1 : AtT ts 1 Bex.cola.toks := h2'.tail.left (l := [tkM [120], tkW [46], tkM [97]])
  have a4 := h2'.tail.tail.tail.tail.head
  have a5 := h2'.tail.tail.tail.tail.tail.head
  have a6 := h2'.tail.tail.tail.tail.tail.tail.head
  have a7 := h2'.tail.tail.tail.tail.tail.tail.tail.head
  have a8 := h2'.tail.tail.tail.tail.tail.tail.tail.tail
  have aE : AtT ts 8 e.toks := a8.left
  have aR := a8.right' (q := 8 + e.toks.length) (by omega)
  obtain ⟨n, hN⟩ : ∃ n, n = 8 + e.toks.length := ⟨_, rfl⟩
  rw [← hN] at aR
  have c0 := aR.head
  have c1 : AtT ts (n + 1) Bex.cola.toks := aR.tail
  have hend : (tkAt ts (n + 1 + 3)).kind = 0 := by rw [hN, show 8 + e.toks.length + 1 + 3 = e.toks.length + 12 by omega]; exact h4
  have hbe : Beh ts (n + 1 + 3) := ⟨fun d => by unfold hitP; simp only [hend]; rfl, fun d => by unfold hitP; simp only [hend]; rfl, fun d => by unfold hitP; simp only [hend]; rfl⟩
  obtain ⟨i, i1, i2, i3, i4⟩ := item_bx hc Bex.cola (by decide) (p := 1) (q := 4) (d := 0) a1 rfl (by omega) (beh_of a4.1 a4.2.1 (by kernel_rfl))
  obtain ⟨l, l1, l2⟩ := expr_bx hc e hn (d := 0) aE hN (by omega) (beh_of c0.1 c0.2.1 (by kernel_rfl))
  obtain ⟨r, r1, r2⟩ := expr_bx hc Bex.cola (by decide) (p := n + 1) (q := n + 1 + 3) (d := 0) c1 rfl (by omega) hbe
  have s0 : hitP ts ⟨0, 0, none⟩ [⟨#[119, 105, 116, 104]⟩] = false := by rw [hit_val _ a0.1 a0.2.1]; kernel_rfl
  have s1 : hitP ts ⟨0, 0, none⟩ [⟨#[115, 101, 108, 101, 99, 116]⟩] = true := by rw [hit_val _ a0.1 a0.2.1]; kernel_rfl
  have s3 : hitP ts ⟨4, 0, none⟩ xComma = false := by rw [hit_val (p := 4) _ a4.1 a4.2.1]; kernel_rfl
  have s4 : hitP ts ⟨4, 0, none⟩ [⟨#[102, 114, 111, 109]⟩] = true := by rw [hit_val (p := 4) _ a4.1 a4.2.1]; kernel_rfl
  have s5 : hitP ts ⟨7, 0, none⟩ xComma = false := by rw [hit_val (p := 7) _ a7.1 a7.2.1]; kernel_rfl
  have s6 : hitP ts ⟨7, 0, none⟩ [⟨#[119, 104, 101, 114, 101]⟩] = true := by rw [hit_val (p := 7) _ a7.1 a7.2.1]; kernel_rfl
  have s7 : hitP ts ⟨n, 0, none⟩ xCmp = true := by rw [hit_val _ c0.1 c0.2.1]; kernel_rfl
  have s8 : ∀ xs, hitP ts ⟨n + 1 + 3, 0, none⟩ xs = false := fun xs => by unfold hitP; simp only [hend]; rfl
  have k5 : (tkAt ts 5).kind = 2 := a5.1
  have k6 : (tkAt ts 6).kind = 2 := a6.1
  have e1 : selI ts ⟨0, 0, none⟩ = ([i], ⟨4, 0, none⟩) := by
    unfold selI
    rw [want_at s1]
    exact list_one i1 s3
  have e2 : selS ts ⟨4, 0, none⟩ = ([(tkAt ts 5, tkAt ts 6)], ⟨7, 0, none⟩) := by
    unfold selS
    rw [want_at s4]
    refine list_one ?_ s5
    unfold srcP
    rw [show 4 + 1 = 5 from rfl, wk_at k5, wkT_at k5, wk_at k6, wkT_at k6]
  have e5 : testP ts ⟨8, 0, none⟩ = (⟨(tkAt ts 8).place, l, (tkAt ts n).text, r⟩, ⟨n + 1 + 3, 0, none⟩) := by
    unfold testP
    rw [l1]
    simp only
    rw [want_at s7, r1]
    unfold wantT
    rw [if_pos s7]
  have e3 : whereP ts ⟨7, 0, none⟩ = ([⟨(tkAt ts 8).place, l, (tkAt ts n).text, r⟩], ⟨n + 1 + 3, 0, none⟩) := by
    unfold whereP
    rw [if_pos s6]
    have : adv (⟨7, 0, none⟩ : St) = ⟨8, 0, none⟩ := rfl
    rw [this, e5]
    cases ts.length with
    | zero => rfl
    | succ m => simp only [andLoop, s8]; rfl
  have e4 : queryP ts st0 = (⟨(tkAt ts 0).place, none, ⟨(tkAt ts 0).place, [i], [(tkAt ts 5, tkAt ts 6)], [⟨(tkAt ts 8).place, l, (tkAt ts n).text, r⟩]⟩⟩, ⟨n + 1 + 3, 0, none⟩) := by
    have hq : qHead ts st0 = (none, ⟨0, 0, none⟩) := by unfold qHead st0; rw [s0, if_neg Bool.false_ne_true]
    unfold queryP
    rw [hq]
    simp only
    unfold selP
    rw [e1]
    simp only
    rw [e2]
    simp only
    rw [e3]
    rfl
  refine ⟨⟨(tkAt ts 0).place, none, ⟨(tkAt ts 0).place, [i], [(tkAt ts 5, tkAt ts 6)], [⟨(tkAt ts 8).place, l, (tkAt ts n).text, r⟩]⟩⟩, i, _, _, _, ?_, rfl, rfl, rfl, rfl, i2, i3, i4, l2, c0.2.1, r2, a5.2.1, a6.2.1⟩
  unfold readP
  rw [h1]
  simp only
  unfold readT
  rw [e4]
  simp only
  have : endP ts ⟨n + 1 + 3, 0, none⟩ = ⟨n + 1 + 3, 0, none⟩ := by unfold endP; rw [if_pos hend]
  rw [this]
end
end Go.Proofs.YtfkeddkfegaeiaaGreatDoor
namespace Go.Proofs.YtfkeddkfegaeiaaGreatDoor
open Go.RowKit

theorem pickI_lt (c n : Int) (hn : 0 < n) : 0 ≤ pickI c n ∧ pickI c n < n := by
  unfold pickI
  exact ⟨Int.emod_nonneg _ (by omega), Int.emod_lt_of_pos _ hn⟩
def numB (n : Int) : Fin 1000 := ⟨(pickI (n.tdiv 8) 1000).toNat, by have := pickI_lt (n.tdiv 8) 1000 (by omega); omega⟩
theorem numB_eq (n : Int) : pickI (n.tdiv 8) 1000 = ((numB n).1 : Nat) := by have := pickI_lt (n.tdiv 8) 1000 (by omega); show _ = ((pickI (n.tdiv 8) 1000).toNat : Int); omega
/-- an expr of raw numbers from number i on, so deep at most; and where it ends. -/
def bltB (raw : List Int) : Nat → Nat → Bex × Nat
  | 0, i => (if pickI (raw.getD i 0) 8 % 2 = 0 then .num (numB (raw.getD i 0)) else .cola, i + 1)
  | d + 1, i =>
    if pickI (raw.getD i 0) 8 = 0 then (.num (numB (raw.getD i 0)), i + 1)
    else if pickI (raw.getD i 0) 8 = 1 then (.cola, i + 1)
    else if pickI (raw.getD i 0) 8 = 2 then (.colb, i + 1)
    else if pickI (raw.getD i 0) 8 = 3 then (.neg (bltB raw d (i + 1)).1, (bltB raw d (i + 1)).2)
    else if pickI (raw.getD i 0) 8 = 4 then (.mul (bltB raw d (i + 1)).1 (bltB raw d (bltB raw d (i + 1)).2).1, (bltB raw d (bltB raw d (i + 1)).2).2)
    else if pickI (raw.getD i 0) 8 = 5 then (.sub (bltB raw d (i + 1)).1 (bltB raw d (bltB raw d (i + 1)).2).1, (bltB raw d (bltB raw d (i + 1)).2).2)
    else (.add (bltB raw d (i + 1)).1 (bltB raw d (bltB raw d (i + 1)).2).1, (bltB raw d (bltB raw d (i + 1)).2).2)
def txtB (e : Bex) : ByteArray := ⟨(spr e.tks).toArray⟩
theorem txtB_list (e : Bex) : (txtB e).data.toList = spr e.tks := by simp [txtB]
theorem spr_app (l m : List (List UInt8 × Tk)) : spr (l ++ m) = spr l ++ spr m := by simp [spr]
theorem spr_sp1 : ∀ {l : List (List UInt8 × Tk)}, l ≠ [] → spr (sp1 l) = 32 :: spr l
  | [], h => (h rfl).elim
  | x :: l, _ => by simp [spr, sp1]
theorem txt_num (v : Fin 1000) : txtB (.num v) = ⟨(dig v.1).toArray⟩ := by
  apply Go.WideShapes.bytes_inj
  rw [txtB_list]
  simp [Bex.tks, spr]
theorem txt_neg (e : Bex) : txtB (.neg e) = (⟨#[45, 40]⟩ ++ txtB e) ++ ⟨#[41]⟩ := by
  apply Go.WideShapes.bytes_inj
  rw [txtB_list]
  simp only [Bex.tks, spr_cons, spr_app, ByteArray.data_append, Array.toList_append, txtB_list]
  simp [spr]
theorem txt_mul (e f : Bex) : txtB (.mul e f) = (((⟨#[40]⟩ ++ txtB e) ++ ⟨#[41, 32, 42, 40]⟩) ++ txtB f) ++ ⟨#[41]⟩ := by
  apply Go.WideShapes.bytes_inj
  rw [txtB_list]
  simp only [Bex.tks, spr_cons, spr_app, ByteArray.data_append, Array.toList_append, txtB_list]
  simp [spr]
theorem txt_sub (e f : Bex) : txtB (.sub e f) = ((txtB e ++ ⟨#[32, 45, 32, 40]⟩) ++ txtB f) ++ ⟨#[41]⟩ := by
  apply Go.WideShapes.bytes_inj
  rw [txtB_list]
  simp only [Bex.tks, spr_cons, spr_app, ByteArray.data_append, Array.toList_append, txtB_list]
  simp [spr]
theorem txt_add (e f : Bex) : txtB (.add e f) = (txtB e ++ ⟨#[43, 32]⟩) ++ txtB f := by
  apply Go.WideShapes.bytes_inj
  rw [txtB_list]
  simp only [Bex.tks, spr_cons, spr_app, spr_sp1 f.ne, ByteArray.data_append, Array.toList_append, txtB_list]
  simp
/-- how long it is at most. -/
def bndB : Nat → Nat
  | 0 => 5
  | d + 1 => 2 * bndB d + 6
theorem txt_le (raw : List Int) : ∀ (d i : Nat), (txtB (bltB raw d i).1).size ≤ bndB d
  | 0, i => by
    unfold bltB bndB
    simp only
    split
    · rw [txt_num]
      have : (dig (numB (raw.getD i 0)).1).toArray.size ≤ 3 := by rw [List.size_toArray]; unfold dig; split <;> (try split) <;> simp
      show (dig (numB (raw.getD i 0)).1).toArray.size ≤ 5
      omega
    · decide
  | d + 1, i => by
    have h1 := txt_le raw d (i + 1)
    have h2 := txt_le raw d (bltB raw d (i + 1)).2
    have hb : 5 ≤ bndB d := by cases d with | zero => decide | succ d => unfold bndB; omega
    unfold bltB
    rw [show bndB (d + 1) = 2 * bndB d + 6 from rfl]
    split
    · rw [txt_num]
      have : (dig (numB (raw.getD i 0)).1).toArray.size ≤ 3 := by rw [List.size_toArray]; unfold dig; split <;> (try split) <;> simp
      show (dig (numB (raw.getD i 0)).1).toArray.size ≤ _
      omega
    · split
      · show (txtB .cola).size ≤ _; have : (txtB .cola).size = 3 := by decide
        omega
      · split
        · show (txtB .colb).size ≤ _; have : (txtB .colb).size = 5 := by decide
          omega
        · split
          · rw [txt_neg]; simp only [ByteArray.size_append]; have e1 : (⟨#[45, 40]⟩ : ByteArray).size = 2 := rfl; have e2 : (⟨#[41]⟩ : ByteArray).size = 1 := rfl; omega
          · split
            · rw [txt_mul]; simp only [ByteArray.size_append]; have e1 : (⟨#[40]⟩ : ByteArray).size = 1 := rfl; have e2 : (⟨#[41]⟩ : ByteArray).size = 1 := rfl; have e3 : (⟨#[41, 32, 42, 40]⟩ : ByteArray).size = 4 := rfl; omega
            · split
              · rw [txt_sub]; simp only [ByteArray.size_append]; have e2 : (⟨#[41]⟩ : ByteArray).size = 1 := rfl; have e3 : (⟨#[32, 45, 32, 40]⟩ : ByteArray).size = 4 := rfl; omega
              · rw [txt_add]; simp only [ByteArray.size_append]; have e3 : (⟨#[43, 32]⟩ : ByteArray).size = 2 := rfl; omega
theorem need_le (raw : List Int) : ∀ (d i : Nat), (bltB raw d i).1.need ≤ 2 * d + 1
  | 0, i => by unfold bltB; simp only; split <;> simp [Bex.need]
  | d + 1, i => by
    have h1 := need_le raw d (i + 1)
    have h2 := need_le raw d (bltB raw d (i + 1)).2
    unfold bltB
    repeat' split
    all_goals simp only [Bex.need]; omega
theorem next_lt (raw : List Int) : ∀ (d i : Nat), (bltB raw d i).2 < i + 2 ^ (d + 1)
  | 0, i => by unfold bltB; simp only; omega
  | d + 1, i => by
    have h1 := next_lt raw d (i + 1)
    have h2 := next_lt raw d (bltB raw d (i + 1)).2
    have h3 : 2 ≤ 2 ^ (d + 1) := by have : 1 ≤ 2 ^ d := Nat.one_le_two_pow; rw [Nat.pow_succ]; omega
    unfold bltB
    rw [Nat.pow_succ]
    repeat' split
    all_goals simp only; omega

/-- what built comes to. -/
abbrev BDone (raw : List Int) (A B : Int) (d i : Nat) (w : World) (e : Ending) (w' : World) : Prop := e = .returned (.tuple #[.agg #[.string (txtB (bltB raw d i).1), .int .i64 ((bltB raw d i).1.val A B)], .int .i64 ((bltB raw d i).2 : Nat)]) ∧ Below w.heap.size w w'

set_option maxRecDepth 100000 in
set_option maxHeartbeats 1000000 in
theorem built_zero (raw : List Int) (hraw : ∀ z ∈ raw, InR z) (ad : Option Addr) (cap : Nat) (A B : Int) (i : Nat) (hi : i ≤ 1000) (w : World) (hr : RowAt w (.slice ad raw.length cap) (intsV raw)) :
    Calls Tryz.prog 21 #[.slice ad raw.length cap, .int .i64 (i : Nat), .int .i64 0, .int .i64 A, .int .i64 B] w fun e w' => BDone raw A B 0 i w e w' := by
  obtain ⟨n, hn⟩ : ∃ n, n = raw.getD i 0 := ⟨_, rfl⟩
  have hnr : InR n := by
    rw [hn, List.getD_eq_getElem?_getD]
    by_cases h : i < raw.length
    · rw [List.getElem?_eq_getElem h]; exact hraw _ (List.getElem_mem h)
    · rw [List.getElem?_eq_none (by omega)]; unfold InR; simp
  unfold InR at hnr
  have HB : Hid (bltB raw 0 i = (if pickI n 8 % 2 = 0 then .num (numB n) else .cola, i + 1)) := by unfold Hid; rw [hn]; rfl
  obtain ⟨k, hk⟩ : ∃ k, k = pickI n 8 := ⟨_, rfl⟩
  have hk8 := pickI_lt n 8 (by omega)
  rw [← hk] at HB hk8
  have HP := hide (pick_any n 8 hnr.1 hnr.2 (by omega) (by omega))
  rw [← hk] at HP
  have hw1 : wrap64 ((i : Int) + 1) = (i : Int) + 1 := by unfold wrap64; omega
  have htm : k.tmod 2 = k % 2 := Int.tmod_eq_emod_of_nonneg (by omega)
  have hwt : wrap64 (k % 2) = k % 2 := by unfold wrap64; omega
  have hq8 : -9223372036854775808 ≤ n.tdiv 8 ∧ n.tdiv 8 < 9223372036854775808 := by
    rcases Int.le_total 0 n with h | h
    · rw [Int.tdiv_eq_ediv_of_nonneg h]; omega
    · have : n.tdiv 8 = -((-n) / 8) := by rw [← Int.tdiv_eq_ediv_of_nonneg (by omega), Int.neg_tdiv, Int.neg_neg]
      omega
  have hwq : wrap64 (n.tdiv 8) = n.tdiv 8 := by unfold wrap64; omega
  have HP2 := hide (pick_any (n.tdiv 8) 1000 hq8.1 hq8.2 (by omega) (by omega))
  rw [numB_eq] at HP2
  have HD := hide (digits_any (numB n).1 (numB n).2)
  have key : (decide ((i : Int) < (raw.length : Int)) = true ∧ (i : Int) < (raw.length : Int) ∧ ∃ b o, ad = some ⟨b, o, none⟩ ∧ b < w.heap.size ∧ w.cell? ⟨b, o + i, none⟩ = some (.int .i64 n)) ∨ (decide ((i : Int) < (raw.length : Int)) = false ∧ raw.length ≤ i ∧ n = 0) := by
    by_cases h : i < raw.length
    · obtain ⟨ad', cap', e, -, hc⟩ := hr
      injection e with e _ _
      subst e
      rw [List.length_map] at hc
      obtain ⟨b, o, e1, zb, h3⟩ := hc (by omega)
      refine Or.inl ⟨by simp; omega, by omega, b, o, e1, zb, ?_⟩
      rw [h3 i h, hn, List.getD_eq_getElem?_getD, List.getElem?_map, List.getElem?_eq_getElem h]
      rfl
    · exact Or.inr ⟨by simp; omega, by omega, by rw [hn, List.getD_eq_getElem?_getD, List.getElem?_eq_none (by omega)]; rfl⟩
  clear hr hn hk hraw hnr hq8
  have HV : Hid ((bltB raw 0 i).1.val A B = if k % 2 = 0 then ((numB n).1 : Int) else A) := by
    unfold Hid
    rw [unhide HB]
    split <;> rfl
  have HX : Hid (txtB (bltB raw 0 i).1 = if k % 2 = 0 then ⟨(dig (numB n).1).toArray⟩ else ⟨#[120, 46, 97]⟩) := by
    unfold Hid
    rw [unhide HB]
    split
    · exact txt_num _
    · exact (by decide : txtB .cola = ⟨#[120, 46, 97]⟩)
  have HN : Hid ((((bltB raw 0 i).2 : Nat) : Int) = (i : Int) + 1) := by unfold Hid; rw [unhide HB]; rfl
  have hsz : (⟨(dig (numB n).1).toArray⟩ : ByteArray).size ≤ 3 := by show (dig (numB n).1).toArray.size ≤ 3; rw [List.size_toArray]; unfold dig; split <;> (try split) <;> simp
  generalize (⟨(dig (numB n).1).toArray⟩ : ByteArray) = G at *
  generalize (((numB n).1 : Nat) : Int) = V at *
  clear HB
  rcases key with ⟨hlt, hlt2, b, o, rfl, zb, kc⟩ | ⟨hlt, hle, hn0⟩
  rotate_left
  subst hn0
  simp only [Int.zero_tdiv] at HP2 hwq
  have hnl : ¬ i < raw.length := by omega
  all_goals
    go_enter Tryz.func21, Tryz.ntmps21
    go_wp2_with fail
    refine ((unhide HP) _).mono ?_
    rintro e w' ⟨rfl, rfl⟩
    by_cases h2 : k % 2 = 0
    · have hd2 : ((k % 2 : Int) == 0) = true := by rw [h2]; rfl
      go_wp2_with fail
      refine ((unhide HP2) _).mono ?_
      rintro e w' ⟨rfl, rfl⟩
      go_wp2_with fail
      refine ((unhide HD) _).mono ?_
      rintro e w3 ⟨rfl, hb3⟩
      have hx3 : w3.heap[w.heap.size]? = some (.cells #[.string ⟨#[]⟩, .int .i64 0] 46 (0, 0)) := (hb3.block _ (by simp)).trans (heap_last rfl)
      obtain ⟨kx, fx⟩ := blk hx3
      have x0 : w3.cell? ⟨w.heap.size, 0, none⟩ = some (.string ⟨#[]⟩) := kx 0
      have x1 : w3.cell? ⟨w.heap.size, 1, none⟩ = some (.int .i64 0) := kx 1
      have xf0 : w3.frozen? ⟨w.heap.size, 0, none⟩ = false := fx 0
      have xf1 : w3.frozen? ⟨w.heap.size, 1, none⟩ = false := fx 1
      have zx := lt_of_heap hx3
      have HB3 : Hid (Below w.heap.size w w3) := ((Below.refl _ _).alloc (Nat.le_refl _) _).trans (hb3.mono (by simp))
      clear hb3 hx3 kx fx
      go_wp2
      refine bodyPost_ret (v := .tuple #[.agg #[.string G, .int .i64 V], .int .i64 ((i : Int) + 1)]) (by simp [results, Tryz.results21, go_sem, *]) rfl ⟨?_, ((unhide HB3).setCell (Nat.le_refl _) _).setCell (Nat.le_refl _) _⟩
      rw [unhide HV, unhide HX, unhide HN, if_pos h2, if_pos h2]
    · have hd2 : ((k % 2 : Int) == 0) = false := by simp; omega
      have hk0 : ((k : Int) == 0) = false := by simp; omega
      go_wp2
      refine bodyPost_ret (v := .tuple #[.agg #[.string ⟨#[120, 46, 97]⟩, .int .i64 A], .int .i64 ((i : Int) + 1)]) (by simp [results, Tryz.results21, go_sem, *]) rfl ⟨?_, (Below.refl _ _).alloc (Nat.le_refl _) _⟩
      rw [unhide HV, unhide HX, unhide HN, if_neg h2, if_neg h2]
end Go.Proofs.YtfkeddkfegaeiaaGreatDoor
