/-
  Part 1.
-/
import Derived.Below
import Derived.Lib.Bytealg
import Derived.Lib.Strings
import Derived.Test.YtfkeddkfegaeiaaGreatDoorRows
import Derived.WalkKit
import Derived.WalkSpells
import Derived.WalkLawsBesides
namespace Go.Proofs.YtfkeddkfegaeiaaGreatDoor
def blankI (n : Int) : Bool := n == 32 || n == 9 || n == 10
def letterI (n : Int) : Bool := (decide (97 ≤ n) && decide (n ≤ 122)) || n == 95
def digitI (n : Int) : Bool := decide (48 ≤ n) && decide (n ≤ 57)
/-- how many of a text's first bytes are of one kind. -/
def lead (p : Int → Bool) (l : List UInt8) : Nat := (l.takeWhile fun c => p c.toNat).length
theorem lead_le (p : Int → Bool) (l : List UInt8) : lead p l ≤ l.length := by
  unfold lead
  induction l with
  | nil => simp
  | cons c r ih => simp only [List.takeWhile_cons]; split <;> simp <;> omega
/-- all bytes ahead of k are of the kind, and the one at k is not, or the text ends. -/
theorem lead_eq (p : Int → Bool) (l : List UInt8) (k : Nat) (hk : k ≤ l.length) (h : ∀ j (hj : j < k), p (l[j]'(by omega)).toNat = true) (he : ∀ hlt : k < l.length, p (l[k]).toNat = false) : lead p l = k := by
  induction l generalizing k with
  | nil => simp at hk; subst hk; rfl
  | cons c r ih =>
    match k with
    | 0 =>
      have := he (by simp)
      simp only [List.getElem_cons_zero] at this
      simp [lead, this]
    | k + 1 =>
      have h0 := h 0 (by omega)
      simp only [List.getElem_cons_zero] at h0
      have := ih k (by simpa using hk) (fun j hj => by simpa using h (j + 1) (by omega)) (fun hlt => he (by simpa using hlt))
      unfold lead at this ⊢
      simp [h0, this]
/-- the words that are no names. -/
def wordList : List (List UInt8) := [[97, 110, 100], [97, 115], [98, 121], [99, 111, 117, 110, 116], [102, 114, 111, 109], [109, 97, 120], [109, 105, 110], [111, 114, 100, 101, 114], [111, 118, 101, 114], [112, 97, 114, 116, 105, 116, 105, 111, 110], [112, 114, 101, 99, 101, 100, 105, 110, 103], [114, 111, 119, 95, 110, 117, 109, 98, 101, 114], [114, 111, 119, 115], [115, 101, 108, 101, 99, 116], [115, 117, 109], [117, 110, 105, 111, 110], [119, 104, 101, 114, 101], [119, 105, 116, 104]]
def wordB (l : List UInt8) : Bool := wordList.any fun x => l == x
def signs1 : List UInt8 := [40, 41, 44, 46, 43, 45, 42, 61, 60, 62]
def sign2 (l : List UInt8) : Bool := (l.take 2 == [60, 62]) || (l.take 2 == [60, 61]) || (l.take 2 == [62, 61])
/-- how long the sign is that a text (not empty) begins with; 0: there is none. -/
def signLen (l : List UInt8) : Nat :=
  if sign2 l then 2 else if Lib.indexByte signs1 (l.headD 0) < 0 then 0 else 1
/-- a token: its place, its kind (0 the end, 1 a word or sign, 2 a name, 3 a number), its text, its value. -/
structure Tk where
  place : Nat
  kind : Nat
  text : ByteArray
  value : Int
end Go.Proofs.YtfkeddkfegaeiaaGreatDoor
namespace Go.Proofs.YtfkeddkfegaeiaaGreatDoor
section
variable {α : Type}
/-- a test 'less', and an order that it settles but for elements that are alike. -/
structure Ordr (lt : α → α → Bool) (T : α → α → Prop) : Prop where
  trans : ∀ {x y z}, T x y → T y z → T x z
  of_lt : ∀ {x y}, lt x y = true → T x y
/-- x came before y. -/
def Bfr (lt : α → α → Bool) (T : α → α → Prop) (x y : α) : Prop := lt y x = false → T x y
def Srt' (T : α → α → Prop) (d : Nat → α) (a b : Nat) : Prop := ∀ i j, a ≤ i → i < j → j < b → T (d i) (d j)
def Bef (lt : α → α → Bool) (T : α → α → Prop) (d : Nat → α) (a m b : Nat) : Prop := ∀ i j, a ≤ i → i < m → m ≤ j → j < b → Bfr lt T (d i) (d j)
def All2 (T : α → α → Prop) (d : Nat → α) (a m b : Nat) : Prop := ∀ i j, a ≤ i → i < m → m ≤ j → j < b → T (d i) (d j)
/-- the others stay, and those of a range come from there. -/
def Inc (a b : Nat) (d d' : Nat → α) : Prop := (∀ k, k < a ∨ b ≤ k → d' k = d k) ∧ ∀ k, a ≤ k → k < b → ∃ i, a ≤ i ∧ i < b ∧ d' k = d i
theorem Inc.refl (a b : Nat) (d : Nat → α) : Inc a b d d := ⟨fun _ _ => rfl, fun k h1 h2 => ⟨k, h1, h2, rfl⟩⟩
theorem Inc.trans {a b : Nat} {d d' d'' : Nat → α} (h : Inc a b d d') (g : Inc a b d' d'') : Inc a b d d'' := ⟨fun k hk => (g.1 k hk).trans (h.1 k hk), fun k h1 h2 => by
  obtain ⟨i, i1, i2, e⟩ := g.2 k h1 h2
  obtain ⟨j, j1, j2, e'⟩ := h.2 i i1 i2
  exact ⟨j, j1, j2, e.trans e'⟩⟩
theorem Inc.mono {a b a' b' : Nat} {d d' : Nat → α} (h : Inc a b d d') (ha : a' ≤ a) (hb : b ≤ b') : Inc a' b' d d' := ⟨fun k hk => h.1 k (by omega), fun k h1 h2 => by
  by_cases hk : k < a ∨ b ≤ k
  · exact ⟨k, h1, h2, h.1 k hk⟩
  · obtain ⟨i, i1, i2, e⟩ := h.2 k (by omega) (by omega)
    exact ⟨i, by omega, by omega, e⟩⟩
/-- two are exchanged. -/
def swp (d : Nat → α) (i j : Nat) : Nat → α := fun k => if k = i then d j else if k = j then d i else d k
theorem swp_inc {a b i j : Nat} (d : Nat → α) (h1 : a ≤ i) (h2 : i < b) (h3 : a ≤ j) (h4 : j < b) : Inc a b d (swp d i j) := by
  refine ⟨fun k hk => ?_, fun k _ _ => ?_⟩
  · unfold swp
    rw [if_neg (by omega), if_neg (by omega)]
  · unfold swp
    by_cases e : k = i
    · rw [if_pos e]; exact ⟨j, h3, h4, rfl⟩
    · rw [if_neg e]
      by_cases e2 : k = j
      · rw [if_pos e2]; exact ⟨i, h1, h2, rfl⟩
      · rw [if_neg e2]; exact ⟨k, by omega, by omega, rfl⟩
variable {lt : α → α → Bool} {T : α → α → Prop}
theorem Srt'.mono {d : Nat → α} {a b a' b' : Nat} (h : Srt' T d a b) (ha : a ≤ a') (hb : b' ≤ b) : Srt' T d a' b' := fun i j h1 h2 h3 => h i j (by omega) h2 (by omega)
theorem Srt'.congr {d d' : Nat → α} {a b : Nat} (h : Srt' T d a b) (e : ∀ k, a ≤ k → k < b → d' k = d k) : Srt' T d' a b := fun i j h1 h2 h3 => by
  rw [e i h1 (by omega), e j (by omega) h3]
  exact h i j h1 h2 h3
/-- sorted parts, the first below the second. -/
theorem Srt'.join {d : Nat → α} {a m b : Nat} (h1 : Srt' T d a m) (h2 : Srt' T d m b) (h3 : All2 T d a m b) : Srt' T d a b := fun i j i1 i2 i3 => by
  by_cases hj : j < m
  · exact h1 i j i1 i2 hj
  · by_cases hi : i < m
    · exact h3 i j i1 hi (by omega) i3
    · exact h2 i j (by omega) i2 i3
/-- what is between two parts outlives changes inside them. -/
theorem pair_left {P : α → α → Prop} {d d' : Nat → α} {a m b : Nat} (h : ∀ i j, a ≤ i → i < m → m ≤ j → j < b → P (d i) (d j)) (hi : Inc a m d d') : ∀ i j, a ≤ i → i < m → m ≤ j → j < b → P (d' i) (d' j) := fun i j h1 h2 h3 h4 => by
  obtain ⟨k, k1, k2, e⟩ := hi.2 i h1 h2
  rw [e, hi.1 j (Or.inr h3)]
  exact h k j k1 k2 h3 h4
theorem pair_right {P : α → α → Prop} {d d' : Nat → α} {a m b : Nat} (h : ∀ i j, a ≤ i → i < m → m ≤ j → j < b → P (d i) (d j)) (hi : Inc m b d d') : ∀ i j, a ≤ i → i < m → m ≤ j → j < b → P (d' i) (d' j) := fun i j h1 h2 h3 h4 => by
  obtain ⟨k, k1, k2, e⟩ := hi.2 j h3 h4
  rw [e, hi.1 i (Or.inl h2)]
  exact h i k h1 h2 k1 k2
/-- a moving element at j: those ahead of it are sorted, those behind too and above it. -/
structure Ins (lt : α → α → Bool) (T : α → α → Prop) (d0 d : Nat → α) (a i j : Nat) : Prop where
  le : a ≤ j ∧ j ≤ i
  inc : Inc a (i + 1) d0 d
  at' : d j = d0 i
  low : ∀ k, a ≤ k → k < j → d k = d0 k
  hi : ∀ k, j < k → k ≤ i → d k = d0 (k - 1)
  up : ∀ k, j < k → k ≤ i → T (d j) (d k)
theorem Ins.start (d : Nat → α) {a i : Nat} (h : a ≤ i) : Ins lt T d d a i i := ⟨⟨h, Nat.le_refl _⟩, Inc.refl _ _ _, rfl, fun _ _ _ => rfl, fun k h1 h2 => by omega, fun k h1 h2 => by omega⟩
theorem Ins.step (O : Ordr lt T) {d0 d : Nat → α} {a i j : Nat} (h : Ins lt T d0 d a i (j + 1)) (hj : a ≤ j) (hl : lt (d (j + 1)) (d j) = true) : Ins lt T d0 (swp d (j + 1) j) a i j := by
  have e1 : swp d (j + 1) j j = d (j + 1) := by unfold swp; rw [if_neg (by omega), if_pos rfl]
  have e2 : swp d (j + 1) j (j + 1) = d j := by unfold swp; rw [if_pos rfl]
  have e3 : ∀ k, k ≠ j → k ≠ j + 1 → swp d (j + 1) j k = d k := fun k h1 h2 => by unfold swp; rw [if_neg h2, if_neg h1]
  have hle := h.le
  refine ⟨⟨hj, by omega⟩, h.inc.trans (swp_inc _ (by omega) (by omega) (by omega) (by omega)), by rw [e1]; exact h.at', fun k k1 k2 => ?_, fun k k1 k2 => ?_, fun k k1 k2 => ?_⟩
  · rw [e3 k (by omega) (by omega)]; exact h.low k k1 (by omega)
  · by_cases e : k = j + 1
    · subst e; rw [e2, h.low j hj (by omega)]; rfl
    · rw [e3 k (by omega) e]; exact h.hi k (by omega) k2
  · by_cases e : k = j + 1
    · subst e; rw [e1, e2]; exact O.of_lt hl
    · rw [e1, e3 k (by omega) e]; exact h.up k (by omega) k2
theorem Ins.done (O : Ordr lt T) {d0 d : Nat → α} {a i j : Nat} (h : Ins lt T d0 d a i j) (hs : Srt' T d0 a i) (hb : ∀ k, a ≤ k → k < i → Bfr lt T (d0 k) (d0 i)) (hstop : j = a ∨ lt (d j) (d (j - 1)) = false) : Srt' T d a (i + 1) := by
  have hle := h.le
  intro x y x1 x2 x3
  by_cases hy : y < j
  · rw [h.low x x1 (by omega), h.low y (by omega) hy]
    exact hs x y x1 x2 (by omega)
  · by_cases hyj : y = j
    · subst hyj
      rcases hstop with e | e
      · omega
      · have e1 : T (d (y - 1)) (d y) := by
          have := hb (y - 1) (by omega) (by omega)
          rw [← h.at', ← h.low (y - 1) (by omega) (by omega)] at this
          exact this e
        by_cases hx : x = y - 1
        · rw [hx]; exact e1
        · refine O.trans ?_ e1
          rw [h.low x x1 (by omega), h.low (y - 1) (by omega) (by omega)]
          exact hs x (y - 1) x1 (by omega) (by omega)
    · by_cases hx : x = j
      · rw [hx]; exact h.up y (by omega) (by omega)
      · by_cases hx2 : x < j
        · rw [h.low x x1 hx2, h.hi y (by omega) (by omega)]
          exact hs x (y - 1) x1 (by omega) (by omega)
        · rw [h.hi x (by omega) (by omega), h.hi y (by omega) (by omega)]
          exact hs (x - 1) (y - 1) (by omega) (by omega) (by omega)
/-- the first part alone: one element goes to its place. -/
def mvR (d : Nat → α) (a i : Nat) : Nat → α := fun k => if k < a ∨ i ≤ k then d k else if k + 1 = i then d a else d (k + 1)
theorem mvR_srt (O : Ordr lt T) {d : Nat → α} {a b i : Nat} (hi1 : a + 1 ≤ i) (hi2 : i ≤ b) (hs : Srt' T d (a + 1) b) (hb : Bef lt T d a (a + 1) b) (h1 : i = a + 1 ∨ lt (d (i - 1)) (d a) = true) (h2 : i = b ∨ lt (d i) (d a) = false) : Inc a b d (mvR d a i) ∧ Srt' T (mvR d a i) a b := by
  have hlow : ∀ k, a + 1 ≤ k → k < i → T (d k) (d a) := fun k k1 k2 => by
    rcases h1 with e | e
    · omega
    · by_cases hk : k = i - 1
      · rw [hk]; exact O.of_lt e
      · exact O.trans (hs k (i - 1) k1 (by omega) (by omega)) (O.of_lt e)
  have hup : ∀ k, i ≤ k → k < b → T (d a) (d k) := fun k k1 k2 => by
    rcases h2 with e | e
    · omega
    · have e1 : T (d a) (d i) := hb a i (Nat.le_refl _) (by omega) (by omega) (by omega) e
      by_cases hk : k = i
      · rw [hk]; exact e1
      · exact O.trans e1 (hs i k (by omega) (by omega) k2)
  have v1 : ∀ k, a ≤ k → k + 1 < i → mvR d a i k = d (k + 1) := fun k k1 k2 => by unfold mvR; rw [if_neg (by omega), if_neg (by omega)]
  have v2 : mvR d a i (i - 1) = d a := by unfold mvR; rw [if_neg (by omega), if_pos (by omega)]
  have v3 : ∀ k, i ≤ k → mvR d a i k = d k := fun k k1 => by unfold mvR; rw [if_pos (by omega)]
  refine ⟨⟨fun k hk => ?_, fun k k1 k2 => ?_⟩, fun x y x1 x2 x3 => ?_⟩
  · unfold mvR; rw [if_pos (by omega)]
  · by_cases e : i ≤ k
    · rw [v3 k e]; exact ⟨k, k1, k2, rfl⟩
    · by_cases e2 : k = i - 1
      · rw [e2, v2]; exact ⟨a, Nat.le_refl _, by omega, rfl⟩
      · rw [v1 k k1 (by omega)]; exact ⟨k + 1, by omega, by omega, rfl⟩
  · by_cases hy : i ≤ y
    · rw [v3 y hy]
      by_cases hx : i ≤ x
      · rw [v3 x hx]; exact hs x y (by omega) x2 x3
      · by_cases e : x = i - 1
        · rw [e, v2]; exact hup y hy x3
        · rw [v1 x x1 (by omega)]; exact hs (x + 1) y (by omega) (by omega) x3
    · rw [v1 x x1 (by omega)]
      by_cases e : y = i - 1
      · rw [e, v2]; exact hlow (x + 1) (by omega) (by omega)
      · rw [v1 y (by omega) (by omega)]; exact hs (x + 1) (y + 1) (by omega) (by omega) (by omega)
/-- the second part alone. -/
def mvL (d : Nat → α) (i m : Nat) : Nat → α := fun k => if k < i ∨ m < k then d k else if k = i then d m else d (k - 1)
theorem mvL_srt (O : Ordr lt T) {d : Nat → α} {a m i : Nat} (hi1 : a ≤ i) (hi2 : i ≤ m) (hs : Srt' T d a m) (hb : Bef lt T d a m (m + 1)) (h1 : i = a ∨ lt (d m) (d (i - 1)) = false) (h2 : i = m ∨ lt (d m) (d i) = true) : Inc a (m + 1) d (mvL d i m) ∧ Srt' T (mvL d i m) a (m + 1) := by
  have hlow : ∀ k, a ≤ k → k < i → T (d k) (d m) := fun k k1 k2 => by
    rcases h1 with e | e
    · omega
    · have e1 : T (d (i - 1)) (d m) := hb (i - 1) m (by omega) (by omega) (Nat.le_refl _) (by omega) e
      by_cases hk : k = i - 1
      · rw [hk]; exact e1
      · exact O.trans (hs k (i - 1) k1 (by omega) (by omega)) e1
  have hup : ∀ k, i ≤ k → k < m → T (d m) (d k) := fun k k1 k2 => by
    rcases h2 with e | e
    · omega
    · by_cases hk : k = i
      · rw [hk]; exact O.of_lt e
      · exact O.trans (O.of_lt e) (hs i k (by omega) (by omega) k2)
  have v1 : ∀ k, k < i → mvL d i m k = d k := fun k k1 => by unfold mvL; rw [if_pos (by omega)]
  have v2 : mvL d i m i = d m := by unfold mvL; rw [if_neg (by omega), if_pos rfl]
  have v3 : ∀ k, i < k → k ≤ m → mvL d i m k = d (k - 1) := fun k k1 k2 => by unfold mvL; rw [if_neg (by omega), if_neg (by omega)]
  refine ⟨⟨fun k hk => ?_, fun k k1 k2 => ?_⟩, fun x y x1 x2 x3 => ?_⟩
  · unfold mvL; rw [if_pos (by omega)]
  · by_cases e : k < i
    · rw [v1 k e]; exact ⟨k, k1, k2, rfl⟩
    · by_cases e2 : k = i
      · rw [e2, v2]; exact ⟨m, by omega, by omega, rfl⟩
      · rw [v3 k (by omega) (by omega)]; exact ⟨k - 1, by omega, by omega, rfl⟩
  · by_cases hx : x < i
    · rw [v1 x hx]
      by_cases hy : y < i
      · rw [v1 y hy]; exact hs x y x1 x2 (by omega)
      · by_cases e : y = i
        · rw [e, v2]; exact hlow x x1 hx
        · rw [v3 y (by omega) (by omega)]; exact hs x (y - 1) x1 (by omega) (by omega)
    · by_cases e : x = i
      · rw [e, v2, v3 y (by omega) (by omega)]; exact hup (y - 1) (by omega) (by omega)
      · rw [v3 x (by omega) (by omega), v3 y (by omega) (by omega)]; exact hs (x - 1) (y - 1) (by omega) (by omega) (by omega)
/-- two neighbouring ranges change places. -/
def rot (d : Nat → α) (a m b : Nat) : Nat → α := fun k => if k < a ∨ b ≤ k then d k else if k < a + (b - m) then d (k + (m - a)) else d (k - (b - m))
theorem rot_lo {d : Nat → α} {a m b k : Nat} (h1 : a ≤ k) (h2 : k < a + (b - m)) (hm : m ≤ b) (_ha : a ≤ m) : rot d a m b k = d (k + (m - a)) := by unfold rot; rw [if_neg (by omega), if_pos h2]
theorem rot_hi {d : Nat → α} {a m b k : Nat} (h1 : a + (b - m) ≤ k) (h2 : k < b) (_ha : a ≤ m) : rot d a m b k = d (k - (b - m)) := by unfold rot; rw [if_neg (by omega), if_neg (by omega)]
theorem rot_out {d : Nat → α} {a m b k : Nat} (h : k < a ∨ b ≤ k) : rot d a m b k = d k := by unfold rot; rw [if_pos h]
theorem rot_inc (d : Nat → α) {a m b : Nat} (ha : a ≤ m) (hb : m ≤ b) : Inc a b d (rot d a m b) := ⟨fun k hk => rot_out hk, fun k k1 k2 => by
  by_cases e : k < a + (b - m)
  · exact ⟨k + (m - a), by omega, by omega, rot_lo k1 e hb ha⟩
  · exact ⟨k - (b - m), by omega, by omega, rot_hi (by omega) k2 ha⟩⟩
theorem rot_none {d : Nat → α} {a b : Nat} (m : Nat) (h : m = a ∨ m = b) (ha : a ≤ m) (hb : m ≤ b) : rot d a m b = d := by
  funext k
  unfold rot
  by_cases h1 : k < a ∨ b ≤ k
  · rw [if_pos h1]
  · rw [if_neg h1]
    by_cases h2 : k < a + (b - m)
    · rw [if_pos h2]; congr 1; omega
    · rw [if_neg h2]; congr 1; omega
/-- the middle is settled: what lies ahead of it belongs ahead. -/
structure Mid (lt : α → α → Bool) (T : α → α → Prop) (d : Nat → α) (a m b mid start : Nat) : Prop where
  am : a ≤ m ∧ m ≤ b ∧ a ≤ mid ∧ mid ≤ b
  st : a ≤ start ∧ start ≤ m ∧ start ≤ mid ∧ m ≤ mid + m - start ∧ mid + m - start ≤ b
  lo : start = a ∨ mid + m - start = b ∨ lt (d (mid + m - start)) (d (start - 1)) = false
  hi : start = m ∨ mid + m - start = m ∨ lt (d (mid + m - start - 1)) (d start) = true
theorem Mid.settles (O : Ordr lt T) {d : Nat → α} {a m b mid start : Nat} (h : Mid lt T d a m b mid start) (hs1 : Srt' T d a m) (hs2 : Srt' T d m b) (hb : Bef lt T d a m b) :
    Srt' T (rot d start m (mid + m - start)) a start ∧ Srt' T (rot d start m (mid + m - start)) start mid ∧ Srt' T (rot d start m (mid + m - start)) mid (mid + m - start) ∧ Srt' T (rot d start m (mid + m - start)) (mid + m - start) b ∧
    Bef lt T (rot d start m (mid + m - start)) a start mid ∧ Bef lt T (rot d start m (mid + m - start)) mid (mid + m - start) b ∧ All2 T (rot d start m (mid + m - start)) a mid b := by
  obtain ⟨a1, a2, a3, a4⟩ := h.am
  obtain ⟨s1, s2, s3, s4, s5⟩ := h.st
  have hlo := h.lo
  have hhi := h.hi
  generalize he : mid + m - start = e at *
  have hlen : start + (e - m) = mid := by omega
  have r1 : ∀ k, k < start → rot d start m e k = d k := fun k hk => rot_out (Or.inl hk)
  have r2 : ∀ k, start ≤ k → k < mid → rot d start m e k = d (k + (m - start)) := fun k k1 k2 => rot_lo k1 (by omega) s4 s2
  have r3 : ∀ k, mid ≤ k → k < e → rot d start m e k = d (k - (e - m)) := fun k k1 k2 => rot_hi (by omega) k2 s2
  have r4 : ∀ k, e ≤ k → rot d start m e k = d k := fun k hk => rot_out (Or.inr hk)
  -- the four ways
  have w1 : ∀ x y, a ≤ x → x < start → e ≤ y → y < b → T (d x) (d y) := fun x y x1 x2 y1 y2 => by
    rcases hlo with q | q | q
    · omega
    · omega
    · have e1 : T (d (start - 1)) (d e) := hb (start - 1) e (by omega) (by omega) s4 (by omega) q
      have e2 : T (d x) (d e) := by
        by_cases hx : x = start - 1
        · rw [hx]; exact e1
        · exact O.trans (hs1 x (start - 1) x1 (by omega) (by omega)) e1
      by_cases hy : y = e
      · rw [hy]; exact e2
      · exact O.trans e2 (hs2 e y s4 (by omega) y2)
  have w2 : ∀ x y, m ≤ x → x < e → start ≤ y → y < m → T (d x) (d y) := fun x y x1 x2 y1 y2 => by
    rcases hhi with q | q | q
    · omega
    · omega
    · have e1 : T (d (e - 1)) (d start) := O.of_lt q
      have e2 : T (d x) (d start) := by
        by_cases hx : x = e - 1
        · rw [hx]; exact e1
        · exact O.trans (hs2 x (e - 1) x1 (by omega) (by omega)) e1
      by_cases hy : y = start
      · rw [hy]; exact e2
      · exact O.trans e2 (hs1 start y s1 (by omega) y2)
  refine ⟨fun x y x1 x2 x3 => ?_, fun x y x1 x2 x3 => ?_, fun x y x1 x2 x3 => ?_, fun x y x1 x2 x3 => ?_, fun x y x1 x2 y1 y2 => ?_, fun x y x1 x2 y1 y2 => ?_, fun x y x1 x2 y1 y2 => ?_⟩
  · rw [r1 x (by omega), r1 y x3]; exact hs1 x y x1 x2 (by omega)
  · rw [r2 x x1 (by omega), r2 y (by omega) x3]; exact hs2 _ _ (by omega) (by omega) (by omega)
  · rw [r3 x x1 (by omega), r3 y (by omega) x3]; exact hs1 _ _ (by omega) (by omega) (by omega)
  · rw [r4 x x1, r4 y (by omega)]; exact hs2 x y (by omega) x2 x3
  · rw [r1 x x2, r2 y y1 y2]; exact hb _ _ x1 (by omega) (by omega) (by omega)
  · rw [r3 x x1 x2, r4 y y1]; exact hb _ _ (by omega) (by omega) (by omega) y2
  · by_cases hx : x < start
    · rw [r1 x hx]
      by_cases hy : y < e
      · rw [r3 y y1 hy]; exact hs1 _ _ x1 (by omega) (by omega)
      · rw [r4 y (by omega)]; exact w1 x y x1 hx (by omega) y2
    · rw [r2 x (by omega) x2]
      by_cases hy : y < e
      · rw [r3 y y1 hy]; exact w2 _ _ (by omega) (by omega) (by omega) (by omega)
      · rw [r4 y (by omega)]; exact hs2 _ _ (by omega) (by omega) y2
end
end Go.Proofs.YtfkeddkfegaeiaaGreatDoor
namespace Go.Proofs.YtfkeddkfegaeiaaGreatDoor
open Go.RowKit
set_option maxHeartbeats 400000 in
theorem isBlank_any (n : Int) (w : World) : Calls Tryz.prog 94 #[.int .u8 n] w fun e w' => e = .returned (.bool (blankI n)) ∧ w' = w := by
  by_cases h1 : n = 32
  · have b1 : (n == 32) = true := by simp [h1]
    go_enter Tryz.func94, Tryz.ntmps94
    go_wp2
    go_ret
    exact ⟨by simp [blankI, b1], rfl⟩
  · have b1 : (n == 32) = false := by simp [h1]
    by_cases h2 : n = 9
    · have b2 : (n == 9) = true := by simp [h2]
      go_enter Tryz.func94, Tryz.ntmps94
      go_wp2
      go_ret
      exact ⟨by simp [blankI, b1, b2], rfl⟩
    · have b2 : (n == 9) = false := by simp [h2]
      go_enter Tryz.func94, Tryz.ntmps94
      go_wp2
      go_ret
      exact ⟨by simp [blankI, b1, b2], rfl⟩
set_option maxHeartbeats 400000 in
theorem isLetter_any (n : Int) (w : World) : Calls Tryz.prog 142 #[.int .u8 n] w fun e w' => e = .returned (.bool (letterI n)) ∧ w' = w := by
  by_cases h1 : 97 ≤ n
  · have b1 : decide (97 ≤ n) = true := by simp [h1]
    by_cases h2 : n ≤ 122
    · have b2 : decide (n ≤ 122) = true := by simp [h2]
      go_enter Tryz.func142, Tryz.ntmps142
      go_wp2
      go_ret
      exact ⟨by simp [letterI, h1, h2], rfl⟩
    · have b2 : decide (n ≤ 122) = false := by simp; omega
      go_enter Tryz.func142, Tryz.ntmps142
      go_wp2
      go_ret
      exact ⟨by simp [letterI, b2], rfl⟩
  · have b1 : decide (97 ≤ n) = false := by simp; omega
    go_enter Tryz.func142, Tryz.ntmps142
    go_wp2
    go_ret
    exact ⟨by simp [letterI, b1], rfl⟩
set_option maxHeartbeats 400000 in
theorem isDigit_any (n : Int) (w : World) : Calls Tryz.prog 144 #[.int .u8 n] w fun e w' => e = .returned (.bool (digitI n)) ∧ w' = w := by
  by_cases h1 : 48 ≤ n
  · have b1 : decide (48 ≤ n) = true := by simp [h1]
    go_enter Tryz.func144, Tryz.ntmps144
    go_wp2
    go_ret
    exact ⟨by simp [digitI, h1], rfl⟩
  · have b1 : decide (48 ≤ n) = false := by simp; omega
    go_enter Tryz.func144, Tryz.ntmps144
    go_wp2
    go_ret
    exact ⟨by simp [digitI, b1], rfl⟩
set_option maxHeartbeats 1000000 in
theorem isWord_any (s : ByteArray) (w : World) : Calls Tryz.prog 208 #[.string s] w fun e w' => e = .returned (.bool (wordB s.data.toList)) ∧ w' = w := by
  go_enter Tryz.func208, Tryz.ntmps208
  go_wp2
  all_goals first
    | (exfalso; simp_all; done)
    | (go_ret; refine ⟨?_, rfl⟩; rw [← ByteArray.toList_eq]; simp only [wordB, wordList, List.any_cons, List.any_nil, *, Bool.or_true, Bool.true_or, Bool.or_false]; rfl)
set_option maxHeartbeats 400000 in
theorem leading_blank (s : ByteArray) (w : World) (hs : s.size ≤ maxLen) :
    Calls Tryz.prog 93 #[.string s, .func (.func 94) #[] #[]] w fun e w' => e = .returned (.string (s.extract 0 (lead blankI s.data.toList))) ∧ w' = w := by
  unfold maxLen at hs
  go_enter Tryz.func93, Tryz.ntmps93
  go_wp2
  go_loop [5] (fun i => ∃ k : Nat, k ≤ s.size ∧ (∀ j (hj : j < k) (hj' : j < s.data.toList.length), blankI (s.data.toList[j]).toNat = true) ∧ i = .int .i64 k) (fun i => s.size - (intOf i).toNat)
  case atStart => exact ⟨0, Nat.zero_le _, fun j hj => absurd hj (Nat.not_lt_zero _), rfl⟩
  case round =>
    obtain ⟨k, hk, hall, rfl⟩ := hrel
    have HA : Hid (∀ j (hj : j < k) (hj' : j < s.data.toList.length), blankI (s.data.toList[j]).toNat = true) := hall
    clear hall
    have hsz : s.data.toList.length = s.size := by rw [Array.length_toList]; rfl
    have HZ : Hid (s.data.toList.length = s.size) := hsz
    clear hsz
    by_cases hlt : k < s.size
    · have hb : ((s[k]).toNat : Int) = ((s.data.toList[k]'(by rw [HZ.out]; exact hlt)).toNat : Int) := rfl
      have HB : Hid (((s[k]).toNat : Int) = ((s.data.toList[k]'(by rw [HZ.out]; exact hlt)).toNat : Int)) := hb
      clear hb
      cases hp : blankI (s[k]).toNat with
      | true =>
        have HP : Hid (blankI (s[k]).toNat = true) := hp
        go_wp2_with (go_at_call 94; refine (isBlank_any _ _).mono ?_; rintro e w' ⟨rfl, rfl⟩)
        go_round
        case rel =>
          refine ⟨k + 1, by omega, fun j hj hj' => ?_, by go_num⟩
          rcases Nat.lt_or_ge j k with h | h
          · exact HA.out j h hj'
          · obtain rfl : j = k := by omega
            exact HP.out
        case measure => simp [intOf]; omega
      | false =>
        have HP : Hid (blankI (s[k]).toNat = false) := hp
        go_wp2_with (go_at_call 94; refine (isBlank_any _ _).mono ?_; rintro e w' ⟨rfl, rfl⟩)
        go_ret
        have e1 : lead blankI s.data.toList = k := lead_eq _ _ k (by rw [HZ.out]; exact hk) (fun j hj => HA.out j hj (by rw [HZ.out]; omega)) (fun _ => HP.out)
        exact ⟨by rw [e1]; rfl, rfl⟩
    · go_wp2
      go_ret
      have e1 : lead blankI s.data.toList = k := lead_eq _ _ k (by rw [HZ.out]; exact hk) (fun j hj => HA.out j hj (by rw [HZ.out]; omega)) (fun h => absurd h (by rw [HZ.out]; omega))
      exact ⟨by rw [e1]; rfl, rfl⟩
set_option maxHeartbeats 400000 in
theorem leading_letter (s : ByteArray) (w : World) (hs : s.size ≤ maxLen) :
    Calls Tryz.prog 93 #[.string s, .func (.func 142) #[] #[]] w fun e w' => e = .returned (.string (s.extract 0 (lead letterI s.data.toList))) ∧ w' = w := by
  unfold maxLen at hs
  go_enter Tryz.func93, Tryz.ntmps93
  go_wp2
  go_loop [5] (fun i => ∃ k : Nat, k ≤ s.size ∧ (∀ j (hj : j < k) (hj' : j < s.data.toList.length), letterI (s.data.toList[j]).toNat = true) ∧ i = .int .i64 k) (fun i => s.size - (intOf i).toNat)
  case atStart => exact ⟨0, Nat.zero_le _, fun j hj => absurd hj (Nat.not_lt_zero _), rfl⟩
  case round =>
    obtain ⟨k, hk, hall, rfl⟩ := hrel
    have HA : Hid (∀ j (hj : j < k) (hj' : j < s.data.toList.length), letterI (s.data.toList[j]).toNat = true) := hall
    clear hall
    have hsz : s.data.toList.length = s.size := by rw [Array.length_toList]; rfl
    have HZ : Hid (s.data.toList.length = s.size) := hsz
    clear hsz
    by_cases hlt : k < s.size
    · have hb : ((s[k]).toNat : Int) = ((s.data.toList[k]'(by rw [HZ.out]; exact hlt)).toNat : Int) := rfl
      have HB : Hid (((s[k]).toNat : Int) = ((s.data.toList[k]'(by rw [HZ.out]; exact hlt)).toNat : Int)) := hb
      clear hb
      cases hp : letterI (s[k]).toNat with
      | true =>
        have HP : Hid (letterI (s[k]).toNat = true) := hp
        go_wp2_with (go_at_call 142; refine (isLetter_any _ _).mono ?_; rintro e w' ⟨rfl, rfl⟩)
        go_round
        case rel =>
          refine ⟨k + 1, by omega, fun j hj hj' => ?_, by go_num⟩
          rcases Nat.lt_or_ge j k with h | h
          · exact HA.out j h hj'
          · obtain rfl : j = k := by omega
            exact HP.out
        case measure => simp [intOf]; omega
      | false =>
        have HP : Hid (letterI (s[k]).toNat = false) := hp
        go_wp2_with (go_at_call 142; refine (isLetter_any _ _).mono ?_; rintro e w' ⟨rfl, rfl⟩)
        go_ret
        have e1 : lead letterI s.data.toList = k := lead_eq _ _ k (by rw [HZ.out]; exact hk) (fun j hj => HA.out j hj (by rw [HZ.out]; omega)) (fun _ => HP.out)
        exact ⟨by rw [e1]; rfl, rfl⟩
    · go_wp2
      go_ret
      have e1 : lead letterI s.data.toList = k := lead_eq _ _ k (by rw [HZ.out]; exact hk) (fun j hj => HA.out j hj (by rw [HZ.out]; omega)) (fun h => absurd h (by rw [HZ.out]; omega))
      exact ⟨by rw [e1]; rfl, rfl⟩
set_option maxHeartbeats 400000 in
theorem leading_digit (s : ByteArray) (w : World) (hs : s.size ≤ maxLen) :
    Calls Tryz.prog 93 #[.string s, .func (.func 144) #[] #[]] w fun e w' => e = .returned (.string (s.extract 0 (lead digitI s.data.toList))) ∧ w' = w := by
  unfold maxLen at hs
  go_enter Tryz.func93, Tryz.ntmps93
  go_wp2
  go_loop [5] (fun i => ∃ k : Nat, k ≤ s.size ∧ (∀ j (hj : j < k) (hj' : j < s.data.toList.length), digitI (s.data.toList[j]).toNat = true) ∧ i = .int .i64 k) (fun i => s.size - (intOf i).toNat)
  case atStart => exact ⟨0, Nat.zero_le _, fun j hj => absurd hj (Nat.not_lt_zero _), rfl⟩
  case round =>
    obtain ⟨k, hk, hall, rfl⟩ := hrel
    have HA : Hid (∀ j (hj : j < k) (hj' : j < s.data.toList.length), digitI (s.data.toList[j]).toNat = true) := hall
    clear hall
    have hsz : s.data.toList.length = s.size := by rw [Array.length_toList]; rfl
    have HZ : Hid (s.data.toList.length = s.size) := hsz
    clear hsz
    by_cases hlt : k < s.size
    · have hb : ((s[k]).toNat : Int) = ((s.data.toList[k]'(by rw [HZ.out]; exact hlt)).toNat : Int) := rfl
      have HB : Hid (((s[k]).toNat : Int) = ((s.data.toList[k]'(by rw [HZ.out]; exact hlt)).toNat : Int)) := hb
      clear hb
      cases hp : digitI (s[k]).toNat with
      | true =>
        have HP : Hid (digitI (s[k]).toNat = true) := hp
        go_wp2_with (go_at_call 144; refine (isDigit_any _ _).mono ?_; rintro e w' ⟨rfl, rfl⟩)
        go_round
        case rel =>
          refine ⟨k + 1, by omega, fun j hj hj' => ?_, by go_num⟩
          rcases Nat.lt_or_ge j k with h | h
          · exact HA.out j h hj'
          · obtain rfl : j = k := by omega
            exact HP.out
        case measure => simp [intOf]; omega
      | false =>
        have HP : Hid (digitI (s[k]).toNat = false) := hp
        go_wp2_with (go_at_call 144; refine (isDigit_any _ _).mono ?_; rintro e w' ⟨rfl, rfl⟩)
        go_ret
        have e1 : lead digitI s.data.toList = k := lead_eq _ _ k (by rw [HZ.out]; exact hk) (fun j hj => HA.out j hj (by rw [HZ.out]; omega)) (fun _ => HP.out)
        exact ⟨by rw [e1]; rfl, rfl⟩
    · go_wp2
      go_ret
      have e1 : lead digitI s.data.toList = k := lead_eq _ _ k (by rw [HZ.out]; exact hk) (fun j hj => HA.out j hj (by rw [HZ.out]; omega)) (fun h => absurd h (by rw [HZ.out]; omega))
      exact ⟨by rw [e1]; rfl, rfl⟩
end Go.Proofs.YtfkeddkfegaeiaaGreatDoor
