/-
  Part 34.
-/
import Derived.Test.YtfkeddkfegaeiaaGreatDoorMvStL
import Derived.Test.YtfkeddkfegaeiaaGreatDoorMvPlV
import Derived.Test.YtfkeddkfegaeiaaGreatDoorMvNwA
namespace Go.Proofs.YtfkeddkfegaeiaaGreatDoor
open Go.RowKit
abbrev SKey := List Int × List Int × Nat
/-- a row's place in a window: its part, its order, its number. -/
def keyOf (ps os : List (List Int → Int)) (rows : List (List Int)) (j : Nat) : SKey := (eachN ps (rows.getD j []), eachN os (rows.getD j []), j)
def KT (x y : SKey) : Prop := cmpL x.1 y.1 < 0 ∨ (x.1 = y.1 ∧ (cmpL x.2.1 y.2.1 < 0 ∨ (x.2.1 = y.2.1 ∧ x.2.2 < y.2.2)))
def skey (s : Seat) : SKey := (s.part, s.ord, s.row)
theorem KT.irr {x : SKey} (h : KT x x) : False := by
  rcases h with h | ⟨-, h | ⟨-, h⟩⟩
  · rw [cmpL_self] at h; omega
  · rw [cmpL_self] at h; omega
  · omega
theorem KT.trans {x y z : SKey} (h1 : KT x y) (h2 : KT y z) : KT x z := by
  rcases h1 with h1 | ⟨e1, h1⟩
  · rcases h2 with h2 | ⟨e2, -⟩
    · exact Or.inl (cmpL_lt _ _ _ h1 h2)
    · exact Or.inl (by rw [← e2]; exact h1)
  · rcases h2 with h2 | ⟨e2, h2⟩
    · exact Or.inl (by rw [e1]; exact h2)
    · refine Or.inr ⟨e1.trans e2, ?_⟩
      rcases h1 with h1 | ⟨f1, h1⟩
      · rcases h2 with h2 | ⟨f2, -⟩
        · exact Or.inl (cmpL_lt _ _ _ h1 h2)
        · exact Or.inl (by rw [← f2]; exact h1)
      · rcases h2 with h2 | ⟨f2, h2⟩
        · exact Or.inl (by rw [f1]; exact h2)
        · exact Or.inr ⟨f1.trans f2, by omega⟩
theorem srt_one {α : Type _} {T : α → α → Prop} (irr : ∀ x, ¬ T x x) (tr : ∀ x y z, T x y → T y z → T x z) : ∀ (l m : List α), l.Pairwise T → m.Pairwise T → (∀ x, x ∈ l ↔ x ∈ m) → l = m
  | [], [], _, _, _ => rfl
  | [], y :: m, _, _, h => by have := (h y).2 (by simp); simp at this
  | x :: l, [], _, _, h => by have := (h x).1 (by simp); simp at this
  | x :: l, y :: m, hl, hm, h => by
    rw [List.pairwise_cons] at hl hm
    have e : x = y := by
      rcases List.mem_cons.1 ((h x).1 (by simp)) with e | e
      · exact e
      · rcases List.mem_cons.1 ((h y).2 (by simp)) with e2 | e2
        · exact e2.symm
        · exact absurd (tr _ _ _ (hl.1 _ e2) (hm.1 _ e)) (irr _)
    subst e
    refine congrArg _ (srt_one irr tr l m hl.2 hm.2 fun z => ⟨fun hz => ?_, fun hz => ?_⟩)
    · rcases List.mem_cons.1 ((h z).1 (List.mem_cons_of_mem _ hz)) with e | e
      · subst e; exact absurd (hl.1 _ hz) (irr _)
      · exact e
    · rcases List.mem_cons.1 ((h z).2 (List.mem_cons_of_mem _ hz)) with e | e
      · subst e; exact absurd (hm.1 _ hz) (irr _)
      · exact e
/-- the rows of a row's part up to it, in their order. -/
structure IsUp (ps os : List (List Int → Int)) (rows : List (List Int)) (i : Nat) (L : List Nat) : Prop where
  srt : L.Pairwise fun a b => KT (keyOf ps os rows a) (keyOf ps os rows b)
  mem : ∀ j, j ∈ L ↔ j < rows.length ∧ (keyOf ps os rows j).1 = (keyOf ps os rows i).1 ∧ (j = i ∨ KT (keyOf ps os rows j) (keyOf ps os rows i))
theorem IsUp.one {ps os : List (List Int → Int)} {rows : List (List Int)} {i : Nat} {L M : List Nat} (h : IsUp ps os rows i L) (h' : IsUp ps os rows i M) : L = M :=
  srt_one (T := fun a b => KT (keyOf ps os rows a) (keyOf ps os rows b)) (fun _ h => h.irr) (fun _ _ _ a b => a.trans b) _ _ h.srt h'.srt fun x => (h.mem x).trans (h'.mem x).symm
open Classical in
noncomputable def upI (ps os : List (List Int → Int)) (rows : List (List Int)) (i : Nat) : List Nat := if h : ∃ L, IsUp ps os rows i L then h.choose else []
theorem upI_eq {ps os : List (List Int → Int)} {rows : List (List Int)} {i : Nat} {L : List Nat} (h : IsUp ps os rows i L) : upI ps os rows i = L := by
  have hx : ∃ L, IsUp ps os rows i L := ⟨L, h⟩
  unfold upI
  rw [dif_pos hx]
  exact hx.choose_spec.one h
/-- the numbers that a row's call has for its part, up to it. -/
noncomputable def upN (ps os : List (List Int → Int)) (f : List Int → Int) (rows : List (List Int)) (i : Nat) : List Int := (upI ps os rows i).map fun j => f (rows.getD j [])
/-- the numbers of a window. -/
noncomputable def winF (ps os : List (List Int → Int)) (f : List Int → Int) (F : Int → List Int → Int) (ah : Int) (rows : List (List Int)) : List Int :=
  (List.range rows.length).map fun i => F ((upN ps os f rows i).length : Nat) ((upN ps os f rows i).drop ((upN ps os f rows i).length - 1 - ah.toNat))
theorem winF_len (ps os : List (List Int → Int)) (f : List Int → Int) (F : Int → List Int → Int) (ah : Int) (rows : List (List Int)) : (winF ps os f F ah rows).length = rows.length := by simp [winF]
/-- seats in their order. -/
structure Line (ps os : List (List Int → Int)) (rows : List (List Int)) (d : Nat → Seat) : Prop where
  srt : Srt' SeatT d 0 rows.length
  row : ∀ k, k < rows.length → ∃ i r, rows[i]? = some r ∧ (d k).row = i ∧ (d k).part = eachN ps r ∧ (d k).ord = eachN os r
theorem len_subN : ∀ {l m : List Nat}, l.Nodup → (∀ x ∈ l, x ∈ m) → l.length ≤ m.length
  | [], _, _, _ => Nat.zero_le _
  | x :: l, m, hn, hs => by
    rw [List.nodup_cons] at hn
    have h1 := len_subN (m := m.erase x) hn.2 (fun y hy => (List.mem_erase_of_ne (fun (e : y = x) => hn.1 (e ▸ hy))).2 (hs y (List.mem_cons_of_mem _ hy)))
    have hx := hs x (by simp)
    rw [List.length_erase_of_mem hx] at h1
    have := List.length_pos_of_mem hx
    simp; omega
theorem Line.key {ps os : List (List Int → Int)} {rows : List (List Int)} {d : Nat → Seat} (h : Line ps os rows d) {k : Nat} (hk : k < rows.length) : (d k).row < rows.length ∧ skey (d k) = keyOf ps os rows (d k).row := by
  obtain ⟨i, r, h1, h2, h3, h4⟩ := h.row k hk
  subst h2
  refine ⟨(List.getElem?_eq_some_iff.1 h1).1, ?_⟩
  unfold skey keyOf
  rw [List.getD_eq_getElem?_getD, h1, h3, h4]; rfl
theorem Line.lt {ps os : List (List Int → Int)} {rows : List (List Int)} {d : Nat → Seat} (h : Line ps os rows d) {j k : Nat} (hj : j < k) (hk : k < rows.length) : KT (keyOf ps os rows (d j).row) (keyOf ps os rows (d k).row) := by
  rw [← (h.key (k := j) (by omega)).2, ← (h.key hk).2]
  exact h.srt j k (Nat.zero_le _) hj hk
theorem Line.inj {ps os : List (List Int → Int)} {rows : List (List Int)} {d : Nat → Seat} (h : Line ps os rows d) {j k : Nat} (hj : j < rows.length) (hk : k < rows.length) (e : (d j).row = (d k).row) : j = k := by
  rcases Nat.lt_trichotomy j k with hl | hl | hl
  · have := h.lt hl hk; rw [e] at this; exact this.irr.elim
  · exact hl
  · have := h.lt hl hj; rw [e] at this; exact this.irr.elim
/-- every row has a seat. -/
theorem Line.all {ps os : List (List Int → Int)} {rows : List (List Int)} {d : Nat → Seat} (h : Line ps os rows d) {i : Nat} (hi : i < rows.length) : ∃ k, k < rows.length ∧ (d k).row = i := by
  refine Classical.byContradiction fun hn => ?_
  have hnd : ((List.range rows.length).map fun k => (d k).row).Nodup := by
    rw [List.nodup_iff_pairwise_ne, List.pairwise_map]
    refine List.Pairwise.imp_of_mem ?_ List.nodup_range
    intro a b ha hb hab e
    exact hab (h.inj (List.mem_range.1 ha) (List.mem_range.1 hb) e)
  have hs := len_subN (m := (List.range rows.length).erase i) hnd (fun x hx => by
    obtain ⟨k, hk, rfl⟩ := List.mem_map.1 hx
    have hk := List.mem_range.1 hk
    exact (List.mem_erase_of_ne (fun e => hn ⟨k, hk, e⟩)).2 (List.mem_range.2 (h.key hk).1))
  rw [List.length_erase_of_mem (List.mem_range.2 hi)] at hs
  simp at hs
  omega
theorem Line.up {ps os : List (List Int → Int)} {rows : List (List Int)} {d : Nat → Seat} (h : Line ps os rows d) {st k : Nat} (hk : k < rows.length) (hst : st ≤ k) (hin : ∀ j, st ≤ j → j ≤ k → (d j).part = (d k).part) (hout : ∀ j, j < st → (d j).part ≠ (d k).part) :
    IsUp ps os rows (d k).row ((List.range' st (k + 1 - st)).map fun j => (d j).row) := by
  have part : ∀ j, j < rows.length → (keyOf ps os rows (d j).row).1 = (d j).part := fun j hj => by rw [← (h.key hj).2]; rfl
  refine ⟨?_, fun i => ⟨fun hi => ?_, fun hi => ?_⟩⟩
  · rw [List.pairwise_map]
    refine List.Pairwise.imp_of_mem ?_ (List.pairwise_lt_range' (s := st) (n := k + 1 - st))
    intro a b _ hb hab
    rw [List.mem_range'_1] at hb
    exact h.lt hab (by omega)
  · obtain ⟨j, hj, rfl⟩ := List.mem_map.1 hi
    rw [List.mem_range'_1] at hj
    refine ⟨(h.key (by omega)).1, ?_, ?_⟩
    · rw [part _ (by omega), part _ hk]
      exact hin j hj.1 (by omega)
    · by_cases e : j = k
      · exact Or.inl (by rw [e])
      · exact Or.inr (h.lt (by omega) hk)
  · obtain ⟨h1, h2, h3⟩ := hi
    obtain ⟨j, hj, rfl⟩ := h.all h1
    rw [part _ hj, part _ hk] at h2
    refine List.mem_map.2 ⟨j, ?_, rfl⟩
    rw [List.mem_range'_1]
    have h4 : j ≤ k := by
      refine Classical.byContradiction fun hjk => ?_
      rcases h3 with h3 | h3
      · have := h.inj hj hk h3; omega
      · exact (h3.trans (h.lt (by omega) hj)).irr
    have h5 : st ≤ j := Nat.le_of_not_lt fun hl => hout j hl h2
    omega
/-- a part that begins anew, or goes on. -/
structure Strt (d : Nat → Seat) (n st k : Nat) : Prop where
  le : st ≤ k
  same : ∀ j, st ≤ j → j ≤ k → (d j).part = (d k).part
  else' : ∀ j, j < st → (d j).part ≠ (d k).part
theorem Line.strt0 {d : Nat → Seat} {n : Nat} : Strt d n 0 0 := ⟨Nat.le_refl _, fun j _ h => by rw [Nat.le_zero.1 h], fun j h => absurd h (Nat.not_lt_zero _)⟩
theorem Strt.on {d : Nat → Seat} {n st k : Nat} (h : Strt d n st k) (e : (d (k + 1)).part = (d st).part) : Strt d n st (k + 1) := by
  have e2 : (d (k + 1)).part = (d k).part := e.trans (h.same st (Nat.le_refl _) h.le)
  refine ⟨by have := h.le; omega, fun j h1 h2 => ?_, fun j hj => by rw [e2]; exact h.else' j hj⟩
  by_cases e3 : j = k + 1
  · rw [e3]
  · rw [e2]; exact h.same j h1 (by omega)
theorem Line.anew {ps os : List (List Int → Int)} {rows : List (List Int)} {d : Nat → Seat} (hl : Line ps os rows d) {n st k : Nat} (hk : k + 1 < rows.length) (h : Strt d n st k) (e : (d (k + 1)).part ≠ (d st).part) : Strt d n (k + 1) (k + 1) := by
  have e2 : (d (k + 1)).part ≠ (d k).part := fun x => e (x.trans (h.same st (Nat.le_refl _) h.le).symm)
  refine ⟨Nat.le_refl _, fun j h1 h2 => by rw [Nat.le_antisymm h2 h1], fun j hj x => e2 ?_⟩
  have le : ∀ a b, a < b → b < rows.length → cmpL (d a).part (d b).part ≤ 0 := fun a b hab hb => by
    rcases hl.srt a b (Nat.zero_le _) hab hb with g | ⟨g, -⟩
    · omega
    · rw [g, cmpL_self]; exact Int.le_refl _
  by_cases ejk : j = k
  · exact x.symm.trans (by rw [ejk])
  · have q1 := le j k (by omega) (by omega)
    have q2 := le k (k + 1) (by omega) hk
    rw [x] at q1
    rw [cmpL_swap] at q1
    exact (cmpL_zero (by omega)).symm
/-- the frame of a seat lies in the numbers of the seats. -/
theorem Line.num {ps os : List (List Int → Int)} {rows : List (List Int)} {d : Nat → Seat} (h : Line ps os rows d) {n st k : Nat} (hk : k < rows.length) (hs : Strt d n st k) (f : List Int → Int) (F : Int → List Int → Int) (ah : Int) :
    (winF ps os f F ah rows)[(d k).row]? = some (F ((k : Int) - (st : Int) + 1) (((List.range rows.length).map fun j => f (rows.getD (d j).row [])).drop (st + (k - st - ah.toNat)) |>.take (k + 1 - (st + (k - st - ah.toNat))))) := by
  have hu : upN ps os f rows (d k).row = (((List.range rows.length).map fun j => f (rows.getD (d j).row [])).drop st).take (k + 1 - st) := by
    unfold upN
    rw [upI_eq (h.up hk hs.le hs.same hs.else'), List.map_map]
    refine List.ext_getElem? fun m => ?_
    rw [List.getElem?_take, List.getElem?_map, List.getElem?_drop, List.getElem?_map]
    by_cases hm : m < k + 1 - st
    · rw [if_pos hm, List.getElem?_range' hm, List.getElem?_range (by have := hs.le; omega)]
      simp
    · rw [if_neg hm, List.getElem?_eq_none (by simp; omega)]; rfl
  have hle := hs.le
  have hl : (upN ps os f rows (d k).row).length = k + 1 - st := by
    rw [hu]; simp; omega
  unfold winF
  rw [List.getElem?_map, List.getElem?_range (h.key hk).1]
  show some (F ((upN ps os f rows (d k).row).length : Nat) ((upN ps os f rows (d k).row).drop ((upN ps os f rows (d k).row).length - 1 - ah.toNat))) = _
  rw [hl, hu, List.drop_take, List.drop_drop]
  rw [show k + 1 - st - 1 - ah.toNat = k - st - ah.toNat by omega, show k + 1 - st - (k - st - ah.toNat) = k + 1 - (st + (k - st - ah.toNat)) by omega]
  rw [show (((k + 1 - st : Nat) : Int)) = (k : Int) - (st : Int) + 1 by omega]
end Go.Proofs.YtfkeddkfegaeiaaGreatDoor
namespace Go.Proofs.YtfkeddkfegaeiaaGreatDoor
open Go.RowKit
set_option maxRecDepth 100000 in
set_option maxHeartbeats 1000000 in
theorem sEqual_any (a b : Value) (zs ys : List Int) (w : World) (ha : RowAt w a (intsV zs)) (hb : RowAt w b (intsV ys)) :
    Calls Tryz.prog 252 #[a, b] w fun e w' => e = .returned (.bool (decide (zs = ys))) ∧ Below w.heap.size w w' := by
  obtain ⟨ada, capa, rfl, ma, ca⟩ := ha
  obtain ⟨adb, capb, rfl, mb, cb⟩ := hb
  rw [List.length_map] at ma mb ca cb
  unfold maxLen at ma mb
  simp only [List.length_map]
  by_cases hl : zs.length = ys.length
  · have hd : ((zs.length : Int) != (ys.length : Int)) = false := by rw [hl]; simp
    have HL := hide hl
    clear hl
    have HCA := hide ca
    have HCB := hide cb
    clear ca cb
    go_enter Tryz.func252, Tryz.ntmps252
    go_wp2_with fail
    go_loopg [5, 13] zs.length (fun f _ i W => ∃ pre s1 s2, zs = pre ++ s1 ∧ ys = pre ++ s2 ∧ f = s1.length ∧ i = .int .i64 (pre.length : Nat) ∧ Below w.heap.size w W)
    case atStart => exact ⟨[], zs, ys, rfl, rfl, rfl, rfl, Below.refl _ _⟩
    case round =>
      obtain ⟨pre, s1, s2, h1, h2, rfl, rfl, hbw⟩ := hrel
      have HB := hide hbw
      have HZ := hide h1
      have HY := hide h2
      have l1 : pre.length + s1.length = zs.length := by rw [h1, List.length_append]
      have l2 : pre.length + s2.length = ys.length := by rw [h2, List.length_append]
      clear h1 h2 hbw
      cases s1 with
      | nil =>
        have hlt : decide (pre.length < zs.length) = false := by simp at l1 ⊢; omega
        go_wp2
        go_ret
        have e2 : s2 = [] := by apply List.eq_nil_of_length_eq_zero; have := unhide HL; simp at l1; omega
        have e : decide (zs = ys) = true := by rw [unhide HZ, unhide HY, e2]; simp
        rw [e]
        exact ⟨rfl, unhide HB⟩
      | cons z s1 =>
        cases s2 with
        | nil => exfalso; have := unhide HL; simp at l1 l2; omega
        | cons y s2 =>
          rw [List.length_cons] at l1 l2
          have hlt : decide (pre.length < zs.length) = true := by simp; omega
          obtain ⟨b1, o1, rfl, z1, c1⟩ := (unhide HCA) (by omega)
          obtain ⟨b2, o2, rfl, z2, c2⟩ := (unhide HCB) (by have := unhide HL; omega)
          have k1 : wr.cell? ⟨b1, o1 + pre.length, none⟩ = some (.int .i64 z) := by
            rw [(unhide HB).cell (p := ⟨b1, o1 + pre.length, none⟩) z1, c1 _ (by omega), unhide HZ]
            simp
          have k2 : wr.cell? ⟨b2, o2 + pre.length, none⟩ = some (.int .i64 y) := by
            rw [(unhide HB).cell (p := ⟨b2, o2 + pre.length, none⟩) z2, c2 _ (by omega), unhide HY]
            simp
          have HZ2 : Hid (zs = (pre ++ [z]) ++ s1) := by unfold Hid; rw [unhide HZ]; simp
          have HY2 : Hid (ys = (pre ++ [y]) ++ s2) := by unfold Hid; rw [unhide HY]; simp
          clear c1 c2
          cases hzy : (z != y) with
          | true =>
            have HNE : Hid (decide (zs = ys) = false) := by
              unfold Hid
              rw [decide_eq_false_iff_not, unhide HZ, unhide HY]
              intro e
              have := List.append_cancel_left e
              simp at this hzy
              exact hzy this.1
            go_wp2
            go_region
            go_wp2
            go_ret
            rw [unhide HNE]
            exact ⟨rfl, (unhide HB).drew⟩
          | false =>
            have hze : z = y := by simpa using hzy
            go_wp2
            go_region
            go_wp2
            go_roundg s1.length
            case measure => simp
            case rel =>
              refine ⟨pre ++ [z], s1, s2, unhide HZ2, by rw [hze]; exact unhide HY2, rfl, ?_, (unhide HB).drew⟩
              rw [List.length_append]
              go_num
  · have hd : ((zs.length : Int) != (ys.length : Int)) = true := by
      rw [bne_iff_ne]
      intro e
      exact hl (by exact_mod_cast e)
    have HNE : Hid (decide (zs = ys) = false) := by
      unfold Hid
      rw [decide_eq_false_iff_not]
      intro e
      exact hl (by rw [e])
    clear ca cb
    go_enter Tryz.func252, Tryz.ntmps252
    go_wp2
    go_ret
    rw [unhide HNE]
    exact ⟨rfl, Below.refl _ _⟩
end Go.Proofs.YtfkeddkfegaeiaaGreatDoor
