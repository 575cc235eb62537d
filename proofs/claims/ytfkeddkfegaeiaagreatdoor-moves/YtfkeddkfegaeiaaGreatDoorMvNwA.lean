/-
  Part 17.
-/
import Derived.Test.YtfkeddkfegaeiaaGreatDoorMvTli
import Derived.Deep.RegionWith
import Derived.Lib.SlicesS
import Derived.Deep.LoopGhost
import Derived.Deep.DeepCutAuto
import Derived.Laws.CopyOwn
import Derived.OwnWalk
import Derived.Deep.AppendLies
import Derived.Laws.OwnMore
namespace Go.Proofs.YtfkeddkfegaeiaaGreatDoor
open Go.RowKit
/-- is a text a name? -/
def nameB (l : List UInt8) : Bool := decide (0 < l.length) && decide (l.length ≤ 8) && l.all (fun c => letterI c.toNat) && !wordB l
theorem nameB_no {l : List UInt8} (h : l.length < 1 ∨ 8 < l.length ∨ wordB l = true) : nameB l = false := by
  unfold nameB
  rcases h with h | h | h
  · rw [decide_eq_false (by omega)]; rfl
  · rw [show decide (l.length ≤ 8) = false from decide_eq_false (by omega), Bool.and_false]; rfl
  · rw [h, Bool.not_true, Bool.and_false]
theorem take_while_all (l : List UInt8) : (l.take (lead letterI l) == l) = l.all (fun c => letterI c.toNat) := by
  rw [Bool.eq_iff_iff, beq_iff_eq, List.all_eq_true]
  have e : l.take (lead letterI l) = l.takeWhile (fun c => letterI c.toNat) := by
    unfold lead
    exact (List.prefix_iff_eq_take.1 (List.takeWhile_prefix _)).symm
  rw [e]
  constructor
  · intro h c hc
    rw [← h] at hc
    have := List.all_takeWhile (p := fun c => letterI (UInt8.toNat c)) (l := l)
    rw [List.all_eq_true] at this
    exact this c hc
  · intro h
    induction l with
    | nil => rfl
    | cons a r ih =>
      rw [List.takeWhile_cons, if_pos (h a List.mem_cons_self), ih (by unfold lead; exact (List.prefix_iff_eq_take.1 (List.takeWhile_prefix _)).symm) (fun c hc => h c (List.mem_cons_of_mem _ hc))]
set_option maxRecDepth 100000 in
set_option maxHeartbeats 1000000 in
theorem isName_any (s : ByteArray) (w : World) :
    Calls Tryz.prog 135 #[.string s] w fun e w' => e = .returned (.bool (nameB s.data.toList)) ∧ w' = w := by
  have hsz : s.data.toList.length = s.size := by rw [Array.length_toList]; rfl
  have hnil : (s.toList == []) = decide (s.size = 0) := by
    rw [Bool.eq_iff_iff, beq_iff_eq, decide_eq_true_eq, ByteArray.toList_eq, ← hsz, List.length_eq_zero_iff]
  by_cases h0 : s.size = 0
  · have hd : (s.toList == []) = true := by rw [hnil]; simp [h0]
    have HN := hide (nameB_no (l := s.data.toList) (Or.inl (by omega)))
    clear hnil
    go_enter Tryz.func135, Tryz.ntmps135
    go_wp2
    go_ret
    exact ⟨by rw [unhide HN]; rfl, rfl⟩
  · have hd : (s.toList == []) = false := by rw [hnil]; simp [h0]
    clear hnil
    by_cases h8 : s.size ≤ 8
    · have hd8 : decide ((s.size : Int) ≤ 8) = true := by simp; omega
      have hta := take_while_all s.data.toList
      have hcut : (s.extract 0 (lead letterI s.data.toList)).toList = s.data.toList.take (lead letterI s.data.toList) := by
        rw [ByteArray.toList_eq, ByteArray.data_extract, Array.toList_extract]
        simp
      go_enter Tryz.func135, Tryz.ntmps135
      go_wp2_with fail
      refine (leading_letter s _ (by unfold maxLen; omega)).mono ?_
      rintro e w1 ⟨rfl, hw1⟩
      obtain rfl := hw1.symm
      have hq : ((s.extract 0 (lead letterI s.data.toList)).toList == s.toList) = s.data.toList.all (fun c => letterI c.toNat) := by rw [hcut, ByteArray.toList_eq, hta]
      clear hcut hta
      generalize s.extract 0 (lead letterI s.data.toList) = r at *
      cases hall : s.data.toList.all (fun c => letterI c.toNat) with
      | false =>
        rw [hall] at hq
        have HN : Hid (nameB s.data.toList = false) := by unfold Hid nameB; rw [hall, Bool.and_false]; rfl
        clear hall
        go_wp2
        go_ret
        exact ⟨by rw [unhide HN]; rfl, rfl⟩
      | true =>
        rw [hall] at hq
        have HN : Hid (nameB s.data.toList = !wordB s.data.toList) := by
          unfold Hid nameB
          rw [hall, decide_eq_true (by omega), decide_eq_true (by omega)]
          rfl
        clear hall
        go_wp2_with fail
        refine (isWord_any s _).mono ?_
        rintro e w1 ⟨rfl, hw1⟩
        obtain rfl := hw1.symm
        generalize wordB s.data.toList = wb at *
        go_wp2
        go_ret
        exact ⟨by rw [unhide HN]; rfl, rfl⟩
    · have hd8 : decide ((s.size : Int) ≤ 8) = false := by simp; omega
      have HN := hide (nameB_no (l := s.data.toList) (Or.inr (Or.inl (by omega))))
      go_enter Tryz.func135, Tryz.ntmps135
      go_wp2
      go_ret
      exact ⟨by rw [unhide HN]; rfl, rfl⟩
end Go.Proofs.YtfkeddkfegaeiaaGreatDoor
namespace Go.Proofs.YtfkeddkfegaeiaaGreatDoor
open Go.RowKit
/-- a slice whose elements are one cell each. -/
def RowAt (W : World) (v : Value) (xs : List Value) : Prop := ∃ ad cap, v = .slice ad xs.length cap ∧ xs.length ≤ maxLen ∧ (0 < xs.length → ∃ b o, ad = some ⟨b, o, none⟩ ∧ b < W.heap.size ∧ ∀ j, j < xs.length → W.cell? ⟨b, o + j, none⟩ = xs[j]?)
theorem RowAt.keep {W W' : World} {v : Value} {xs : List Value} (h : RowAt W v xs) (hb : Below W.heap.size W W') : RowAt W' v xs := by
  obtain ⟨ad, cap, h1, h2, h3⟩ := h
  refine ⟨ad, cap, h1, h2, fun hp => ?_⟩
  obtain ⟨b, o, h4, h5, h6⟩ := h3 hp
  exact ⟨b, o, h4, Nat.lt_of_lt_of_le h5 hb.size, fun j hj => by rw [hb.cell (p := ⟨b, o + j, none⟩) h5]; exact h6 j hj⟩
abbrev intsV (zs : List Int) : List Value := zs.map (Value.int .i64)
abbrev textsV (ts : List ByteArray) : List Value := ts.map Value.string
set_option maxRecDepth 100000 in
set_option maxHeartbeats 1000000 in
theorem sameInts_any (a b : Value) (zs ys : List Int) (w : World) (ha : RowAt w a (intsV zs)) (hb : RowAt w b (intsV ys)) :
    Calls Tryz.prog 45 #[a, b] w fun e w' => e = .returned (.bool (decide (zs = ys))) ∧ Below w.heap.size w w' := by
  obtain ⟨ada, capa, rfl, ma, ca⟩ := ha
  obtain ⟨adb, capb, rfl, mb, cb⟩ := hb
  rw [List.length_map] at ma mb ca cb
  unfold maxLen at ma mb
  simp only [List.length_map]
  by_cases hl : zs.length = ys.length
  · have hd : ((zs.length : Int) != (ys.length : Int)) = false := by rw [hl]; simp
    have HL := hide hl
    clear hl
    have HCA := hide ca
    have HCB := hide cb
    clear ca cb
    go_enter Tryz.func45, Tryz.ntmps45
    go_wp2_with fail
    go_loopg [5] zs.length (fun f i W => ∃ pre s1 s2, zs = pre ++ s1 ∧ ys = pre ++ s2 ∧ f = s1.length ∧ i = .int .i64 (pre.length : Nat) ∧ Below w.heap.size w W)
    case atStart => exact ⟨[], zs, ys, rfl, rfl, rfl, rfl, Below.refl _ _⟩
    case round =>
      obtain ⟨pre, s1, s2, h1, h2, rfl, rfl, hbw⟩ := hrel
      have HB := hide hbw
      have HZ := hide h1
      have HY := hide h2
      have l1 : pre.length + s1.length = zs.length := by rw [h1, List.length_append]
      have l2 : pre.length + s2.length = ys.length := by rw [h2, List.length_append]
      clear h1 h2 hbw
      cases s1 with
      | nil =>
        have hlt : decide (pre.length < zs.length) = false := by simp at l1 ⊢; omega
        go_wp2
        go_ret
        have e2 : s2 = [] := by apply List.eq_nil_of_length_eq_zero; have := unhide HL; simp at l1; omega
        have e : decide (zs = ys) = true := by rw [unhide HZ, unhide HY, e2]; simp
        rw [e]
        exact ⟨rfl, unhide HB⟩
      | cons z s1 =>
        cases s2 with
        | nil => exfalso; have := unhide HL; simp at l1 l2; omega
        | cons y s2 =>
          rw [List.length_cons] at l1 l2
          have hlt : decide (pre.length < zs.length) = true := by simp; omega
          obtain ⟨b1, o1, rfl, z1, c1⟩ := (unhide HCA) (by omega)
          obtain ⟨b2, o2, rfl, z2, c2⟩ := (unhide HCB) (by have := unhide HL; omega)
          have k1 : wr.cell? ⟨b1, o1 + pre.length, none⟩ = some (.int .i64 z) := by
            rw [(unhide HB).cell (p := ⟨b1, o1 + pre.length, none⟩) z1, c1 _ (by omega), unhide HZ]
            simp
          have k2 : wr.cell? ⟨b2, o2 + pre.length, none⟩ = some (.int .i64 y) := by
            rw [(unhide HB).cell (p := ⟨b2, o2 + pre.length, none⟩) z2, c2 _ (by omega), unhide HY]
            simp
          have HZ2 : Hid (zs = (pre ++ [z]) ++ s1) := by unfold Hid; rw [unhide HZ]; simp
          have HY2 : Hid (ys = (pre ++ [y]) ++ s2) := by unfold Hid; rw [unhide HY]; simp
          clear c1 c2
          cases hzy : (z != y) with
          | true =>
            have HNE : Hid (decide (zs = ys) = false) := by
              unfold Hid
              rw [decide_eq_false_iff_not, unhide HZ, unhide HY]
              intro e
              have := List.append_cancel_left e
              simp at this hzy
              exact hzy this.1
            go_wp2
            go_region
            go_wp2
            go_ret
            rw [unhide HNE]
            exact ⟨rfl, (unhide HB).drew⟩
          | false =>
            have hze : z = y := by simpa using hzy
            go_wp2
            go_region
            go_wp2
            go_roundg s1.length
            case measure => simp
            case rel =>
              refine ⟨pre ++ [z], s1, s2, unhide HZ2, by rw [hze]; exact unhide HY2, rfl, ?_, (unhide HB).drew⟩
              rw [List.length_append]
              go_num
  · have hd : ((zs.length : Int) != (ys.length : Int)) = true := by
      rw [bne_iff_ne]
      intro e
      exact hl (by exact_mod_cast e)
    have HNE : Hid (decide (zs = ys) = false) := by
      unfold Hid
      rw [decide_eq_false_iff_not]
      intro e
      exact hl (by rw [e])
    clear ca cb
    go_enter Tryz.func45, Tryz.ntmps45
    go_wp2
    go_ret
    rw [unhide HNE]
    exact ⟨rfl, Below.refl _ _⟩
end Go.Proofs.YtfkeddkfegaeiaaGreatDoor
namespace Go.Proofs.YtfkeddkfegaeiaaGreatDoor
open Go.RowKit
theorem idx_skip {pre : List ByteArray} {s : ByteArray} (h : ¬ s ∈ pre) : ∀ (suf : List ByteArray) (i : Nat), Lib.idxFromS (pre ++ suf) s i = Lib.idxFromS suf s (i + pre.length) := by
  induction pre with
  | nil => intro suf i; rfl
  | cons a r ih =>
    intro suf i
    have ha : ¬ a = s := fun e => h (by rw [e]; exact List.mem_cons_self)
    rw [List.cons_append, Lib.idxFromS, if_neg ha, ih (fun hm => h (List.mem_cons_of_mem _ hm)), List.length_cons]
    congr 1
    omega
end Go.Proofs.YtfkeddkfegaeiaaGreatDoor
namespace Go.Proofs.YtfkeddkfegaeiaaGreatDoor
open Go.RowKit
theorem infoInt : (Tryz.prog.info? 3).map (fun i => (i.zero, i.size, i.bytes)) = some (some (.int .i64 0), 1, 8) := by kernel_rfl
theorem infoStr : (Tryz.prog.info? 9).map (fun i => (i.zero, i.size, i.bytes)) = some (some (.string ⟨#[]⟩), 1, 16) := by kernel_rfl
end Go.Proofs.YtfkeddkfegaeiaaGreatDoor
namespace Go.Proofs.YtfkeddkfegaeiaaGreatDoor
open Go.RowKit
/-- a table. -/
structure Tb where
  name : ByteArray
  cols : List ByteArray
  rows : List (List Int)
/-- rows of numbers: a slice of slices. -/
def RowsAt (W : World) (v : Value) (rows : List (List Int)) : Prop := ∃ vs : List Value, RowAt W v vs ∧ vs.length = rows.length ∧ ∀ (k : Nat) (r : List Int) (u : Value), rows[k]? = some r → vs[k]? = some u → RowAt W u (intsV r)
theorem RowsAt.keep {W W' : World} {v : Value} {rows : List (List Int)} (h : RowsAt W v rows) (hb : Below W.heap.size W W') : RowsAt W' v rows := by
  obtain ⟨vs, h1, h2, h3⟩ := h
  exact ⟨vs, h1.keep hb, h2, fun k r u e1 e2 => (h3 k r u e1 e2).keep hb⟩
/-- the room of a slice. -/
def scap : Value → Nat
  | .slice _ _ c => c
  | _ => 0
/-- the three cells of a table. -/
def TbV (W : World) (cs : List Value) (t : Tb) : Prop := ∃ cv rv, cs = [.string t.name, cv, rv] ∧ RowAt W cv (textsV t.cols) ∧ t.cols.length ≤ scap cv ∧ RowsAt W rv t.rows
theorem TbV.keep {W W' : World} {cs : List Value} {t : Tb} (h : TbV W cs t) (hb : Below W.heap.size W W') : TbV W' cs t := by
  obtain ⟨cv, rv, h1, h2, h3, h4⟩ := h
  exact ⟨cv, rv, h1, h2.keep hb, h3, h4.keep hb⟩
/-- a list of tables: three cells an element. -/
def TabsAt (W : World) (v : Value) (l : List Tb) : Prop := ∃ ad cap, v = .slice ad l.length cap ∧ l.length ≤ maxLen ∧ l.length ≤ cap ∧ (0 < l.length → ∃ b o, ad = some ⟨b, o, none⟩ ∧ b < W.heap.size ∧ ∀ (j : Nat) (t : Tb), l[j]? = some t → ∃ cv rv, TbV W [.string t.name, cv, rv] t ∧ W.cell? ⟨b, o + j * 3, none⟩ = some (.string t.name) ∧ W.cell? ⟨b, o + j * 3 + 1, none⟩ = some cv ∧ W.cell? ⟨b, o + j * 3 + 2, none⟩ = some rv)
theorem TabsAt.keep {W W' : World} {v : Value} {l : List Tb} (h : TabsAt W v l) (hb : Below W.heap.size W W') : TabsAt W' v l := by
  obtain ⟨ad, cap, h1, h2, h2', h3⟩ := h
  refine ⟨ad, cap, h1, h2, h2', fun hp => ?_⟩
  obtain ⟨b, o, h4, h5, h6⟩ := h3 hp
  refine ⟨b, o, h4, Nat.lt_of_lt_of_le h5 hb.size, fun j t e => ?_⟩
  obtain ⟨cv, rv, k1, k2, k3, k4⟩ := h6 j t e
  exact ⟨cv, rv, k1.keep hb, by rw [hb.cell (p := ⟨b, o + j * 3, none⟩) h5]; exact k2, by rw [hb.cell (p := ⟨b, o + j * 3 + 1, none⟩) h5]; exact k3, by rw [hb.cell (p := ⟨b, o + j * 3 + 2, none⟩) h5]; exact k4⟩
/-- the tables ahead of one. -/
theorem TabsAt.ahead {W : World} {ad : Option Addr} {n cap : Nat} {pre suf : List Tb} (h : TabsAt W (.slice ad n cap) (pre ++ suf)) : TabsAt W (.slice ad pre.length cap) pre := by
  obtain ⟨ad', cap', h1, h2, h2', h3⟩ := h
  injection h1 with e1 e2 e3
  subst e1 e3
  rw [List.length_append] at h2 h2' h3
  refine ⟨ad, cap, rfl, by omega, by omega, fun hp => ?_⟩
  obtain ⟨b, o, h4, h5, h6⟩ := h3 (by omega)
  refine ⟨b, o, h4, h5, fun j t e => h6 j t ?_⟩
  have hj : j < pre.length := by
    rcases Nat.lt_or_ge j pre.length with h' | h'
    · exact h'
    · rw [List.getElem?_eq_none h'] at e; cases e
  rw [List.getElem?_append_left hj]
  exact e
def dupF : List ByteArray → List ByteArray → Bool
  | _, [] => false
  | pre, a :: r => Lib.containsS pre a || dupF (pre ++ [a]) r
/-- what is wrong with a table that has these ahead of it, by the document's numbers. -/
def p6 (t : Tb) (ahead : List Tb) : Int :=
  if !nameB t.name.data.toList || t.cols.any (fun c => !nameB c.data.toList) then 4
  else if decide (t.cols.length < 1) || decide (6 < t.cols.length) || decide (200 < t.rows.length) then 9
  else if ahead.any (fun u => u.name.toList == t.name.toList) || dupF [] t.cols then 7
  else if t.rows.any (fun r => decide (r.length ≠ t.cols.length)) then 10
  else 0
/-- the first that is wrong, of tables that have these ahead of them. -/
def p6from : List Tb → List Tb → Int
  | _, [] => 0
  | pre, t :: r => if p6 t pre = 0 then p6from (pre ++ [t]) r else p6 t pre
def p6all (l : List Tb) : Int := if 4 < l.length then 9 else p6from [] l
end Go.Proofs.YtfkeddkfegaeiaaGreatDoor
namespace Go.Proofs.YtfkeddkfegaeiaaGreatDoor
open Go.RowKit
abbrev Fx := Nat → Option Obj
def Fx.le (F F' : Fx) : Prop := ∀ b o, F b = some o → F' b = some o
theorem Fx.le.refl (F : Fx) : F.le F := fun _ _ h => h
theorem Fx.le.trans {F F' F'' : Fx} (h : F.le F') (k : F'.le F'') : F.le F'' := fun b o e => k b o (h b o e)
def Fx.set (F : Fx) (b : Nat) (o : Obj) : Fx := fun k => if k = b then some o else F k
theorem Fx.set_same (F : Fx) (b : Nat) (o : Obj) : F.set b o b = some o := by simp [Fx.set]
theorem Fx.set_other (F : Fx) {b k : Nat} (o : Obj) (h : k ≠ b) : F.set b o k = F k := by simp [Fx.set, h]
theorem Fx.le_set {F : Fx} {b : Nat} (o : Obj) (h : F b = none) : F.le (F.set b o) := fun k x e => by
  have hk : k ≠ b := fun e' => by rw [e', h] at e; cases e
  rw [Fx.set_other F o hk]; exact e
/-- two values have no own block in common. -/
def Dis (u v : Value) : Prop := ∀ b, u.ownBlock = some b → v.ownBlock ≠ some b
theorem Dis.symm {u v : Value} (h : Dis u v) : Dis v u := fun b e1 e2 => h b e2 e1
theorem Dis.nilL (v : Value) (a b : Nat) : Dis (.slice none a b) v := fun b e => by simp [Value.ownBlock] at e
/-- the fixed blocks F, a box p, and lists that grow, all apart. -/
structure Grow (lo : Nat) (F : Fx) (p : Nat) (vs : List Value) (W : World) : Prop where
  fits : ∀ b o, F b = some o → lo ≤ b ∧ W.heap[b]? = some o
  offp : F p = none
  ltp : p < W.heap.size
  off : ∀ v ∈ vs, ∀ b, v.ownBlock = some b → F b = none ∧ b ≠ p ∧ lo ≤ b ∧ b < W.heap.size
  dis : vs.Pairwise Dis
theorem lt_size {W : World} {b : Nat} {o : Obj} (h : W.heap[b]? = some o) : b < W.heap.size := by
  rcases Nat.lt_or_ge b W.heap.size with h' | h'
  · exact h'
  · rw [Array.getElem?_eq_none h'] at h; cases h
theorem Grow.ltF {lo p : Nat} {F : Fx} {vs : List Value} {W : World} (h : Grow lo F p vs W) {b : Nat} {o : Obj} (hb : F b = some o) : b < W.heap.size := lt_size (h.fits b o hb).2
theorem Grow.noneF {lo p : Nat} {F : Fx} {vs : List Value} {W : World} (h : Grow lo F p vs W) {b : Nat} (hb : W.heap.size ≤ b) : F b = none := by
  cases e : F b with
  | none => rfl
  | some o => have := h.ltF e; omega
/-- the world grew, all that was below is as it was. -/
theorem Grow.keep {lo p : Nat} {F : Fx} {vs : List Value} {W W' : World} (h : Grow lo F p vs W) (hs : W.heap.size ≤ W'.heap.size) (hb : ∀ k, k < W.heap.size → W'.heap[k]? = W.heap[k]?) : Grow lo F p vs W' :=
  ⟨fun b o e => ⟨(h.fits b o e).1, by rw [hb b (h.ltF e)]; exact (h.fits b o e).2⟩, h.offp, Nat.lt_of_lt_of_le h.ltp hs, fun v hv b e => ⟨(h.off v hv b e).1, (h.off v hv b e).2.1, (h.off v hv b e).2.2.1, Nat.lt_of_lt_of_le (h.off v hv b e).2.2.2 hs⟩, h.dis⟩
theorem Grow.below {lo p : Nat} {F : Fx} {vs : List Value} {W W' : World} (h : Grow lo F p vs W) (hb : Below W.heap.size W W') : Grow lo F p vs W' := h.keep hb.size hb.block
theorem Grow.alloc {lo p : Nat} {F : Fx} {vs : List Value} {W : World} (h : Grow lo F p vs W) (o : Obj) : Grow lo F p vs (W.alloc o) :=
  h.keep (by simp) (fun k hk => Below.heap_alloc _ _ _ hk)
/-- the box is written. -/
theorem Grow.box {lo p : Nat} {F : Fx} {vs : List Value} {W : World} (h : Grow lo F p vs W) (off : Nat) (u : Value) : Grow lo F p vs (W.setCell ⟨p, off, none⟩ u) :=
  ⟨fun b o e => ⟨(h.fits b o e).1, by rw [Below.heap_setCell _ _ _ _ (fun e' => by simp at e'; rw [e', h.offp] at e; cases e)]; exact (h.fits b o e).2⟩, h.offp, by simpa using h.ltp, fun v hv b e => by simpa using h.off v hv b e, h.dis⟩
/-- one of the lists grew. -/
theorem Grow.app {lo p g : Nat} {F : Fx} {vs1 vs2 : List Value} {v v' : Value} {W W' : World} (h : Grow lo F p (vs1 ++ v :: vs2) W) (hlo : lo ≤ W.heap.size) (hg : W.grownBy W' v.ownBlock) (hv' : v'.ownBlock = some g) (hat : v.ownBlock = some g ∨ W.heap.size ≤ g) (hlt : g < W'.heap.size) : Grow lo F p (vs1 ++ v' :: vs2) W' := by
  have hin : v ∈ vs1 ++ v :: vs2 := List.mem_append_right _ List.mem_cons_self
  refine ⟨fun b o e => ⟨(h.fits b o e).1, ?_⟩, h.offp, Nat.lt_of_lt_of_le h.ltp hg.size, ?_, ?_⟩
  · rw [hg.block b (h.ltF e) (fun e' => by rw [(h.off v hin b e'.symm).1] at e; cases e)]
    exact (h.fits b o e).2
  · intro u hu b e
    have old : ∀ u ∈ vs1 ++ v :: vs2, ∀ b, u.ownBlock = some b → F b = none ∧ b ≠ p ∧ lo ≤ b ∧ b < W'.heap.size := fun u hu b e => ⟨(h.off u hu b e).1, (h.off u hu b e).2.1, (h.off u hu b e).2.2.1, Nat.lt_of_lt_of_le (h.off u hu b e).2.2.2 hg.size⟩
    rcases List.mem_append.1 hu with hu | hu
    · exact old u (List.mem_append_left _ hu) b e
    · rcases List.mem_cons.1 hu with rfl | hu
      · rw [hv'] at e
        injection e with e
        subst e
        rcases hat with hat | hat
        · exact old v hin _ hat
        · exact ⟨h.noneF hat, fun e => by have := h.ltp; omega, Nat.le_trans hlo hat, hlt⟩
      · exact old u (List.mem_append_right _ (List.mem_cons_of_mem _ hu)) b e
  · have hd := h.dis
    rw [List.pairwise_append, List.pairwise_cons] at hd ⊢
    obtain ⟨d1, ⟨d2, d3⟩, d4⟩ := hd
    have key : ∀ u, u ∈ vs1 ++ v :: vs2 → Dis v u → Dis v' u := by
      intro u hu hd b e1 e2
      rw [hv'] at e1
      injection e1 with e1
      subst e1
      rcases hat with hat | hat
      · exact hd _ hat e2
      · have := (h.off u hu _ e2).2.2.2
        omega
    refine ⟨d1, ⟨fun u hu => key u (List.mem_append_right _ (List.mem_cons_of_mem _ hu)) (d2 u hu), d3⟩, fun a ha b hb => ?_⟩
    rcases List.mem_cons.1 hb with rfl | hb
    · exact (key a (List.mem_append_left _ ha) (d4 a ha v List.mem_cons_self).symm).symm
    · exact d4 a ha b (List.mem_cons_of_mem _ hb)
/-- a block is laid down for good. -/
theorem Grow.fix {lo p b : Nat} {F : Fx} {vs : List Value} {W : World} {o : Obj} (h : Grow lo F p vs W) (hlo : lo ≤ b) (hb : W.heap[b]? = some o) (hp : b ≠ p) (hv : ∀ v ∈ vs, v.ownBlock ≠ some b) : Grow lo (F.set b o) p vs W := by
  refine ⟨fun k x e => ?_, by rw [Fx.set_other F o (Ne.symm hp)]; exact h.offp, h.ltp, fun v hv' k e => ?_, h.dis⟩
  · by_cases hk : k = b
    · subst hk
      rw [Fx.set_same] at e
      injection e with e
      subst e
      exact ⟨hlo, hb⟩
    · rw [Fx.set_other F o hk] at e
      exact h.fits k x e
  · have hk : k ≠ b := fun e' => hv v hv' (by rw [e, e'])
    rw [Fx.set_other F o hk]
    exact h.off v hv' k e
/-- a fixed block is written. -/
theorem Grow.write {lo p b : Nat} {F : Fx} {vs : List Value} {W : World} {cs : Array Value} {t : TypeId} {f : Nat × Nat} (h : Grow lo F p vs W) (hb : F b = some (.cells cs t f)) (off : Nat) (u : Value) : Grow lo (F.set b (.cells (cs.setIfInBounds off u) t f)) p vs (W.setCell ⟨b, off, none⟩ u) := by
  have hh := (h.fits b _ hb).2
  have hbp : b ≠ p := fun e => by rw [e, h.offp] at hb; cases hb
  have hbv : ∀ v ∈ vs, v.ownBlock ≠ some b := fun v hv e => by rw [(h.off v hv b e).1] at hb; cases hb
  have h1 : Grow lo (fun k => if k = b then none else F k) p vs W := ⟨fun k x e => by
    by_cases hk : k = b
    · simp [hk] at e
    · simp [hk] at e; exact h.fits k x e, by simp [Ne.symm hbp, h.offp], h.ltp, fun v hv k e => by
      have hk : k ≠ b := fun e' => hbv v hv (by rw [e, e'])
      simp only [hk, if_false]
      exact h.off v hv k e, h.dis⟩
  have h2 : Grow lo (fun k => if k = b then none else F k) p vs (W.setCell ⟨b, off, none⟩ u) := ⟨fun k x e => ⟨(h1.fits k x e).1, by
    rw [Below.heap_setCell _ _ _ _ (fun e' => by simp at e'; simp [e'] at e)]
    exact (h1.fits k x e).2⟩, h1.offp, by simpa using h1.ltp, fun v hv k e => by simpa using h1.off v hv k e, h1.dis⟩
  have h3 := h2.fix (h.fits b _ hb).1 (o := .cells (cs.setIfInBounds off u) t f) (b := b) (by
    simp only [World.setCell, Array.getElem?_modify, if_pos, hh, Option.map_some]
    rfl) hbp hbv
  have e : Fx.set (fun k => if k = b then none else F k) b (.cells (cs.setIfInBounds off u) t f) = F.set b (.cells (cs.setIfInBounds off u) t f) := by
    funext k
    by_cases hk : k = b
    · simp [Fx.set, hk]
    · simp [Fx.set, hk]
  rw [e] at h3
  exact h3
/-- a list is done: its block is laid down for good, and the list is no more one that grows. -/
theorem Grow.drop {lo p : Nat} {F : Fx} {v : Value} {vs : List Value} {W : World} (h : Grow lo F p (v :: vs) W) : Grow lo F p vs W :=
  ⟨h.fits, h.offp, h.ltp, fun u hu => h.off u (List.mem_cons_of_mem _ hu), (List.pairwise_cons.1 h.dis).2⟩
theorem Grow.seal {lo p g : Nat} {F : Fx} {v : Value} {vs : List Value} {W : World} {o : Obj} (h : Grow lo F p (v :: vs) W) (hv : v.ownBlock = some g) (hg : W.heap[g]? = some o) : Grow lo (F.set g o) p vs W :=
  h.drop.fix (h.off v List.mem_cons_self g hv).2.2.1 hg (h.off v List.mem_cons_self g hv).2.1 (fun u hu e => (List.pairwise_cons.1 h.dis).1 u hu g hv e)
theorem Grow.add {lo p : Nat} {F : Fx} {vs : List Value} {W : World} (h : Grow lo F p vs W) (a b : Nat) : Grow lo F p (.slice none a b :: vs) W :=
  ⟨h.fits, h.offp, h.ltp, fun u hu k e => by
    rcases List.mem_cons.1 hu with rfl | hu
    · simp [Value.ownBlock] at e
    · exact h.off u hu k e, List.pairwise_cons.2 ⟨fun u _ => Dis.nilL u a b, h.dis⟩⟩
/-- what a list holds is kept where the world grew by another one. -/
theorem owns_other {W W' : World} {base n : Nat} {e : TypeId} {size : Nat} {u v : Value} {xs : List Value} (h : W.ownsRow base e size u n xs) (hd : Dis v u) (hg : W.grownBy W' v.ownBlock) : W'.ownsRow base e size u n xs := by
  refine h.kept hg ?_
  cases hu : u.ownBlock with
  | none => exact .inl rfl
  | some b => exact .inr (fun e => hd b e.symm hu)
theorem owns_below {W W' : World} {base n : Nat} {e : TypeId} {size : Nat} {u : Value} {xs : List Value} (h : W.ownsRow base e size u n xs) (hb : Below W.heap.size W W') : W'.ownsRow base e size u n xs :=
  h.kept (row := none) ⟨hb.os, hb.tape, hb.output, hb.size, fun k hk _ => hb.block k hk⟩ (by cases u.ownBlock <;> simp)
theorem owns_set {W : World} {base n b off : Nat} {e : TypeId} {size : Nat} {u x : Value} {xs : List Value} (h : W.ownsRow base e size u n xs) (hb : u.ownBlock ≠ some b) : (W.setCell ⟨b, off, none⟩ x).ownsRow base e size u n xs :=
  h.kept (row := some b) ⟨rfl, rfl, rfl, by simp, fun k _ hk => Below.heap_setCell _ _ _ _ (fun e => hk (by rw [e]))⟩ (.inr hb)
end Go.Proofs.YtfkeddkfegaeiaaGreatDoor
