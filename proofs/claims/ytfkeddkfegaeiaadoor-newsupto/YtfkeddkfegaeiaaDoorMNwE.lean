/-
  Part 9.
-/
import Derived.Test.YtfkeddkfegaeiaaDoorMNwD
namespace Go.Proofs.YtfkeddkfegaeiaaDoor
open Go.RowKit

/-- a table. -/
structure Tb where
  name : ByteArray
  cols : List ByteArray
  rows : List (List Int)
/-- rows of numbers: a slice of slices. -/
def RowsAt (W : World) (v : Value) (rows : List (List Int)) : Prop := ∃ vs : List Value, RowAt W v vs ∧ vs.length = rows.length ∧ ∀ (k : Nat) (r : List Int) (u : Value), rows[k]? = some r → vs[k]? = some u → RowAt W u (intsV r)
theorem RowsAt.keep {W W' : World} {v : Value} {rows : List (List Int)} (h : RowsAt W v rows) (hb : Below W.heap.size W W') : RowsAt W' v rows := by
  obtain ⟨vs, h1, h2, h3⟩ := h
  exact ⟨vs, h1.keep hb, h2, fun k r u e1 e2 => (h3 k r u e1 e2).keep hb⟩
/-- the room of a slice. -/
def scap : Value → Nat
  | .slice _ _ c => c
  | _ => 0
/-- the three cells of a table. -/
def TbV (W : World) (cs : List Value) (t : Tb) : Prop := ∃ cv rv, cs = [.string t.name, cv, rv] ∧ RowAt W cv (textsV t.cols) ∧ t.cols.length ≤ scap cv ∧ RowsAt W rv t.rows
theorem TbV.keep {W W' : World} {cs : List Value} {t : Tb} (h : TbV W cs t) (hb : Below W.heap.size W W') : TbV W' cs t := by
  obtain ⟨cv, rv, h1, h2, h3, h4⟩ := h
  exact ⟨cv, rv, h1, h2.keep hb, h3, h4.keep hb⟩
/-- a list of tables: three cells an element. -/
def TabsAt (W : World) (v : Value) (l : List Tb) : Prop := ∃ ad cap, v = .slice ad l.length cap ∧ l.length ≤ maxLen ∧ l.length ≤ cap ∧ (0 < l.length → ∃ b o, ad = some ⟨b, o, none⟩ ∧ b < W.heap.size ∧ ∀ (j : Nat) (t : Tb), l[j]? = some t → ∃ cv rv, TbV W [.string t.name, cv, rv] t ∧ W.cell? ⟨b, o + j * 3, none⟩ = some (.string t.name) ∧ W.cell? ⟨b, o + j * 3 + 1, none⟩ = some cv ∧ W.cell? ⟨b, o + j * 3 + 2, none⟩ = some rv)
theorem TabsAt.keep {W W' : World} {v : Value} {l : List Tb} (h : TabsAt W v l) (hb : Below W.heap.size W W') : TabsAt W' v l := by
  obtain ⟨ad, cap, h1, h2, h2', h3⟩ := h
  refine ⟨ad, cap, h1, h2, h2', fun hp => ?_⟩
  obtain ⟨b, o, h4, h5, h6⟩ := h3 hp
  refine ⟨b, o, h4, Nat.lt_of_lt_of_le h5 hb.size, fun j t e => ?_⟩
  obtain ⟨cv, rv, k1, k2, k3, k4⟩ := h6 j t e
  exact ⟨cv, rv, k1.keep hb, by rw [hb.cell (p := ⟨b, o + j * 3, none⟩) h5]; exact k2, by rw [hb.cell (p := ⟨b, o + j * 3 + 1, none⟩) h5]; exact k3, by rw [hb.cell (p := ⟨b, o + j * 3 + 2, none⟩) h5]; exact k4⟩
/-- the tables ahead of one. -/
theorem TabsAt.ahead {W : World} {ad : Option Addr} {n cap : Nat} {pre suf : List Tb} (h : TabsAt W (.slice ad n cap) (pre ++ suf)) : TabsAt W (.slice ad pre.length cap) pre := by
  obtain ⟨ad', cap', h1, h2, h2', h3⟩ := h
  injection h1 with e1 e2 e3
  subst e1 e3
  rw [List.length_append] at h2 h2' h3
  refine ⟨ad, cap, rfl, by omega, by omega, fun hp => ?_⟩
  obtain ⟨b, o, h4, h5, h6⟩ := h3 (by omega)
  refine ⟨b, o, h4, h5, fun j t e => h6 j t ?_⟩
  have hj : j < pre.length := by
    rcases Nat.lt_or_ge j pre.length with h' | h'
    · exact h'
    · rw [List.getElem?_eq_none h'] at e; cases e
  rw [List.getElem?_append_left hj]
  exact e

/-! ### P6, plain -/
def dupF : List ByteArray → List ByteArray → Bool
  | _, [] => false
  | pre, a :: r => Lib.containsS pre a || dupF (pre ++ [a]) r
/-- what is wrong with a table that has these ahead of it, by the document's numbers. -/
def p6 (t : Tb) (ahead : List Tb) : Int :=
  if !nameB t.name.data.toList || t.cols.any (fun c => !nameB c.data.toList) then 4
  else if decide (t.cols.length < 1) || decide (6 < t.cols.length) || decide (200 < t.rows.length) then 9
  else if ahead.any (fun u => u.name.toList == t.name.toList) || dupF [] t.cols then 7
  else if t.rows.any (fun r => decide (r.length ≠ t.cols.length)) then 10
  else 0
/-- the first that is wrong, of tables that have these ahead of them. -/
def p6from : List Tb → List Tb → Int
  | _, [] => 0
  | pre, t :: r => if p6 t pre = 0 then p6from (pre ++ [t]) r else p6 t pre
def p6all (l : List Tb) : Int := if 4 < l.length then 9 else p6from [] l
end Go.Proofs.YtfkeddkfegaeiaaDoor
