/-
  Part 29.
-/
import Derived.Test.YtfkeddkfegaeiaaDoorMNwX
import Derived.Test.YtfkeddkfegaeiaaDoorMNwY
import Derived.Test.YtfkeddkfegaeiaaDoorMDNames
import Derived.Test.YtfkeddkfegaeiaaDoorTie
import Derived.Test.YtfkeddkfegaeiaaDoorCards
import Derived.SevenTiedAt
import Derived.Deep.DeepHandedRow
import Derived.Deep.DeepWitnessRowRef
namespace Go.Proofs.YtfkeddkfegaeiaaDoor
open Go.RowKit Go.ChangeShapes Go.WideShapes Go.ChangeAt Go.ChangeMaps

theorem nrows_bulk {H : Type} : ∀ (ds : List (DataW H)) (l : List Tb), l.length = ds.length → (∀ (i : Nat) (t : Tb) (d : DataW H), l[i]? = some t → ds[i]? = some d → t.rows.length ≤ Rows.uptoBulk d) → nrows l ≤ Rows.uptoBulkAll ds
  | [], [], _, _ => by simp [nrows]
  | d :: ds, t :: l, h, hq => by
    have h1 := hq 0 t d rfl rfl
    have h2 := nrows_bulk ds l (by simpa using h) (fun i t' d' e1 e2 => hq (i + 1) t' d' (by simpa using e1) (by simpa using e2))
    simp only [nrows, Rows.uptoBulkAll]
    omega
  | [], _ :: _, h, _ => by simp at h
  | _ :: _, [], h, _ => by simp at h
theorem three {α : Type} {l : List α} (h : l.length = 3) : ∃ a b c, l = [a, b, c] := by
  rcases l with _ | ⟨a, _ | ⟨b, _ | ⟨c, _ | ⟨d, r⟩⟩⟩⟩
  · simp at h
  · simp at h
  · simp at h
  · exact ⟨a, b, c, rfl⟩
  · simp at h
/-- a list of tables. -/
theorem read_tabs {H : Type} {enc : TypeId × Value → H} {W : World} {sp : Nat → Bool} {held : Bool} {n : Nat} {cs : List Value} {d : DataW H} {p : List MemPlace} (h : DataW.trod enc Tryd.prog W 0 sp held n 27 cs = some (d, p)) (B : Nat) (hk : Rows.uptoBulk d ≤ B) : ∃ (v : Value) (l : List Tb), cs = [v] ∧ TabsAt W v l ∧ l.length ≤ B ∧ nrows l ≤ B ∧ (∀ t ∈ l, t.cols.length ≤ B) ∧ (∀ t ∈ l, t.rows.length ≤ B) ∧ ∀ t ∈ l, ∀ r ∈ t.rows, r.length ≤ B := by
  rcases DataW.trod_slice Tryd.underlying27 h with ⟨rfl, hx⟩ | ⟨a, len, cap, elems, rest, m, _, rfl, hx, _, hl, hm, hlen, hel, _⟩
  · exact ⟨_, [], rfl, ⟨none, 0, rfl, by unfold maxLen; simp, by simp, fun hp => by simp at hp⟩, by simp, by simp [nrows], fun t ht => (by cases ht), fun t ht => (by cases ht), fun t ht => (by cases ht)⟩
  · injection hx with hd _
    subst hd
    rw [cellsTb] at hel
    have hbs := bulk_slice (H := H) (elems.map (·.1)) (rest.map (·.1))
    have key : ∀ i, i < len → ∃ x : Value × Value × Tb, W.cell? (a.add (i * 3)) = some (.string x.2.2.name) ∧ W.cell? ((a.add (i * 3)).add 1) = some x.1 ∧ W.cell? ((a.add (i * 3)).add 2) = some x.2.1 ∧ TbV W [.string x.2.2.name, x.1, x.2.1] x.2.2 ∧ x.2.2.cols.length ≤ B ∧ (∀ dd, (elems.map (·.1))[i]? = some dd → x.2.2.rows.length ≤ Rows.uptoBulk dd) ∧ x.2.2.rows.length ≤ B ∧ ∀ r ∈ x.2.2.rows, r.length ≤ B := by
      intro i hi
      have hE := hel i hi
      rw [List.getElem?_eq_getElem (by omega)] at hE
      obtain ⟨c1, hc1, hy⟩ := Option.bind_eq_some_iff.1 hE
      obtain ⟨_, hcl, hcs⟩ := World.cells?_some hc1
      obtain ⟨xs, q, _, hxe, _, hxl, hf⟩ := DataW.trod_struct Tryd.underlying53 hy
      have hpart : Rows.uptoBulk elems[i].1 ≤ Rows.uptoBulkAll (elems.map (·.1)) := bulk_part (List.mem_map.2 ⟨elems[i], List.getElem_mem _, rfl⟩)
      obtain ⟨c, e, f, rfl⟩ := three hcl
      obtain ⟨x0, x1, x2, rfl⟩ := three (hxl.trans rfl)
      have f0 : DataW.trod enc Tryd.prog W 0 sp held q 9 (([c, e, f].drop 0).take (Tryd.prog.cellsOf 9)) = some x0 := hf 0 _ rfl
      have f1 : DataW.trod enc Tryd.prog W 0 sp held q 50 (([c, e, f].drop 1).take (Tryd.prog.cellsOf 50)) = some x1 := hf 1 _ rfl
      have f2 : DataW.trod enc Tryd.prog W 0 sp held q 42 (([c, e, f].drop 2).take (Tryd.prog.cellsOf 42)) = some x2 := hf 2 _ rfl
      rw [cellsT] at f0
      rw [cellsS] at f1
      rw [cellsRR] at f2
      have g0 : DataW.trod enc Tryd.prog W 0 sp held q 9 [c] = some x0 := f0
      have g1 : DataW.trod enc Tryd.prog W 0 sp held q 50 [e] = some x1 := f1
      have g2 : DataW.trod enc Tryd.prog W 0 sp held q 42 [f] = some x2 := f2
      obtain ⟨s, hs, _, _⟩ := DataW.trod_string Tryd.underlying9 g0
      obtain ⟨v1, ts, hv1, hr1, hcap, hb1⟩ := read_texts (d := x1.1) (p := x1.2) g1
      obtain ⟨v2, rows, hv2, hr2, hb2, hb3⟩ := read_rows (d := x2.1) (p := x2.2) g2
      injection hs with hs _
      injection hv1 with hv1 _
      injection hv2 with hv2 _
      subst hs hv1 hv2
      have hsum : Rows.uptoBulk elems[i].1 = Rows.uptoBulk x0.1 + (Rows.uptoBulk x1.1 + (Rows.uptoBulk x2.1 + 0)) + 1 := by
        rw [hxe]
        simp only [List.map_cons, List.map_nil, Rows.uptoBulk, Rows.uptoBulkAll]
      have e0 : (a.add (i * 3)).add 0 = a.add (i * 3) := by simp [Addr.add]
      have hc0 := hcs 0 (by omega)
      rw [e0] at hc0
      refine ⟨(e, f, ⟨s, ts, rows⟩), hc0, hcs 1 (by omega), hcs 2 (by omega), ⟨e, f, rfl, hr1, hcap, hr2⟩, by show ts.length ≤ _; omega, fun dd hdd => ?_, by show rows.length ≤ _; omega, fun r hr => by have := hb3 r hr; omega⟩
      rw [List.getElem?_map, List.getElem?_eq_getElem (by omega)] at hdd
      injection hdd with hdd
      subst hdd
      show rows.length ≤ Rows.uptoBulk elems[i].1
      omega
    obtain ⟨l, hll, hq⟩ := choose_list len _ key
    have hlen2 : (elems.map (·.1)).length = len := by rw [List.length_map, hlen]
    have hl2 := bulk_len (H := H) (elems.map (·.1))
    refine ⟨_, l.map (·.2.2), rfl, ⟨some a, cap, by rw [List.length_map, hll], by rw [List.length_map, hll]; omega, by rw [List.length_map, hll]; exact hl, fun hp => ?_⟩, ?_, ?_, ?_, ?_, ?_⟩
    · rw [List.length_map, hll] at hp
      obtain ⟨x0, hx0⟩ : ∃ x, l[0]? = some x := ⟨l[0]'(by omega), List.getElem?_eq_getElem _⟩
      have hc0 := (hq 0 x0 hx0).1
      obtain ⟨b, o, spot⟩ := a
      have hspot : spot = none := by simpa [Addr.add] using World.cell?_spot hc0
      subst hspot
      rw [addr_add] at hc0
      refine ⟨b, o, rfl, cell_lt hc0, fun j t e => ?_⟩
      rw [List.getElem?_map] at e
      obtain ⟨x, hx, rfl⟩ := Option.map_eq_some_iff.1 e
      obtain ⟨k1, k2, k3, k4, _⟩ := hq j x hx
      rw [addr_add] at k1
      rw [addr_add, addr_add] at k2 k3
      exact ⟨x.1, x.2.1, k4, k1, k2, k3⟩
    · rw [List.length_map]; omega
    · refine Nat.le_trans (nrows_bulk (elems.map (·.1)) _ (by rw [List.length_map, hll, hlen2]) (fun i t dd e1 e2 => ?_)) (Nat.le_trans hbs hk)
      rw [List.getElem?_map] at e1
      obtain ⟨x, hx, rfl⟩ := Option.map_eq_some_iff.1 e1
      exact (hq i x hx).2.2.2.2.2.1 dd e2
    all_goals
      intro t ht
      obtain ⟨x, hx, rfl⟩ := List.mem_map.1 ht
      obtain ⟨k, hk'⟩ := List.getElem?_of_mem hx
      obtain ⟨_, _, _, _, q1, _, q2, q3⟩ := hq k x hk'
      first | exact q1 | exact q2 | exact q3
end Go.Proofs.YtfkeddkfegaeiaaDoor
