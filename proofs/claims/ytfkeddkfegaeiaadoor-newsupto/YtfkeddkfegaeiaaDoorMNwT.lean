/-
  Part 25.
-/
import Derived.Test.YtfkeddkfegaeiaaDoorMNwS
namespace Go.Proofs.YtfkeddkfegaeiaaDoor
open Go.RowKit

set_option maxRecDepth 100000 in
set_option maxHeartbeats 20000000 in
theorem spoil_any (lo hi p nt n nl : Nat) (w : World) (tv cv rv lv : Value) (cs rs ls : List Value) (F0 : Fx) (T0 : List Value) (h : SI lo hi p w w tv cv rv lv nt n n nl cs rs ls F0 T0) (hnt : 0 < nt) (hb1 : nt ≤ 2097152) (hb2 : n ≤ 2097152) (hb3 : nl ≤ 2097152) :
    Calls Tryd.prog 11 #[.pointer (some ⟨p, 0, none⟩)] w fun e w' => e = .returned (.tuple #[]) ∧ Sp lo hi w w' := by
  have H0 := hide h
  obtain ⟨al, pl, rfl⟩ := owns_form h.lnt.lst
  obtain ⟨ac, pc, rfl⟩ := owns_form h.lnt.col
  obtain ⟨ar, pr, rfl⟩ := owns_form h.lnt.row
  obtain ⟨bt, pt, rfl, _, _⟩ := h.lnt.tab.form hnt
  clear h
  go_enter Tryd.func11, Tryd.ntmps11
  go_wp2_with fail
  go_loopg [2] nl (fun f i W => ∃ m F T, m + f = nl ∧ i = .int .i64 (m : Nat) ∧ SI lo hi p w W (.slice (some ⟨bt, 0, none⟩) nt pt) (.slice ac n pc) (.slice ar n pr) (.slice al nl pl) nt n n nl cs rs ls F T)
  case atStart => exact ⟨0, F0, T0, Nat.zero_add _, rfl, unhide H0⟩
  case round =>
    clear H0
    obtain ⟨m, F, T, hm, rfl, hs⟩ := hrel
    have HS := hide hs
    have c3 : wr.cell? ⟨p, 3, none⟩ = some (.slice al nl pl) := by rw [(blk hs.lnt.box).1]; rfl
    have zp := lt_of_heap hs.lnt.box
    clear hs
    cases gk with
    | succ f =>
      have hml : m < nl := by omega
      have hd : decide (m < nl) = true := by simpa using hml
      obtain ⟨bl, pl', e3, _, zl⟩ := (unhide HS).lnt.lst.form (by omega)
      injection e3 with e3 _ e4
      subst e3 e4
      have hll : ls.length = nl := by have := (unhide HS).lnt.lst.1; omega
      obtain ⟨v, hv⟩ : ∃ v, ls[m]? = some v := ⟨ls[m]'(by omega), List.getElem?_eq_getElem _⟩
      have hvm : v ∈ ls := List.mem_of_getElem? hv
      obtain ⟨g, k0, cap, _, _, rfl, _, hk0, _, hgp, _, _⟩ := (unhide HS).at ((unhide HS).rl v hvm)
      go_wp2_with fail
      clear c3 hd
      go_loopg [3] k0 (fun f k W => ∃ m2 F T, m2 + f = k0 ∧ k = .int .i64 (m2 : Nat) ∧ SI lo hi p w W (.slice (some ⟨bt, 0, none⟩) nt pt) (.slice ac n pc) (.slice ar n pr) (.slice (some ⟨bl, 0, none⟩) nl pl) nt n n nl cs rs ls F T)
      case atStart => exact ⟨0, _, _, Nat.zero_add _, rfl, unhide HS⟩
      case round =>
        clear HS
        obtain ⟨m2, F2, T2, hm2, rfl, hs⟩ := hrel
        have HS := hide hs
        have c3 : wr.cell? ⟨p, 3, none⟩ = some (.slice (some ⟨bl, 0, none⟩) nl pl) := by rw [(blk hs.lnt.box).1]; rfl
        have zp := lt_of_heap hs.lnt.box
        have y3 : wr.cell? ⟨bl, m, none⟩ = some (.slice (some ⟨g, 0, none⟩) k0 cap) := by rw [hs.lnt.lst.cellAt _ (by omega), hv]
        have zl : bl < wr.heap.size := (hs.lnt.lst.lt _ rfl).2
        obtain ⟨g', k', cap', cur', E', e', hFg, _, zg, _, hx, hfz⟩ := hs.at (hs.rl _ hvm)
        injection e' with e1 e2 e3
        injection e1 with e1
        injection e1 with e1
        subst e1 e2 e3
        have HFG := hide hFg
        clear hs hFg
        cases gk with
        | succ f =>
          have hml2 : m2 < k0 := by omega
          have hd2 : decide (m2 < k0) = true := by simpa using hml2
          obtain ⟨x, hx⟩ := hx m2 hml2
          have hfx := hfz m2
          clear hfz
          go_wp2
          go_roundg f
          case measure => simp
          case rel =>
            obtain ⟨F', hs'⟩ := (unhide HS).write (unhide HFG) m2 _
            exact ⟨m2 + 1, F', T2, by omega, by go_num, hs'⟩
        | zero =>
          have hd2 : decide (m2 < k0) = false := by simp; omega
          clear hx hfz
          go_wp2
          go_roundg f
          case measure => simp
          case rel => exact ⟨m + 1, F2, T2, by omega, by go_num, unhide HS⟩
    | zero =>
      have hd : decide (m < nl) = false := by simp; omega
      go_wp2_with fail
      clear hd c3 zp
      go_loopg [4] n (fun f i W => ∃ m F T, m + f = n ∧ i = .int .i64 (m : Nat) ∧ SI lo hi p w W (.slice (some ⟨bt, 0, none⟩) nt pt) (.slice ac n pc) (.slice ar n pr) (.slice al nl pl) nt n n nl cs rs ls F T)
      case atStart => exact ⟨0, _, _, Nat.zero_add _, rfl, unhide HS⟩
      case round =>
        clear HS hm
        obtain ⟨m, F, T, hm, rfl, hs⟩ := hrel
        have HS := hide hs
        have c3 : wr.cell? ⟨p, 1, none⟩ = some (.slice ac n pc) := by rw [(blk hs.lnt.box).1]; rfl
        have zp := lt_of_heap hs.lnt.box
        clear hs
        cases gk with
        | succ f =>
          have hml : m < n := by omega
          have hd : decide (m < n) = true := by simpa using hml
          obtain ⟨bc, pc', e3, _, zc⟩ := (unhide HS).lnt.col.form (by omega)
          injection e3 with e3 _ e4
          subst e3 e4
          obtain ⟨br, pr', e3, _, zr⟩ := (unhide HS).lnt.row.form (by omega)
          injection e3 with e3 _ e4
          subst e3 e4
          have hcl : cs.length = n := by have := (unhide HS).lnt.col.1; omega
          have hrl : rs.length = n := by have := (unhide HS).lnt.row.1; omega
          obtain ⟨u, hu⟩ : ∃ u, rs[m]? = some u := ⟨rs[m]'(by omega), List.getElem?_eq_getElem _⟩
          have hum : u ∈ rs := List.mem_of_getElem? hu
          obtain ⟨v, hv⟩ : ∃ v, cs[m]? = some v := ⟨cs[m]'(by omega), List.getElem?_eq_getElem _⟩
          have hvm : v ∈ cs := List.mem_of_getElem? hv
          obtain ⟨g, k0, cap, _, _, rfl, _, hk0, _, hgp, _, _⟩ := (unhide HS).at ((unhide HS).rc v hvm)
          go_wp2_with fail
          clear c3 hd
          go_loopg [5] k0 (fun f k W => ∃ m2 F T, m2 + f = k0 ∧ k = .int .i64 (m2 : Nat) ∧ SI lo hi p w W (.slice (some ⟨bt, 0, none⟩) nt pt) (.slice (some ⟨bc, 0, none⟩) n pc) (.slice (some ⟨br, 0, none⟩) n pr) (.slice al nl pl) nt n n nl cs rs ls F T)
          case atStart => exact ⟨0, _, _, Nat.zero_add _, rfl, unhide HS⟩
          case round =>
            clear HS
            obtain ⟨m2, F2, T2, hm2, rfl, hs⟩ := hrel
            have HS := hide hs
            have c3 : wr.cell? ⟨p, 1, none⟩ = some (.slice (some ⟨bc, 0, none⟩) n pc) := by rw [(blk hs.lnt.box).1]; rfl
            have zp := lt_of_heap hs.lnt.box
            have y3 : wr.cell? ⟨bc, m, none⟩ = some (.slice (some ⟨g, 0, none⟩) k0 cap) := by rw [hs.lnt.col.cellAt _ (by omega), hv]
            have zl : bc < wr.heap.size := (hs.lnt.col.lt _ rfl).2
            obtain ⟨g', k', cap', cur', E', e', hFg, _, zg, _, hx, hfz⟩ := hs.at (hs.rc _ hvm)
            injection e' with e1 e2 e3
            injection e1 with e1
            injection e1 with e1
            subst e1 e2 e3
            have HFG := hide hFg
            clear hs hFg
            cases gk with
            | succ f =>
              have hml2 : m2 < k0 := by omega
              have hd2 : decide (m2 < k0) = true := by simpa using hml2
              obtain ⟨x, hx⟩ := hx m2 hml2
              have hfx := hfz m2
              clear hfz
              go_wp2
              go_roundg f
              case measure => simp
              case rel =>
                obtain ⟨F', hs'⟩ := (unhide HS).write (unhide HFG) m2 _
                exact ⟨m2 + 1, F', T2, by omega, by go_num, hs'⟩
            | zero =>
              have hd2 : decide (m2 < k0) = false := by simp; omega
              clear hx hfz
              go_wp2_with fail
              clear hd2 c3 y3 zg zl
              obtain ⟨g, k0, cap, _, _, rfl, _, hk0, _, hgp, _, _⟩ := (unhide HS).at ((unhide HS).rr u hum)
              have hvm := hum
              have hv := hu
              go_loopg [6] k0 (fun f k W => ∃ m2 F T, m2 + f = k0 ∧ k = .int .i64 (m2 : Nat) ∧ SI lo hi p w W (.slice (some ⟨bt, 0, none⟩) nt pt) (.slice (some ⟨bc, 0, none⟩) n pc) (.slice (some ⟨br, 0, none⟩) n pr) (.slice al nl pl) nt n n nl cs rs ls F T)
              case atStart => exact ⟨0, _, _, Nat.zero_add _, rfl, unhide HS⟩
              case round =>
                clear HS
                obtain ⟨m2, F2, T2, hm2, rfl, hs⟩ := hrel
                have HS := hide hs
                have c3 : wr.cell? ⟨p, 2, none⟩ = some (.slice (some ⟨br, 0, none⟩) n pr) := by rw [(blk hs.lnt.box).1]; rfl
                have zp := lt_of_heap hs.lnt.box
                have y3 : wr.cell? ⟨br, m, none⟩ = some (.slice (some ⟨g, 0, none⟩) k0 cap) := by rw [hs.lnt.row.cellAt _ (by omega), hv]
                have zl : br < wr.heap.size := (hs.lnt.row.lt _ rfl).2
                obtain ⟨g', k', cap', cur', E', e', hFg, _, zg, _, hx, hfz⟩ := hs.at (hs.rr _ hvm)
                injection e' with e1 e2 e3
                injection e1 with e1
                injection e1 with e1
                subst e1 e2 e3
                have HFG := hide hFg
                clear hs hFg
                cases gk with
                | succ f =>
                  have hml2 : m2 < k0 := by omega
                  have hd2 : decide (m2 < k0) = true := by simpa using hml2
                  obtain ⟨x, hx⟩ := hx m2 hml2
                  have hfx := hfz m2
                  clear hfz
                  go_wp2
                  go_roundg f
                  case measure => simp
                  case rel =>
                    obtain ⟨F', hs'⟩ := (unhide HS).write (unhide HFG) m2 _
                    exact ⟨m2 + 1, F', T2, by omega, by go_num, hs'.alloc _⟩
                | zero =>
                  have hd2 : decide (m2 < k0) = false := by simp; omega
                  clear hx hfz
                  go_wp2
                  go_roundg f
                  case measure => simp
                  case rel => exact ⟨m + 1, F2, T2, by omega, by go_num, unhide HS⟩
        | zero =>
          have hd : decide (m < n) = false := by simp; omega
          go_wp2_with fail
          clear hd c3 zp
          go_loopg [7] nt (fun f i W => ∃ m F T, m + f = nt ∧ i = .int .i64 (m : Nat) ∧ SI lo hi p w W (.slice (some ⟨bt, 0, none⟩) nt pt) (.slice ac n pc) (.slice ar n pr) (.slice al nl pl) nt n n nl cs rs ls F T)
          case atStart => exact ⟨0, _, _, Nat.zero_add _, rfl, unhide HS⟩
          case round =>
            clear HS hm
            obtain ⟨m, F, T, hm, rfl, hs⟩ := hrel
            have HS := hide hs
            have c3 : wr.cell? ⟨p, 0, none⟩ = some (.slice (some ⟨bt, 0, none⟩) nt pt) := by rw [(blk hs.lnt.box).1]; rfl
            have zp := lt_of_heap hs.lnt.box
            have zt : bt < wr.heap.size := (hs.lnt.tab.lt _ rfl).2
            have hTl : T.length = nt * 3 := hs.lnt.tab.1
            cases gk with
            | succ f =>
              have hml : m < nt := by omega
              have hd : decide (m < nt) = true := by simpa using hml
              have hc : ∀ j, j < nt * 3 → ∃ x, wr.cell? ⟨bt, j, none⟩ = some x := fun j hj => ⟨T[j]'(by omega), by rw [hs.lnt.tab.cellAt _ hj, List.getElem?_eq_getElem (by omega)]⟩
              obtain ⟨x0, m0⟩ := hc (m * 3) (by omega)
              obtain ⟨x1, m1⟩ := hc (m * 3 + 1) (by omega)
              obtain ⟨x2, m2⟩ := hc (m * 3 + 2) (by omega)
              have hfz := hs.lnt.tab.frozenAt
              clear hs hc
              go_wp2
              go_roundg f
              case measure => simp
              case rel =>
                obtain ⟨T1, h1⟩ := (unhide HS).tab (m * 3) (.string ⟨#[111, 116, 104, 101, 114]⟩)
                obtain ⟨T2, h2⟩ := h1.tab (m * 3 + 1) (.slice none 0 0)
                obtain ⟨T3, h3⟩ := h2.tab (m * 3 + 2) (.slice none 0 0)
                exact ⟨m + 1, F, T3, by omega, by go_num, h3⟩
            | zero =>
              have hd : decide (m < nt) = false := by simp; omega
              clear hs
              go_wp2
              exact bodyPost_end (v := .tuple #[]) (by simp [results, Tryd.results11, go_sem]) rfl ⟨rfl, (unhide HS).sp⟩
end Go.Proofs.YtfkeddkfegaeiaaDoor
