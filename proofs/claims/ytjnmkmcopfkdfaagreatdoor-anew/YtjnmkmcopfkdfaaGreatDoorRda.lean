/-
  The walk of Read.
-/
import Derived.Test.YtjnmkmcopfkdfaaGreatDoorRdr
namespace Go.Proofs.YtjnmkmcopfkdfaaGreatDoor
open Go.RowKit

def resP : Option (Nat × Nat) → QueryX → Except (Nat × Nat) QueryX
  | some e, _ => .error e
  | none, x => .ok x
theorem readT_eq {ts : List Tk} {X : QueryX × St} (hX : X = queryP ts st0) : readT ts = resP (endP ts X.2).er X.1 := by
  subst hX
  unfold readT
  cases (endP ts (queryP ts st0).2).er <;> rfl
theorem readT_zero {ts : List Tk} {X : QueryX × St} (hX : X = queryP ts st0) (hk : (tkAt ts X.2.nx).kind = 0) : readT ts = resP X.2.er X.1 := by
  rw [readT_eq hX]
  unfold endP
  rw [if_pos hk]
theorem readT_more {ts : List Tk} {X : QueryX × St} (hX : X = queryP ts st0) (hk : ¬ (tkAt ts X.2.nx).kind = 0) : readT ts = resP (failP ts X.2 eSyntax).er X.1 := by
  rw [readT_eq hX]
  unfold endP
  rw [if_neg hk]
def ReadPost (a : Nat → Addr) (w : World) (R : Except (Nat × Nat) QueryX) (e : Ending) (w' : World) : Prop := Below w.heap.size w w' ∧ match R with
  | .ok x => ∃ v, e = .returned (.tuple #[v, .nilIface]) ∧ QueryOk w' w.heap.size v x
  | .error (p, k) => ∃ b, e = .returned (.tuple #[.pointer none, .iface 64 (.pointer (some ⟨b, 0, none⟩))]) ∧ AtBlk w' b p (errV a k)

set_option maxHeartbeats 1000000 in
set_option maxRecDepth 100000 in
theorem read_scan (s : ByteArray) (a : Nat → Addr) (B : Nat) (w : World) (hE : Env a B w) (hs : s.size ≤ 1000) (p k : Nat) (h : scanP s = .error (p, k)) :
    Calls Tryz.prog 12 #[.string s] w fun e w' => ReadPost a w (.error (p, k)) e w' := by
  have HE := hide hE
  clear hE
  obtain ⟨R, HR⟩ : ∃ R, Hid (R = scanP s) := ⟨_, rfl⟩
  have hR : R = .error (p, k) := (unhide HR).trans h
  go_enter Tryz.func12, Tryz.ntmps12
  go_wp2_with fail
  refine (scan_walk s a B _ (by exact HE) hs R HR).mono ?_
  rintro e w1 h1
  rw [hR] at h1
  obtain ⟨b, rfl, h2, h3, h4, h5⟩ := h1
  have H4 := hide h4
  have H5 := hide h5
  clear h4 h5
  go_wp2
  go_ret2
  exact ⟨unhide H5, b, rfl, unhide H4⟩

theorem read_long (s : ByteArray) (a : Nat → Addr) (B : Nat) (w : World) (hE : Env a B w) (hs : 1000 < s.size) :
    Calls Tryz.prog 12 #[.string s] w fun e w' => e = .returned (.tuple #[.pointer none, errV a eLong]) ∧ Below w.heap.size w w' := by
  have HE := hide hE
  clear hE
  go_enter Tryz.func12, Tryz.ntmps12
  go_wp2_with fail
  refine (scan_long s a B _ (by exact HE) hs).mono ?_
  rintro e w1 ⟨rfl, h5⟩
  have H5 := hide h5
  clear h5
  go_wp2
  go_ret2
  exact ⟨rfl, unhide H5⟩

set_option maxHeartbeats 1000000 in
set_option maxRecDepth 100000 in
theorem read_ok (s : ByteArray) (a : Nat → Addr) (B : Nat) (w : World) (hE : Env a B w) (hs : s.size ≤ 1000) (ts l : List Tk) (h : scanP s = .ok ts) (hl : Scd s 0 ts l) (R : Except (Nat × Nat) QueryX) (HR : Hid (R = readT ts)) :
    Calls Tryz.prog 12 #[.string s] w fun e w' => ReadPost a w R e w' := by
  have HE := hide hE
  clear hE
  obtain ⟨R0, HR0⟩ : ∃ R, Hid (R = scanP s) := ⟨_, rfl⟩
  have hR0 : R0 = .ok ts := (unhide HR0).trans h
  go_enter Tryz.func12, Tryz.ntmps12
  go_wp2_with fail
  refine (scan_walk s a B _ (by exact HE) hs R0 HR0).mono ?_
  rintro e w1 h1
  rw [hR0] at h1
  obtain ⟨v, rfl, h2, h3⟩ := h1
  have hlen : ts.length ≤ 1001 := by have := hl.len; omega
  rcases h2.2 with ⟨_, h0⟩ | ⟨g, cap, cur, hv, hg0, hg, c1, c2, c3, c4⟩
  · have := hl.pos; omega
  subst hv
  have HE1 := hide ((unhide HE).keep (h3.mono (unhide HE).size))
  have H3 := hide h3
  have HG := hide hg
  have HC4 := hide c4
  have zg := lt_of_heap hg
  have HL := hide hl
  clear h2 h3 hg c4 HE HR0 hR0 h hl c3
  have hRS : RS ⟨a, B, w1.heap.size, g, cap, ts⟩ (w1.alloc (.cells #[.slice (some ⟨g, 0, none⟩) ts.length cap, .int .i64 0, .int .i64 0, .nilIface] 77)) st0 .nilIface := by
    refine ⟨(unhide HE1).alloc _, (unhide HE1).size, by show g ≠ w1.heap.size; omega, by show ts.length ≤ 1001; omega, (unhide HL).last, (unhide HL).pos, by decide, heap_last rfl, ⟨cur, heap_prev (unhide HG), unhide HC4⟩, rfl⟩
  have HRS := hide hRS
  clear hRS
  obtain ⟨X, HX⟩ : ∃ X, Hid (X = queryP ts st0) := ⟨_, rfl⟩
  go_wp2_with fail
  refine (query_any ⟨a, B, w1.heap.size, g, cap, ts⟩ _ st0 .nilIface X (by exact unhide HRS) rfl HX).mono ?_
  rintro e w2 ⟨b, rfl, hb, ⟨⟨ev2, hs2⟩, hk2⟩, hok⟩
  have HS2 := hide hs2
  have HB2 : Hid (Below w.heap.size w w2) := (unhide H3).trans ((((Below.refl _ _).alloc (Nat.le_refl _) _).mono (unhide H3).size).trans (hk2.below (unhide H3).size (by simp; have := (unhide H3).size; omega)))
  have HOK : Hid (X.2.er = none → QueryOk w2 w.heap.size (.pointer (some ⟨b, 0, none⟩)) X.1) := fun he => by
    obtain ⟨b', vw, vm, h1, h2, h3, h4, h5⟩ := hok he
    have hz : w.heap.size ≤ (w1.alloc (.cells #[.slice (some ⟨g, 0, none⟩) ts.length cap, .int .i64 0, .int .i64 0, .nilIface] 77)).heap.size := by simp; have := (unhide H3).size; omega
    exact ⟨b', vw, vm, h1, Nat.le_trans hz h2, h3, h4.keep hz (Keeps.ofBelow (Below.refl _ _)), h5.keep hz (Keeps.ofBelow (Below.refl _ _))⟩
  clear hs2 hk2 hok hb HRS
  have hfk := field_kind
  have z2 : w1.heap.size < w2.heap.size := lt_of_heap (unhide HS2).reader
  have HRB : w.heap.size ≤ w1.heap.size := (unhide H3).size
  generalize hrb : w1.heap.size = rb at *
  clear hrb HE1 H3 HG HC4 zg hg0
  have HXL : Hid (X.2.nx < ts.length) := (unhide HS2).nx
  go_wp2_with fail
  refine (peek_any ⟨a, B, rb, g, cap, ts⟩ _ X.2 ev2 (by exact unhide HS2)).mono ?_
  rintro e w3 ⟨rfl, hb3⟩
  have HS3 := hide ((unhide HS2).keep hb3)
  have HB3 := hide ((unhide HB2).trans (hb3.mono (unhide HB2).size))
  have HOK3 : Hid (X.2.er = none → QueryOk w3 w.heap.size (.pointer (some ⟨b, 0, none⟩)) X.1) := fun he => by
    obtain ⟨b', vw, vm, h1, h2, h3, h4, h5⟩ := (unhide HOK) he
    exact ⟨b', vw, vm, h1, h2, (hb3.block _ (lt_of_heap h3)).trans h3, h4.keep (Nat.le_refl _) (Keeps.ofBelow hb3), h5.keep (Nat.le_refl _) (Keeps.ofBelow hb3)⟩
  clear hb3 HS2 HB2 HOK z2
  have z3 : rb < w3.heap.size := lt_of_heap (unhide HS3).reader
  by_cases hk : (tkAt ts X.2.nx).kind = 0
  · have hkk : (((tkAt ts X.2.nx).kind : Int) != 0) = false := by rw [hk]; rfl
    have HEND : Hid (R = resP X.2.er X.1) := (unhide HR).trans (readT_zero (unhide HX) hk)
    clear hk HR HX
    generalize tkAt ts X.2.nx = t at *
    obtain ⟨r0, r1, r2, r3, hfr, hrb⟩ := (unhide HS3).facts
    have HERR := hide (unhide HS3).err
    cases her : X.2.er with
    | none =>
      rw [her] at HERR HEND
      have hev : ev2 = .nilIface := unhide HERR
      subst hev
      have HQ := hide ((unhide HOK3) her)
      clear HOK3 HERR her
      go_wp2
      go_ret2
      rw [unhide HEND]
      exact ⟨unhide HB3, _, rfl, unhide HQ⟩
    | some x =>
      obtain ⟨p, k⟩ := x
      rw [her] at HERR HEND
      obtain ⟨be, hev, hne, hat⟩ := unhide HERR
      subst hev
      have HAT := hide hat
      clear HOK3 HERR her hat hne
      go_wp2
      go_region
      go_wp2
      go_ret2
      rw [unhide HEND]
      exact ⟨(unhide HB3).drew, be, rfl, unhide HAT⟩
  · have hkk : (((tkAt ts X.2.nx).kind : Int) != 0) = true := by simp; omega
    have HEND : Hid (R = resP (failP ts X.2 eSyntax).er X.1) := (unhide HR).trans (readT_more (unhide HX) hk)
    clear hk HR HX HOK3
    generalize tkAt ts X.2.nx = t at *
    have hgl := (unhide HS3).env.cell 3 (by decide)
    go_wp2_with fail
    refine (fail_any ⟨a, B, rb, g, cap, ts⟩ _ X.2 ev2 eSyntax (by exact unhide HS3)).mono ?_
    rintro e w4 ⟨rfl, ⟨ev4, hs4⟩, hk4⟩
    have HB4 := hide ((unhide HB3).trans ((hk4.below HRB (by have := (unhide HB3).size; omega))))
    obtain ⟨r0, r1, r2, r3, hfr, hrb⟩ := hs4.facts
    have HERR := hide hs4.err
    clear hs4 hk4
    cases her : (failP ts X.2 eSyntax).er with
    | none => exact (fail_nn her).elim
    | some x =>
      obtain ⟨p, k⟩ := x
      rw [her] at HERR HEND
      obtain ⟨be, hev, hne, hat⟩ := unhide HERR
      subst hev
      have HAT := hide hat
      clear HERR her hat hne
      go_wp2
      go_region
      go_wp2
      go_ret2
      rw [unhide HEND]
      exact ⟨(unhide HB4).drew, be, rfl, unhide HAT⟩
end Go.Proofs.YtjnmkmcopfkdfaaGreatDoor
