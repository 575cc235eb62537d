/-
  Part 28.
-/
import Derived.Test.YtfkeddkfegaeiaaGreatDoorJ27
import Derived.KernelRfl
namespace Go.Proofs.YtfkeddkfegaeiaaGreatDoor
open Go.RowKit

theorem QueryOk.keepB {w w' : World} {lo : Nat} {v : Value} {x : QueryX} (h : QueryOk w lo v x) (hb : Below w.heap.size w w') : QueryOk w' lo v x := by
  obtain ⟨b', vw, vm, h1, h2, h3, h4, h5⟩ := h
  exact ⟨b', vw, vm, h1, h2, (hb.block _ (lt_of_heap h3)).trans h3, h4.keep (Nat.le_refl _) (Keeps.ofBelow hb), h5.keep (Nat.le_refl _) (Keeps.ofBelow hb)⟩
def tellQ (x : QueryX) : List UInt8 := (layAll ([], false) (tkQuery x)).1
def tellP (s : ByteArray) : Except (Nat × Nat) (List UInt8) := match readP s with
  | .error e => .error e
  | .ok x => .ok (tellQ x)
def TellPost (a : Nat → Addr) (w : World) (R : Except (Nat × Nat) (List UInt8)) (e : Ending) (w' : World) : Prop := Below w.heap.size w w' ∧ match R with
  | .ok l => e = .returned (.tuple #[.string ⟨l.toArray⟩, .nilIface])
  | .error (p, k) => ∃ b, e = .returned (.tuple #[.string ⟨#[]⟩, .iface 110 (.pointer (some ⟨b, 0, none⟩))]) ∧ AtBlk w' b p (errV a k)

theorem tell_long (s : ByteArray) (a : Nat → Addr) (B : Nat) (w : World) (hE : Env a B w) (hs : 1000 < s.size) :
    Calls Tryz.prog 13 #[.string s] w fun e w' => e = .returned (.tuple #[.string ⟨#[]⟩, errV a eLong]) ∧ Below w.heap.size w w' := by
  have HE := hide hE
  clear hE
  go_enter Tryz.func13, Tryz.ntmps13
  go_wp2_with fail
  refine (read_long s a B _ (by exact HE) hs).mono ?_
  rintro e w1 ⟨rfl, h5⟩
  have H5 := hide h5
  clear h5
  go_wp2
  go_ret2
  exact ⟨rfl, unhide H5⟩

theorem tell_bad (s : ByteArray) (a : Nat → Addr) (w : World) (R : Except (Nat × Nat) QueryX) (p k : Nat) (hR : R = .error (p, k)) (hc : Calls Tryz.prog 36 #[.string s] w fun e w' => ReadPost a w R e w') :
    Calls Tryz.prog 13 #[.string s] w fun e w' => TellPost a w (.error (p, k)) e w' := by
  have HC := hide hc
  clear hc
  go_enter Tryz.func13, Tryz.ntmps13
  go_wp2_with fail
  refine (unhide HC).mono ?_
  rintro e w1 ⟨h5, h6⟩
  subst hR
  obtain ⟨b, rfl, h7⟩ := h6
  have H5 := hide h5
  have H7 := hide h7
  clear h5 h7 HC
  go_wp2
  go_ret2
  exact ⟨unhide H5, b, rfl, unhide H7⟩

set_option maxHeartbeats 1000000 in
set_option maxRecDepth 100000 in
theorem tell_good (s : ByteArray) (a : Nat → Addr) (w : World) (R : Except (Nat × Nat) QueryX) (x : QueryX) (hR : R = .ok x) (hf : x.Full) (hcost : cost (tkQuery x) ≤ 2000) (hne : tellQ x ≠ []) (hc : Calls Tryz.prog 36 #[.string s] w fun e w' => ReadPost a w R e w') :
    Calls Tryz.prog 13 #[.string s] w fun e w' => TellPost a w (.ok (tellQ x)) e w' := by
  have HC := hide hc
  clear hc
  have HNE := hide hne
  have HCO := hide hcost
  clear hne hcost
  go_enter Tryz.func13, Tryz.ntmps13
  go_wp2_with fail
  refine (unhide HC).mono ?_
  rintro e w1 ⟨h5, h6⟩
  subst hR
  obtain ⟨v, rfl, hq⟩ := h6
  obtain ⟨bq, hv⟩ : ∃ b, v = .pointer (some ⟨b, 0, none⟩) := let ⟨b, _, _, h1, _⟩ := hq; ⟨b, h1⟩
  subst hv
  have H5 := hide h5
  have HQ := hide hq
  clear h5 hq HC
  have HT0 : Hid (TL w1.heap.size (w1.alloc (.cells #[.pointer none, .slice none 0 0, .bool false] 93)) [] false) := ⟨_, _, Or.inl rfl, heap_last rfl, World.ownsRow_nil _ _ _ _⟩
  have HQ0 : Hid (QueryOk (w1.alloc (.cells #[.pointer none, .slice none 0 0, .bool false] 93)) w.heap.size (.pointer (some ⟨bq, 0, none⟩)) x) := (unhide HQ).keepB ((Below.refl _ _).alloc (Nat.le_refl _) _)
  have HB0 : Hid (Below w.heap.size w (w1.alloc (.cells #[.pointer none, .slice none 0 0, .bool false] 93))) := (unhide H5).alloc (unhide H5).size _
  have hz : w.heap.size ≤ w1.heap.size := (unhide H5).size
  clear HQ H5
  go_wp2_with fail
  refine (tquery_any w1.heap.size _ ([], false) w.heap.size _ x (by exact unhide HQ0) hf (by exact unhide HT0) (by have := unhide HCO; unfold big; show 0 + _ ≤ _; omega)).mono ?_
  rintro e w2 ⟨rfl, hT, hS⟩
  have HT2 := hide hT
  have HB2 := hide ((unhide HB0).trans (hS.below.mono hz))
  clear hT hS HT0 HQ0 HB0
  go_wp2_with fail
  refine (string_any w1.heap.size _ (tellQ x) _ (by exact unhide HT2) (unhide HNE)).mono ?_
  rintro e w3 ⟨rfl, hb3⟩
  have HB3 := hide ((unhide HB2).trans (hb3.mono hz))
  clear hb3
  go_wp2
  go_ret2
  exact ⟨unhide HB3, rfl⟩

theorem toks_nonE {l : List Tk} {m : List TT} (h : m.map (·.1) = l.map (·.text)) (hl : ∀ t ∈ l, 0 < t.text.size) (hm : m ≠ []) : (layAll ([], false) m).1 ≠ [] := by
  have mono : ∀ (m : List TT) (o : Out), o.1 ≠ [] → (layAll o m).1 ≠ [] := by
    intro m
    induction m with
    | nil => intro o h; exact h
    | cons a r ih =>
      intro o ho
      rw [layAll_cons]
      refine ih _ ?_
      unfold lay
      simp [ho]
  match m, l, h, hm with
  | a :: r, t :: l', h, _ =>
    rw [layAll_cons]
    refine mono r _ ?_
    simp only [List.map_cons, List.cons.injEq] at h
    have h0 := hl t List.mem_cons_self
    unfold lay
    rw [h.1]
    intro e
    simp only [List.append_eq_nil_iff] at e
    have : t.text.data.toList.length = 0 := by rw [e.2]; rfl
    rw [sizeL] at this
    omega
theorem tkSel_ne (x : SelX) : tkSel x ≠ [] := by simp [tkSel]
theorem tkQuery_ne (x : QueryX) : tkQuery x ≠ [] := by
  unfold tkQuery
  intro e
  exact tkSel_ne _ (List.append_eq_nil_iff.1 e).2

theorem tell_any (s : ByteArray) (a : Nat → Addr) (B : Nat) (w : World) (hE : Env a B w) (hs : s.size ≤ 1000) :
    Calls Tryz.prog 13 #[.string s] w fun e w' => TellPost a w (tellP s) e w' := by
  unfold tellP
  cases hsc : scanP s with
  | error e =>
    obtain ⟨p, k⟩ := e
    have hr : readP s = .error (p, k) := by unfold readP; rw [hsc]
    rw [hr]
    exact tell_bad s a w _ p k rfl (read_scan s a B w hE hs p k hsc)
  | ok ts =>
    obtain ⟨l, hl⟩ := scanP_shape hsc
    have hr0 : readP s = readT ts := by unfold readP; rw [hsc]
    have hc := read_ok s a B w hE hs ts l hsc hl (readT ts) rfl
    rw [hr0]
    cases hr : readT ts with
    | error e =>
      obtain ⟨p, k⟩ := e
      exact tell_bad s a w _ p k hr hc
    | ok x =>
      obtain ⟨_, _, _, hf, heq, _⟩ := readT_ok hl hr
      have h1 := hl.sum
      have h2 := hl.len
      exact tell_good s a w _ x hr hf (by rw [cost_of _ _ heq]; omega) (toks_nonE heq (fun t ht => (hl.all t ht).2.1) (tkQuery_ne x)) hc
theorem tellP_err {s : ByteArray} {p k : Nat} (h : tellP s = .error (p, k)) : p ≤ s.size ∧ (k = eSyntax ∨ k = eNumber ∨ k = eByte ∨ k = eMany) := by
  unfold tellP at h
  cases hr : readP s with
  | error e =>
    rw [hr] at h
    have h1 : e = (p, k) := by cases h; rfl
    subst h1
    exact readP_err hr
  | ok x => rw [hr] at h; cases h
end Go.Proofs.YtfkeddkfegaeiaaGreatDoor
namespace Go.Proofs.YtfkeddkfegaeiaaGreatDoor
def ableS : ByteArray := ⟨#[115, 101, 108, 101, 99, 116, 32, 45, 32, 32, 45, 32, 50, 42, 40, 32, 32, 120, 32, 46, 32, 97, 32, 41, 102, 114, 111, 109, 32, 101, 32, 120]⟩
def ableT : List UInt8 := [115, 101, 108, 101, 99, 116, 32, 45, 45, 50, 32, 42, 32, 40, 120, 46, 97, 41, 32, 102, 114, 111, 109, 32, 101, 32, 120]
def okEq : Except (Nat × Nat) (List UInt8) → List UInt8 → Bool
  | .ok l, m => l == m
  | .error _, _ => false
set_option maxRecDepth 100000 in
theorem able_okB : okEq (tellP ableS) ableT = true := by kernel_rfl
theorem able_ok : tellP ableS = .ok ableT := by
  have h := able_okB
  cases ht : tellP ableS with
  | error e => rw [ht] at h; cases h
  | ok l =>
    rw [ht] at h
    have : l = ableT := by simpa [okEq] using h
    rw [this]
open Go.RowKit
theorem TellPost.err {a : Nat → Addr} {w w' : World} {R : Except (Nat × Nat) (List UInt8)} {e : Ending} {p k : Nat} (h : TellPost a w R e w') (hR : R = .error (p, k)) : ∃ b, e = .returned (.tuple #[.string ⟨#[]⟩, .iface 110 (.pointer (some ⟨b, 0, none⟩))]) ∧ AtBlk w' b p (errV a k) ∧ Below w.heap.size w w' := by
  subst hR
  obtain ⟨b, h1, h2⟩ := h.2
  exact ⟨b, h1, h2, h.1⟩
theorem TellPost.ok {a : Nat → Addr} {w w' : World} {R : Except (Nat × Nat) (List UInt8)} {e : Ending} {l : List UInt8} (h : TellPost a w R e w') (hR : R = .ok l) : e = .returned (.tuple #[.string ⟨l.toArray⟩, .nilIface]) ∧ Below w.heap.size w w' := by
  subst hR
  exact ⟨h.2, h.1⟩
theorem tell_able (a : Nat → Addr) (B : Nat) (w : World) (h : Env a B w) :
    Calls Tryz.prog 13 #[.string ableS] w fun e w' => e = .returned (.tuple #[.string ⟨ableT.toArray⟩, .nilIface]) ∧ Below w.heap.size w w' :=
  (tell_any ableS a B w h (by decide)).mono fun _ _ hp => hp.ok able_ok

set_option maxRecDepth 100000 in
set_option maxHeartbeats 1000000 in
theorem able_any (a : Nat → Addr) (B : Nat) (w : World) (h : Env a B w) :
    Calls Tryz.prog 16 #[] w fun e w' => e = .returned (.bool true) ∧ Below w.heap.size w w' := by
  have HC := hide (tell_able a B w h)
  clear h
  unfold ableS ableT at HC
  go_enter Tryz.func16, Tryz.ntmps16
  go_wp2_with fail
  refine (unhide HC).mono ?_
  rintro e w1 ⟨rfl, h1⟩
  go_wp2
  go_ret
  exact ⟨rfl, h1⟩
end Go.Proofs.YtfkeddkfegaeiaaGreatDoor
