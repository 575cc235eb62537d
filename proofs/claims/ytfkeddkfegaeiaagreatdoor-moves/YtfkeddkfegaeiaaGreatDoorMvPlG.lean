/-
  Part 21.
-/
import Derived.Test.YtfkeddkfegaeiaaGreatDoorMvPlD
namespace Go.Proofs.YtfkeddkfegaeiaaGreatDoor
open Go.RowKit
theorem store_func (fn : Fn) (f c : Array Value) (a : Addr) (m : Mode) (w : World) : (store a (.func fn f c) m).run Tryz.prog w = stored Tryz.prog w a (.func fn f c) m := run_store Tryz.prog w a _ m rfl
/-- what finding an expr does, so deep. -/
def ValSpec (c : Fc) (n : Nat) : Prop := ∀ (v : Value) (l : List Nd) (F : Fx) (W : World) (sv iv tv ev : Value) (wd : Nat) (ss : List Sr) (er en : Option (Nat × Nat)), ExP c.w0 (fun _ => True) n v l → FS c F W sv iv tv ev wd ss er → Hid (en = orE er (exErr c.T ss l)) →
  Calls Tryz.prog 247 #[.pointer (some ⟨c.fb, 0, none⟩), v] W fun e W' => ∃ g cb, e = .returned (.func (.func g) #[] cb) ∧ ∃ F', FA c F W sv iv tv wd ss en W' F' ∧ (en = none → FnG c.w0 (F'.off c.X) wd g cb (evE (colAt c.T ss) l))
/-- a new block is laid down for good, and is none of those that may turn. -/
theorem FA.fix {c : Fc} {F F' : Fx} {w w' : World} {sv iv tv : Value} {wd : Nat} {ss : List Sr} {er' : Option (Nat × Nat)} (h : FA c F w sv iv tv wd ss er' w' F') {b : Nat} {o : Obj} (hb : b = w'.heap.size) :
    FA c F w sv iv tv wd ss er' (w'.alloc o) (F'.set b o) ∧ (F'.set b o).off c.X b = some o ∧ (F'.off c.X).le ((F'.set b o).off c.X) := by
  subst hb
  obtain ⟨hx, hk, ev', hf⟩ := h
  have hn : F' w'.heap.size = none := hf.grow.noneF (Nat.le_refl _)
  have hX : c.X w'.heap.size = false := by
    cases e : c.X w'.heap.size with
    | false => rfl
    | true => have := hf.fbX _ e; omega
  refine ⟨⟨hx.trans (Ext.set (n := w'.heap.size) o (Nat.le_refl _) hn) hk.size, hk.alloc o, ev', (hf.alloc o).fixNew hf (heap_last rfl) (Nat.le_refl _) hn⟩, Fx.off_some (Fx.set_same _ _ _) hX, Fx.off_mono (Fx.le_set o hn) c.X⟩
set_option maxRecDepth 100000 in
set_option maxHeartbeats 1000000 in
theorem value_num (c : Fc) (F : Fx) (W : World) (sv iv tv ev : Value) (wd : Nat) (ss : List Sr) (er : Option (Nat × Nat)) (h : FS c F W sv iv tv ev wd ss er) (b : Nat) (t : Tk) (hb : c.w0.heap[b]? = some (.cells #[.int .i64 t.place, .int .i64 t.value, .string t.text] 391 (0, 0))) :
    Calls Tryz.prog 247 #[.pointer (some ⟨c.fb, 0, none⟩), .iface 386 (.pointer (some ⟨b, 0, none⟩))] W fun e W' => ∃ g cb, e = .returned (.func (.func g) #[] cb) ∧ ∃ F', FA c F W sv iv tv wd ss er W' F' ∧ FnG c.w0 (F'.off c.X) wd g cb (fun _ => t.value) := by
  have HH := hide h
  have HB := hide hb
  have y1 := yes_Number
  have hmf : ∀ (fn : Fn) (first cap : Array Value) (w : World), (Instr.makeFunc fn first cap).run Tryz.prog w = .ok (.func fn first cap) w := fun _ _ _ _ => rfl
  clear h hb
  go_enter Tryz.func247, Tryz.ntmps247
  go_wp2
  go_ret
  obtain ⟨h1, h2, h3⟩ := FA.fix (⟨Ext.refl _ _, Kp.refl _ _, ev, unhide HH⟩ : FA c F W sv iv tv wd ss er W F) (o := .cells #[.pointer (some ⟨b, 0, none⟩)] 386) rfl
  exact ⟨_, _, rfl, _, h1, fn_num _ _ _ _ _ _ _ h2 (unhide HB)⟩
set_option maxRecDepth 100000 in
set_option maxHeartbeats 1000000 in
theorem value_minus (c : Fc) (n : Nat) (IH : Hid (ValSpec c n)) (F : Fx) (W : World) (sv iv tv ev : Value) (wd : Nat) (ss : List Sr) (er en : Option (Nat × Nat)) (h : FS c F W sv iv tv ev wd ss er) (b : Nat) (p : Int) (x : Value) (k : List Nd) (hb : c.w0.heap[b]? = some (.cells #[.int .i64 p, x] 394 (0, 0))) (hx : ExP c.w0 (fun _ => True) n x k) (hi : IsI x) (hen : Hid (en = orE er (exErr c.T ss k))) :
    Calls Tryz.prog 247 #[.pointer (some ⟨c.fb, 0, none⟩), .iface 392 (.pointer (some ⟨b, 0, none⟩))] W fun e W' => ∃ g cb, e = .returned (.func (.func g) #[] cb) ∧ ∃ F', FA c F W sv iv tv wd ss en W' F' ∧ (en = none → FnG c.w0 (F'.off c.X) wd g cb (fun r => wrap64 (-(evE (colAt c.T ss) k r)))) := by
  have HH := hide h
  have hb' := (h.old.block b (lt_of_heap hb)).trans hb
  obtain ⟨kb, fb⟩ := blk hb'
  have zb := lt_of_heap hb'
  have HX := hide hx
  have y1 := no_Minus_Number
  have y2 := yes_Minus
  have hmf : ∀ (fn : Fn) (first cap : Array Value) (w : World), (Instr.makeFunc fn first cap).run Tryz.prog w = .ok (.func fn first cap) w := fun _ _ _ _ => rfl
  clear h hb hb' hx
  have hsf := store_func
  rcases hi with rfl | ⟨ui, vi, rfl⟩
  · exact absurd (unhide HX) (fun h => by cases n with | zero => exact h | succ n => rcases h with ⟨_, _, h, _⟩ | ⟨_, _, _, _, h, _⟩ | ⟨_, _, _, h, _⟩ | ⟨_, _, _, _, h, _⟩ | ⟨_, _, _, _, _, _, _, h, _⟩ <;> cases h)
  go_enter Tryz.func247, Tryz.ntmps247
  go_wp2_with fail
  refine ((unhide IH) _ k F _ sv iv tv ev wd ss er en (by exact unhide HX) (by exact unhide HH) hen).mono ?_
  rintro e w1 ⟨g, cb, rfl, F1, hfa, hfn⟩
  have HFA := hide hfa
  have HFN := hide hfn
  clear hfa hfn
  go_wp2
  go_ret
  obtain ⟨h1, h2, h3⟩ := FA.fix (unhide HFA) (o := .cells #[.func (.func g) #[] cb] 426) rfl
  exact ⟨_, _, rfl, _, h1, fun he => fn_minus _ _ _ _ _ _ _ _ h2 (((unhide HFN) he).mono h3)⟩
set_option maxRecDepth 100000 in
set_option maxHeartbeats 1000000 in
theorem value_br (c : Fc) (n : Nat) (IH : Hid (ValSpec c n)) (F : Fx) (W : World) (sv iv tv ev : Value) (wd : Nat) (ss : List Sr) (er en : Option (Nat × Nat)) (h : FS c F W sv iv tv ev wd ss er) (b : Nat) (p : Int) (x : Value) (k : List Nd) (hb : c.w0.heap[b]? = some (.cells #[.int .i64 p, x] 399 (0, 0))) (hx : ExP c.w0 (fun _ => True) n x k) (hi : IsI x) (hen : Hid (en = orE er (exErr c.T ss k))) :
    Calls Tryz.prog 247 #[.pointer (some ⟨c.fb, 0, none⟩), .iface 398 (.pointer (some ⟨b, 0, none⟩))] W fun e W' => ∃ g cb, e = .returned (.func (.func g) #[] cb) ∧ ∃ F', FA c F W sv iv tv wd ss en W' F' ∧ (en = none → FnG c.w0 (F'.off c.X) wd g cb (evE (colAt c.T ss) k)) := by
  have HH := hide h
  have hb' := (h.old.block b (lt_of_heap hb)).trans hb
  obtain ⟨kb, fb⟩ := blk hb'
  have zb := lt_of_heap hb'
  have HX := hide hx
  have y1 := no_Bracket_Number
  have y2 := no_Bracket_Minus
  have y3 := no_Bracket_Column
  have y4 := yes_Bracket
  clear h hb hb' hx
  rcases hi with rfl | ⟨ui, vi, rfl⟩
  · exact absurd (unhide HX) (fun h => by cases n with | zero => exact h | succ n => rcases h with ⟨_, _, h, _⟩ | ⟨_, _, _, _, h, _⟩ | ⟨_, _, _, h, _⟩ | ⟨_, _, _, _, h, _⟩ | ⟨_, _, _, _, _, _, _, h, _⟩ <;> cases h)
  go_enter Tryz.func247, Tryz.ntmps247
  go_wp2_with fail
  refine ((unhide IH) _ k F _ sv iv tv ev wd ss er en (by exact unhide HX) (by exact unhide HH) hen).mono ?_
  rintro e w1 ⟨g, cb, rfl, F1, hfa, hfn⟩
  have HFA := hide hfa
  have HFN := hide hfn
  clear hfa hfn
  go_wp2
  go_ret
  exact ⟨_, _, rfl, _, unhide HFA, unhide HFN⟩
set_option maxRecDepth 100000 in
set_option maxHeartbeats 1000000 in
theorem value_col (c : Fc) (F : Fx) (W : World) (sv iv tv ev : Value) (wd : Nat) (ss : List Sr) (er en : Option (Nat × Nat)) (h : FS c F W sv iv tv ev wd ss er) (b : Nat) (pl : Int) (t u : Tk) (hb : c.w0.heap[b]? = some (.cells #[.int .i64 pl, .int .i64 t.place, .string t.text, .int .i64 u.place, .string u.text] 397 (0, 0))) (hen : Hid (en = orE er (ndErr c.T ss (ndCol t u)))) (q : Int) (hq : Hid (q = colAt c.T ss t.text u.text)) :
    Calls Tryz.prog 247 #[.pointer (some ⟨c.fb, 0, none⟩), .iface 395 (.pointer (some ⟨b, 0, none⟩))] W fun e W' => ∃ g cb, e = .returned (.func (.func g) #[] cb) ∧ ∃ F', FA c F W sv iv tv wd ss en W' F' ∧ (en = none → FnG c.w0 (F'.off c.X) wd g cb (fun r => r.getD q.toNat 0)) := by
  have HH := hide h
  have HB := hide hb
  have y1 := no_Column_Number
  have y2 := no_Column_Minus
  have y3 := yes_Column
  have hmf : ∀ (fn : Fn) (first cap : Array Value) (w : World), (Instr.makeFunc fn first cap).run Tryz.prog w = .ok (.func fn first cap) w := fun _ _ _ _ => rfl
  have HCO : Hid (en = none → 0 ≤ q ∧ q < wd) := fun he => by rw [unhide hq]; exact colAt_lt h (orE_eq_none ((unhide hen).symm.trans he)).2
  clear h hb
  go_enter Tryz.func247, Tryz.ntmps247
  go_wp2_with fail
  refine (fcolumn_any c F _ sv iv tv ev wd ss er (by exact unhide HH) b pl t u (unhide HB)).mono ?_
  rw [← unhide hen, ← unhide hq]
  rintro e w1 ⟨rfl, F1, hfa⟩
  have HFA := hide hfa
  clear hfa
  go_wp2
  go_ret
  obtain ⟨h1, h2, h3⟩ := FA.fix (unhide HFA) (o := .cells #[.int .i64 q] 3) rfl
  exact ⟨_, _, rfl, _, h1, fun he => fn_col _ _ _ _ _ _ h2 ((unhide HCO) he)⟩
end Go.Proofs.YtfkeddkfegaeiaaGreatDoor
