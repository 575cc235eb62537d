/-
  The reader: how it lies in memory, and the walks of its small methods.
-/
import Derived.Test.YtjnmkmcopfkdfaaGreatDoorScanD
import Derived.Deep.QuietTactic
import Derived.BigQuiet
namespace Go.Proofs.YtjnmkmcopfkdfaaGreatDoor
open Go.RowKit

/-- what stands fast while a text is read: the errors' addresses, a bound below which nothing turns, the reader's block, the tokens' block and capacity, the tokens. -/
structure Cx where
  a : Nat → Addr
  B : Nat
  rb : Nat
  tb : Nat
  cap : Nat
  ts : List Tk

/-- the reader's state: the next token, how deep, the first error (its place, which one). -/
structure St where
  nx : Nat
  dp : Nat
  er : Option (Nat × Nat)

def tkAt (ts : List Tk) (i : Nat) : Tk := ts.getD i (tkEnd 0)

/-- the error's value. -/
def ErrIs (c : Cx) (w : World) (ev : Value) : Option (Nat × Nat) → Prop
  | none => ev = .nilIface
  | some (p, k) => ∃ b, ev = .iface 64 (.pointer (some ⟨b, 0, none⟩)) ∧ b ≠ c.rb ∧ AtBlk w b p (errV c.a k)

structure RS (c : Cx) (w : World) (st : St) (ev : Value) : Prop where
  env : Env c.a c.B w
  low : c.B ≤ c.rb
  ne : c.tb ≠ c.rb
  len : c.ts.length ≤ 1001
  last : ∀ i, i < c.ts.length → (tkAt c.ts i).kind ≠ 0 → i + 1 < c.ts.length
  nx : st.nx < c.ts.length
  dp : st.dp ≤ 17
  reader : w.heap[c.rb]? = some (.cells #[.slice (some ⟨c.tb, 0, none⟩) c.ts.length c.cap, .int .i64 st.nx, .int .i64 st.dp, ev] 77 (0, 0))
  tokens : ∃ cur : Array Value, w.heap[c.tb]? = some (.cells cur 83 (0, 0)) ∧ cur.toList.take (c.ts.length * 4) = tkCells c.ts
  err : ErrIs c w ev st.er

theorem lt_of_heap {w : World} {b : Nat} {o : Obj} (h : w.heap[b]? = some o) : b < w.heap.size := by
  rcases Nat.lt_or_ge b w.heap.size with h' | h'
  · exact h'
  · rw [Array.getElem?_eq_none h'] at h; cases h

theorem ErrIs.kp {c : Cx} {w w' : World} {ev : Value} {er : Option (Nat × Nat)} (h : ErrIs c w ev er) (hk : Kp c.rb w w') : ErrIs c w' ev er := by
  match er, h with
  | none, h => exact h
  | some (p, k), ⟨b, hv, hne, hat⟩ => exact ⟨b, hv, hne, (hk.block b (lt_of_heap hat) hne).trans hat⟩

/-- what keeps the reader's own block too. -/
theorem RS.keep {c : Cx} {w w' : World} {st : St} {ev : Value} (h : RS c w st ev) (hb : Below w.heap.size w w') : RS c w' st ev :=
  ⟨h.env.keep (hb.mono h.env.size), h.low, h.ne, h.len, h.last, h.nx, h.dp, (hb.block _ (lt_of_heap h.reader)).trans h.reader,
    let ⟨cur, h1, h2⟩ := h.tokens; ⟨cur, (hb.block _ (lt_of_heap h1)).trans h1, h2⟩, h.err.kp (Kp.ofBelow hb)⟩

theorem RS.alloc {c : Cx} {w : World} {st : St} {ev : Value} (h : RS c w st ev) (o : Obj) : RS c (w.alloc o) st ev := h.keep ((Below.refl _ _).alloc (Nat.le_refl _) _)
theorem RS.drew {c : Cx} {w : World} {st : St} {ev : Value} (h : RS c w st ev) : RS c w.drew st ev := h.keep (Below.refl _ _).drew

theorem tkCells_at (ts : List Tk) (i : Nat) (hi : i < ts.length) : (tkCells ts)[i * 4]? = some (.int .i64 (tkAt ts i).place) ∧ (tkCells ts)[i * 4 + 1]? = some (.int .i64 (tkAt ts i).kind) ∧ (tkCells ts)[i * 4 + 2]? = some (.string (tkAt ts i).text) ∧ (tkCells ts)[i * 4 + 3]? = some (.int .i64 (tkAt ts i).value) := by
  induction ts generalizing i with
  | nil => simp at hi
  | cons t r ih =>
    have e : tkCells (t :: r) = [Value.int .i64 t.place, .int .i64 t.kind, .string t.text, .int .i64 t.value] ++ tkCells r := rfl
    match i with
    | 0 => rw [e]; exact ⟨rfl, rfl, rfl, rfl⟩
    | i + 1 =>
      have := ih i (by simpa using hi)
      have e4 : (i + 1) * 4 = i * 4 + 4 := by omega
      have et : tkAt (t :: r) (i + 1) = tkAt r i := rfl
      rw [et, e, e4]
      refine ⟨?_, ?_, ?_, ?_⟩
      · rw [List.getElem?_append_right (by simp)]; simpa using this.1
      · rw [List.getElem?_append_right (by simp)]; simpa [show i * 4 + 4 + 1 - 4 = i * 4 + 1 from by omega] using this.2.1
      · rw [List.getElem?_append_right (by simp)]; simpa [show i * 4 + 4 + 2 - 4 = i * 4 + 2 from by omega] using this.2.2.1
      · rw [List.getElem?_append_right (by simp)]; simpa [show i * 4 + 4 + 3 - 4 = i * 4 + 3 from by omega] using this.2.2.2

/-- the cells of token i. -/
theorem RS.token {c : Cx} {w : World} {st : St} {ev : Value} (h : RS c w st ev) (i : Nat) (hi : i < c.ts.length) :
    w.cell? ⟨c.tb, i * 4, none⟩ = some (.int .i64 (tkAt c.ts i).place) ∧ w.cell? ⟨c.tb, i * 4 + 1, none⟩ = some (.int .i64 (tkAt c.ts i).kind) ∧ w.cell? ⟨c.tb, i * 4 + 2, none⟩ = some (.string (tkAt c.ts i).text) ∧ w.cell? ⟨c.tb, i * 4 + 3, none⟩ = some (.int .i64 (tkAt c.ts i).value) := by
  obtain ⟨cur, h1, h2⟩ := h.tokens
  obtain ⟨hc, _⟩ := blk h1
  have hk := tkCells_at c.ts i hi
  rw [← h2] at hk
  simp only [hc]
  have up : ∀ j u, (cur.toList.take (c.ts.length * 4))[j]? = some u → cur[j]? = some u := fun j u hu => by
    rw [List.getElem?_take] at hu
    split at hu
    · simpa using hu
    · cases hu
  exact ⟨up _ _ hk.1, up _ _ hk.2.1, up _ _ hk.2.2.1, up _ _ hk.2.2.2⟩

set_option maxHeartbeats 400000 in
theorem peek_any (c : Cx) (w : World) (st : St) (ev : Value) (h : RS c w st ev) :
    Calls Tryz.prog 22 #[.pointer (some ⟨c.rb, 0, none⟩)] w fun e w' => e = .returned (.agg #[.int .i64 (tkAt c.ts st.nx).place, .int .i64 (tkAt c.ts st.nx).kind, .string (tkAt c.ts st.nx).text, .int .i64 (tkAt c.ts st.nx).value]) ∧ Below w.heap.size w w' := by
  obtain ⟨hr, _⟩ := blk h.reader
  obtain ⟨t0, t1, t2, t3⟩ := h.token st.nx h.nx
  have hnx := h.nx
  have hlen := h.len
  have hrb := lt_of_heap h.reader
  have htb : c.tb < w.heap.size := by obtain ⟨cur, h1, _⟩ := h.tokens; exact lt_of_heap h1
  generalize tkAt c.ts st.nx = t at *
  clear h
  go_enter Tryz.func22, Tryz.ntmps22
  go_wp2
  go_region
  go_wp2
  refine bodyPost_ret (v := .agg #[.int .i64 t.place, .int .i64 t.kind, .string t.text, .int .i64 t.value]) (by simp [results, Tryz.results22, go_sem]) rfl ⟨rfl, ?_⟩
  exact ((Below.refl _ _).alloc (Nat.le_refl _) _).drew

theorem field_part (p k : Int) (s : ByteArray) (v : Int) (w : World) : Sem.run Tryz.prog (Instr.field 83 (.agg #[.int .i64 p, .int .i64 k, .string s, .int .i64 v]) 0) w = .ok (.agg #[.int .i64 p]) w := by kernel_rfl
theorem field_kind (p k : Int) (s : ByteArray) (v : Int) (w : World) : Sem.run Tryz.prog (Instr.field 83 (.agg #[.int .i64 p, .int .i64 k, .string s, .int .i64 v]) 1) w = .ok (.int .i64 k) w := by kernel_rfl

/-- behind a call that may have moved the reader. -/
def Aft (c : Cx) (w : World) (st' : St) (w' : World) : Prop := (∃ ev, RS c w' st' ev) ∧ Kp c.rb w w'

theorem ErrIs.setR {c : Cx} {w : World} {ev : Value} {er : Option (Nat × Nat)} (h : ErrIs c w ev er) (off : Nat) (u : Value) : ErrIs c (w.setCell ⟨c.rb, off, none⟩ u) ev er := h.kp ((Kp.refl _ _).setCell _ _)

theorem heap_set {w : World} {b off : Nat} {cs : Array Value} {t : TypeId} {f : Nat × Nat} (h : w.heap[b]? = some (.cells cs t f)) (u : Value) : (w.setCell ⟨b, off, none⟩ u).heap[b]? = some (.cells (cs.setIfInBounds off u) t f) := by
  simp only [World.setCell, Array.getElem?_modify, if_pos, h, Option.map_some]
  rfl

/-- a store into the reader's block, whatever it holds then. -/
theorem RS.set {c : Cx} {w : World} {st st' : St} {ev ev' : Value} {off : Nat} {u : Value} (h : RS c w st ev)
    (hcs : #[.slice (some ⟨c.tb, 0, none⟩) c.ts.length c.cap, .int .i64 st.nx, .int .i64 st.dp, ev].setIfInBounds off u = #[.slice (some ⟨c.tb, 0, none⟩) c.ts.length c.cap, .int .i64 st'.nx, .int .i64 st'.dp, ev'])
    (hnx : st'.nx < c.ts.length) (hdp : st'.dp ≤ 17) (her : ErrIs c (w.setCell ⟨c.rb, off, none⟩ u) ev' st'.er) : RS c (w.setCell ⟨c.rb, off, none⟩ u) st' ev' := by
  refine ⟨h.env.kp ((Kp.refl _ _).setCell _ _) h.low, h.low, h.ne, h.len, h.last, hnx, hdp, ?_, ?_, her⟩
  · rw [heap_set h.reader, hcs]
  · obtain ⟨cur, h1, h2⟩ := h.tokens
    exact ⟨cur, by rw [Below.heap_setCell _ _ _ _ h.ne]; exact h1, h2⟩

theorem RS.setNx {c : Cx} {w : World} {st : St} {ev : Value} (h : RS c w st ev) (n : Nat) (hn : n < c.ts.length) : RS c (w.setCell ⟨c.rb, 1, none⟩ (.int .i64 n)) { st with nx := n } ev :=
  h.set (st' := { st with nx := n }) rfl hn h.dp (h.err.setR _ _)
theorem RS.setDp {c : Cx} {w : World} {st : St} {ev : Value} (h : RS c w st ev) (n : Nat) (hn : n ≤ 17) : RS c (w.setCell ⟨c.rb, 2, none⟩ (.int .i64 n)) { st with dp := n } ev :=
  h.set (st' := { st with dp := n }) rfl h.nx hn (h.err.setR _ _)

/-- what turns one block that is neither the reader's nor the tokens' nor an error's. -/
theorem RS.kpb {c : Cx} {w w' : World} {st : St} {ev : Value} {b : Nat} (h : RS c w st ev) (hk : Kp b w w') (h1 : b ≠ c.rb) (h2 : b ≠ c.tb) (h3 : c.B ≤ b) (h4 : ∀ p e, w.heap[b]? ≠ some (.cells #[.int .i64 p, e] 67 (0, 0))) : RS c w' st ev := by
  refine ⟨h.env.kp hk h3, h.low, h.ne, h.len, h.last, h.nx, h.dp, (hk.block _ (lt_of_heap h.reader) (fun e => h1 e.symm)).trans h.reader, ?_, ?_⟩
  · obtain ⟨cur, e1, e2⟩ := h.tokens
    exact ⟨cur, (hk.block _ (lt_of_heap e1) (fun e => h2 e.symm)).trans e1, e2⟩
  · have he := h.err
    match hr : st.er, he with
    | none, he => exact he
    | some (p, k), ⟨b', hv, hne, hat⟩ =>
      refine ⟨b', hv, hne, (hk.block b' (lt_of_heap hat) (fun e => ?_)).trans hat⟩
      subst e
      exact h4 _ _ hat

def failP (ts : List Tk) (st : St) (k : Nat) : St := { nx := ts.length - 1, dp := st.dp, er := match st.er with | some x => some x | none => some ((tkAt ts st.nx).place, k) }

/-- the facts on the reader's cells that a walk wants. -/
theorem RS.facts {c : Cx} {w : World} {st : St} {ev : Value} (h : RS c w st ev) : w.cell? ⟨c.rb, 0, none⟩ = some (.slice (some ⟨c.tb, 0, none⟩) c.ts.length c.cap) ∧ w.cell? ⟨c.rb, 1, none⟩ = some (.int .i64 st.nx) ∧ w.cell? ⟨c.rb, 2, none⟩ = some (.int .i64 st.dp) ∧ w.cell? ⟨c.rb, 3, none⟩ = some ev ∧ (∀ o, w.frozen? ⟨c.rb, o, none⟩ = false) ∧ c.rb < w.heap.size := by
  obtain ⟨hr, hf⟩ := blk h.reader
  exact ⟨by rw [hr]; rfl, by rw [hr]; rfl, by rw [hr]; rfl, by rw [hr]; rfl, hf, lt_of_heap h.reader⟩

set_option maxHeartbeats 400000 in
theorem fail_old (c : Cx) (w : World) (st : St) (ev : Value) (k : Nat) (h : RS c w st ev) (x : Nat × Nat) (hx : st.er = some x) :
    Calls Tryz.prog 23 #[.pointer (some ⟨c.rb, 0, none⟩), errV c.a k] w fun e w' => e = .returned (.tuple #[]) ∧ Aft c w (failP c.ts st k) w' := by
  obtain ⟨r0, r1, _, r3, hf, hrb⟩ := h.facts
  have hnx := h.nx
  have hlen := h.len
  have he := h.err
  rw [hx] at he
  obtain ⟨b, rfl, hne, hat⟩ := he
  have HH := hide h
  have HX := hide hx
  clear h hx hat
  go_enter Tryz.func23, Tryz.ntmps23
  go_wp2
  go_end0
  refine ⟨rfl, ⟨.iface 64 (.pointer (some ⟨b, 0, none⟩)), ?_⟩, (Kp.refl _ _).setCell _ _⟩
  rw [show ((c.ts.length : Int) - 1) = ((c.ts.length - 1 : Nat) : Int) from by omega]
  have e : failP c.ts st k = { st with nx := c.ts.length - 1 } := by simp [failP, unhide HX]
  rw [e]
  exact (unhide HH).setNx _ (by omega)

set_option maxRecDepth 100000 in
set_option maxHeartbeats 400000 in
theorem fail_new (c : Cx) (w : World) (st : St) (ev : Value) (k : Nat) (h : RS c w st ev) (hx : st.er = none) :
    Calls Tryz.prog 23 #[.pointer (some ⟨c.rb, 0, none⟩), errV c.a k] w fun e w' => e = .returned (.tuple #[]) ∧ Aft c w (failP c.ts st k) w' := by
  obtain ⟨r0, r1, _, r3, hf, hrb⟩ := h.facts
  have hnx := h.nx
  have hlen := h.len
  have he := h.err
  rw [hx] at he
  obtain rfl : ev = .nilIface := he
  have HH := hide h
  have HX := hide hx
  clear h hx
  have hfp := field_part
  go_enter Tryz.func23, Tryz.ntmps23
  go_wp2_with fail
  refine (peek_any c _ st _ (by exact unhide HH)).mono ?_
  rintro e w1 ⟨rfl, hb1⟩
  have HB1 := hide hb1
  clear hb1
  go_wp2_with fail
  refine (Wrong_at _ _ _ _).mono ?_
  rintro e w2 ⟨b, rfl, hb, hb2, hat, hb3⟩
  have HAT := hide hat
  have h2 := ((unhide HH).keep (unhide HB1)).keep hb3
  have HB2 := hide ((unhide HB1).trans (hb3.mono (unhide HB1).size))
  have hsz := (unhide HB1).size
  clear hat hb3 r0 r1 r3 hf
  obtain ⟨r0, r1, _, r3, hf, hrb2⟩ := h2.facts
  have H2 := hide h2
  clear h2
  go_wp2
  go_end0
  refine ⟨rfl, ⟨.iface 64 (.pointer (some ⟨b, 0, none⟩)), ?_⟩, ((Kp.ofBelow (unhide HB2)).setCell _ _).setCell _ _⟩
  rw [show ((c.ts.length : Int) - 1) = ((c.ts.length - 1 : Nat) : Int) from by omega]
  have e : failP c.ts st k = { nx := c.ts.length - 1, dp := st.dp, er := some ((tkAt c.ts st.nx).place, k) } := by simp [failP, unhide HX]
  rw [e]
  refine RS.setNx (st := { st with er := some ((tkAt c.ts st.nx).place, k) }) ?_ _ (by omega)
  refine (unhide H2).set rfl hnx (unhide H2).dp ?_
  exact ⟨b, rfl, by omega, AtBlk.set (unhide HAT) (by show c.rb ≠ b; omega)⟩

theorem fail_any (c : Cx) (w : World) (st : St) (ev : Value) (k : Nat) (h : RS c w st ev) :
    Calls Tryz.prog 23 #[.pointer (some ⟨c.rb, 0, none⟩), errV c.a k] w fun e w' => e = .returned (.tuple #[]) ∧ Aft c w (failP c.ts st k) w' := by
  cases hx : st.er with
  | none => exact fail_new c w st ev k h hx
  | some x => exact fail_old c w st ev k h x hx
end Go.Proofs.YtjnmkmcopfkdfaaGreatDoor
