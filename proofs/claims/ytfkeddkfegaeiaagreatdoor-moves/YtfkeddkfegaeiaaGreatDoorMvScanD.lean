/-
  Part 5.
-/
import Derived.Test.YtfkeddkfegaeiaaGreatDoorMvScanB
import Derived.Deep.QuietTactic
import Derived.BigQuiet
namespace Go.Proofs.YtfkeddkfegaeiaaGreatDoor
open Go.RowKit
def tkEnd (i : Nat) : Tk := ⟨i, 0, ⟨#[]⟩, 0⟩
/-- the tokens from byte i on, and behind them one for the end (so many rounds at most). -/
def scanFrom (s : ByteArray) : Nat → Nat → Except (Nat × Nat) (List Tk)
  | 0, _ => .ok []
  | f + 1, i =>
    let j := i + lead blankI (s.extract i s.size).data.toList
    if j = s.size then .ok [tkEnd j]
    else match scanOneP s j with
      | .error e => .error e
      | .ok t => match scanFrom s f (j + t.text.size) with
        | .error e => .error e
        | .ok r => .ok (t :: r)
def scanP (s : ByteArray) : Except (Nat × Nat) (List Tk) := scanFrom s (s.size + 1) 0
def tkCells (ts : List Tk) : List Value := ts.flatMap fun t => [.int .i64 t.place, .int .i64 t.kind, .string t.text, .int .i64 t.value]
theorem tkCells_snoc (ts : List Tk) (t : Tk) : tkCells ts ++ [.int .i64 t.place, .int .i64 t.kind, .string t.text, .int .i64 t.value] = tkCells (ts ++ [t]) := by
  simp [tkCells]
theorem ownsRow_keep {w w' : World} {base : Nat} {e : TypeId} {size : Nat} {v : Value} {n : Nat} {xs : List Value} (h : w.ownsRow base e size v n xs) (hb : Below w.heap.size w w') : w'.ownsRow base e size v n xs := by
  obtain ⟨h1, h2⟩ := h
  refine ⟨h1, ?_⟩
  rcases h2 with h2 | ⟨g, cap, cur, hv, hg, hh, r⟩
  · exact Or.inl h2
  · have hlt : g < w.heap.size := by
      rcases Nat.lt_or_ge g w.heap.size with h' | h'
      · exact h'
      · rw [Array.getElem?_eq_none h'] at hh; cases hh
    exact Or.inr ⟨g, cap, cur, hv, hg, by rw [hb.block g hlt]; exact hh, r⟩
theorem lead_pos (p : Int → Bool) (l : List UInt8) (h : p (l.headD 0).toNat = true) (hl : 0 < l.length) : 0 < lead p l := by
  match l, hl with
  | c :: r, _ =>
    have h' : p c.toNat = true := h
    simp [lead, h']
theorem tok_size (s : ByteArray) (i : Nat) (t : Tk) (hi : i < s.size) (h : scanOneP s i = .ok t) : 0 < t.text.size ∧ i + t.text.size ≤ s.size := by
  have hrs : (s.extract i s.size).size = s.size - i := rest_size s i
  have hln := sizeL (s.extract i s.size)
  unfold scanOneP at h
  simp only at h
  have cut : ∀ k, 0 < k → k ≤ (s.extract i s.size).data.toList.length → 0 < ((s.extract i s.size).extract 0 k).size ∧ i + ((s.extract i s.size).extract 0 k).size ≤ s.size := fun k h0 hk => by
    have e : ((s.extract i s.size).extract 0 k).size = k := by rw [ByteArray.size_extract]; omega
    rw [e]; omega
  by_cases hl : letterI (((s.extract i s.size).data.toList.headD 0).toNat : Int) = true
  · rw [if_pos hl] at h
    have hp := lead_pos letterI _ hl (by omega)
    have hq := lead_le letterI (s.extract i s.size).data.toList
    split at h
    · cases h; exact cut _ hp hq
    · split at h
      · cases h
      · cases h; exact cut _ hp hq
  · rw [if_neg hl] at h
    by_cases hd : digitI (((s.extract i s.size).data.toList.headD 0).toNat : Int) = true
    · rw [if_pos hd] at h
      have hp := lead_pos digitI _ hd (by omega)
      have hq := lead_le digitI (s.extract i s.size).data.toList
      split at h
      · cases h; exact cut _ hp hq
      · cases h
    · rw [if_neg hd] at h
      split at h
      · cases h
      · rename_i h0
        cases h
        refine cut _ (Nat.pos_of_ne_zero h0) ?_
        rw [hln]
        unfold signLen
        split
        · rename_i h2
          have : ¬ ¬ 2 ≤ (s.extract i s.size).size := fun hn => by rw [sign2_short _ hn] at h2; cases h2
          omega
        · split <;> omega
theorem infoTk : (Tryz.prog.info? 173).map (fun i => (i.zero, i.size, i.bytes)) = some (some (.agg #[.int .i64 0, .int .i64 0, .string ⟨#[]⟩, .int .i64 0]), 4, 40) := by kernel_rfl
theorem cell_new {w : World} {cs : List Value} {t : TypeId} {n : Nat} (hn : n = w.heap.size) : ∀ j u, cs[j]? = some u → (w.alloc (.cells cs.toArray t)).cell? ((⟨n, 0, none⟩ : Addr).add j) = some u := by
  intro j u h
  obtain ⟨hc, _⟩ := blk (heap_last (w := w) (o := .cells cs.toArray t) hn)
  have e : ((⟨n, 0, none⟩ : Addr).add j) = ⟨n, j, none⟩ := by simp [Addr.add]; omega
  rw [e, hc]
  simpa using h
theorem one4 (a b : Int) (s : ByteArray) (c : Int) : ∀ u ∈ [Value.int .i64 a, .int .i64 b, .string s, .int .i64 c], u.oneCell' = true := by
  intro u hu
  simp only [List.mem_cons, List.mem_nil_iff, or_false] at hu
  rcases hu with rfl | rfl | rfl | rfl <;> rfl
/-- what scan leaves. -/
def ScanPost (a : Nat → Addr) (w : World) (R : Except (Nat × Nat) (List Tk)) (e : Ending) (w' : World) : Prop := match R with
  | .ok ts => ∃ v, e = .returned (.tuple #[v, .nilIface]) ∧ w'.ownsRow w.heap.size 173 4 v ts.length (tkCells ts) ∧ Below w.heap.size w w'
  | .error (p, k) => ∃ b, e = .returned (.tuple #[.slice none 0 0, .iface 110 (.pointer (some ⟨b, 0, none⟩))]) ∧ w.heap.size ≤ b ∧ b < w'.heap.size ∧ AtBlk w' b p (errV a k) ∧ Below w.heap.size w w'
theorem scan_end {a : Nat → Addr} {w w' w1 : World} {R : Except (Nat × Nat) (List Tk)} {ts : List Tk} {i n : Nat} {v' : Value} {row : Option Nat} {o : Obj} (hX : R = .ok (ts ++ [tkEnd (i + n)])) (hB : Below w.heap.size w w')
    (ho : w1.ownsRow w.heap.size 173 4 v' (ts.length + 1) (tkCells ts ++ [.int .i64 ((i : Int) + (n : Int)), .int .i64 0, .string ⟨#[]⟩, .int .i64 0]))
    (hg : (w'.alloc o).grownBy w1 row) (hr : ∀ k, row = some k → w.heap.size ≤ k) : ScanPost a w R (.returned (.tuple #[v', .nilIface])) w1 := by
  subst hX
  refine ⟨v', rfl, ?_, ?_⟩
  · have e : tkCells (ts ++ [tkEnd (i + n)]) = tkCells ts ++ [.int .i64 ((i : Int) + (n : Int)), .int .i64 0, .string ⟨#[]⟩, .int .i64 0] := by
      rw [← tkCells_snoc]; simp [tkEnd]
    rw [e, List.length_append]; exact ho
  · exact (hB.alloc hB.size _).grown hg (Nat.le_trans hB.size (by simp)) hr
theorem scan_bad {a : Nat → Addr} {w w' w1 : World} {R : Except (Nat × Nat) (List Tk)} {p k b : Nat} {o : Obj} (hX : R = .error (p, k)) (hB : Below w.heap.size w w') (hb : Below w'.heap.size w' w1) (h1 : w'.heap.size ≤ b) (h2 : b < w1.heap.size)
    (hat : AtBlk w1 b p (errV a k)) : ScanPost a w R (.returned (.tuple #[.slice none 0 0, .iface 110 (.pointer (some ⟨b, 0, none⟩))])) (w1.alloc o) := by
  subst hX
  have := hB.size
  have := hb.size
  exact ⟨b, rfl, by omega, by simp; omega, hat.alloc _, (hB.trans (hb.mono hB.size)).alloc (by omega) _⟩
/-- the token's own box, behind the append. -/
theorem scan_kept {w' w1 w2 : World} {row : Option Nat} {c : Array Value} {t : TypeId} {o : Obj} (hb : Below w'.heap.size w' w1) (hg : ((w1.alloc (.cells c t)).alloc o).grownBy w2 row) (hr : ∀ k, row = some k → k < w'.heap.size) :
    ∀ j, w2.cell? ⟨w1.heap.size, j, none⟩ = c[j]? := by
  have h : w2.heap[w1.heap.size]? = some (.cells c t (0, 0)) := by
    rw [hg.block _ (by simp; omega) (fun e => by have := hr _ e.symm; have := hb.size; omega)]
    exact heap_prev (heap_last rfl)
  exact (blk h).1
/-- the loop's relation: so far the tokens ts, and what comes of the rest. -/
def ScanRel (s : ByteArray) (w : World) (R : Except (Nat × Nat) (List Tk)) (v : Value) (i : Nat) (wr : World) : Prop :=
  ∃ (f : Nat) (ts : List Tk), s.size < f + i ∧ ts.length ≤ i ∧ wr.ownsRow w.heap.size 173 4 v ts.length (tkCells ts) ∧ Below w.heap.size w wr ∧
    R = match scanFrom s f i with
      | .error e => .error e
      | .ok r => .ok (ts ++ r)
theorem scan_next {s : ByteArray} {w w' w1 w2 : World} {R : Except (Nat × Nat) (List Tk)} {v' : Value} {i n f : Nat} {ts : List Tk} {t : Tk} {row : Option Nat} {o o' : Obj} (hf : s.size < f + 1 + i) (htl : ts.length ≤ i) (htz : 0 < t.text.size)
    (hX : R = match (match scanFrom s f (i + n + t.text.size) with
          | .error e => .error e
          | .ok r => .ok (t :: r) : Except (Nat × Nat) (List Tk)) with
          | .error e => .error e
          | .ok r => .ok (ts ++ r)) (hB : Below w.heap.size w w') (hb : Below w'.heap.size w' w1)
    (ho : w2.ownsRow w.heap.size 173 4 v' (ts.length + 1) (tkCells ts ++ [.int .i64 t.place, .int .i64 t.kind, .string t.text, .int .i64 t.value]))
    (hg : ((w1.alloc o).alloc o').grownBy w2 row) (hr : ∀ k, row = some k → w.heap.size ≤ k) : ScanRel s w R v' (i + n + t.text.size) w2 := by
  have h1 := hB.size
  have h2 := hb.size
  refine ⟨f, ts ++ [t], by omega, by simp; omega, ?_, ?_, ?_⟩
  · rw [← tkCells_snoc, List.length_append]; exact ho
  · exact ((((hB.trans (hb.mono h1)).alloc (by omega) _).alloc (by simp; omega) _).grown hg (by simp; omega) hr)
  · rw [hX]
    cases scanFrom s f (i + n + t.text.size) with
    | error e => rfl
    | ok r => simp
set_option maxHeartbeats 1000000 in
theorem scan_walk (s : ByteArray) (a : Nat → Addr) (B : Nat) (w : World) (HE : Hid (Env a B w)) (hs : s.size ≤ 1000) (R : Except (Nat × Nat) (List Tk)) (HR : Hid (R = scanP s)) :
    Calls Tryz.prog 60 #[.string s] w fun e w' => ScanPost a w R e w' := by
  have hd : decide (1000 < (s.size : Int)) = false := by simp; omega
  obtain ⟨i0, hi, hinf⟩ := Option.map_eq_some_iff.1 infoTk
  simp only [Prod.mk.injEq] at hinf
  obtain ⟨hz0, hz1, hz2⟩ := hinf
  have HI := hide hi
  have HZ0 := hide hz0
  have HZ1 := hide hz1
  have HZ2 := hide hz2
  clear hi hz0 hz1 hz2
  go_enter Tryz.func60, Tryz.ntmps60
  go_wp2_with fail
  go_loopw [4, 5] (fun v t wr => ∃ i : Nat, i ≤ s.size ∧ t = .int .i64 i ∧ ScanRel s w R v i wr) (fun _ t _ => s.size - (intOf t).toNat)
  case atStart => exact ⟨0, Nat.zero_le _, rfl, s.size + 1, [], by omega, by simp, World.ownsRow_nil _ _ _ _, Below.refl _ _, by rw [unhide HR]; unfold scanP; cases scanFrom s (s.size + 1) 0 <;> rfl⟩
  case round =>
    obtain ⟨i, hi, rfl, hrel⟩ := hrel
    obtain ⟨f, ts, hf, htl, hown, hbl, hR⟩ := hrel
    have HRR := hide hR
    have HO := hide hown
    have HBL := hide hbl
    clear hR hown hbl
    match f, hf, HRR with
    | 0, hf, _ => exact absurd hf (by omega)
    | f + 1, hf, HRR =>
    have hlead := lead_le blankI (s.extract i s.size).data.toList
    rw [sizeL, rest_size] at hlead
    have hm : (s.extract i s.size).size ≤ maxLen := by rw [rest_size]; unfold maxLen; omega
    have HM := hide hm
    clear hm
    have hq : ((s.extract i s.size).extract 0 (lead blankI (s.extract i s.size).data.toList)).size = lead blankI (s.extract i s.size).data.toList := by
      rw [ByteArray.size_extract, rest_size]; omega
    have HQ := hide hq
    clear hq
    go_wp2_with fail
    refine (leading_blank _ _ (unhide HM)).mono ?_
    rintro e w' ⟨rfl, rfl⟩
    have hq := unhide HQ
    clear HQ HM
    have HN : Hid (R = match (if i + lead blankI (s.extract i s.size).data.toList = s.size then .ok [tkEnd (i + lead blankI (s.extract i s.size).data.toList)] else match scanOneP s (i + lead blankI (s.extract i s.size).data.toList) with
      | .error e => .error e
      | .ok t => match scanFrom s f (i + lead blankI (s.extract i s.size).data.toList + t.text.size) with
        | .error e => .error e
        | .ok r => .ok (t :: r) : Except (Nat × Nat) (List Tk)) with
      | .error e => .error e
      | .ok r => .ok (ts ++ r)) := unhide HRR
    clear HRR
    generalize (s.extract i s.size).extract 0 (lead blankI (s.extract i s.size).data.toList) = q at *
    generalize lead blankI (s.extract i s.size).data.toList = n at *
    by_cases hj : i + n = s.size
    · have hb : (((i : Int) + (n : Int)) == (s.size : Int)) = true := by simp; omega
      have HX : Hid (R = .ok (ts ++ [tkEnd (i + n)])) := by have := unhide HN; rw [if_pos hj] at this; exact this
      clear HN
      go_wp2_with (at_builtin; refine wpList_append_own _ rfl _ _ 162 rfl w.heap.size 173 i0 (.agg #[.int .i64 0, .int .i64 0, .string ⟨#[]⟩, .int .i64 0]) 4 40 Tryz.underlying162 (unhide HI) (unhide HZ0) (unhide HZ1) (unhide HZ2) rfl (by decide) _ _ _ rfl ((unhide HO).alloc _) ⟨w'.heap.size, 0, none⟩ 1 1 [.int .i64 ((i : Int) + (n : Int)), .int .i64 0, .string ⟨#[]⟩, .int .i64 0] rfl rfl ?c1 ?c2 ?c3 ?c4 ?c5 ?_)
      case c1 => exact cell_new rfl
      case c2 => exact one4 _ _ _ _
      case c3 => unfold maxLen; omega
      case c4 => omega
      case c5 => have := (unhide HBL).size; simp; omega
      intro v' w1 ho hg _
      have HO1 := hide ho
      have HG := hide hg
      clear ho hg
      go_wp2
      go_ret2
      exact scan_end (unhide HX) (unhide HBL) (unhide HO1) (unhide HG) (fun k hk => ((unhide HO).lt k hk).1)
    · have hb : (((i : Int) + (n : Int)) == (s.size : Int)) = false := by simp; omega
      cases hsc : scanOneP s (i + n) with
      | error pk =>
        obtain ⟨p, k⟩ := pk
        have HX : Hid (R = .error (p, k)) := by have := unhide HN; rw [if_neg hj, hsc] at this; exact this
        have HSC := hide hsc
        clear HN hsc
        go_wp2_with fail
        rw [show ((i : Int) + (n : Int)) = ((i + n : Nat) : Int) from by omega]
        refine (scanOne_err s (i + n) p k a B _ ((unhide HE).keep ((unhide HBL).mono (unhide HE).size)) (by omega) hs (unhide HSC)).mono ?_
        rintro e w1 ⟨b, rfl, hb1, hb2, hat, hbe⟩
        have HAT := hide hat
        have HBE := hide hbe
        clear hat hbe
        go_wp2
        go_ret2
        exact scan_bad (unhide HX) (unhide HBL) (unhide HBE) hb1 hb2 (unhide HAT)
      | ok t =>
        have HX : Hid (R = match (match scanFrom s f (i + n + t.text.size) with
          | .error e => .error e
          | .ok r => .ok (t :: r) : Except (Nat × Nat) (List Tk)) with
          | .error e => .error e
          | .ok r => .ok (ts ++ r)) := by have := unhide HN; rw [if_neg hj, hsc] at this; exact this
        have htz := tok_size s (i + n) t (by omega) hsc
        have HSC := hide hsc
        clear HN hsc
        go_wp2_with fail
        rw [show ((i : Int) + (n : Int)) = ((i + n : Nat) : Int) from by omega]
        refine (scanOne_ok s (i + n) t a B _ ((unhide HE).keep ((unhide HBL).mono (unhide HE).size)) (by omega) hs (unhide HSC)).mono ?_
        rintro e w1 ⟨rfl, hbe⟩
        have HBE := hide hbe
        clear hbe
        go_wp2_with (at_builtin; refine wpList_append_own _ rfl _ _ 162 rfl w.heap.size 173 i0 (.agg #[.int .i64 0, .int .i64 0, .string ⟨#[]⟩, .int .i64 0]) 4 40 Tryz.underlying162 (unhide HI) (unhide HZ0) (unhide HZ1) (unhide HZ2) rfl (by decide) _ _ _ rfl (((ownsRow_keep (unhide HO) (unhide HBE)).alloc _).alloc _) ⟨w1.heap.size + 1, 0, none⟩ 1 1 [.int .i64 t.place, .int .i64 t.kind, .string t.text, .int .i64 t.value] rfl rfl ?c1 ?c2 ?c3 ?c4 ?c5 ?_)
        case c1 => exact cell_new (by simp)
        case c2 => exact one4 _ _ _ _
        case c3 => unfold maxLen; omega
        case c4 => omega
        case c5 => have := (unhide HBL).size; have := (unhide HBE).size; simp; omega
        intro v' w2 ho hg _
        have HO1 := hide ho
        have HG := hide hg
        have hc := scan_kept (unhide HBE) (unhide HG) (fun k hk => ((unhide HO).lt k hk).2)
        clear ho hg
        go_wp2
        exact ⟨⟨i + n + t.text.size, by omega, by go_num, scan_next hf htl htz.1 (unhide HX) (unhide HBL) (unhide HBE) (unhide HO1) (unhide HG) (fun k hk => ((unhide HO).lt k hk).1)⟩, by simp [intOf]; omega⟩
end Go.Proofs.YtfkeddkfegaeiaaGreatDoor
namespace Go.Proofs.YtfkeddkfegaeiaaGreatDoor
open Go.RowKit
/-- what stands fast while a text is read: the errors' addresses, a bound below which nothing turns, the reader's block, the tokens' block and capacity, the tokens. -/
structure Cx where
  a : Nat → Addr
  B : Nat
  rb : Nat
  tb : Nat
  cap : Nat
  ts : List Tk
/-- the reader's state: the next token, how deep, the first error (its place, which one). -/
structure St where
  nx : Nat
  dp : Nat
  er : Option (Nat × Nat)
def tkAt (ts : List Tk) (i : Nat) : Tk := ts.getD i (tkEnd 0)
/-- the error's value. -/
def ErrIs (c : Cx) (w : World) (ev : Value) : Option (Nat × Nat) → Prop
  | none => ev = .nilIface
  | some (p, k) => ∃ b, ev = .iface 110 (.pointer (some ⟨b, 0, none⟩)) ∧ b ≠ c.rb ∧ AtBlk w b p (errV c.a k)
structure RS (c : Cx) (w : World) (st : St) (ev : Value) : Prop where
  env : Env c.a c.B w
  low : c.B ≤ c.rb
  ne : c.tb ≠ c.rb
  len : c.ts.length ≤ 1001
  last : ∀ i, i < c.ts.length → (tkAt c.ts i).kind ≠ 0 → i + 1 < c.ts.length
  nx : st.nx < c.ts.length
  dp : st.dp ≤ 17
  reader : w.heap[c.rb]? = some (.cells #[.slice (some ⟨c.tb, 0, none⟩) c.ts.length c.cap, .int .i64 st.nx, .int .i64 st.dp, ev] 167 (0, 0))
  tokens : ∃ cur : Array Value, w.heap[c.tb]? = some (.cells cur 173 (0, 0)) ∧ cur.toList.take (c.ts.length * 4) = tkCells c.ts
  err : ErrIs c w ev st.er
theorem lt_of_heap {w : World} {b : Nat} {o : Obj} (h : w.heap[b]? = some o) : b < w.heap.size := by
  rcases Nat.lt_or_ge b w.heap.size with h' | h'
  · exact h'
  · rw [Array.getElem?_eq_none h'] at h; cases h
theorem ErrIs.kp {c : Cx} {w w' : World} {ev : Value} {er : Option (Nat × Nat)} (h : ErrIs c w ev er) (hk : Kp c.rb w w') : ErrIs c w' ev er := by
  match er, h with
  | none, h => exact h
  | some (p, k), ⟨b, hv, hne, hat⟩ => exact ⟨b, hv, hne, (hk.block b (lt_of_heap hat) hne).trans hat⟩
/-- what keeps the reader's own block too. -/
theorem RS.keep {c : Cx} {w w' : World} {st : St} {ev : Value} (h : RS c w st ev) (hb : Below w.heap.size w w') : RS c w' st ev :=
  ⟨h.env.keep (hb.mono h.env.size), h.low, h.ne, h.len, h.last, h.nx, h.dp, (hb.block _ (lt_of_heap h.reader)).trans h.reader,
    let ⟨cur, h1, h2⟩ := h.tokens; ⟨cur, (hb.block _ (lt_of_heap h1)).trans h1, h2⟩, h.err.kp (Kp.ofBelow hb)⟩
theorem RS.alloc {c : Cx} {w : World} {st : St} {ev : Value} (h : RS c w st ev) (o : Obj) : RS c (w.alloc o) st ev := h.keep ((Below.refl _ _).alloc (Nat.le_refl _) _)
theorem RS.drew {c : Cx} {w : World} {st : St} {ev : Value} (h : RS c w st ev) : RS c w.drew st ev := h.keep (Below.refl _ _).drew
theorem tkCells_at (ts : List Tk) (i : Nat) (hi : i < ts.length) : (tkCells ts)[i * 4]? = some (.int .i64 (tkAt ts i).place) ∧ (tkCells ts)[i * 4 + 1]? = some (.int .i64 (tkAt ts i).kind) ∧ (tkCells ts)[i * 4 + 2]? = some (.string (tkAt ts i).text) ∧ (tkCells ts)[i * 4 + 3]? = some (.int .i64 (tkAt ts i).value) := by
  induction ts generalizing i with
  | nil => simp at hi
  | cons t r ih =>
    have e : tkCells (t :: r) = [Value.int .i64 t.place, .int .i64 t.kind, .string t.text, .int .i64 t.value] ++ tkCells r := rfl
    match i with
    | 0 => rw [e]; exact ⟨rfl, rfl, rfl, rfl⟩
    | i + 1 =>
      have := ih i (by simpa using hi)
      have e4 : (i + 1) * 4 = i * 4 + 4 := by omega
      have et : tkAt (t :: r) (i + 1) = tkAt r i := rfl
      rw [et, e, e4]
      refine ⟨?_, ?_, ?_, ?_⟩
      · rw [List.getElem?_append_right (by simp)]; simpa using this.1
      · rw [List.getElem?_append_right (by simp)]; simpa [show i * 4 + 4 + 1 - 4 = i * 4 + 1 from by omega] using this.2.1
      · rw [List.getElem?_append_right (by simp)]; simpa [show i * 4 + 4 + 2 - 4 = i * 4 + 2 from by omega] using this.2.2.1
      · rw [List.getElem?_append_right (by simp)]; simpa [show i * 4 + 4 + 3 - 4 = i * 4 + 3 from by omega] using this.2.2.2
/-- the cells of token i. -/
theorem RS.token {c : Cx} {w : World} {st : St} {ev : Value} (h : RS c w st ev) (i : Nat) (hi : i < c.ts.length) :
    w.cell? ⟨c.tb, i * 4, none⟩ = some (.int .i64 (tkAt c.ts i).place) ∧ w.cell? ⟨c.tb, i * 4 + 1, none⟩ = some (.int .i64 (tkAt c.ts i).kind) ∧ w.cell? ⟨c.tb, i * 4 + 2, none⟩ = some (.string (tkAt c.ts i).text) ∧ w.cell? ⟨c.tb, i * 4 + 3, none⟩ = some (.int .i64 (tkAt c.ts i).value) := by
  obtain ⟨cur, h1, h2⟩ := h.tokens
  obtain ⟨hc, _⟩ := blk h1
  have hk := tkCells_at c.ts i hi
  rw [← h2] at hk
  simp only [hc]
  have up : ∀ j u, (cur.toList.take (c.ts.length * 4))[j]? = some u → cur[j]? = some u := fun j u hu => by
    rw [List.getElem?_take] at hu
    split at hu
    · simpa using hu
    · cases hu
  exact ⟨up _ _ hk.1, up _ _ hk.2.1, up _ _ hk.2.2.1, up _ _ hk.2.2.2⟩
set_option maxHeartbeats 400000 in
theorem peek_any (c : Cx) (w : World) (st : St) (ev : Value) (h : RS c w st ev) :
    Calls Tryz.prog 62 #[.pointer (some ⟨c.rb, 0, none⟩)] w fun e w' => e = .returned (.agg #[.int .i64 (tkAt c.ts st.nx).place, .int .i64 (tkAt c.ts st.nx).kind, .string (tkAt c.ts st.nx).text, .int .i64 (tkAt c.ts st.nx).value]) ∧ Below w.heap.size w w' := by
  obtain ⟨hr, _⟩ := blk h.reader
  obtain ⟨t0, t1, t2, t3⟩ := h.token st.nx h.nx
  have hnx := h.nx
  have hlen := h.len
  have hrb := lt_of_heap h.reader
  have htb : c.tb < w.heap.size := by obtain ⟨cur, h1, _⟩ := h.tokens; exact lt_of_heap h1
  generalize tkAt c.ts st.nx = t at *
  clear h
  go_enter Tryz.func62, Tryz.ntmps62
  go_wp2
  go_region
  go_wp2
  refine bodyPost_ret (v := .agg #[.int .i64 t.place, .int .i64 t.kind, .string t.text, .int .i64 t.value]) (by simp [results, Tryz.results62, go_sem]) rfl ⟨rfl, ?_⟩
  exact ((Below.refl _ _).alloc (Nat.le_refl _) _).drew
theorem field_part (p k : Int) (s : ByteArray) (v : Int) (w : World) : Sem.run Tryz.prog (Instr.field 173 (.agg #[.int .i64 p, .int .i64 k, .string s, .int .i64 v]) 0) w = .ok (.agg #[.int .i64 p]) w := by kernel_rfl
theorem field_kind (p k : Int) (s : ByteArray) (v : Int) (w : World) : Sem.run Tryz.prog (Instr.field 173 (.agg #[.int .i64 p, .int .i64 k, .string s, .int .i64 v]) 1) w = .ok (.int .i64 k) w := by kernel_rfl
/-- behind a call that may have moved the reader. -/
def Aft (c : Cx) (w : World) (st' : St) (w' : World) : Prop := (∃ ev, RS c w' st' ev) ∧ Kp c.rb w w'
theorem ErrIs.setR {c : Cx} {w : World} {ev : Value} {er : Option (Nat × Nat)} (h : ErrIs c w ev er) (off : Nat) (u : Value) : ErrIs c (w.setCell ⟨c.rb, off, none⟩ u) ev er := h.kp ((Kp.refl _ _).setCell _ _)
theorem heap_set {w : World} {b off : Nat} {cs : Array Value} {t : TypeId} {f : Nat × Nat} (h : w.heap[b]? = some (.cells cs t f)) (u : Value) : (w.setCell ⟨b, off, none⟩ u).heap[b]? = some (.cells (cs.setIfInBounds off u) t f) := by
  simp only [World.setCell, Array.getElem?_modify, if_pos, h, Option.map_some]
  rfl
/-- a store into the reader's block, whatever it holds then. -/
theorem RS.set {c : Cx} {w : World} {st st' : St} {ev ev' : Value} {off : Nat} {u : Value} (h : RS c w st ev)
    (hcs : #[.slice (some ⟨c.tb, 0, none⟩) c.ts.length c.cap, .int .i64 st.nx, .int .i64 st.dp, ev].setIfInBounds off u = #[.slice (some ⟨c.tb, 0, none⟩) c.ts.length c.cap, .int .i64 st'.nx, .int .i64 st'.dp, ev'])
    (hnx : st'.nx < c.ts.length) (hdp : st'.dp ≤ 17) (her : ErrIs c (w.setCell ⟨c.rb, off, none⟩ u) ev' st'.er) : RS c (w.setCell ⟨c.rb, off, none⟩ u) st' ev' := by
  refine ⟨h.env.kp ((Kp.refl _ _).setCell _ _) h.low, h.low, h.ne, h.len, h.last, hnx, hdp, ?_, ?_, her⟩
  · rw [heap_set h.reader, hcs]
  · obtain ⟨cur, h1, h2⟩ := h.tokens
    exact ⟨cur, by rw [Below.heap_setCell _ _ _ _ h.ne]; exact h1, h2⟩
theorem RS.setNx {c : Cx} {w : World} {st : St} {ev : Value} (h : RS c w st ev) (n : Nat) (hn : n < c.ts.length) : RS c (w.setCell ⟨c.rb, 1, none⟩ (.int .i64 n)) { st with nx := n } ev :=
  h.set (st' := { st with nx := n }) rfl hn h.dp (h.err.setR _ _)
theorem RS.setDp {c : Cx} {w : World} {st : St} {ev : Value} (h : RS c w st ev) (n : Nat) (hn : n ≤ 17) : RS c (w.setCell ⟨c.rb, 2, none⟩ (.int .i64 n)) { st with dp := n } ev :=
  h.set (st' := { st with dp := n }) rfl h.nx hn (h.err.setR _ _)
/-- what turns one block that is neither the reader's nor the tokens' nor an error's. -/
theorem RS.kpb {c : Cx} {w w' : World} {st : St} {ev : Value} {b : Nat} (h : RS c w st ev) (hk : Kp b w w') (h1 : b ≠ c.rb) (h2 : b ≠ c.tb) (h3 : c.B ≤ b) (h4 : ∀ p e, w.heap[b]? ≠ some (.cells #[.int .i64 p, e] 113 (0, 0))) : RS c w' st ev := by
  refine ⟨h.env.kp hk h3, h.low, h.ne, h.len, h.last, h.nx, h.dp, (hk.block _ (lt_of_heap h.reader) (fun e => h1 e.symm)).trans h.reader, ?_, ?_⟩
  · obtain ⟨cur, e1, e2⟩ := h.tokens
    exact ⟨cur, (hk.block _ (lt_of_heap e1) (fun e => h2 e.symm)).trans e1, e2⟩
  · have he := h.err
    match hr : st.er, he with
    | none, he => exact he
    | some (p, k), ⟨b', hv, hne, hat⟩ =>
      refine ⟨b', hv, hne, (hk.block b' (lt_of_heap hat) (fun e => ?_)).trans hat⟩
      subst e
      exact h4 _ _ hat
def failP (ts : List Tk) (st : St) (k : Nat) : St := { nx := ts.length - 1, dp := st.dp, er := match st.er with | some x => some x | none => some ((tkAt ts st.nx).place, k) }
/-- the facts on the reader's cells that a walk wants. -/
theorem RS.facts {c : Cx} {w : World} {st : St} {ev : Value} (h : RS c w st ev) : w.cell? ⟨c.rb, 0, none⟩ = some (.slice (some ⟨c.tb, 0, none⟩) c.ts.length c.cap) ∧ w.cell? ⟨c.rb, 1, none⟩ = some (.int .i64 st.nx) ∧ w.cell? ⟨c.rb, 2, none⟩ = some (.int .i64 st.dp) ∧ w.cell? ⟨c.rb, 3, none⟩ = some ev ∧ (∀ o, w.frozen? ⟨c.rb, o, none⟩ = false) ∧ c.rb < w.heap.size := by
  obtain ⟨hr, hf⟩ := blk h.reader
  exact ⟨by rw [hr]; rfl, by rw [hr]; rfl, by rw [hr]; rfl, by rw [hr]; rfl, hf, lt_of_heap h.reader⟩
set_option maxHeartbeats 400000 in
theorem fail_old (c : Cx) (w : World) (st : St) (ev : Value) (k : Nat) (h : RS c w st ev) (x : Nat × Nat) (hx : st.er = some x) :
    Calls Tryz.prog 63 #[.pointer (some ⟨c.rb, 0, none⟩), errV c.a k] w fun e w' => e = .returned (.tuple #[]) ∧ Aft c w (failP c.ts st k) w' := by
  obtain ⟨r0, r1, _, r3, hf, hrb⟩ := h.facts
  have hnx := h.nx
  have hlen := h.len
  have he := h.err
  rw [hx] at he
  obtain ⟨b, rfl, hne, hat⟩ := he
  have HH := hide h
  have HX := hide hx
  clear h hx hat
  go_enter Tryz.func63, Tryz.ntmps63
  go_wp2
  go_end0
  refine ⟨rfl, ⟨.iface 110 (.pointer (some ⟨b, 0, none⟩)), ?_⟩, (Kp.refl _ _).setCell _ _⟩
  rw [show ((c.ts.length : Int) - 1) = ((c.ts.length - 1 : Nat) : Int) from by omega]
  have e : failP c.ts st k = { st with nx := c.ts.length - 1 } := by simp [failP, unhide HX]
  rw [e]
  exact (unhide HH).setNx _ (by omega)
set_option maxRecDepth 100000 in
set_option maxHeartbeats 400000 in
theorem fail_new (c : Cx) (w : World) (st : St) (ev : Value) (k : Nat) (h : RS c w st ev) (hx : st.er = none) :
    Calls Tryz.prog 63 #[.pointer (some ⟨c.rb, 0, none⟩), errV c.a k] w fun e w' => e = .returned (.tuple #[]) ∧ Aft c w (failP c.ts st k) w' := by
  obtain ⟨r0, r1, _, r3, hf, hrb⟩ := h.facts
  have hnx := h.nx
  have hlen := h.len
  have he := h.err
  rw [hx] at he
  obtain rfl : ev = .nilIface := he
  have HH := hide h
  have HX := hide hx
  clear h hx
  have hfp := field_part
  go_enter Tryz.func63, Tryz.ntmps63
  go_wp2_with fail
  refine (peek_any c _ st _ (by exact unhide HH)).mono ?_
  rintro e w1 ⟨rfl, hb1⟩
  have HB1 := hide hb1
  clear hb1
  go_wp2_with fail
  refine (Wrong_at _ _ _ _).mono ?_
  rintro e w2 ⟨b, rfl, hb, hb2, hat, hb3⟩
  have HAT := hide hat
  have h2 := ((unhide HH).keep (unhide HB1)).keep hb3
  have HB2 := hide ((unhide HB1).trans (hb3.mono (unhide HB1).size))
  have hsz := (unhide HB1).size
  clear hat hb3 r0 r1 r3 hf
  obtain ⟨r0, r1, _, r3, hf, hrb2⟩ := h2.facts
  have H2 := hide h2
  clear h2
  go_wp2
  go_end0
  refine ⟨rfl, ⟨.iface 110 (.pointer (some ⟨b, 0, none⟩)), ?_⟩, ((Kp.ofBelow (unhide HB2)).setCell _ _).setCell _ _⟩
  rw [show ((c.ts.length : Int) - 1) = ((c.ts.length - 1 : Nat) : Int) from by omega]
  have e : failP c.ts st k = { nx := c.ts.length - 1, dp := st.dp, er := some ((tkAt c.ts st.nx).place, k) } := by simp [failP, unhide HX]
  rw [e]
  refine RS.setNx (st := { st with er := some ((tkAt c.ts st.nx).place, k) }) ?_ _ (by omega)
  refine (unhide H2).set rfl hnx (unhide H2).dp ?_
  exact ⟨b, rfl, by omega, AtBlk.set (unhide HAT) (by show c.rb ≠ b; omega)⟩
theorem fail_any (c : Cx) (w : World) (st : St) (ev : Value) (k : Nat) (h : RS c w st ev) :
    Calls Tryz.prog 63 #[.pointer (some ⟨c.rb, 0, none⟩), errV c.a k] w fun e w' => e = .returned (.tuple #[]) ∧ Aft c w (failP c.ts st k) w' := by
  cases hx : st.er with
  | none => exact fail_new c w st ev k h hx
  | some x => exact fail_old c w st ev k h x hx
end Go.Proofs.YtfkeddkfegaeiaaGreatDoor
