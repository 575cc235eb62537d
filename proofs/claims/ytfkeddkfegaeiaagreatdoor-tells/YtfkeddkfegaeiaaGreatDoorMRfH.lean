/-
  Part 37.
-/
import Derived.Test.YtfkeddkfegaeiaaGreatDoorMRfF
import Derived.Deep.AppendLies
namespace Go.Proofs.YtfkeddkfegaeiaaGreatDoor
open Go.RowKit

/-- Of what was there only the reader, the query, and the two rows may have turned. -/
structure Fr (c : Cf) (w : World) (mv ev : Value) (w' : World) (mv' ev' : Value) : Prop where
  os : w'.os = w.os
  tape : w'.tape = w.tape
  output : w'.output = w.output
  size : w.heap.size ≤ w'.heap.size
  block : ∀ k, k < w.heap.size → k ≠ c.rb → k ≠ c.qb → some k ≠ mv.ownBlock → some k ≠ ev.ownBlock → w'.heap[k]? = w.heap[k]?
  mnew : ∀ b, mv'.ownBlock = some b → mv.ownBlock = some b ∨ w.heap.size ≤ b
  enew : ∀ b, ev'.ownBlock = some b → ev.ownBlock = some b ∨ w.heap.size ≤ b
theorem Fr.ofKp {c : Cf} {w w' : World} (mv ev : Value) (h : Kp c.rb w w') : Fr c w mv ev w' mv ev :=
  ⟨h.os, h.tape, h.output, h.size, fun k hk h1 _ _ _ => h.block k hk h1, fun _ h => Or.inl h, fun _ h => Or.inl h⟩
theorem Fr.trans {c : Cf} {a b d : World} {m1 e1 m2 e2 m3 e3 : Value} (h : Fr c a m1 e1 b m2 e2) (k : Fr c b m2 e2 d m3 e3) : Fr c a m1 e1 d m3 e3 := by
  refine ⟨k.os.trans h.os, k.tape.trans h.tape, k.output.trans h.output, Nat.le_trans h.size k.size, fun i hi h1 h2 h3 h4 => ?_, fun x hx => ?_, fun x hx => ?_⟩
  · refine (k.block i (Nat.lt_of_lt_of_le hi h.size) h1 h2 (fun e => ?_) (fun e => ?_)).trans (h.block i hi h1 h2 h3 h4)
    · rcases h.mnew i e.symm with q | q
      · exact h3 q.symm
      · omega
    · rcases h.enew i e.symm with q | q
      · exact h4 q.symm
      · omega
  · rcases k.mnew x hx with q | q
    · exact h.mnew x q
    · exact Or.inr (Nat.le_trans h.size q)
  · rcases k.enew x hx with q | q
    · exact h.enew x q
    · exact Or.inr (Nat.le_trans h.size q)
theorem infoEx : (Tryz.prog.info? 374).map (fun i => (i.size, i.bytes)) = some (10, 104) := by kernel_rfl
theorem infoExZ : (Tryz.prog.info? 374).map (·.zero) = some (some (.agg #[.string ⟨#[]⟩, .int .i64 0, .int .i64 0, .int .i64 0, .string ⟨#[]⟩, .int .i64 0, .int .i64 0, .string ⟨#[]⟩, .int .i64 0, .int .i64 0])) := by kernel_rfl

theorem infoExA : (Tryz.prog.info? 374).map (fun i => (i.zero, i.size, i.bytes)) = some (some (.agg #[.string ⟨#[]⟩, .int .i64 0, .int .i64 0, .int .i64 0, .string ⟨#[]⟩, .int .i64 0, .int .i64 0, .string ⟨#[]⟩, .int .i64 0, .int .i64 0]), 10, 104) := by kernel_rfl
theorem one10 (sg s1 s2 : ByteArray) (nu k1 a1 k2 a2 A B : Int) : ∀ u ∈ ([.string sg, .int .i64 nu, .int .i64 k1, .int .i64 a1, .string s1, .int .i64 k2, .int .i64 a2, .string s2, .int .i64 A, .int .i64 B] : List Value), u.oneCell' = true := by
  intro u hu
  simp only [List.mem_cons, List.mem_nil_iff, or_false] at hu
  rcases hu with rfl | rfl | rfl | rfl | rfl | rfl | rfl | rfl | rfl | rfl <;> rfl

theorem RF.added {c : Cf} {w W w11 : World} {st : St} {I g cap : Nat} {ms : List Nat} {mv ev : Value} {en : Nat} {ys : List Value} (h : RF c w st I ms mv ev en) (hen : en + 1 ≤ I) (hW : Below w.heap.size w W) (ho : w11.ownsRow c.lo 374 10 (.slice (some ⟨g, 0, none⟩) (en + 1) cap) (en + 1) ys) (hg : W.grownBy w11 ev.ownBlock) (hat : ev.ownBlock = some g ∨ w.heap.size ≤ g) :
    RF c (w11.setCell ⟨c.qb, 21, none⟩ (.slice (some ⟨g, 0, none⟩) (en + 1) cap)) st I ms mv (.slice (some ⟨g, 0, none⟩) (en + 1) cap) (en + 1) ∧ Fr c w mv ev (w11.setCell ⟨c.qb, 21, none⟩ (.slice (some ⟨g, 0, none⟩) (en + 1) cap)) mv (.slice (some ⟨g, 0, none⟩) (en + 1) cap) := by
  obtain ⟨cs, xs, hq, hz, h23, h22, h21, hv, hu⟩ := h.query
  obtain ⟨cur, ht1, ht2⟩ := h.tokens
  have hlow := h.low
  have hne := h.ne
  have evlo : ∀ k, some k = ev.ownBlock → c.lo ≤ k := fun k e => (hu.lt k e.symm).1
  have b11 : ∀ k, k < w.heap.size → some k ≠ ev.ownBlock → w11.heap[k]? = w.heap[k]? := fun k hk hn => (hg.block k (Nat.lt_of_lt_of_le hk hW.size) hn).trans (hW.block k hk)
  have hq11 := (b11 c.qb (lt_of_heap hq) (fun e => by have := evlo _ e; omega)).trans hq
  have hsz : w.heap.size ≤ w11.heap.size := Nat.le_trans hW.size hg.size
  have hmv : w11.ownsRow c.lo 3 1 mv ms.length (intCells ms) := by
    refine ⟨hv.1, hv.2.imp id ?_⟩
    rintro ⟨g', cap', cur', hv', hg', hh, r⟩
    refine ⟨g', cap', cur', hv', hg', (b11 g' (lt_of_heap hh) (fun e => ?_)).trans hh, r⟩
    rcases hu.2 with ⟨rfl, _⟩ | ⟨g2, cap2, cur2, rfl, _, hh2, _⟩
    · cases e
    · have e2 : g' = g2 := by simpa [Value.ownBlock] using e
      subst e2
      rw [hh] at hh2
      simp only [Option.some.injEq, Obj.cells.injEq] at hh2
      exact absurd hh2.2.1 (by decide)
  refine ⟨⟨h.len, h.last, h.kinds, h.nx, h.inx, h.cor, h.stop, h.dp, h.ne, h.low, ?_, ?_, ⟨hen, h.few.2⟩, ⟨cs.setIfInBounds 21 (.slice (some ⟨g, 0, none⟩) (en + 1) cap), ys, ?_, by simp [hz], ?_, ?_, ?_, row_off hmv hlow.2.1, row_off ho hlow.2.1⟩, ⟨cur, ?_, ht2⟩⟩, ?_⟩
  · show c.lo ≤ (w11.setCell ⟨c.qb, 21, none⟩ _).heap.size
    have := h.top
    simp
    omega
  · exact (Below.heap_setCell _ _ _ _ (by show c.rb ≠ c.qb; exact hne.1)).trans ((b11 c.rb (lt_of_heap h.reader) (fun e => by have := evlo _ e; omega)).trans h.reader)
  · exact heap_set hq11 _
  · rw [Array.getElem?_setIfInBounds_ne (by decide)]; exact h23
  · rw [Array.getElem?_setIfInBounds_ne (by decide)]; exact h22
  · rw [Array.getElem?_setIfInBounds_self_of_lt (by omega)]
  · exact (Below.heap_setCell _ _ _ _ (by show c.tb ≠ c.qb; exact hne.2.2)).trans ((b11 c.tb (lt_of_heap ht1) (fun e => by have := evlo _ e; omega)).trans ht1)
  · refine ⟨hg.os.trans hW.os, hg.tape.trans hW.tape, hg.output.trans hW.output, by simp; omega, fun k hk h1 h2 h3 h4 => ?_, fun _ e => Or.inl e, fun b e => ?_⟩
    · exact (Below.heap_setCell _ _ _ _ (by show k ≠ c.qb; exact h2)).trans (b11 k hk h4)
    · have e2 : g = b := by simpa [Value.ownBlock] using e
      subst e2
      exact hat

set_option maxRecDepth 100000 in
set_option maxHeartbeats 1000000 in
theorem radd_any (c : Cf) (w : World) (st : St) (I : Nat) (ms : List Nat) (mv ev : Value) (en : Nat) (h : RF c w st I ms mv ev en) (hen : en + 1 ≤ I) (sg s1 s2 : ByteArray) (nu k1 a1 k2 a2 A B : Int) :
    Calls Tryz.prog 223 #[.pointer (some ⟨c.rb, 0, none⟩), .agg #[.string sg, .int .i64 nu, .int .i64 k1, .int .i64 a1, .string s1, .int .i64 k2, .int .i64 a2, .string s2, .int .i64 A, .int .i64 B]] w fun e w' => ∃ (n : Int) (ev' : Value), e = .returned (.int .i64 n) ∧ RF c w' st I ms mv ev' (en + 1) ∧ Fr c w mv ev w' mv ev' := by
  obtain ⟨i0, hi, hinf⟩ := Option.map_eq_some_iff.1 infoExA
  simp only [Prod.mk.injEq] at hinf
  obtain ⟨hz0, hz1, hz2⟩ := hinf
  have HI := hide hi
  have HZ0 := hide hz0
  have HZ1 := hide hz1
  have HZ2 := hide hz2
  clear hi hz0 hz1 hz2
  obtain ⟨⟨r0, r1, r2, r3, r4⟩, hfr, q23, ⟨t0, t1, t2⟩, zr, zq, zt⟩ := h.facts
  obtain ⟨cs, xs, hq, hz, h23, h22, h21, hv, hu⟩ := h.query
  have hlen := h.len
  have hinx := h.inx
  obtain ⟨kq, fq⟩ := blk hq
  obtain ⟨ae, ce, hev⟩ := row_slice hu
  have hlo := h.top
  have hlw := h.low
  have HH := hide h
  have HQ := hide hq
  have HU := hide hu
  have HV := hide hv
  have q21 : w.cell? ⟨c.qb, 21, none⟩ = some (.slice ae en ce) := by rw [kq, h21, hev]
  subst hev
  clear h hq hu hv kq
  go_enter Tryz.func223, Tryz.ntmps223
  go_upto_region 1 with (fail)
  go_cut [] from 5 to 20 (fun W => ∃ ev', RF c W st I ms mv ev' (en + 1) ∧ Fr c w mv (.slice ae en ce) W mv ev')
  case first =>
    go_region_law (first
      | (refine step_append_lies _ rfl (.tmp 15) (.tmp 17) 106 rfl c.lo 374 i0 (.agg #[.string ⟨#[]⟩, .int .i64 0, .int .i64 0, .int .i64 0, .string ⟨#[]⟩, .int .i64 0, .int .i64 0, .string ⟨#[]⟩, .int .i64 0, .int .i64 0]) 10 104 Tryz.underlying106 (unhide HI) (unhide HZ0) (unhide HZ1) (unhide HZ2) rfl (by decide) (.slice ae en ce) en xs (by simp [Act.eval]) (((unhide HU).alloc _).alloc _) ⟨w.heap.size + 1, 0, none⟩ 1 1 [.string sg, .int .i64 nu, .int .i64 k1, .int .i64 a1, .string s1, .int .i64 k2, .int .i64 a2, .string s2, .int .i64 A, .int .i64 B] (by simp [Act.eval]) rfl (cell_new (by first | rfl | simp)) (one10 _ _ _ _ _ _ _ _ _ _) (by decide) (by unfold maxLen; omega) (by omega) (by simp; omega) _ rfl ?_; intro gt ct w11 ho hg hat _; have K11 := hide ((hg.block c.qb (by simp; omega) (fun e' => by have := ((unhide HU).lt _ e'.symm).1; omega)).trans (heap_prev (heap_prev (unhide HQ)))); obtain ⟨k11, f11⟩ := blk (unhide K11); have z11 := lt_of_heap (unhide K11); have KR11 := hide ((hg.block c.rb (by simp; omega) (fun e' => by have := ((unhide HU).lt _ e'.symm).1; omega)).trans (heap_prev (heap_prev (unhide HH).reader))); obtain ⟨k12, f12⟩ := blk (unhide KR11); have z12 := lt_of_heap (unhide KR11); have HO11 := hide ho; have HG11 := hide hg; have HAT11 := hide hat; clear ho hg hat)
      | fail)
    all_goals
      go_wp2_with fail
      go_meet
      case rel =>
        exact ⟨_, (unhide HH).added hen (by repeat (first | exact Below.refl _ _ | apply Below.drew | refine Below.alloc ?_ (by first | exact Nat.le_refl _ | (simp; done) | (simp; omega)) _)) (unhide HO11) (unhide HG11) ((unhide HAT11).imp id (fun e => by rw [e]; first | exact Nat.le_refl _ | (simp; done) | (simp; omega)))⟩
  case rest =>
    obtain ⟨ev', hr, hf⟩ := hcut
    clear r0 r1 r2 r3 r4 hfr q23 t0 t1 t2 zr zq zt q21
    obtain ⟨⟨r0, r1, r2, r3, r4⟩, hfr, q23, ⟨t0, t1, t2⟩, zr, zq, zt⟩ := hr.facts
    obtain ⟨cs2, xs2, hq2, _, _, _, h21', _, hu2⟩ := hr.query
    obtain ⟨ae2, ce2, hev2⟩ := row_slice hu2
    have q21 : wc.cell? ⟨c.qb, 21, none⟩ = some (.slice ae2 (en + 1) ce2) := by rw [(blk hq2).1, h21', hev2]
    have HR := hide hr
    have HF := hide hf
    clear hr hf hq2 hu2 h21'
    go_wp2
    go_ret
    exact ⟨_, ev', rfl, unhide HR, unhide HF⟩
end Go.Proofs.YtfkeddkfegaeiaaGreatDoor
