/-
  Part 27.
-/
import Derived.Test.YtfkeddkfegaeiaaGreatDoorMvPlS
namespace Go.Proofs.YtfkeddkfegaeiaaGreatDoor
open Go.RowKit
/-- what finding a select leaves. -/
def SelDone (c : Fc) (F : Fx) (fs : Fs) (fns : List (List (List Int) → List Int)) (tns : List (List Int → Bool)) (er : Option (Nat × Nat)) (e : Ending) (W' : World) : Prop := ∃ F' sv iv tv ev ivs tvs, F.le F' ∧ FT c F' fs sv iv tv ev ivs tvs W' fns tns er ∧ e = .returned (.tuple #[if er.isNone then .pointer (some ⟨c.fb, 2, none⟩) else .pointer none, ev])
set_option maxRecDepth 100000 in
set_option maxHeartbeats 4000000 in
theorem fselection_any (c : Fc) (F : Fx) (W : World) (b lo : Nat) (pl : Int) (vi vs vt : Value) (srcs : List (Tk × Tk)) (h : FS c F W (.slice none 0 0) (.slice none 0 0) (.slice none 0 0) .nilIface 0 [] none)
    (hb : c.w0.heap[b]? = some (.cells #[.int .i64 pl, vi, vs, vt] 256 (0, 0))) (hs : c.w0.ownsRow lo 260 5 vs srcs.length (srCells srcs)) (hs0 : 0 < srcs.length) (hs3 : srcs.length ≤ 3)
    (es : List (ItemA × Value × Option Addr)) (hi : c.w0.ownsRow lo 251 5 vi es.length (itCells es)) (hi0 : 0 < es.length) (hi6 : es.length ≤ 6) (eo : ItemA → List Sr → Option (Nat × Nat)) (fo : ItemA → List Sr → List (List Int) → List Int) (hspec : ∀ e ∈ es, ItemSpec c e.1.place e.2.1 (.pointer e.2.2) e.1.asP e.1.asT (eo e.1) (fo e.1)) (hone : ∀ e ∈ es, IsI e.2.1)
    (us : List (TestA × Value × Value)) (ht : c.w0.ownsRow lo 263 4 vt us.length (tsCells us)) (hu9 : us.length ≤ 1000) (hex : ∀ u ∈ us, ∃ n, ExP c.w0 (fun _ => True) n u.2.1 u.1.l ∧ ExP c.w0 (fun _ => True) n u.2.2 u.1.r) :
    Calls Tryz.prog 124 #[.pointer (some ⟨c.fb, 0, none⟩), .pointer (some ⟨b, 0, none⟩)] W fun e W' => SelDone c F (foldS c.T srcs) (es.map fun e => fo e.1 (foldS c.T srcs).ss) (us.map fun u => tsHolds (colAt c.T (foldS c.T srcs).ss) u.1) (errT c.T (foldS c.T srcs) (errI eo (foldS c.T srcs) es) us) e W' := by
  obtain ⟨ip, hip, hinf⟩ := Option.map_eq_some_iff.1 infoPi
  simp only [Prod.mk.injEq] at hinf
  obtain ⟨hz0, hz1, hz2⟩ := hinf
  have HIP := hide hip
  have HIZ0 := hide hz0
  have HIZ1 := hide hz1
  have HIZ2 := hide hz2
  clear hip hz0 hz1 hz2
  obtain ⟨iq, hip, hinf⟩ := Option.map_eq_some_iff.1 infoPt
  simp only [Prod.mk.injEq] at hinf
  obtain ⟨hz0, hz1, hz2⟩ := hinf
  have HIQ := hide hip
  have HQZ0 := hide hz0
  have HQZ1 := hide hz1
  have HQZ2 := hide hz2
  clear hip hz0 hz1 hz2
  have HH := hide h
  have HEX := hide hex
  obtain ⟨adt, ct, hvt⟩ := owns_shape ht
  subst hvt
  have HTR := hide ht
  clear hex ht
  obtain ⟨gs, cs, rfl, _, zs⟩ := hs.form hs0
  obtain ⟨gi, ci, rfl, _, zi⟩ := hi.form hi0
  have HI := hide hi
  have HSP := hide hspec
  have HONE := hide hone
  clear hi hspec hone
  have HS := hide hs
  have HB := hide hb
  have zb := lt_of_heap hb
  have hbW := (h.old.block b zb).trans hb
  obtain ⟨kb, fb⟩ := blk hbW
  have zbW := lt_of_heap hbW
  clear h hb hs hbW
  go_enter Tryz.func124, Tryz.ntmps124
  go_wp2_with fail
  go_loopg [7, 17] srcs.length (fun f _ i W' => ∃ pre suf F' sv ev, srcs = pre ++ suf ∧ f = suf.length ∧ i = .int .i64 (pre.length : Nat) ∧ F.le F' ∧ FS c F' W' sv (.slice none 0 0) (.slice none 0 0) ev (foldS c.T pre).wd (foldS c.T pre).ss (foldS c.T pre).er)
  case atStart => exact ⟨[], srcs, F, _, _, rfl, rfl, rfl, Fx.le.refl F, unhide HH⟩
  case round =>
    obtain ⟨pre, suf, F1, sv, ev, h1, rfl, rfl, hle, hfs⟩ := hrel
    have l1 : pre.length + suf.length = srcs.length := by rw [h1, List.length_append]
    have HZ := hide h1
    have HLE := hide hle
    have HF := hide hfs
    clear h1 hle hfs kb fb zbW
    cases suf with
    | nil =>
      have hlt : decide (pre.length < srcs.length) = false := by simp at l1 ⊢; omega
      obtain ⟨kb, fb⟩ := blk (((unhide HF).old.block b zb).trans (unhide HB))
      have zbW := lt_of_heap (((unhide HF).old.block b zb).trans (unhide HB))
      go_wp2_with fail
      clear hlt l1
      obtain rfl : pre = srcs := by rw [unhide HZ, List.append_nil]
      generalize hfd : foldS c.T pre = fs at *
      have HFD := hide hfd
      clear hfd HS HZ HH
      go_loopg [9, 30] es.length (fun f _ i W' => ∃ ip is F' iv ev ivs, es = ip ++ is ∧ f = is.length ∧ i = .int .i64 (ip.length : Nat) ∧ ivs.length = ip.length ∧ F.le F' ∧ FI c F' fs sv iv ev ivs W' (ip.map fun e => fo e.1 fs.ss) (errI eo fs ip))
      case atStart => exact ⟨[], es, F1, _, _, [], rfl, rfl, rfl, rfl, unhide HLE, ⟨unhide HF, World.ownsRow_nil _ _ _ _, fun _ => ItsF.nil _ _ _⟩⟩
      case round =>
        clear HF HLE kb fb zbW
        obtain ⟨ip, is, F2, iv, ev2, ivs, h1, rfl, rfl, hln, hle, hfi⟩ := hrel
        have l1 : ip.length + is.length = es.length := by rw [h1, List.length_append]
        have HZ := hide h1
        have HLE := hide hle
        have HF := hide hfi
        have HLN := hide hln
        clear h1 hle hfi hln
        cases is with
        | nil =>
          have hlt : decide (ip.length < es.length) = false := by simp at l1 ⊢; omega
          obtain rfl : ip = es := by rw [unhide HZ, List.append_nil]
          obtain ⟨kb, fb⟩ := blk (((unhide HF).st.old.block b zb).trans (unhide HB))
          have zbW := lt_of_heap (((unhide HF).st.old.block b zb).trans (unhide HB))
          go_wp2_with fail
          clear hlt l1
          generalize hei : errI eo fs ip = ei at *
          have HEI := hide hei
          clear hei HZ HI HSP HONE
          go_loopg [11, 54] us.length (fun f _ i W' => ∃ tp tq F' tv ev tvs, us = tp ++ tq ∧ f = tq.length ∧ i = .int .i64 (tp.length : Nat) ∧ tvs.length = tp.length ∧ F.le F' ∧ FT c F' fs sv iv tv ev ivs tvs W' (ip.map fun e => fo e.1 fs.ss) (tp.map fun u => tsHolds (colAt c.T fs.ss) u.1) (errT c.T fs ei tp))
          case atStart => exact ⟨[], us, F2, _, _, [], rfl, rfl, rfl, rfl, unhide HLE, ⟨(unhide HF).st, (unhide HF).row, (unhide HF).its, World.ownsRow_nil _ _ _ _, fun _ => TsF.nil _ _ _⟩⟩
          case round =>
            clear HF HLE kb fb zbW
            obtain ⟨tp, tq, F3, tv, ev3, tvs, h1, rfl, rfl, hln3, hle, hft⟩ := hrel
            have l1 : tp.length + tq.length = us.length := by rw [h1, List.length_append]
            have HZ := hide h1
            have HLE := hide hle
            have HF := hide hft
            have HLN3 := hide hln3
            clear h1 hle hft hln3
            cases tq with
            | nil =>
              have hlt : decide (tp.length < us.length) = false := by simp at l1 ⊢; omega
              obtain rfl : tp = us := by rw [unhide HZ, List.append_nil]
              have herr := (unhide HF).st.err
              obtain ⟨jj, fz, zf⟩ := (unhide HF).st.facts
              have j6 : wr.cell? ⟨c.fb, 6, none⟩ = some ev3 := jj 6
              clear jj
              generalize hef : errT c.T fs ei tp = ef at *
              have HEF := hide hef
              clear hef
              match ef, herr, HF, HEF with
              | none, herr, HF, HEF =>
                obtain rfl : ev3 = .nilIface := herr
                go_wp2
                refine bodyPost_ret (v := .tuple #[.pointer (some ⟨c.fb, 2, none⟩), .nilIface]) (by simp [results, Tryz.results124, go_sem]) rfl ?_
                refine ⟨F3, sv, iv, tv, .nilIface, ivs, tvs, unhide HLE, ?_, ?_⟩
                · rw [unhide HFD, unhide HEI, unhide HEF]; exact unhide HF
                · rw [unhide HFD, unhide HEI, unhide HEF]; rfl
              | some (p, q), herr, HF, HEF =>
                obtain ⟨bq, rfl, _⟩ := herr
                go_wp2_with fail
                go_region
                all_goals
                  go_wp2
                  refine bodyPost_ret (v := .tuple #[.pointer none, .iface 110 (.pointer (some ⟨bq, 0, none⟩))]) (by simp [results, Tryz.results124, go_sem]) rfl ?_
                  refine ⟨F3, sv, iv, tv, .iface 110 (.pointer (some ⟨bq, 0, none⟩)), ivs, tvs, unhide HLE, ?_, ?_⟩
                  · rw [unhide HFD, unhide HEI, unhide HEF]
                    have h9 := unhide HF
                    exact ⟨h9.st.drew, h9.row.drew, h9.its, h9.trow.drew, h9.tst⟩
                  · rw [unhide HFD, unhide HEI, unhide HEF]; rfl
            | cons y tq =>
              rw [List.length_cons] at l1
              have hlt : decide (tp.length < us.length) = true := by simp; omega
              have HZ2 : Hid (us = (tp ++ [y]) ++ tq) := by unfold Hid; rw [unhide HZ]; simp
              have hym : y ∈ us := by rw [unhide HZ]; simp
              obtain ⟨gt, ct2, ect, _, zt⟩ := (unhide HTR).form (by omega)
              injection ect with ect1 _ ect2
              subst ect1 ect2
              have HC : Hid (∀ j, j < 4 → wr.cell? ⟨gt, tp.length * 4 + j, none⟩ = [Value.int .i64 y.1.place, y.2.1, .string y.1.sg, y.2.2][j]?) := fun j hj => by
                rw [(unhide HF).st.oldCell zt, (unhide HTR).cellAt _ (by omega), unhide HZ, tsCells_at tp tq y j hj]
              obtain ⟨nx, hx1, hx2⟩ := (unhide HEX) y hym
              obtain ⟨x, v1, v2⟩ := y
              have HX1 := hide hx1
              have HX2 := hide hx2
              obtain ⟨u1, v1, rfl⟩ := ExP.isI _ _ _ hx1
              obtain ⟨u2, v2, rfl⟩ := ExP.isI _ _ _ hx2
              have k0 : wr.cell? ⟨gt, tp.length * 4, none⟩ = some (.int .i64 x.place) := (unhide HC) 0 (by omega)
              have k1 : wr.cell? ⟨gt, tp.length * 4 + 1, none⟩ = some (.iface u1 v1) := (unhide HC) 1 (by omega)
              have k2 : wr.cell? ⟨gt, tp.length * 4 + 2, none⟩ = some (.string x.sg) := (unhide HC) 2 (by omega)
              have k3 : wr.cell? ⟨gt, tp.length * 4 + 3, none⟩ = some (.iface u2 v2) := (unhide HC) 3 (by omega)
              clear hym HC hx1 hx2
              go_upto_region 14 with (fail)
              have HF1 : Hid (FT c F3 fs sv iv tv ev3 ivs tvs (wr.alloc (.cells #[.int .i64 x.place, .iface u1 v1, .string x.sg, .iface u2 v2] 263)) (ip.map fun e => fo e.1 fs.ss) (tp.map fun u => tsHolds (colAt c.T fs.ss) u.1) (errT c.T fs ei tp)) := ⟨(unhide HF).st.alloc _, (unhide HF).row.alloc _, (unhide HF).its, (unhide HF).trow.alloc _, (unhide HF).tst⟩
              have HBL : Hid ((wr.alloc (.cells #[.int .i64 x.place, .iface u1 v1, .string x.sg, .iface u2 v2] 263)).heap[wr.heap.size]? = some (.cells #[.int .i64 x.place, .iface u1 v1, .string x.sg, .iface u2 v2] 263 (0, 0))) := heap_last rfl
              clear HF k0 k1 k2 k3
              generalize wr.alloc (.cells #[.int .i64 x.place, .iface u1 v1, .string x.sg, .iface u2 v2] 263) = W1 at *
              generalize wr.heap.size = bb at *
              obtain ⟨kb, fbz⟩ := blk (unhide HBL)
              have zbb := lt_of_heap (unhide HBL)
              obtain ⟨ads, caps, hiv⟩ := owns_shape (unhide HF1).trow
              subst hiv
              obtain ⟨jj, q4, q3⟩ := (unhide HF1).st.facts
              have q1 : W1.cell? ⟨c.fb, 5, none⟩ = some (.slice ads tvs.length caps) := jj 5
              have hsz := (unhide HF1).st.old.size
              have hl6 : tvs.length ≤ 1000 := by rw [unhide HLN3]; omega
              have HNF : Hid ((Value.slice ads tvs.length caps).ownBlock ≠ some c.fb) := (unhide HF1).st.dis.2.2.2.2.2
              obtain ⟨e1, HE1⟩ : ∃ e1, Hid (e1 = orE (errT c.T fs ei tp) (exErr c.T fs.ss x.l)) := ⟨_, rfl⟩
              obtain ⟨en, HEN⟩ : ∃ en, Hid (en = orE e1 (exErr c.T fs.ss x.r)) := ⟨_, rfl⟩
              have HEN2 : Hid (en = orE (errT c.T fs ei tp) (tsErr c.T fs.ss x)) := by unfold Hid tsErr; rw [unhide HEN, unhide HE1, orE_assoc]
              clear jj
              go_region_law (first
                | (refine step_append_lies _ rfl (.tmp 63) (.tmp 67) 295 rfl c.w0.heap.size 364 _ .nilFunc 1 8 Tryz.underlying295 (unhide HIQ) (unhide HQZ0) (unhide HQZ1) (unhide HQZ2) rfl (by decide) (.slice ads tvs.length caps) tvs.length tvs (by simp [Act.eval]) ((unhide HROW).alloc _) ⟨w2.heap.size, 0, none⟩ 1 1 [.func (.func g) #[] cb] (by simp [Act.eval]) rfl (World.news_of_block (cs := #[.func (.func g) #[] cb]) (heap_last rfl)) (one1f _ _ _) (by decide) (by unfold maxLen; omega) (by omega) (by simp; omega) _ rfl ?_; intro g9 cap9 w9 ho hg hat hlt9; have s1 : w9.cell? ⟨c.fb, 5, none⟩ = some (.slice ads tvs.length caps) := (hg.cell_far ⟨c.fb, 5, none⟩ (by simp; omega) (fun e => (unhide HNF) e.symm)).trans ((World.cell?_alloc_lt _ _ ⟨c.fb, 5, none⟩ (by exact q32)).trans q12); have f9 : w9.frozen? ⟨c.fb, 5, none⟩ = false := (hg.frozen_far ⟨c.fb, 5, none⟩ (by simp; omega) (fun e => (unhide HNF) e.symm)).trans ((World.frozen?_of_block (w := w2) (by exact Below.heap_alloc _ _ _ (by exact q32))).trans (q42 _)))
                | (go_simp; go_at_call 198; refine (ftest_any c nx F3 _ sv iv _ ev3 _ _ _ e1 en (by exact (unhide HF1).st.drew) _ x.sg _ _ x.l x.r (unhide HX1) (unhide HX2) HE1 HEN).mono ?_; rintro e w2 ⟨g, cb, rfl, F4, hfa, hit⟩; obtain ⟨ev4, hf4⟩ := hfa.2.2; have HFA := hide hfa.ofDrew; have HIT := hide hit; have HF4 := hide hf4; obtain ⟨jj2, q42, q32⟩ := hf4.facts; have q12 : w2.cell? ⟨c.fb, 5, none⟩ = some (.slice ads tvs.length caps) := jj2 5; have HROW := hide (owns_kpf (unhide HF1).trow (unhide HFA).2.1 (unhide HNF)); have hsz2 := hf4.old.size; clear hfa hit hf4 jj2))
              all_goals
                go_wp2
                go_roundg tq.length
                case measure => simp
                case rel =>
                  have h9 := test_round c F3 fs sv iv _ ev3 ivs tvs _ _ _ w9 w2 F4 ev4 en g9 cap9 g cb _ W1 (unhide HF1) (unhide HFA) (unhide HF4) (unhide HIT) ⟨_, unhide HEN2⟩ hg hat hlt9 ho
                  have e9 : errT c.T fs ei (tp ++ [(x, .iface u1 v1, .iface u2 v2)]) = en := by rw [unhide HEN2]; simp [errT]
                  refine ⟨tp ++ [(x, .iface u1 v1, .iface u2 v2)], tq, F4, .slice (some ⟨g9, 0, none⟩) (tvs.length + 1) cap9, ev4, tvs ++ [.func (.func g) #[] cb], unhide HZ2, rfl, ?_, ?_, (unhide HLE).trans (unhide HFA).1.le, ?_⟩
                  · rw [List.length_append]; go_num
                  · rw [List.length_append, List.length_append, unhide HLN3]; rfl
                  · rw [e9, List.map_append]
                    exact h9
        | cons y is =>
          rw [List.length_cons] at l1
          have hlt : decide (ip.length < es.length) = true := by simp; omega
          have HZ2 : Hid (es = (ip ++ [y]) ++ is) := by unfold Hid; rw [unhide HZ]; simp
          have hym : y ∈ es := by rw [unhide HZ]; simp
          have HC : Hid (∀ j, j < 5 → wr.cell? ⟨gi, ip.length * 5 + j, none⟩ = [Value.int .i64 y.1.place, y.2.1, .pointer y.2.2, .int .i64 y.1.asP, .string y.1.asT][j]?) := fun j hj => by
            rw [(unhide HF).st.oldCell zi, (unhide HI).cellAt _ (by omega), unhide HZ, itCells_at ip is y j hj]
          have HSY := hide ((unhide HSP) y hym)
          have hiy := (unhide HONE) y hym
          obtain ⟨x, v, wa⟩ := y
          have k0 : wr.cell? ⟨gi, ip.length * 5, none⟩ = some (.int .i64 x.place) := (unhide HC) 0 (by omega)
          have k1 : wr.cell? ⟨gi, ip.length * 5 + 1, none⟩ = some v := (unhide HC) 1 (by omega)
          have k2 : wr.cell? ⟨gi, ip.length * 5 + 2, none⟩ = some (.pointer wa) := (unhide HC) 2 (by omega)
          have k3 : wr.cell? ⟨gi, ip.length * 5 + 3, none⟩ = some (.int .i64 x.asP) := (unhide HC) 3 (by omega)
          have k4 : wr.cell? ⟨gi, ip.length * 5 + 4, none⟩ = some (.string x.asT) := (unhide HC) 4 (by omega)
          clear hym HC
          rcases hiy with rfl | ⟨ui, vi, rfl⟩
          · go_upto_region 9 with (fail)
            have HF1 : Hid (FI c F2 fs sv iv ev2 ivs (wr.alloc (.cells #[.int .i64 x.place, .nilIface, .pointer wa, .int .i64 x.asP, .string x.asT] 251)) (ip.map fun e => fo e.1 fs.ss) (errI eo fs ip)) := ⟨(unhide HF).st.alloc _, (unhide HF).row.alloc _, (unhide HF).its⟩
            have HBL : Hid ((wr.alloc (.cells #[.int .i64 x.place, .nilIface, .pointer wa, .int .i64 x.asP, .string x.asT] 251)).heap[wr.heap.size]? = some (.cells #[.int .i64 x.place, .nilIface, .pointer wa, .int .i64 x.asP, .string x.asT] 251 (0, 0))) := heap_last rfl
            have hbf : wr.heap.size ≠ c.fb := by have := (unhide HF).st.grow.ltp; omega
            clear HF k0 k1 k2 k3 k4
            generalize wr.alloc (.cells #[.int .i64 x.place, .nilIface, .pointer wa, .int .i64 x.asP, .string x.asT] 251) = W1 at *
            generalize wr.heap.size = bb at *
            obtain ⟨kb, fbz⟩ := blk (unhide HBL)
            have zbb := lt_of_heap (unhide HBL)
            obtain ⟨ads, caps, hiv⟩ := owns_shape (unhide HF1).row
            subst hiv
            obtain ⟨jj, q4, q3⟩ := (unhide HF1).st.facts
            have q1 : W1.cell? ⟨c.fb, 4, none⟩ = some (.slice ads ivs.length caps) := jj 4
            have hsz := (unhide HF1).st.old.size
            have hl6 : ivs.length ≤ 6 := by rw [unhide HLN]; omega
            have HNF : Hid ((Value.slice ads ivs.length caps).ownBlock ≠ some c.fb) := (unhide HF1).st.dis.2.2.2.2.1
            obtain ⟨en, HEN⟩ : ∃ en, Hid (en = orE (errI eo fs ip) (eo x fs.ss)) := ⟨_, rfl⟩
            clear jj
            go_region_law (first
              | (refine step_append_lies _ rfl (.tmp 39) (.tmp 43) 294 rfl c.w0.heap.size 362 _ .nilFunc 1 8 Tryz.underlying294 (unhide HIP) (unhide HIZ0) (unhide HIZ1) (unhide HIZ2) rfl (by decide) (.slice ads ivs.length caps) ivs.length ivs (by simp [Act.eval]) ((unhide HROW).alloc _) ⟨w2.heap.size, 0, none⟩ 1 1 [.func (.func g) a cb] (by simp [Act.eval]) rfl (World.news_of_block (cs := #[.func (.func g) a cb]) (heap_last rfl)) (one1f _ _ _) (by decide) (by unfold maxLen; omega) (by omega) (by simp; omega) _ rfl ?_; intro g9 cap9 w9 ho hg hat hlt9; have s1 : w9.cell? ⟨c.fb, 4, none⟩ = some (.slice ads ivs.length caps) := (hg.cell_far ⟨c.fb, 4, none⟩ (by simp; omega) (fun e => (unhide HNF) e.symm)).trans ((World.cell?_alloc_lt _ _ ⟨c.fb, 4, none⟩ (by exact q32)).trans q12); have f9 : w9.frozen? ⟨c.fb, 4, none⟩ = false := (hg.frozen_far ⟨c.fb, 4, none⟩ (by simp; omega) (fun e => (unhide HNF) e.symm)).trans ((World.frozen?_of_block (w := w2) (by exact Below.heap_alloc _ _ _ (by exact q32))).trans (q42 _)))
              | (go_simp; go_at_call 197; refine ((unhide HSY) F2 _ sv _ _ ev2 _ _ _ en (by exact (unhide HF1).st.drew) HEN).mono ?_; rintro e w2 ⟨g, a, cb, rfl, F3, hfa, hit⟩; obtain ⟨ev3, hf3⟩ := hfa.2.2; have HFA := hide hfa.ofDrew; have HIT := hide hit; have HF3 := hide hf3; obtain ⟨jj2, q42, q32⟩ := hf3.facts; have q12 : w2.cell? ⟨c.fb, 4, none⟩ = some (.slice ads ivs.length caps) := jj2 4; have HROW := hide (owns_kpf (unhide HF1).row (unhide HFA).2.1 (unhide HNF)); have hsz2 := hf3.old.size; clear hfa hit hf3 jj2))
            all_goals
              go_wp2
              go_roundg is.length
              case measure => simp
              case rel =>
                have h9 := item_round c F2 fs sv _ ev2 ivs _ _ w9 w2 F3 ev3 en g9 cap9 g a cb _ W1 (unhide HF1) (unhide HFA) (unhide HF3) (unhide HIT) ⟨_, unhide HEN⟩ hg hat hlt9 ho
                have e9 : errI eo fs (ip ++ [(x, .nilIface, wa)]) = en := by rw [unhide HEN]; simp [errI]
                refine ⟨ip ++ [(x, .nilIface, wa)], is, F3, .slice (some ⟨g9, 0, none⟩) (ivs.length + 1) cap9, ev3, ivs ++ [.func (.func g) a cb], unhide HZ2, rfl, ?_, ?_, (unhide HLE).trans (unhide HFA).1.le, ?_⟩
                · rw [List.length_append]; go_num
                · rw [List.length_append, List.length_append, unhide HLN]; rfl
                · rw [e9, List.map_append]
                  exact h9
          · go_upto_region 9 with (fail)
            have HF1 : Hid (FI c F2 fs sv iv ev2 ivs (wr.alloc (.cells #[.int .i64 x.place, (.iface ui vi), .pointer wa, .int .i64 x.asP, .string x.asT] 251)) (ip.map fun e => fo e.1 fs.ss) (errI eo fs ip)) := ⟨(unhide HF).st.alloc _, (unhide HF).row.alloc _, (unhide HF).its⟩
            have HBL : Hid ((wr.alloc (.cells #[.int .i64 x.place, (.iface ui vi), .pointer wa, .int .i64 x.asP, .string x.asT] 251)).heap[wr.heap.size]? = some (.cells #[.int .i64 x.place, (.iface ui vi), .pointer wa, .int .i64 x.asP, .string x.asT] 251 (0, 0))) := heap_last rfl
            have hbf : wr.heap.size ≠ c.fb := by have := (unhide HF).st.grow.ltp; omega
            clear HF k0 k1 k2 k3 k4
            generalize wr.alloc (.cells #[.int .i64 x.place, (.iface ui vi), .pointer wa, .int .i64 x.asP, .string x.asT] 251) = W1 at *
            generalize wr.heap.size = bb at *
            obtain ⟨kb, fbz⟩ := blk (unhide HBL)
            have zbb := lt_of_heap (unhide HBL)
            obtain ⟨ads, caps, hiv⟩ := owns_shape (unhide HF1).row
            subst hiv
            obtain ⟨jj, q4, q3⟩ := (unhide HF1).st.facts
            have q1 : W1.cell? ⟨c.fb, 4, none⟩ = some (.slice ads ivs.length caps) := jj 4
            have hsz := (unhide HF1).st.old.size
            have hl6 : ivs.length ≤ 6 := by rw [unhide HLN]; omega
            have HNF : Hid ((Value.slice ads ivs.length caps).ownBlock ≠ some c.fb) := (unhide HF1).st.dis.2.2.2.2.1
            obtain ⟨en, HEN⟩ : ∃ en, Hid (en = orE (errI eo fs ip) (eo x fs.ss)) := ⟨_, rfl⟩
            clear jj
            go_region_law (first
              | (refine step_append_lies _ rfl (.tmp 39) (.tmp 43) 294 rfl c.w0.heap.size 362 _ .nilFunc 1 8 Tryz.underlying294 (unhide HIP) (unhide HIZ0) (unhide HIZ1) (unhide HIZ2) rfl (by decide) (.slice ads ivs.length caps) ivs.length ivs (by simp [Act.eval]) ((unhide HROW).alloc _) ⟨w2.heap.size, 0, none⟩ 1 1 [.func (.func g) a cb] (by simp [Act.eval]) rfl (World.news_of_block (cs := #[.func (.func g) a cb]) (heap_last rfl)) (one1f _ _ _) (by decide) (by unfold maxLen; omega) (by omega) (by simp; omega) _ rfl ?_; intro g9 cap9 w9 ho hg hat hlt9; have s1 : w9.cell? ⟨c.fb, 4, none⟩ = some (.slice ads ivs.length caps) := (hg.cell_far ⟨c.fb, 4, none⟩ (by simp; omega) (fun e => (unhide HNF) e.symm)).trans ((World.cell?_alloc_lt _ _ ⟨c.fb, 4, none⟩ (by exact q32)).trans q12); have f9 : w9.frozen? ⟨c.fb, 4, none⟩ = false := (hg.frozen_far ⟨c.fb, 4, none⟩ (by simp; omega) (fun e => (unhide HNF) e.symm)).trans ((World.frozen?_of_block (w := w2) (by exact Below.heap_alloc _ _ _ (by exact q32))).trans (q42 _)))
              | (go_simp; go_at_call 197; refine ((unhide HSY) F2 _ sv _ _ ev2 _ _ _ en (by exact (unhide HF1).st.drew) HEN).mono ?_; rintro e w2 ⟨g, a, cb, rfl, F3, hfa, hit⟩; obtain ⟨ev3, hf3⟩ := hfa.2.2; have HFA := hide hfa.ofDrew; have HIT := hide hit; have HF3 := hide hf3; obtain ⟨jj2, q42, q32⟩ := hf3.facts; have q12 : w2.cell? ⟨c.fb, 4, none⟩ = some (.slice ads ivs.length caps) := jj2 4; have HROW := hide (owns_kpf (unhide HF1).row (unhide HFA).2.1 (unhide HNF)); have hsz2 := hf3.old.size; clear hfa hit hf3 jj2))
            all_goals
              go_wp2
              go_roundg is.length
              case measure => simp
              case rel =>
                have h9 := item_round c F2 fs sv _ ev2 ivs _ _ w9 w2 F3 ev3 en g9 cap9 g a cb _ W1 (unhide HF1) (unhide HFA) (unhide HF3) (unhide HIT) ⟨_, unhide HEN⟩ hg hat hlt9 ho
                have e9 : errI eo fs (ip ++ [(x, (.iface ui vi), wa)]) = en := by rw [unhide HEN]; simp [errI]
                refine ⟨ip ++ [(x, (.iface ui vi), wa)], is, F3, .slice (some ⟨g9, 0, none⟩) (ivs.length + 1) cap9, ev3, ivs ++ [.func (.func g) a cb], unhide HZ2, rfl, ?_, ?_, (unhide HLE).trans (unhide HFA).1.le, ?_⟩
                · rw [List.length_append]; go_num
                · rw [List.length_append, List.length_append, unhide HLN]; rfl
                · rw [e9, List.map_append]
                  exact h9
    | cons y suf =>
      obtain ⟨t, u⟩ := y
      rw [List.length_cons] at l1
      have hlt : decide (pre.length < srcs.length) = true := by simp; omega
      have HZ2 : Hid (srcs = (pre ++ [(t, u)]) ++ suf) := by unfold Hid; rw [unhide HZ]; simp
      have HC : Hid (∀ j, j < 5 → wr.cell? ⟨gs, pre.length * 5 + j, none⟩ = [Value.int .i64 t.place, .int .i64 t.place, .string t.text, .int .i64 u.place, .string u.text][j]?) := fun j hj => by
        rw [(unhide HF).oldCell zs, (unhide HS).cellAt _ (by omega), unhide HZ, srCells_at pre suf t u j hj]
      have k0 : wr.cell? ⟨gs, pre.length * 5, none⟩ = some (.int .i64 t.place) := (unhide HC) 0 (by omega)
      have k1 : wr.cell? ⟨gs, pre.length * 5 + 1, none⟩ = some (.int .i64 t.place) := (unhide HC) 1 (by omega)
      have k2 : wr.cell? ⟨gs, pre.length * 5 + 2, none⟩ = some (.string t.text) := (unhide HC) 2 (by omega)
      have k3 : wr.cell? ⟨gs, pre.length * 5 + 3, none⟩ = some (.int .i64 u.place) := (unhide HC) 3 (by omega)
      have k4 : wr.cell? ⟨gs, pre.length * 5 + 4, none⟩ = some (.string u.text) := (unhide HC) 4 (by omega)
      have hf3 : (foldS c.T pre).ss.length < 3 := by have := foldS_len c.T pre; omega
      go_wp2_with fail
      refine (fsource_any c F1 _ sv _ _ ev _ _ _ (by exact (unhide HF).alloc _) hf3 t.place t u).mono ?_
      rintro e w2 ⟨rfl, F2, sv2, ev2, hle2, hfs2⟩
      have HF2 := hide hfs2
      have HLE2 := hide ((unhide HLE).trans hle2)
      clear hfs2 hle2 k0 k1 k2 k3 k4
      go_wp2
      go_roundg suf.length
      case measure => simp
      case rel =>
        refine ⟨pre ++ [(t, u)], suf, F2, sv2, ev2, unhide HZ2, rfl, ?_, unhide HLE2, ?_⟩
        · rw [List.length_append]; go_num
        · rw [foldS_snoc]; exact unhide HF2
end Go.Proofs.YtfkeddkfegaeiaaGreatDoor
namespace Go.Proofs.YtfkeddkfegaeiaaGreatDoor
open Go.RowKit
/-- a list whose cells lie in a fixed block. -/
def RowG (G : Fx) (k : Nat) (v : Value) (n : Nat) (xs : List Value) : Prop := (v = .slice none 0 0 ∧ n = 0) ∨ ∃ g cap cur T, v = .slice (some ⟨g, 0, none⟩) n cap ∧ G g = some (.cells cur T (0, 0)) ∧ cur.toList.take (n * k) = xs ∧ n * k ≤ cur.size ∧ n ≤ maxLen
theorem RowG.mono {G G' : Fx} (hG : G.le G') {k : Nat} {v : Value} {n : Nat} {xs : List Value} (h : RowG G k v n xs) : RowG G' k v n xs := by
  rcases h with h | ⟨g, cap, cur, T, h1, h2, h3⟩
  · exact Or.inl h
  · exact Or.inr ⟨g, cap, cur, T, h1, hG _ _ h2, h3⟩
theorem row_seal {lo p n k : Nat} {F : Fx} {T : TypeId} {v : Value} {vs xs : List Value} {W : World} {X : Nat → Bool} (h : Grow lo F p (v :: vs) W) (ho : W.ownsRow lo T k v n xs) (hn : n ≤ maxLen) (hX : ∀ b, X b = true → ∃ o, F b = some o) : ∃ F', F.le F' ∧ Grow lo F' p vs W ∧ RowG (F'.off X) k v n xs := by
  rcases ho.2 with ⟨hv, h0⟩ | ⟨g, cap, cur, hv, hge, hh, c1, c2, c3, c4⟩
  · exact ⟨F, Fx.le.refl F, h.drop, Or.inl ⟨hv, h0⟩⟩
  · have hb : v.ownBlock = some g := by rw [hv]; rfl
    have hn' := (h.off v List.mem_cons_self g hb).1
    have hx : X g = false := by
      cases e : X g with
      | false => rfl
      | true => obtain ⟨o, ho'⟩ := hX g e; rw [hn'] at ho'; cases ho'
    refine ⟨F.set g (.cells cur T (0, 0)), Fx.le_set _ hn', h.seal hb hh, Or.inr ⟨g, cap, cur, T, hv, Fx.off_some (Fx.set_same _ _ _) hx, ?_, ?_, hn⟩⟩
    · exact c4
    · rw [c3]; exact Nat.mul_le_mul_right k c1
theorem RowG.row {G : Fx} {w0 W : World} {v : Value} {n : Nat} {xs : List Value} (h : RowG G 1 v n xs) (hl : xs.length = n) (hW : Fits w0 G W) : RowAt W v xs := by
  rcases h with ⟨h1, h2⟩ | ⟨g, cap, cur, T, h1, h2, h3, h4, h5⟩
  · subst h2
    have : xs = [] := List.eq_nil_of_length_eq_zero hl
    subst this
    exact ⟨none, 0, h1, by unfold maxLen; simp, fun hp => by simp at hp⟩
  · refine ⟨_, cap, by rw [h1, hl], by rw [hl]; exact h5, fun hp => ⟨g, 0, rfl, lt_size (hW.new _ _ h2), fun j hj => ?_⟩⟩
    rw [hl] at hj
    rw [Nat.zero_add, (blk (hW.new _ _ h2)).1, ← h3, Nat.mul_one, List.getElem?_take, if_pos hj]
    simp
/-- a select that was found: where its sources, items and tests lie. -/
structure SelM (w0 : World) (G : Fx) (c : Fc) (ss : List Sr) (wd : Nat) (fns : List (List (List Int) → List Int)) (tns : List (List Int → Bool)) : Prop where
  lies : ∃ sv iv tv ev ivs tvs, G c.fb = some (.cells #[c.tabs, .bool c.iw, sv, .int .i64 wd, iv, tv, ev] 299 (0, 0)) ∧ RowG G 3 sv ss.length (srP c ss) ∧ (RowG G 1 iv ivs.length ivs ∧ ItsF w0 G wd ivs fns) ∧ (RowG G 1 tv tvs.length tvs ∧ TsF w0 G wd tvs tns)
  few : ss.length ≤ 3
  ok : ∀ s ∈ ss, s.tab < c.T.length
  wide : wd ≤ 18 ∧ ∀ s ∈ ss, s.first + (colsOf c.T s).length ≤ wd
theorem FT.seal {c : Fc} {F : Fx} {fs : Fs} {sv iv tv ev : Value} {ivs tvs : List Value} {W : World} {fns : List (List (List Int) → List Int)} {tns : List (List Int → Bool)} (h : FT c F fs sv iv tv ev ivs tvs W fns tns none) (hX : ∀ b, c.X b = true → ∃ o, F b = some o) (hi : ivs.length ≤ maxLen) (ht : tvs.length ≤ maxLen) :
    ∃ F', F.le F' ∧ (∀ b o, F' b = some o → c.w0.heap.size ≤ b ∧ W.heap[b]? = some o) ∧ SelM c.w0 (F'.off c.X) c fs.ss fs.wd fns tns := by
  obtain ⟨F1, l1, g1, r1⟩ := row_seal (X := c.X) h.st.grow h.st.srcs (by have := h.st.few; unfold maxLen; omega) hX
  obtain ⟨F2, l2, g2, r2⟩ := row_seal (X := c.X) g1 h.row hi (fun b e => let ⟨o, ho⟩ := hX b e; ⟨o, l1 _ _ ho⟩)
  obtain ⟨F3, l3, g3, r3⟩ := row_seal (X := c.X) g2 h.trow ht (fun b e => let ⟨o, ho⟩ := hX b e; ⟨o, l2 _ _ (l1 _ _ ho)⟩)
  have hn := g3.offp
  have hx : c.X c.fb = false := by
    cases e : c.X c.fb with
    | false => rfl
    | true => obtain ⟨o, ho⟩ := hX _ e; rw [h.st.grow.offp] at ho; cases ho
  have l4 := Fx.le_set (F := F3) (.cells #[c.tabs, .bool c.iw, sv, .int .i64 fs.wd, iv, tv, ev] 299 (0, 0)) hn
  have m34 := Fx.off_mono l4 c.X
  have m3 := (Fx.off_mono l3 c.X).trans m34
  have m2 := (Fx.off_mono l2 c.X).trans m3
  have m1 := (Fx.off_mono l1 c.X).trans m2
  have hw := h.st.wide
  have hf := h.st.few
  refine ⟨F3.set c.fb (.cells #[c.tabs, .bool c.iw, sv, .int .i64 fs.wd, iv, tv, ev] 299 (0, 0)), ((l1.trans l2).trans l3).trans l4, fun b o e => ?_, ⟨⟨sv, iv, tv, ev, ivs, tvs, Fx.off_some (Fx.set_same _ _ _) hx, r1.mono m2, ⟨r2.mono m3, (h.its rfl).mono m1⟩, r3.mono m34, (h.tst rfl).mono m1⟩, hf, h.st.ok, by omega, hw.2.1⟩⟩
  by_cases hb : b = c.fb
  · subst hb
    rw [Fx.set_same] at e
    injection e with e
    subst e
    exact ⟨h.st.low, h.st.box⟩
  · rw [Fx.set_other _ _ hb] at e
    exact g3.fits b o e
end Go.Proofs.YtfkeddkfegaeiaaGreatDoor
