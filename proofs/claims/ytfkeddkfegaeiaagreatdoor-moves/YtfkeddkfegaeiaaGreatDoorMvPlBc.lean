/-
  Part 40.
-/
import Derived.Test.YtfkeddkfegaeiaaGreatDoorMvPlZ
import Derived.Deep.RegionHeld3
namespace Go.Proofs.YtfkeddkfegaeiaaGreatDoor
open Go.RowKit Go.Shelf
attribute [local go_sem] Oper.semAt_some
/-- one source's row is laid in. -/
def tg1 {k : Nat} (L : Fin k → List (List Int)) (first : Fin k → Nat) (p : Nat × List Value) (x : Fin k) : Nat × List Value := (p.1 / (L x).length, splice p.2 (first x) (intsV ((L x).getD (p.1 % (L x).length) [])))
def tgs {k : Nat} (L : Fin k → List (List Int)) (first : Fin k → Nat) (p : Nat × List Value) (pre : List (Fin k)) : Nat × List Value := pre.foldl (tg1 L first) p
theorem tgs_snoc {k : Nat} (L : Fin k → List (List Int)) (first : Fin k → Nat) (p : Nat × List Value) (pre : List (Fin k)) (x : Fin k) : tgs L first p (pre ++ [x]) = tg1 L first (tgs L first p pre) x := by simp [tgs]
/-- cells that lie in one block are what a walk keeps. -/
theorem cells_own {β : Type} (g : Nat) (t : TypeId) (f : β → List Value) : Own (fun s W => W.heap[g]? = some (.cells (f s).toArray t (0, 0))) := fun s X Y row hs hg hrow =>
  (hg.block g (lt_of_heap hs) (fun e' => by obtain ⟨o, ho, hc⟩ := hrow g e'.symm; rw [show X.heap[g]? = _ from hs] at ho; cases ho; cases hc)).trans hs
/-- no operation is a defer. -/
def notDefer (o : Oper) : Bool := match o.op with
  | .defer _ => false
  | _ => true
theorem noDefer {ops : Array Oper} (h : ops.all notDefer = true) : ∀ (i : Nat) o c, ops[i]? = some o → o.op ≠ .defer c := fun i o c hi e => by
  have hlt : i < ops.size := (Array.getElem?_eq_some_iff.1 hi).1
  have := (Array.all_eq_true.1 h) i hlt
  rw [(Array.getElem?_eq_some_iff.1 hi).2] at this
  unfold notDefer at this
  rw [e] at this
  cases this
theorem step_copy_grown {P : Program} {ops : Array Oper} {o : Oper} {a : Act} {w : World} {K : Act → World → Prop} {Q : Exit → Act → World → Prop} {E : Prop} (hgd : o.guard = none) (d s : Operand) (dT sT : TypeId)
    (ho : o.op = .call { callee := .builtin .copy, args := #[d, s], argTypes := #[dT, sT] }) (elem : TypeId) (hu : P.underlying dT = some (.slice elem)) (hsz : (P.info? elem).map (·.size) = some 1)
    (dp sp : Option Addr) (dLen dCap sLen sCap : Nat) (hd : a.eval d = .slice dp dLen dCap) (hs : a.eval s = .slice sp sLen sCap)
    (g off : Nat) (cur : List Value) (t : TypeId) (hg : w.heap[g]? = some (.cells cur.toArray t (0, 0))) (cs : List Value) (hn : cs.length = Nat.min sLen dLen)
    (hpos : 0 < cs.length → dp = some ⟨g, off, none⟩ ∧ ∃ ad, sp = some ad ∧ ∀ (j : Nat) v, cs[j]? = some v → w.cell? (ad.add j) = some v)
    (hfit : off + cs.length ≤ cur.length) (h1 : ∀ v ∈ cs, v.oneCell' = true)
    (h : ∀ w', Hid (w'.heap[g]? = some (.cells (splice cur off cs).toArray t (0, 0))) → w.grownBy w' (some g) → K (a.put o.dst (goInt cs.length)) w') :
    if Region.wanted o (yielded ops a.tmps) = true then Oper.wp P o a w K Q else E := by
  have hw : Region.wanted o (yielded ops a.tmps) = true := by simp [Region.wanted, hgd]
  rw [if_pos hw]
  by_cases h0 : cs.length = 0
  · obtain rfl : cs = [] := List.eq_nil_of_length_eq_zero h0
    have hrun := run_copy_none (P := P) w dT sT o.type elem dp sp dLen dCap sLen sCap hu hsz (by simpa using hn.symm)
    unfold Oper.wp
    simp [execOp, ho, resolve, invoke, builtin, hd, hs, hrun, Result.andThen]
    exact h w (show _ = _ by simpa [splice] using hg) ⟨rfl, rfl, rfl, Nat.le_refl _, fun _ _ _ => rfl⟩
  · obtain ⟨rfl, ad, rfl, hsrc⟩ := hpos (by omega)
    have hrun := run_copy_row (P := P) w dT sT o.type elem g off dLen dCap ad sLen sCap cur.toArray t cs hu hsz hg hn hsrc (by simpa using hfit) h1
    unfold Oper.wp
    simp [execOp, ho, resolve, invoke, builtin, hd, hs, hrun, Result.andThen]
    exact h _ (show _ = _ by simpa [splice] using setRow_heap w g _ _ t _ hg) (by simpa using grownBy_setRow w g _)
theorem grown_cell {w w' : World} {g : Nat} (hg : w.grownBy w' (some g)) {b : Nat} (hb : b < w.heap.size) (hne : b ≠ g) (o : Nat) : w'.cell? ⟨b, o, none⟩ = w.cell? ⟨b, o, none⟩ := by
  simp only [World.cell?, hg.block b hb (fun e => by injection e with e; exact hne e)]
theorem splice_len {α : Type} (L : List α) (o : Nat) (cs : List α) (h : o + cs.length ≤ L.length) : (splice L o cs).length = L.length := by
  unfold splice
  simp only [List.length_append, List.length_take, List.length_drop]
  omega
theorem tgs_le {k : Nat} (L : Fin k → List (List Int)) (first : Fin k → Nat) : ∀ (pre : List (Fin k)) (p : Nat × List Value), (tgs L first p pre).1 ≤ p.1
  | [], _ => Nat.le_refl _
  | x :: pre, p => Nat.le_trans (tgs_le L first pre (tg1 L first p x)) (Nat.div_le_self _ _)
theorem tgs_len {k wd : Nat} (L : Fin k → List (List Int)) (first : Fin k → Nat) (hp : ∀ j, 0 < (L j).length) (hf : ∀ j r, r ∈ L j → first j + r.length ≤ wd) : ∀ (pre : List (Fin k)) (p : Nat × List Value), p.2.length = wd → (tgs L first p pre).2.length = wd
  | [], _, h => h
  | x :: pre, p, h => by
    refine tgs_len L first hp hf pre (tg1 L first p x) ?_
    unfold tg1
    have hq := Nat.mod_lt p.1 (hp x)
    have hr : (L x).getD (p.1 % (L x).length) [] ∈ L x := by
      rw [List.getD_eq_getElem?_getD, List.getElem?_eq_getElem hq]
      exact List.getElem_mem hq
    have := hf x _ hr
    simp only
    rw [splice_len _ _ _ (by rw [List.length_map, h]; exact this), h]
set_option maxRecDepth 100000 in
set_option maxHeartbeats 4000000 in
theorem stogether_any (w : World) (fb gs cap wd n len : Nat) (hlen : len ≤ 3) (hwd : wd ≤ 18) (hn : n ≤ 8000000) (al : Fin len → ByteArray) (tb tq : Fin len → Nat) (Lf : Fin len → List (List Int)) (first : Fin len → Nat)
    (k2 : w.cell? ⟨fb, 2, none⟩ = some (.slice (some ⟨gs, 0, none⟩) len cap)) (k3 : w.cell? ⟨fb, 3, none⟩ = some (.int .i64 (wd : Nat))) (zf : fb < w.heap.size) (zg : gs < w.heap.size)
    (hc : ∀ j : Fin len, w.cell? ⟨gs, j.1 * 3, none⟩ = some (.string (al j)) ∧ w.cell? ⟨gs, j.1 * 3 + 1, none⟩ = some (.pointer (some ⟨tb j, tq j, none⟩)) ∧ w.cell? ⟨gs, j.1 * 3 + 2, none⟩ = some (.int .i64 (first j : Nat)))
    (hT : ∀ j, tb j < w.heap.size ∧ 0 < (Lf j).length ∧ (Lf j).length ≤ 200 ∧ ∃ rv, w.cell? ⟨tb j, tq j + 2, none⟩ = some rv ∧ RowsAt w rv (Lf j)) (hfit : ∀ j r, r ∈ Lf j → first j + r.length ≤ wd) :
    Calls Tryz.prog 254 #[.pointer (some ⟨fb, 2, none⟩), .int .i64 (n : Nat)] w fun e w' => e = .returned (.slice (some ⟨w.heap.size + 1, 0, none⟩) wd wd) ∧ Below w.heap.size w w' ∧ w'.heap[w.heap.size + 1]? = some (.cells (tgs Lf first (n, List.replicate wd (.int .i64 0)) (downs len)).2.toArray 3 (0, 0)) := by
  obtain ⟨i0, hi, hinf⟩ := Option.map_eq_some_iff.1 infoInt
  simp only [Prod.mk.injEq] at hinf
  obtain ⟨hz0, hz1, hz2⟩ := hinf
  have HI := hide hi
  have HZ0 := hide hz0
  have HZ1 := hide hz1
  have HZ2 := hide hz2
  clear hi hz0 hz1 hz2
  have HC := hide hc
  have HT := hide hT
  have HF := hide hfit
  clear hc hT hfit
  refine (callsIn_wide (n := 6)).1 ?_
  refine callsIn_of_wp_marks Tryz.func254 rfl trivial ?_ rfl
  simp only [Tryz.ntmps254, List.size_toArray, List.length_cons, List.length_nil, Nat.reduceAdd, Nat.reduceSub, Array.replicate_succ, Array.replicate_zero, List.push_toArray, List.append_toArray, List.nil_append, List.cons_append]
  gi_wp2_with (gi_at_make; refine wpListIn_make_full _ rfl _ _ 32 rfl (w.heap.size + 1) 3 i0 (.int .i64 0) 1 Tryz.underlying32 (unhide HI) (unhide HZ0) (unhide HZ1) .i64 .i64 _ _ wd rfl rfl ?c1 ?c2 ?c3 ?c4 ?c5 ?_)
  case c1 => rfl
  case c2 => rfl
  case c3 => rw [unhide HZ2]; omega
  case c4 => unfold maxLen; omega
  case c5 => simp
  intro w1 ho hg
  rcases ho.2 with ⟨hv, _⟩ | ⟨g, cap', cur, hv, hge, hh, c1, c2, c3, c4⟩
  · cases hv
  injection hv with hv1 hv2 hv3
  injection hv1 with hv1
  injection hv1 with hv1
  subst hv1
  have hcl : cur.toList.length = wd := by rw [Array.length_toList, c3]; omega
  have HH1 : Hid (w1.heap[w.heap.size + 1]? = some (.cells cur.toList.toArray 3 (0, 0))) := by unfold Hid; rw [hh]
  have HCU : Hid (cur.toList = List.replicate wd (.int .i64 0)) := by
    unfold Hid
    rw [Nat.mul_one, List.take_of_length_le (by omega)] at c4
    rw [c4]
    simp only [madeCells]
    apply List.ext_getElem
    · simp
    · intro i h1 h2
      simp [Nat.mod_one]
  have bN : Boxed w1 w.heap.size 3 (.int .i64 (n : Nat)) := (Boxed.new w 3 (.int .i64 (n : Nat))).kept hg (fun e => by cases e)
  have HB1 : Hid (Below w.heap.size w w1) := ((Below.refl w.heap.size w).alloc (Nat.le_refl _) _).grown hg (by simp) (fun k e => by cases e)
  clear ho hg hh c1 c2 c3 c4 hv2 hv3 hge
  generalize cur.toList = L at *
  have z1 : w.heap.size + 1 < w1.heap.size := lt_of_heap (unhide HH1)
  have q2 := ((unhide HB1).cell (p := ⟨fb, 2, none⟩) zf).trans k2
  have zf1 : fb < w1.heap.size := Nat.lt_of_lt_of_le zf (unhide HB1).size
  clear k2 k3
  gi_wp2_with (refine ⟨trivial, ?_⟩; gi_at_call 297; refine (backward_in Fence.wide _ trivial rfl _ _ _ _).mono ?_; rintro e w' ⟨rfl, rfl⟩)
  have bN0 := (bN.alloc (.cells #[.slice (some ⟨w.heap.size + 1, 0, none⟩) wd wd] 32)).alloc (.cells #[.slice (some ⟨gs, 0, none⟩) len cap] 293)
  have bR0 := (Boxed.new w1 32 (.slice (some ⟨w.heap.size + 1, 0, none⟩) wd wd)).alloc (.cells #[.slice (some ⟨gs, 0, none⟩) len cap] 293)
  have bS0 := Boxed.new (w1.alloc (.cells #[.slice (some ⟨w.heap.size + 1, 0, none⟩) wd wd] 32)) 293 (.slice (some ⟨gs, 0, none⟩) len cap)
  have hL0 : ((w1.alloc (.cells #[.slice (some ⟨w.heap.size + 1, 0, none⟩) wd wd] 32)).alloc (.cells #[.slice (some ⟨gs, 0, none⟩) len cap] 293)).heap[w.heap.size + 1]? = some (.cells L.toArray 3 (0, 0)) := by
    rw [Below.heap_alloc _ _ _ (by simp; omega), Below.heap_alloc _ _ _ z1]; exact unhide HH1
  have hB0 : Below w.heap.size w ((w1.alloc (.cells #[.slice (some ⟨w.heap.size + 1, 0, none⟩) wd wd] 32)).alloc (.cells #[.slice (some ⟨gs, 0, none⟩) len cap] 293)) := ((unhide HB1).alloc (by omega) _).alloc (by simp; omega) _
  have hsz : ((w1.alloc (.cells #[.slice (some ⟨w.heap.size + 1, 0, none⟩) wd wd] 32)).alloc (.cells #[.slice (some ⟨gs, 0, none⟩) len cap] 293)).heap.size = w1.heap.size + 2 := by simp
  simp only [World.size_alloc] at bS0
  obtain ⟨W0, hW0⟩ : ∃ W0, (w1.alloc (.cells #[.slice (some ⟨w.heap.size + 1, 0, none⟩) wd wd] 32)).alloc (.cells #[.slice (some ⟨gs, 0, none⟩) len cap] 293) = W0 := ⟨_, rfl⟩
  rw [hW0] at bN0 bR0 bS0 hL0 hB0 hsz
  rw [hW0]
  clear hW0
  refine wpIn_rangeFunc_ownH rfl (by omega) (gf := 323) (lb := #[.pointer (some ⟨w1.heap.size + 1, 0, none⟩)]) rfl trivial (enters_of Tryz.func323 (by kernel_rfl) rfl)
    (back_stops Fence.wide _ trivial rfl (by omega) (w1.heap.size + 1) gs len cap (fun k => k = gs ∨ k = w1.heap.size + 1) (.inl rfl) (.inr rfl) (fun j => .string (al j)) (fun j => .pointer (some ⟨tb j, tq j, none⟩)) (fun j => .int .i64 (first j : Nat)) hlen W0 bS0.cell (by omega) (by omega) (fun j => ⟨(hB0.cell (p := ⟨gs, j.1 * 3, none⟩) zg).trans ((unhide HC) j).1, (hB0.cell (p := ⟨gs, j.1 * 3 + 1, none⟩) zg).trans ((unhide HC) j).2.1, (hB0.cell (p := ⟨gs, j.1 * 3 + 2, none⟩) zg).trans ((unhide HC) j).2.2⟩))
    (fun h k => h.trans k) ?kb (Below.refl _ _) (fun _ => rfl)
    (fun pre W => ((Boxed W w.heap.size 3 (.int .i64 ((tgs Lf first (n, L) pre).1 : Nat)) ∧ Boxed W w1.heap.size 32 (.slice (some ⟨w.heap.size + 1, 0, none⟩) wd wd)) ∧ W.heap[w.heap.size + 1]? = some (.cells (tgs Lf first (n, L) pre).2.toArray 3 (0, 0))) ∧ Below w.heap.size w W)
    (fun _ _ _ => False)
    (OwnFrom.and (OwnFrom.and (OwnFrom.and (Own.from (boxed_own _ _ _) _) (Own.from (boxed_own _ _ _) _)) (Own.from (cells_own _ _ _) _)) (ownFrom_below (Nat.le_refl _) (by omega)))
    (fun _ _ _ _ _ hs _ _ => hs)
    ⟨⟨⟨bN0, bR0⟩, hL0⟩, hB0⟩
    (fun x a' W => ∃ Bx, w1.heap.size < Bx ∧ W.heap[Bx]? = some (.cells [.string (al x), .pointer (some ⟨tb x, tq x, none⟩), .int .i64 (first x : Nat)].toArray 423 (0, 0)) ∧ a' = { tmps := #[.pointer (some ⟨fb, 2, none⟩), .int .i64 (n : Nat), undef, .pointer (some ⟨w.heap.size, 0, none⟩), .slice none 0 0, .pointer (some ⟨w1.heap.size, 0, none⟩), undef, .pointer (some ⟨Bx, 0, none⟩), undef, .pointer (some ⟨fb, 2, none⟩), .pointer (some ⟨fb, 2, none⟩), .pointer (some ⟨fb, 3, none⟩), .int .i64 (wd : Nat), .slice (some ⟨w.heap.size + 1, 0, none⟩) wd wd, .pointer (some ⟨fb, 2, none⟩), .pointer (some ⟨fb, 2, none⟩), .pointer (some ⟨fb, 2, none⟩), .slice (some ⟨gs, 0, none⟩) len cap, .func (.func 323) #[] #[.pointer (some ⟨w1.heap.size + 1, 0, none⟩)], .int .i64 (x.1 : Nat), .agg #[.string (al x), .pointer (some ⟨tb x, tq x, none⟩), .int .i64 (first x : Nat)], undef, undef, undef, undef, undef, undef, undef, undef, undef, undef, undef, undef, undef, undef, undef, undef, undef, undef, undef, undef, undef, undef], defers := [] })
    (fun x a' _ X Y row hs hg hr => by obtain ⟨Bx, h1, h2, h3⟩ := hs; exact ⟨Bx, h1, cells_own Bx 423 (fun (_ : Unit) => [Value.string (al x), .pointer (some ⟨tb x, tq x, none⟩), .int .i64 (first x : Nat)]) () X Y row h2 hg (fun r e => (hr r e).2), h3⟩)
    ?assign ?body ?done ?stop
  case kb =>
    intro W l o o' hl ho _ _
    refine ⟨by simp [World.putObj], fun k hk hkl => ?_⟩
    have hne : k ≠ l := by omega
    simp [World.putObj, hne.symm]
  case assign =>
    rintro l pre x W K ⟨⟨⟨b1, b2⟩, b3⟩, hB1⟩ hK
    have zr := b2.lt
    gi_wp2
    exact hK _ _ ((KeepsOthers.alloc _ _).from _) ⟨by simp, fun k _ hk => Below.heap_alloc _ _ _ hk⟩ ⟨⟨⟨b1.alloc _, b2.alloc _⟩, (Below.heap_alloc _ _ _ (lt_of_heap b3)).trans b3⟩, hB1.alloc hB1.size _⟩ ⟨W.heap.size, zr, World.alloc_heap_new W _, rfl⟩
  case stop => exact fun _ _ _ _ _ _ h => h.elim
  case done =>
    rintro D xs W hD rfl ⟨⟨⟨b1, b2⟩, b3⟩, hB1⟩ hK
    have k5 := b2.cell
    gi_wp2
    refine ⟨by simp, .inl ⟨_, _, rfl, run_takeDeferred hK, ?_⟩⟩
    have hgp := grownBy_putObj' W D (.deferred none)
    refine ⟨_, results_tmp rfl _ _ _, rfl, hB1.grown hgp hB1.size (fun k e => by cases e; omega), ?_⟩
    rw [hgp.block _ (lt_of_heap b3) (fun e => by injection e with e; omega), b3, unhide HCU]
  case body =>
    rintro l pre x a' W hl - ⟨⟨⟨b1, b2⟩, b3⟩, hB1⟩ ⟨Bx, hBx, bX, rfl⟩ hlt
    obtain ⟨ztb, hp0, h200, rv, krv, hrows⟩ := (unhide HT) x
    obtain ⟨vs, hvs, lvs, hrw⟩ := hrows
    obtain ⟨adr, capr, rfl, mr, hcr⟩ := hvs
    rw [lvs] at mr hcr krv
    obtain ⟨rb, ro, rfl, zr, kr⟩ := hcr hp0
    obtain ⟨N, hN⟩ : ∃ N, N = (tgs Lf first (n, L) pre).1 := ⟨_, rfl⟩
    obtain ⟨R, hR⟩ : ∃ R, R = (tgs Lf first (n, L) pre).2 := ⟨_, rfl⟩
    rw [← hN] at b1
    rw [← hR] at b3
    have hq : N % (Lf x).length < (Lf x).length := Nat.mod_lt _ hp0
    obtain ⟨r, hr⟩ : ∃ r, (Lf x)[N % (Lf x).length]? = some r := ⟨_, List.getElem?_eq_getElem hq⟩
    obtain ⟨u, hu⟩ : ∃ u, vs[N % (Lf x).length]? = some u := ⟨_, List.getElem?_eq_getElem (by rw [lvs]; exact hq)⟩
    obtain ⟨adu, capu, rfl, mu, hcu⟩ := hrw _ _ _ hr hu
    have ku := (kr _ hq).trans hu
    have hft := (unhide HF) x r (List.mem_of_getElem? hr)
    rw [List.length_map] at mu hcu ku
    have t0 := (hB1.cell (p := ⟨tb x, tq x + 2, none⟩) ztb).trans krv
    have t1 := (hB1.cell (p := ⟨rb, ro + N % (Lf x).length, none⟩) zr).trans ku
    have zt1 : tb x < W.heap.size := Nat.lt_of_lt_of_le ztb hB1.size
    have zr1 : rb < W.heap.size := Nat.lt_of_lt_of_le zr hB1.size
    obtain ⟨x0, xf⟩ := blk bX
    have x1 : W.cell? ⟨Bx, 1, none⟩ = some (.pointer (some ⟨tb x, tq x, none⟩)) := x0 1
    have x2 : W.cell? ⟨Bx, 2, none⟩ = some (.int .i64 (first x : Nat)) := x0 2
    have n0 := b1.cell
    have nf := b1.frozen
    have r0 := b2.cell
    clear x0 krv ku
    gi_wp2_with fail
    obtain ⟨k, hk⟩ : ∃ k, k = (Lf x).length := ⟨_, rfl⟩
    obtain ⟨m, hm⟩ : ∃ m, m = N % (Lf x).length := ⟨_, rfl⟩
    obtain ⟨f, hf⟩ : ∃ f, f = first x := ⟨_, rfl⟩
    rw [← hm, ← hk] at hq
    rw [← hm] at hr hu t1
    rw [← hk] at t0 hp0 h200
    rw [← hf] at x2 hft
    have HK := hide hk
    have HM := hide hm
    have HFI := hide hf
    rw [← hk, ← hf]
    clear hk hm hf
    have hrem : (N : Int).tmod (k : Int) = (m : Int) := by
      rw [Int.tmod_eq_emod_of_nonneg (by omega), unhide HM, ← unhide HK]
      exact (Int.natCast_emod N k).symm
    have hk0 : ¬ (k : Int) = 0 := by omega
    have hk00 : ¬ k = 0 := by omega
    have HN := hide hN
    have HRR := hide hR
    clear hN hR
    have hm1 : (0 : Int) ≤ (m : Int) := by omega
    have hm2 : (m : Int) < (k : Int) := by omega
    have hf1 : (0 : Int) ≤ (f : Int) := by omega
    have hf2 : (f : Int) ≤ (wd : Int) := by omega
    have hwm : IntKind.i64.wrap (m : Int) = (m : Int) := by unfold IntKind.wrap; simp [IntKind.bits, IntKind.signed]; omega
    refine wpIn_region_any (by kernel_rfl) ?_
    refine anyIn_of_any (noDefer (by kernel_rfl)) ?hL _ _ _ _ (wpAny_of_held (S := fun w' => w'.cell? ⟨w1.heap.size, 0, none⟩ = some (.slice (some ⟨w.heap.size + 1, 0, none⟩) wd wd) ∧ w'.cell? ⟨Bx, 2, none⟩ = some (.int .i64 (f : Nat)) ∧ w'.cell? ⟨w.heap.size, 0, none⟩ = some (.int .i64 (N : Nat)) ∧ w'.cell? ⟨rb, ro + m, none⟩ = some (.slice adu r.length capu)) _ _ _ _ ?_)
    case hL => rintro ⟨a9, w9, h9⟩; exact h9
    have hHeld : W.drew.cell? ⟨w1.heap.size, 0, none⟩ = some (.slice (some ⟨w.heap.size + 1, 0, none⟩) wd wd) ∧ W.drew.cell? ⟨Bx, 2, none⟩ = some (.int .i64 (f : Nat)) ∧ W.drew.cell? ⟨w.heap.size, 0, none⟩ = some (.int .i64 (N : Nat)) ∧ W.drew.cell? ⟨rb, ro + m, none⟩ = some (.slice adu r.length capu) := ⟨r0, x2, n0, t1⟩
    refine wpAnyH_take (i := 0) (oi := { dst := some 26, op := Op.load 32 (Operand.tmp 5), type := 32, pos := "rows.go:59", after := #[], guard := none }) (v := ?v0) rfl (by kernel_rfl) (by kernel_rfl) (by kernel_rfl) (fun _ _ _ h => h) (Or.inl ⟨by rfl, ?h0⟩) hHeld ?r0
    case h0 => intro w9 hS9; obtain ⟨s1, s2, s3, s4⟩ := hS9; go_simp; try (with_reducible rfl)
    simp only [Act.put, List.setIfInBounds_toArray, List.set_cons_zero, List.set_cons_succ]
    refine wpAnyH_take (i := 1) (oi := { dst := some 27, op := Op.fieldAddr 423 (Operand.tmp 7) 2, type := 0, pos := "rows.go:59", after := #[], guard := none }) (v := ?v1) rfl (by kernel_rfl) (by kernel_rfl) (by kernel_rfl) (fun _ _ _ h => h) (Or.inl ⟨by rfl, ?h1⟩) hHeld ?r1
    case h1 => intro w9 hS9; obtain ⟨s1, s2, s3, s4⟩ := hS9; go_simp; try (with_reducible rfl)
    simp only [Act.put, List.setIfInBounds_toArray, List.set_cons_zero, List.set_cons_succ]
    refine wpAnyH_take (i := 2) (oi := { dst := some 28, op := Op.load 3 (Operand.tmp 27), type := 3, pos := "rows.go:59", after := #[{ on := 1, ground := Ground.data }], guard := none }) (v := ?v2) rfl (by kernel_rfl) (by kernel_rfl) (by kernel_rfl) (fun _ _ _ h => h) (Or.inl ⟨by rfl, ?h2⟩) hHeld ?r2
    case h2 => intro w9 hS9; obtain ⟨s1, s2, s3, s4⟩ := hS9; go_simp; try (with_reducible rfl)
    simp only [Act.put, List.setIfInBounds_toArray, List.set_cons_zero, List.set_cons_succ]
    refine wpAnyH_take (i := 3) (oi := { dst := some 29, op := Op.slice 32 (Operand.tmp 26) (some (Operand.tmp 28)) none none, type := 32, pos := "rows.go:59", after := #[{ on := 0, ground := Ground.data }, { on := 2, ground := Ground.data }], guard := none }) (v := ?v3) rfl (by kernel_rfl) (by kernel_rfl) (by kernel_rfl) (fun _ _ _ h => h) (Or.inl ⟨by rfl, ?h3⟩) hHeld ?r3
    case h3 => intro w9 hS9; obtain ⟨s1, s2, s3, s4⟩ := hS9; go_simp; try (with_reducible rfl)
    simp only [Act.put, List.setIfInBounds_toArray, List.set_cons_zero, List.set_cons_succ]
    obtain ⟨dp, hdp⟩ : ∃ dp : Option Addr, dp = if wd = f then some ⟨w.heap.size + 1, 0, none⟩ else some ⟨w.heap.size + 1, f, none⟩ := ⟨_, rfl⟩
    rw [← hdp]
    have HDP := hide hdp
    clear hdp
    refine wpAnyH_take (i := 4) (oi := { dst := some 30, op := Op.move (Operand.tmp 8), type := 42, pos := "rows.go:59", after := #[], guard := none }) (v := ?v4) rfl (by kernel_rfl) (by kernel_rfl) (by kernel_rfl) (fun _ _ _ h => h) (Or.inl ⟨by rfl, ?h4⟩) hHeld ?r4
    case h4 => intro w9 hS9; obtain ⟨s1, s2, s3, s4⟩ := hS9; go_simp; try (with_reducible rfl)
    simp only [Act.put, List.setIfInBounds_toArray, List.set_cons_zero, List.set_cons_succ]
    refine wpAnyH_take (i := 5) (oi := { dst := some 31, op := Op.load 3 (Operand.tmp 3), type := 3, pos := "rows.go:59", after := #[], guard := none }) (v := ?v5) rfl (by kernel_rfl) (by kernel_rfl) (by kernel_rfl) (fun _ _ _ h => h) (Or.inl ⟨by rfl, ?h5⟩) hHeld ?r5
    case h5 => intro w9 hS9; obtain ⟨s1, s2, s3, s4⟩ := hS9; go_simp; try (with_reducible rfl)
    simp only [Act.put, List.setIfInBounds_toArray, List.set_cons_zero, List.set_cons_succ]
    refine wpAnyH_take (i := 6) (oi := { dst := some 32, op := Op.move (Operand.tmp 8), type := 42, pos := "rows.go:59", after := #[], guard := none }) (v := ?v6) rfl (by kernel_rfl) (by kernel_rfl) (by kernel_rfl) (fun _ _ _ h => h) (Or.inl ⟨by rfl, ?h6⟩) hHeld ?r6
    case h6 => intro w9 hS9; obtain ⟨s1, s2, s3, s4⟩ := hS9; go_simp; try (with_reducible rfl)
    simp only [Act.put, List.setIfInBounds_toArray, List.set_cons_zero, List.set_cons_succ]
    refine wpAnyH_take (i := 7) (oi := { dst := some 33, op := Op.call { callee := Callee.builtin Builtin.len, args := #[Operand.tmp 32], argTypes := #[42] }, type := 3, pos := "rows.go:59", after := #[{ on := 6, ground := Ground.data }], guard := none }) (v := ?v7) rfl (by kernel_rfl) (by kernel_rfl) (by kernel_rfl) (fun _ _ _ h => h) (Or.inl ⟨by rfl, ?h7⟩) hHeld ?r7
    case h7 => intro w9 hS9; obtain ⟨s1, s2, s3, s4⟩ := hS9; go_simp; try (with_reducible rfl)
    simp only [Act.put, List.setIfInBounds_toArray, List.set_cons_zero, List.set_cons_succ]
    refine wpAnyH_take (i := 8) (oi := { dst := some 34, op := Op.binOp BinOp.rem 3 (Operand.tmp 31) (Operand.tmp 33) 3, type := 3, pos := "rows.go:59", after := #[{ on := 5, ground := Ground.data }, { on := 7, ground := Ground.data }], guard := none }) (v := ?v8) rfl (by kernel_rfl) (by kernel_rfl) (by kernel_rfl) (fun _ _ _ h => h) (Or.inl ⟨by rfl, ?h8⟩) hHeld ?r8
    case h8 => intro w9 hS9; obtain ⟨s1, s2, s3, s4⟩ := hS9; go_simp; try (with_reducible rfl)
    simp only [Act.put, List.setIfInBounds_toArray, List.set_cons_zero, List.set_cons_succ]
    refine wpAnyH_take (i := 9) (oi := { dst := some 35, op := Op.indexAddr 42 (Operand.tmp 30) (Operand.tmp 34), type := 0, pos := "rows.go:59", after := #[{ on := 4, ground := Ground.data }, { on := 8, ground := Ground.data }], guard := none }) (v := ?v9) rfl (by kernel_rfl) (by kernel_rfl) (by kernel_rfl) (fun _ _ _ h => h) (Or.inl ⟨by rfl, ?h9⟩) hHeld ?r9
    case h9 => intro w9 hS9; obtain ⟨s1, s2, s3, s4⟩ := hS9; go_simp; try (with_reducible rfl)
    simp only [Act.put, List.setIfInBounds_toArray, List.set_cons_zero, List.set_cons_succ]
    refine wpAnyH_take (i := 10) (oi := { dst := some 36, op := Op.load 32 (Operand.tmp 35), type := 32, pos := "rows.go:59", after := #[{ on := 9, ground := Ground.data }], guard := none }) (v := ?v10) rfl (by kernel_rfl) (by kernel_rfl) (by kernel_rfl) (fun _ _ _ h => h) (Or.inl ⟨by rfl, ?h10⟩) hHeld ?r10
    case h10 => intro w9 hS9; obtain ⟨s1, s2, s3, s4⟩ := hS9; go_simp; try (with_reducible rfl)
    simp only [Act.put, List.setIfInBounds_toArray, List.set_cons_zero, List.set_cons_succ]
    refine wpAnyH_ready (rs := [11]) (by kernel_rfl) (by simp) ?_
    refine AllReadyH.cons (o := { dst := some 37, op := Op.call { callee := Callee.builtin Builtin.copy, args := #[Operand.tmp 29, Operand.tmp 36], argTypes := #[32, 32] }, type := 3, pos := "rows.go:59", after := #[{ on := 3, ground := Ground.data }, { on := 10, ground := Ground.data }], guard := none }) rfl (fun K9 hK9 => ?_) AllReadyH.nil
    have hRl : R.length = wd := by
      rw [unhide HRR]
      exact tgs_len Lf first (fun j => ((unhide HT) j).2.1) (unhide HF) pre (n, L) hcl
    refine step_copy_grown rfl (.tmp 29) (.tmp 36) 32 32 rfl 3 Tryz.underlying32 ?csz _ _ _ _ _ _ rfl rfl (w.heap.size + 1) f R 3 ?chg (intsV r) ?cnn ?cps ?cft ?con ?_
    case csz => rw [unhide HI]; simp [unhide HZ1]
    case chg => exact b3
    case cnn => rw [List.length_map]; exact (Nat.min_eq_left (by omega)).symm
    case cft => rw [List.length_map, hRl]; exact hft
    case con =>
      intro v hv
      obtain ⟨z, -, rfl⟩ := List.mem_map.1 hv
      rfl
    case cps =>
      intro hp
      rw [List.length_map] at hp
      obtain ⟨bu, ou, rfl, zu, cu⟩ := hcu hp
      refine ⟨(unhide HDP).trans (if_neg (by omega)), _, rfl, fun j v hj => ?_⟩
      have hjl : j < r.length := by have := (List.getElem?_eq_some_iff.1 hj).1; rwa [List.length_map] at this
      rw [show (⟨bu, ou, none⟩ : Addr).add j = ⟨bu, ou + j, none⟩ by simp [Addr.add]]
      show W.cell? ⟨bu, ou + j, none⟩ = some v
      rw [hB1.cell (p := ⟨bu, ou + j, none⟩) zu, cu j hjl, hj]
    intro w4 hH4 hg4
    have zW1 : w1.heap.size < W.heap.size := b2.lt
    have zBx := lt_of_heap bX
    have hsW := hB1.size
    refine hK9.out _ _ ⟨(grown_cell hg4 zW1 (by omega) 0).trans r0, (grown_cell hg4 zBx (by omega) 2).trans x2, (grown_cell hg4 b1.lt (by omega) 0).trans n0, (grown_cell hg4 zr1 (by omega) _).trans t1⟩ (fun hHeld2 => ?_)
    simp only [Act.put, List.setIfInBounds_toArray, List.set_cons_zero, List.set_cons_succ]
    refine wpAnyH_done (by kernel_rfl) ?_ _
    clear hHeld hHeld2 hK9 K9
    have hg4' : W.grownBy w4 (some (w.heap.size + 1)) := ⟨hg4.os, hg4.tape, hg4.output, hg4.size, hg4.block⟩
    have c1 : Boxed w4 w.heap.size 3 (.int .i64 (N : Nat)) := b1.kept hg4' (fun e => by injection e with e; omega)
    have c2 := b2.kept hg4' (fun e => by injection e with e; omega)
    have n4 := c1.cell
    have nf4 := c1.frozen
    obtain ⟨q, hqq⟩ : ∃ q, q = N / k := ⟨_, rfl⟩
    have hquo : (N : Int).tdiv (k : Int) = (q : Int) := by
      rw [Int.tdiv_eq_ediv_of_nonneg (by omega), hqq]
      exact (Int.natCast_ediv N k).symm
    have hqN : q ≤ N := by rw [hqq]; exact Nat.div_le_self _ _
    have HQQ := hide hqq
    clear hqq
    have hwq : wrap64 (q : Int) = (q : Int) := by
      have : N ≤ 8000000 := Nat.le_trans (by rw [unhide HN]; exact tgs_le Lf first pre (n, L)) hn
      unfold wrap64; omega
    gi_wp2
    refine ⟨(KeepsFrom.of_grownBy hg4' (fun j e => by injection e with e; omega)).trans ((KeepsOthers.setCell _ _ _).from _), ⟨by have := hg4'.size; simp [World.setCell]; omega, fun j hj hjl => ?_⟩, ⟨⟨?_, ?_⟩, ?_⟩, ?_⟩
    · have hj1 : j ≠ w.heap.size ∧ j ≠ w.heap.size + 1 := by rcases hj with hj | hj <;> omega
      rw [Below.heap_setCell _ _ _ _ (fun e => hj1.1 e), hg4'.block j hjl (fun e => by injection e with e; exact hj1.2 e)]
    · rw [tgs_snoc]
      have e1 : (tg1 Lf first (tgs Lf first (n, L) pre) x).1 = q := by show (tgs Lf first (n, L) pre).1 / (Lf x).length = q; rw [← unhide HN, ← unhide HK, unhide HQQ]
      rw [e1]
      exact c1.set _
    · exact c2.other (by omega) _
    · rw [tgs_snoc]
      have e2 : (tg1 Lf first (tgs Lf first (n, L) pre) x).2 = splice R f (intsV r) := by
        show splice (tgs Lf first (n, L) pre).2 (first x) (intsV ((Lf x).getD ((tgs Lf first (n, L) pre).1 % (Lf x).length) [])) = _
        rw [← unhide HRR, ← unhide HN, ← unhide HM, ← unhide HFI, List.getD_eq_getElem?_getD, hr]
        rfl
      rw [e2, Below.heap_setCell _ _ _ _ (by show w.heap.size + 1 ≠ w.heap.size; omega)]
      exact unhide hH4
    · exact (hB1.grown hg4' hsW (fun j e => by injection e with e; omega)).setCell (Nat.le_refl _) _
end Go.Proofs.YtfkeddkfegaeiaaGreatDoor
