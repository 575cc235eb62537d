/-
  Part 20.
-/
import Derived.Test.YtfkeddkfegaeiaaGreatDoorJ19
namespace Go.Proofs.YtfkeddkfegaeiaaGreatDoor
open Go.RowKit

/-- the tokens of an expr, off its nodes (from the right: a pile of what is told). -/
def tkStep (n : Nd) (S : List (List TT)) : List (List TT) := match n.tag with
  | 0 => [tx n.s1] :: S
  | 1 => match S with
    | a :: S' => ((⟨#[45]⟩, true) :: a) :: S'
    | [] => []
  | 2 => [tx n.s1, tx ⟨#[46]⟩, tx n.s2] :: S
  | 3 => match S with
    | a :: S' => (tx ⟨#[40]⟩ :: (a ++ [tx ⟨#[41]⟩])) :: S'
    | [] => []
  | _ => match S with
    | a :: b :: S' => (a ++ tx n.s1 :: b) :: S'
    | _ => []
def tkS (l : List Nd) (S : List (List TT)) : List (List TT) := l.foldr tkStep S
def tkE (l : List Nd) : List TT := (tkS l []).headD []
def WfE (l : List Nd) : Prop := ∀ S, tkS l S = tkE l :: S
theorem tkS_append (k m : List Nd) (S : List (List TT)) : tkS (k ++ m) S = tkS k (tkS m S) := List.foldr_append
theorem wf_of {l : List Nd} {t : List TT} (h : ∀ S, tkS l S = t :: S) : WfE l ∧ tkE l = t := by
  have e : tkE l = t := by unfold tkE; rw [h]; rfl
  exact ⟨fun S => by rw [h, e], e⟩
theorem wf_num (t : Tk) : WfE [ndNum t] ∧ tkE [ndNum t] = [tx t.text] := wf_of fun _ => rfl
theorem wf_col (t u : Tk) : WfE [ndCol t u] ∧ tkE [ndCol t u] = [tx t.text, tx ⟨#[46]⟩, tx u.text] := wf_of fun _ => rfl
theorem wf_minus {k : List Nd} (h : WfE k) (p : Nat) : WfE (ndMinus p :: k) ∧ tkE (ndMinus p :: k) = (⟨#[45]⟩, true) :: tkE k := wf_of fun S => by
  show tkStep (ndMinus p) (tkS k S) = _
  rw [h S]; rfl
theorem wf_br {k : List Nd} (h : WfE k) (p : Nat) : WfE (ndBr p :: k) ∧ tkE (ndBr p :: k) = tx ⟨#[40]⟩ :: (tkE k ++ [tx ⟨#[41]⟩]) := wf_of fun S => by
  show tkStep (ndBr p) (tkS k S) = _
  rw [h S]; rfl
theorem wf_pair {k m : List Nd} (h : WfE k) (h' : WfE m) (p : Nat) (sg : ByteArray) : WfE (ndPair p sg :: (k ++ m)) ∧ tkE (ndPair p sg :: (k ++ m)) = tkE k ++ tx sg :: tkE m := wf_of fun S => by
  show tkStep (ndPair p sg) (tkS (k ++ m) S) = _
  rw [tkS_append, h' S, h]; rfl
theorem ExP.wf {w : World} {P : Nat → Prop} : ∀ (n : Nat) (v : Value) (l : List Nd), ExP w P n v l → WfE l
  | 0, _, _, h => h.elim
  | n + 1, v, l, h => by
    rcases h with ⟨b, t, _, _, _, rfl⟩ | ⟨b, p, x, k, _, _, _, h3, rfl⟩ | ⟨b, t, u, _, _, _, rfl⟩ | ⟨b, p, x, k, _, _, _, h3, rfl⟩ | ⟨b, p, x, sg, y, k, m, _, _, _, h3, h4, rfl⟩
    · exact (wf_num t).1
    · exact (wf_minus (ExP.wf n x k h3) p).1
    · exact (wf_col t u).1
    · exact (wf_br (ExP.wf n x k h3) p).1
    · exact (wf_pair (ExP.wf n x k h3) (ExP.wf n y m h4) p sg).1

def Told (tl : Nat) (w : World) (o : Out) (l : List TT) (e : Ending) (w' : World) : Prop := e = .returned (.tuple #[]) ∧ TL tl w' (layAll o l).1 (layAll o l).2 ∧ TSt tl w w'
def big : Nat := 1099511627776
theorem TL.alloc {tl : Nat} {w : World} {o : List UInt8} {g : Bool} (h : TL tl w o g) (x : Obj) : TL tl (w.alloc x) o g := by
  obtain ⟨p, v, hp, hb, ho⟩ := h
  exact ⟨p, v, hp, heap_prev hb, ho.alloc x⟩
theorem TL.drew {tl : Nat} {w : World} {o : List UInt8} {g : Bool} (h : TL tl w o g) : TL tl w.drew o g := h
theorem tokens_new (tl : Nat) (w : World) (o : Out) (b n : Nat) (xs : List ByteArray) (cs : Array Value) (hT : TL tl w o.1 o.2) (hlen : o.1.length + cost (xs.map tx) ≤ big) (hn : xs.length = n) (h100 : n ≤ 100) (hb : b = w.heap.size) (hx : cs.toList = xs.map .string) :
    Calls Tryz.prog 100 #[.pointer (some ⟨tl, 0, none⟩), .slice (some ⟨b, 0, none⟩) n n] (w.alloc (.cells cs 9)) (Told tl w o (xs.map tx)) := by
  subst hn
  subst hb
  refine (tokens_any tl _ o w.heap.size xs cs (hT.alloc _) (heap_last rfl) hx hlen h100).mono ?_
  rintro e w' ⟨h1, h2, h3⟩
  exact ⟨h1, h2, ((TSt.refl tl w).alloc (Nat.le_of_lt hT.ts) _).trans h3⟩

theorem Told.next {tl : Nat} {w w1 w2 : World} {o : Out} {l m : List TT} {e e' : Ending} (h : Told tl w o l e w1) (k : Told tl w1 (layAll o l) m e' w2) : Told tl w o (l ++ m) e' w2 :=
  ⟨k.1, by rw [layAll_append]; exact k.2.1, h.2.2.trans k.2.2⟩
theorem Told.len {tl : Nat} {w w1 : World} {o : Out} {l m : List TT} {e : Ending} (_ : Told tl w o l e w1) (hl : o.1.length + cost (l ++ m) ≤ big) : (layAll o l).1.length + cost m ≤ big := by
  have := layAll_len o l
  rw [cost_append] at hl
  omega
theorem TSt.nodes {tl lo : Nat} {w w' : World} (h : TSt tl w w') : NodeKeep lo w w' := fun k cs t _ hk ht => h.keep k cs t (Nat.zero_le _) hk (by
  unfold tkT
  cases h1 : (t == 5) with
  | true => rw [beq_iff_eq.1 h1] at ht; cases ht
  | false =>
    cases h2 : (t == 93) with
    | true => rw [beq_iff_eq.1 h2] at ht; cases ht
    | false => rfl)
theorem ExP.ts {tl : Nat} {w w' : World} {P : Nat → Prop} {n : Nat} {v : Value} {l : List Nd} (h : ExP w P n v l) (ht : TSt tl w w') : ExP w' P n v l := ExP.keep (fun _ h => h) (fun k cs t _ hk hn => ht.nodes (lo := 0) k cs t (Nat.zero_le _) hk hn) n v l h

set_option maxHeartbeats 1000000 in
set_option maxRecDepth 100000 in
theorem minus_any (tl : Nat) (w : World) (o : Out) (hT : TL tl w o.1 o.2) (hlen : o.1.length + cost [(⟨#[45]⟩, true)] ≤ big) :
    Calls Tryz.prog 221 #[.pointer (some ⟨tl, 0, none⟩)] w (Told tl w o [(⟨#[45]⟩, true)]) := by
  have HT := hide hT
  have z0 := hT.ts
  clear hT
  go_enter Tryz.func221, Tryz.ntmps221
  go_wp2_with fail
  refine (tokens_new tl _ o _ _ [⟨#[45]⟩] #[.string ⟨#[45]⟩] (by exact unhide HT) (by exact hlen) rfl (by simp) rfl rfl).mono ?_
  rintro e w1 ⟨rfl, hT1, hS1⟩
  obtain ⟨p, v, hp, hb, ho⟩ := hT1
  obtain ⟨k1, f1⟩ := blk hb
  have z1 := lt_of_heap hb
  obtain ⟨ga, cap, rfl⟩ := row_slice ho
  have HP := hide hp
  have HB := hide hb
  have HO := hide ho
  have HS := hide hS1
  clear hp hb ho hS1
  go_wp2
  go_end0
  exact ⟨rfl, ⟨p, _, unhide HP, (heap_set (unhide HB) _).trans rfl, row_kp (unhide HO) ((Kp.refl _ _).setCell _ _)⟩, (unhide HS).trans (TSt.kp (unhide HB) ((Kp.refl _ _).setCell _ _))⟩

set_option maxHeartbeats 1000000 in
set_option maxRecDepth 100000 in
theorem tname_any (tl : Nat) (w : World) (o : Out) (p : Int) (s : ByteArray) (hT : TL tl w o.1 o.2) (hlen : o.1.length + cost [tx s] ≤ big) :
    Calls Tryz.prog 102 #[.pointer (some ⟨tl, 0, none⟩), .agg #[.int .i64 p, .string s]] w (Told tl w o [tx s]) := by
  have HT := hide hT
  have z0 := hT.ts
  clear hT
  go_enter Tryz.func102, Tryz.ntmps102
  go_wp2_with fail
  refine (tokens_new tl _ o _ _ [s] #[.string s] (by exact (unhide HT).alloc _) (by exact hlen) rfl (by simp) (by simp) rfl).mono ?_
  rintro e w1 ⟨rfl, hT1, hS1⟩
  go_wp2
  go_end0
  exact ⟨rfl, hT1, ((TSt.refl tl w).alloc (Nat.le_of_lt z0) _).trans hS1⟩

set_option maxHeartbeats 1000000 in
set_option maxRecDepth 100000 in
theorem tsource_any (tl : Nat) (w : World) (o : Out) (p q r : Int) (s t : ByteArray) (hT : TL tl w o.1 o.2) (hlen : o.1.length + cost [tx s, tx t] ≤ big) :
    Calls Tryz.prog 106 #[.pointer (some ⟨tl, 0, none⟩), .agg #[.int .i64 p, .int .i64 q, .string s, .int .i64 r, .string t]] w (Told tl w o [tx s, tx t]) := by
  have HT := hide hT
  have z0 := hT.ts
  clear hT
  go_enter Tryz.func106, Tryz.ntmps106
  go_wp2_with fail
  refine (tokens_new tl _ o _ _ [s, t] #[.string s, .string t] (by exact (unhide HT).alloc _) (by exact hlen) rfl (by simp) (by simp) rfl).mono ?_
  rintro e w1 ⟨rfl, hT1, hS1⟩
  go_wp2
  go_end0
  exact ⟨rfl, hT1, ((TSt.refl tl w).alloc (Nat.le_of_lt z0) _).trans hS1⟩

theorem no_Minus_Number (a : Option Addr) (w : World) : Sem.run Tryz.prog (Instr.typeAssert (.iface 392 (.pointer a)) 248 386 true) w = .ok (.tuple #[.pointer none, .bool false]) w := by kernel_rfl
theorem no_Column_Number (a : Option Addr) (w : World) : Sem.run Tryz.prog (Instr.typeAssert (.iface 395 (.pointer a)) 248 386 true) w = .ok (.tuple #[.pointer none, .bool false]) w := by kernel_rfl
theorem no_Column_Minus (a : Option Addr) (w : World) : Sem.run Tryz.prog (Instr.typeAssert (.iface 395 (.pointer a)) 248 392 true) w = .ok (.tuple #[.pointer none, .bool false]) w := by kernel_rfl
theorem no_Bracket_Number (a : Option Addr) (w : World) : Sem.run Tryz.prog (Instr.typeAssert (.iface 398 (.pointer a)) 248 386 true) w = .ok (.tuple #[.pointer none, .bool false]) w := by kernel_rfl
theorem no_Bracket_Minus (a : Option Addr) (w : World) : Sem.run Tryz.prog (Instr.typeAssert (.iface 398 (.pointer a)) 248 392 true) w = .ok (.tuple #[.pointer none, .bool false]) w := by kernel_rfl
theorem no_Bracket_Column (a : Option Addr) (w : World) : Sem.run Tryz.prog (Instr.typeAssert (.iface 398 (.pointer a)) 248 395 true) w = .ok (.tuple #[.pointer none, .bool false]) w := by kernel_rfl
theorem no_Pair_Number (a : Option Addr) (w : World) : Sem.run Tryz.prog (Instr.typeAssert (.iface 265 (.pointer a)) 248 386 true) w = .ok (.tuple #[.pointer none, .bool false]) w := by kernel_rfl
theorem no_Pair_Minus (a : Option Addr) (w : World) : Sem.run Tryz.prog (Instr.typeAssert (.iface 265 (.pointer a)) 248 392 true) w = .ok (.tuple #[.pointer none, .bool false]) w := by kernel_rfl
theorem no_Pair_Column (a : Option Addr) (w : World) : Sem.run Tryz.prog (Instr.typeAssert (.iface 265 (.pointer a)) 248 395 true) w = .ok (.tuple #[.pointer none, .bool false]) w := by kernel_rfl
theorem no_Pair_Bracket (a : Option Addr) (w : World) : Sem.run Tryz.prog (Instr.typeAssert (.iface 265 (.pointer a)) 248 398 true) w = .ok (.tuple #[.pointer none, .bool false]) w := by kernel_rfl

theorem yes_Number (a : Option Addr) (w : World) : Sem.run Tryz.prog (Instr.typeAssert (.iface 386 (.pointer a)) 248 386 true) w = .ok (.tuple #[.pointer a, .bool true]) w := by kernel_rfl
theorem yes_Minus (a : Option Addr) (w : World) : Sem.run Tryz.prog (Instr.typeAssert (.iface 392 (.pointer a)) 248 392 true) w = .ok (.tuple #[.pointer a, .bool true]) w := by kernel_rfl
theorem yes_Column (a : Option Addr) (w : World) : Sem.run Tryz.prog (Instr.typeAssert (.iface 395 (.pointer a)) 248 395 true) w = .ok (.tuple #[.pointer a, .bool true]) w := by kernel_rfl
theorem yes_Bracket (a : Option Addr) (w : World) : Sem.run Tryz.prog (Instr.typeAssert (.iface 398 (.pointer a)) 248 398 true) w = .ok (.tuple #[.pointer a, .bool true]) w := by kernel_rfl
theorem yes_Pair (a : Option Addr) (w : World) : Sem.run Tryz.prog (Instr.typeAssert (.iface 265 (.pointer a)) 248 265 true) w = .ok (.tuple #[.pointer a, .bool true]) w := by kernel_rfl
/-- what telling an expr does, so deep. -/
def TellsE (tl : Nat) (P : Nat → Prop) (n : Nat) : Prop := ∀ (v : Value) (l : List Nd) (w : World) (o : Out), ExP w P n v l → TL tl w o.1 o.2 → o.1.length + cost (tkE l) ≤ big → Calls Tryz.prog 162 #[.pointer (some ⟨tl, 0, none⟩), v] w (Told tl w o (tkE l))

set_option maxHeartbeats 1000000 in
set_option maxRecDepth 100000 in
theorem tpair_of (tl : Nat) (P : Nat → Prop) (n : Nat) (IH : Hid (TellsE tl P n)) (w : World) (o : Out) (bp : Nat) (p : Int) (x y : Value) (sg : ByteArray) (k m : List Nd) (hb : w.heap[bp]? = some (.cells #[.int .i64 p, x, .string sg, y] 263 (0, 0))) (hx : ExP w P n x k) (hy : ExP w P n y m)
    (hT : TL tl w o.1 o.2) (hlen : o.1.length + cost (tkE k ++ tx sg :: tkE m) ≤ big) :
    Calls Tryz.prog 107 #[.pointer (some ⟨tl, 0, none⟩), .pointer (some ⟨bp, 0, none⟩)] w (Told tl w o (tkE k ++ tx sg :: tkE m)) := by
  have HT := hide hT
  have HX := hide hx
  have HY := hide hy
  have HB := hide hb
  have HLEN := hide hlen
  obtain ⟨kb, fb⟩ := blk hb
  have zb := lt_of_heap hb
  have z0 := hT.ts
  clear hT hx hy hb hlen
  go_enter Tryz.func107, Tryz.ntmps107
  go_wp2_with fail
  refine ((unhide IH) x k _ o (by exact unhide HX) (by exact unhide HT) (by have := unhide HLEN; rw [cost_append] at this; omega)).mono ?_
  rintro e w1 h1
  have h1e := h1.1
  subst h1e
  have HT1 := hide h1
  have hb1 := (h1.2.2.keep bp _ _ (Nat.zero_le _) (unhide HB) rfl).trans (unhide HB)
  obtain ⟨kb1, fb1⟩ := blk hb1
  have zb1 := lt_of_heap hb1
  have HB1 := hide hb1
  clear h1 hb1
  go_wp2_with fail
  refine (tokens_new tl _ (layAll o (tkE k)) _ _ [sg] #[.string sg] (by exact (unhide HT1).2.1) (by have := (unhide HT1).len (unhide HLEN); show _ + cost [tx sg] ≤ _; rw [cost_cons] at this ⊢; rw [cost_nil]; omega) rfl (by simp) rfl rfl).mono ?_
  rintro e w2 h2
  have h2e := h2.1
  subst h2e
  have h12 := (unhide HT1).next h2
  have HT2 := hide h12
  have hb2 := (h2.2.2.keep bp _ _ (Nat.zero_le _) (unhide HB1) rfl).trans (unhide HB1)
  obtain ⟨kb2, fb2⟩ := blk hb2
  have zb2 := lt_of_heap hb2
  clear h2 h12 hb2
  go_wp2_with fail
  refine ((unhide IH) y m _ (layAll o (tkE k ++ [tx sg])) (by exact (unhide HY).ts (unhide HT2).2.2) (by exact (unhide HT2).2.1) (by exact (unhide HT2).len (m := tkE m) (by rw [List.append_assoc]; exact unhide HLEN))).mono ?_
  rintro e w3 h3
  have h3e := h3.1
  subst h3e
  have h123 := (unhide HT2).next h3
  rw [List.append_assoc] at h123
  have HT3 := hide h123
  clear h3 h123
  go_wp2
  go_end0
  exact unhide HT3

set_option maxHeartbeats 2000000 in
set_option maxRecDepth 100000 in
theorem texpr_step (tl : Nat) (P : Nat → Prop) (n : Nat) (IH : Hid (TellsE tl P n)) : TellsE tl P (n + 1) := by
  intro v l w o hE hT hlen
  have HT := hide hT
  have HLEN := hide hlen
  have z0 := hT.ts
  have HE := hide hE
  clear hT hlen
  rcases hE with ⟨b, t, rfl, h0, hb, rfl⟩ | ⟨b, p, x, k, rfl, h0, hb, h3, rfl⟩ | ⟨b, t, u, rfl, h0, hb, rfl⟩ | ⟨b, p, x, k, rfl, h0, hb, h3, rfl⟩ | ⟨b, p, x, sg, y, k, m, rfl, h0, hb, h3, h4, rfl⟩
  · obtain ⟨kb, fb⟩ := blk hb
    have zb := lt_of_heap hb
    have HB := hide hb
    clear hb
    rw [(wf_num t).2] at HLEN ⊢
    have hyes_Number := yes_Number
    go_enter Tryz.func162, Tryz.ntmps162
    go_wp2_with fail
    refine (tokens_new tl _ o _ _ [t.text] #[.string t.text] (by exact unhide HT) (by exact unhide HLEN) rfl (by simp) rfl rfl).mono ?_
    rintro e w1 h1
    have h1e := h1.1
    subst h1e
    have HT1 := hide h1
    clear h1
    go_wp2
    go_end0
    exact unhide HT1
  · obtain ⟨kb, fb⟩ := blk hb
    have zb := lt_of_heap hb
    have HB := hide hb
    have H3 := hide h3
    clear hb h3
    rw [(wf_minus (ExP.wf n x k (unhide H3)) p).2] at HLEN ⊢
    have hno_Minus_Number := no_Minus_Number
    have hyes_Minus := yes_Minus
    go_enter Tryz.func162, Tryz.ntmps162
    go_wp2_with fail
    refine (minus_any tl _ o (by exact unhide HT) (by have := unhide HLEN; rw [cost_cons] at this ⊢; rw [cost_nil]; omega)).mono ?_
    rintro e w1 h1
    have h1e := h1.1
    subst h1e
    have HT1 := hide h1
    have hb1 := (h1.2.2.keep b _ _ (Nat.zero_le _) (unhide HB) rfl).trans (unhide HB)
    obtain ⟨kb1, fb1⟩ := blk hb1
    have zb1 := lt_of_heap hb1
    clear h1 hb1
    go_wp2_with fail
    refine ((unhide IH) x k _ (layAll o [(⟨#[45]⟩, true)]) (by exact (unhide H3).ts (unhide HT1).2.2) (by exact (unhide HT1).2.1) (by exact (unhide HT1).len (m := tkE k) (unhide HLEN))).mono ?_
    rintro e w2 h2
    have h2e := h2.1
    subst h2e
    have h12 := (unhide HT1).next h2
    have HT2 := hide h12
    clear h2 h12
    go_wp2
    go_end0
    exact unhide HT2
  · obtain ⟨kb, fb⟩ := blk hb
    have zb := lt_of_heap hb
    have HB := hide hb
    clear hb
    rw [(wf_col t u).2] at HLEN ⊢
    have hno_Column_Number := no_Column_Number
    have hno_Column_Minus := no_Column_Minus
    have hyes_Column := yes_Column
    go_enter Tryz.func162, Tryz.ntmps162
    go_wp2_with fail
    go_region_with (go_at_call 100; refine (tokens_new tl _ o _ _ [t.text, ⟨#[46]⟩, u.text] #[.string t.text, .string ⟨#[46]⟩, .string u.text] (by exact (unhide HT).drew) (by exact unhide HLEN) rfl (by simp) rfl rfl).mono ?_; rintro e w1 h1; have h1e := h1.1; subst h1e; have HT1 := hide h1; clear h1)
    all_goals
      go_wp2
      go_end0
      exact ⟨rfl, (unhide HT1).2.1, ((TSt.refl tl w).drew).trans (unhide HT1).2.2⟩
  · obtain ⟨kb, fb⟩ := blk hb
    have zb := lt_of_heap hb
    have HB := hide hb
    have H3 := hide h3
    clear hb h3
    rw [(wf_br (ExP.wf n x k (unhide H3)) p).2] at HLEN ⊢
    have hno_Bracket_Number := no_Bracket_Number
    have hno_Bracket_Minus := no_Bracket_Minus
    have hno_Bracket_Column := no_Bracket_Column
    have hyes_Bracket := yes_Bracket
    go_enter Tryz.func162, Tryz.ntmps162
    go_wp2_with fail
    refine (tokens_new tl _ o _ _ [⟨#[40]⟩] #[.string ⟨#[40]⟩] (by exact unhide HT) (by have := unhide HLEN; show _ + cost [tx ⟨#[40]⟩] ≤ _; rw [cost_cons] at this ⊢; rw [cost_nil]; omega) rfl (by simp) rfl rfl).mono ?_
    rintro e w1 h1
    have h1e := h1.1
    subst h1e
    have HT1 := hide h1
    have hb1 := (h1.2.2.keep b _ _ (Nat.zero_le _) (unhide HB) rfl).trans (unhide HB)
    obtain ⟨kb1, fb1⟩ := blk hb1
    have zb1 := lt_of_heap hb1
    clear h1 hb1
    go_wp2_with fail
    refine ((unhide IH) x k _ (layAll o [tx ⟨#[40]⟩]) (by exact (unhide H3).ts (unhide HT1).2.2) (by exact (unhide HT1).2.1) (by have := (unhide HT1).len (m := tkE k ++ [tx ⟨#[41]⟩]) (unhide HLEN); rw [cost_append] at this; exact Nat.le_trans (Nat.add_le_add_left (Nat.le_add_right _ _) _) this)).mono ?_
    rintro e w2 h2
    have h2e := h2.1
    subst h2e
    have h12 := (unhide HT1).next h2
    have HT2 := hide h12
    clear h2 h12
    go_wp2_with fail
    refine (tokens_new tl _ (layAll o (tx ⟨#[40]⟩ :: tkE k)) _ _ [⟨#[41]⟩] #[.string ⟨#[41]⟩] (by exact (unhide HT2).2.1) (by exact (unhide HT2).len (m := [tx ⟨#[41]⟩]) (unhide HLEN)) rfl (by simp) rfl rfl).mono ?_
    rintro e w3 h3
    have h3e := h3.1
    subst h3e
    have h123 := (unhide HT2).next h3
    have HT3 := hide h123
    clear h3 h123
    go_wp2
    go_end0
    exact unhide HT3
  · obtain ⟨kb, fb⟩ := blk hb
    have zb := lt_of_heap hb
    have HB := hide hb
    have H3 := hide h3
    have H4 := hide h4
    clear hb h3 h4
    rw [(wf_pair (ExP.wf n x k (unhide H3)) (ExP.wf n y m (unhide H4)) p sg).2] at HLEN ⊢
    have hno_Pair_Number := no_Pair_Number
    have hno_Pair_Minus := no_Pair_Minus
    have hno_Pair_Column := no_Pair_Column
    have hno_Pair_Bracket := no_Pair_Bracket
    have hyes_Pair := yes_Pair
    go_enter Tryz.func162, Tryz.ntmps162
    go_wp2_with fail
    refine (tpair_of tl P n IH _ o b p x y sg k m (by exact unhide HB) (by exact unhide H3) (by exact unhide H4) (by exact unhide HT) (by exact unhide HLEN)).mono ?_
    rintro e w1 h1
    have h1e := h1.1
    subst h1e
    have HT1 := hide h1
    clear h1
    go_wp2
    go_end0
    exact unhide HT1

theorem texpr_any (tl : Nat) (P : Nat → Prop) : ∀ n, TellsE tl P n
  | 0 => fun _ _ _ _ h => h.elim
  | n + 1 => texpr_step tl P n (hide (texpr_any tl P n))
theorem texpr_in (tl : Nat) (P : Nat → Prop) (v : Value) (l : List Nd) (w : World) (o : Out) (h : ExIn w P v l) (hT : TL tl w o.1 o.2) (hlen : o.1.length + cost (tkE l) ≤ big) : Calls Tryz.prog 162 #[.pointer (some ⟨tl, 0, none⟩), v] w (Told tl w o (tkE l)) :=
  let ⟨n, hn⟩ := h; texpr_any tl P n v l w o hn hT hlen
theorem tpair_in (tl : Nat) (P : Nat → Prop) (w : World) (o : Out) (bp : Nat) (p : Int) (x y : Value) (sg : ByteArray) (k m : List Nd) (hb : w.heap[bp]? = some (.cells #[.int .i64 p, x, .string sg, y] 263 (0, 0))) (hx : ExIn w P x k) (hy : ExIn w P y m)
    (hT : TL tl w o.1 o.2) (hlen : o.1.length + cost (tkE k ++ tx sg :: tkE m) ≤ big) :
    Calls Tryz.prog 107 #[.pointer (some ⟨tl, 0, none⟩), .pointer (some ⟨bp, 0, none⟩)] w (Told tl w o (tkE k ++ tx sg :: tkE m)) := by
  obtain ⟨n1, h1⟩ := hx
  obtain ⟨n2, h2⟩ := hy
  exact tpair_of tl P (max n1 n2) (texpr_any tl P _) w o bp p x y sg k m hb (ExP.up _ _ _ _ (by omega) h1) (ExP.up _ _ _ _ (by omega) h2) hT hlen
end Go.Proofs.YtfkeddkfegaeiaaGreatDoor
