/-
  Part 23.
-/
import Derived.Test.YtfkeddkfegaeiaaDoorMNwV
import Derived.Deep.RegionHeld3
namespace Go.Proofs.YtfkeddkfegaeiaaDoor
open Go.RowKit

set_option maxRecDepth 100000 in
set_option maxHeartbeats 20000000 in
theorem unspoilt_any (p lo : Nat) (F : Fx) (tv cv rv lv qv : Value) (ts cs rs ls : List Value) (l : List Tb) (w : World) (hl : TabsAt w qv l) (hfit : Fit l) (hlt : LTabs F l ts cs rs ls) (hln : Lnt lo p w tv cv rv lv (l.length + 8) l.length l.length (nrows l) (ts ++ pads 8) cs rs ls) (hF : ∀ b o, F b = some o → w.heap[b]? = some o) :
    Calls Tryd.prog 10 #[.pointer (some ⟨p, 0, none⟩), qv] w fun e w' => e = .returned (.bool true) ∧ Below w.heap.size w w' := by
  have HFT := hide hfit
  have HL := hide hl
  have HLT := hide hlt
  have HLN := hide hln
  have HFF := hide hF
  clear hfit hlt hln hF
  obtain ⟨adl, capl, rfl, ml, mcap, cl⟩ := hl
  unfold maxLen at ml
  have HCL := hide cl
  clear cl
  obtain ⟨bt, ct, rfl, _, zt⟩ := (unhide HLN).tab.form (by omega)
  have zp := lt_of_heap (unhide HLN).box
  go_enter Tryd.func10, Tryd.ntmps10
  go_wp2_with fail
  go_loopg [5, 6] l.length (fun f a i W => ∃ pre suf, l = pre ++ suf ∧ f = suf.length ∧ a = .int .i64 (nrows pre : Nat) ∧ i = .int .i64 (pre.length : Nat) ∧ Below w.heap.size w W)
  case atStart => exact ⟨[], l, rfl, rfl, rfl, rfl, Below.refl _ _⟩
  case round =>
    obtain ⟨pre, suf, h1, rfl, rfl, rfl, hbw⟩ := hrel
    have l1 : pre.length + suf.length = l.length := by rw [h1, List.length_append]
    have HZ := hide h1
    have HB := hide hbw
    clear h1 hbw
    have hfl := (unhide HFT).len
    cases suf with
    | nil =>
      have hlt : decide (pre.length < l.length) = false := by simp at l1 ⊢; omega
      go_wp2_with fail
      clear hlt
      go_loopg [14] 8 (fun f k W => f ≤ 8 ∧ k = .int .i64 ((8 - f : Nat) : Int) ∧ Below w.heap.size w W)
      case atStart => exact ⟨Nat.le_refl _, rfl, unhide HB⟩
      case round =>
        clear HB
        obtain ⟨hf8, rfl, hbw⟩ := hrel
        have HB := hide hbw
        clear hbw
        cases gk with
        | succ f =>
          have hq1 : 8 - (f + 1) < 8 := by omega
          have hq2 : 8 - (f + 1) + 1 = 8 - f := by omega
          generalize 8 - (f + 1) = m at *
          have hd : decide (m < 8) = true := by simpa using hq1
          have HQ2 := hide hq2
          clear hq2
          have hts := (unhide HLT).len
          have j1 : wr.cell? ⟨p, 0, none⟩ = some (.slice (some ⟨bt, 0, none⟩) (l.length + 8) ct) := by
            rw [(unhide HB).cell (p := ⟨p, 0, none⟩) zp, (blk (unhide HLN).box).1]
            rfl
          have j2 : wr.cell? ⟨bt, (l.length + m) * 3, none⟩ = some (.string beyondB) := by
            rw [(unhide HB).cell (p := ⟨bt, _, none⟩) zt, (unhide HLN).tab.cellAt _ (by omega), List.getElem?_append_right (by omega), hts.1, show (l.length + m) * 3 - l.length * 3 = m * 3 from by omega]
            exact pads_at 8 m hq1
          have hlm : l.length + m < l.length + 8 := by omega
          clear hts
          go_wp2
          go_roundg f
          case measure => simp
          case rel =>
            refine ⟨by omega, ?_, unhide HB⟩
            rw [← unhide HQ2]; go_num
        | zero =>
          have hd : decide (8 - 0 < 8) = false := by decide
          go_wp2
          go_ret
          exact ⟨rfl, unhide HB⟩
    | cons t suf =>
      rw [List.length_cons] at l1
      have hlt : decide (pre.length < l.length) = true := by simp; omega
      have hm : t ∈ l := by rw [unhide HZ]; simp
      have hfc := (unhide HFT).cols t hm
      have hfr := (unhide HFT).rows t hm
      have HFW := hide ((unhide HFT).row t hm)
      have HZ2 : Hid (l = (pre ++ [t]) ++ suf) := by unfold Hid; rw [unhide HZ]; simp
      obtain ⟨b1, o1, rfl, z1, c1⟩ := (unhide HCL) (by omega)
      obtain ⟨qc, qr, htb, k1, k2, k3⟩ := c1 pre.length t (by rw [unhide HZ]; simp)
      obtain ⟨cv', rv', e', htc, hcap, htr⟩ := htb
      injection e' with _ e'
      injection e' with e1 e'
      injection e' with e2 _
      subst e1 e2
      have HTC := hide htc
      have HTR := hide htr
      obtain ⟨adc, capc, rfl, mc, q0⟩ := htc
      obtain ⟨vs, ⟨adr, capr, rfl, mr, q1⟩, lr, q2⟩ := htr
      clear q0 q1 q2 mc mr hcap c1 hm
      rw [lr] at HTR k3
      rw [List.length_map] at HTC k2
      clear lr vs
      obtain ⟨gc, gr, cap, cur, ls1, ls2, ls3, htab, hls, hls1, x1, x2, x3, x4, x5⟩ := (unhide HLT).at pre suf t (unhide HZ)
      have HTAB := hide htab
      have HLS := hide hls
      have HLS1 := hide hls1
      clear htab hls hls1
      obtain ⟨bc, cc, rfl, _, zc⟩ := (unhide HLN).col.form (by omega)
      obtain ⟨br, cr, rfl, _, zr⟩ := (unhide HLN).row.form (by omega)
      have hts := (unhide HLT).len
      have HP : Hid (∀ W, Below w.heap.size w W → W.cell? ⟨p, 0, none⟩ = some (.slice (some ⟨bt, 0, none⟩) (l.length + 8) ct) ∧ W.cell? ⟨p, 1, none⟩ = some (.slice (some ⟨bc, 0, none⟩) l.length cc) ∧ W.cell? ⟨p, 2, none⟩ = some (.slice (some ⟨br, 0, none⟩) l.length cr) ∧ W.cell? ⟨p, 3, none⟩ = some lv ∧ W.cell? ⟨bc, pre.length, none⟩ = some (.slice (some ⟨gc, 0, none⟩) (t.cols.length + 8) (t.cols.length + 8)) ∧ W.cell? ⟨br, pre.length, none⟩ = some (.slice (some ⟨gr, 0, none⟩) (t.rows.length + 8) cap) ∧ W.cell? ⟨bt, pre.length * 3, none⟩ = some (.string t.name) ∧ W.cell? ⟨bt, pre.length * 3 + 1, none⟩ = some (.slice (some ⟨gc, 0, none⟩) t.cols.length (t.cols.length + 8)) ∧ W.cell? ⟨bt, pre.length * 3 + 2, none⟩ = some (.slice (some ⟨gr, 0, none⟩) t.rows.length cap) ∧ W.cell? ⟨b1, o1 + pre.length * 3, none⟩ = some (.string t.name) ∧ W.cell? ⟨b1, o1 + pre.length * 3 + 1, none⟩ = some (.slice adc t.cols.length capc) ∧ W.cell? ⟨b1, o1 + pre.length * 3 + 2, none⟩ = some (.slice adr t.rows.length capr)) := by
        intro W hW
        refine ⟨?_, ?_, ?_, ?_, ?_, ?_, ?_, ?_, ?_, ?_, ?_, ?_⟩
        · rw [hW.cell (p := ⟨p, 0, none⟩) zp, (blk (unhide HLN).box).1]; rfl
        · rw [hW.cell (p := ⟨p, 1, none⟩) zp, (blk (unhide HLN).box).1]; rfl
        · rw [hW.cell (p := ⟨p, 2, none⟩) zp, (blk (unhide HLN).box).1]; rfl
        · rw [hW.cell (p := ⟨p, 3, none⟩) zp, (blk (unhide HLN).box).1]; rfl
        · rw [hW.cell (p := ⟨bc, _, none⟩) zc, (unhide HLN).col.cellAt _ (by omega), x4]
        · rw [hW.cell (p := ⟨br, _, none⟩) zr, (unhide HLN).row.cellAt _ (by omega), x5]
        · rw [hW.cell (p := ⟨bt, _, none⟩) zt, (unhide HLN).tab.cellAt _ (by omega), List.getElem?_append_left (by omega), x1]
        · rw [hW.cell (p := ⟨bt, _, none⟩) zt, (unhide HLN).tab.cellAt _ (by omega), List.getElem?_append_left (by omega), x2]
        · rw [hW.cell (p := ⟨bt, _, none⟩) zt, (unhide HLN).tab.cellAt _ (by omega), List.getElem?_append_left (by omega), x3]
        · rw [hW.cell (p := ⟨b1, _, none⟩) z1, k1]
        · rw [hW.cell (p := ⟨b1, _, none⟩) z1, k2]
        · rw [hW.cell (p := ⟨b1, _, none⟩) z1, k3]
      clear k1 k2 k3 x1 x2 x3 x4 x5 hts
      have HFX : Hid (∀ W, Below w.heap.size w W → ∀ b o, F b = some o → W.heap[b]? = some o) := fun W hW b o e => by
        have := (unhide HFF) b o e
        rw [hW.block b (lt_of_heap this)]
        exact this
      have hsz := (unhide HB).size
      go_upto_region 5 with (fail)
      go_cut [7] (fun c W => c = .bool true ∧ Below w.heap.size w W)
      case first =>
        obtain ⟨-, c1, -, -, j2, -, -, -, -, -, j8, -⟩ := (unhide HP) _ (unhide HB).drew
        have b5a : (0 : Int) ≤ (pre.length : Int) := by omega
        have b5b : (pre.length : Int) < (l.length : Int) := by omega
        go_region_held3 (fun w' => w'.cell? ⟨p, 1, none⟩ = some (.slice (some ⟨bc, 0, none⟩) l.length cc) ∧ w'.cell? ⟨bc, pre.length, none⟩ = some (.slice (some ⟨gc, 0, none⟩) (t.cols.length + 8) (t.cols.length + 8)) ∧ w'.cell? ⟨b1, o1 + pre.length * 3 + 1, none⟩ = some (.slice adc t.cols.length capc)) (go_keep) (first
          | (go_at_call 13; refine (lentTexts_any _ t.cols _ (by exact (unhide HTC).keep (unhide HB).drew) (by omega)).mono ?_; rintro e w1 ⟨g1, rfl, hg1, hh1, hb1⟩; have HB1 := hide ((unhide HB).drew.trans (hb1.mono (by exact hsz))); obtain ⟨-, i1, -, -, i2, -, -, -, -, -, i8, -⟩ := (unhide HP) _ (unhide HB1); have HR1 := hide (row_all hh1 (t.cols.length + 8) (by simp) (by unfold maxLen; omega) (t.cols.length + 8)); clear hh1 hb1)
          | (go_at_call 18; refine (sameTexts_any _ _ (t.cols ++ List.replicate 8 beyondB) (t.cols ++ List.replicate 8 beyondB) _ (by exact ltexts_row ((unhide HFX) _ (unhide HB1)) (unhide HTAB).cols hfc) (by have h := unhide HR1; rw [List.take_of_length_le (by simp)] at h; exact h)).mono ?_; rintro e w2 ⟨rfl, hb2⟩; have HB2 := hide ((unhide HB1).trans (hb2.mono (by have := (unhide HB1).size; omega))); rw [decide_eq_true rfl]; obtain ⟨-, k1, -, -, k2, -, -, -, -, -, k8, -⟩ := (unhide HP) _ (unhide HB2); clear hb2))
        all_goals
          go_wp2_with fail
          go_meet
          case rel => exact ⟨rfl, unhide HB2⟩
      case rest =>
        obtain ⟨rfl, hbc⟩ := hcut
        have HBC := hide hbc
        clear hbc HB hsz
        obtain ⟨c0, -, -, -, -, -, j4, j5, j6, j7, j8, j9⟩ := (unhide HP) _ (unhide HBC)
        go_upto_region 7 with (fail)
        go_cut [89] (fun c W => c = .bool false ∧ Below w.heap.size w W)
        case first =>
          go_region
          all_goals
            go_wp2_with fail
            go_meet
            case rel => exact ⟨rfl, (unhide HBC).drew⟩
        case rest =>
          clear c0 j4 j5 j6 j7 j8 j9
          obtain ⟨rfl, hbd⟩ := hcut
          have HBD := hide hbd
          clear hbd HBC
          go_wp2_with fail
          obtain ⟨es, ps, hlr, hps, hpad, htk⟩ := (unhide HTAB).els
          have hrows := (unhide HTAB).rows
          have HLR := hide hlr
          have HPS := hide hps
          have HPAD := hide hpad
          have HTK := hide htk
          have HGR := hide hrows
          have hel := hlr.len
          clear hlr hps hpad htk hrows
          have hnr : nrows pre + t.rows.length ≤ nrows l := by
            rw [unhide HZ, nrows_append]
            simp only [nrows]
            omega
          have hnn := (unhide HFT).nrows
          go_loopg [5, 9] t.rows.length (fun f a k W => ∃ p2 s2, t.rows = p2 ++ s2 ∧ f = s2.length ∧ a = .int .i64 ((nrows pre + p2.length : Nat) : Int) ∧ k = .int .i64 (p2.length : Nat) ∧ Below w.heap.size w W)
          case atStart => exact ⟨[], t.rows, rfl, rfl, rfl, rfl, unhide HBD⟩
          case round =>
            clear HBD
            obtain ⟨p2, s2, h1, rfl, rfl, rfl, hbw⟩ := hrel
            generalize hqd : nrows pre + p2.length = q at *
            have HQD := hide hqd
            clear hqd
            have l2 : p2.length + s2.length = t.rows.length := by rw [h1, List.length_append]
            have HZR := hide h1
            have HBX := hide hbw
            clear h1 hbw
            cases s2 with
            | cons r s2 =>
              rw [List.length_cons] at l2
              have hlt2 : decide (p2.length < t.rows.length) = true := by simp; omega
              have hq1 : q < nrows l := by rw [← unhide HQD]; omega
              have HZR2 : Hid (t.rows = (p2 ++ [r]) ++ s2) := by unfold Hid; rw [unhide HZR]; simp
              have hrl := (unhide HFW) r (by rw [unhide HZR]; simp)
              obtain ⟨g, hg, he, hl2⟩ := (unhide HLR).at p2.length r (by rw [unhide HZR]; simp)
              obtain ⟨bl, cl', rfl, _, zl⟩ := (unhide HLN).lst.form (by omega)
              obtain ⟨vs, ⟨ad9, cap9, e9, q9, ccc⟩, lr, rr⟩ := unhide HTR
              injection e9 with e9 e11 e10
              subst e9 e10
              rw [lr] at ccc
              obtain ⟨b2, o2, rfl, z2, cc2⟩ := ccc (by omega)
              obtain ⟨u, hu⟩ : ∃ u, vs[p2.length]? = some u := ⟨vs[p2.length]'(by omega), List.getElem?_eq_getElem _⟩
              have hru := rr p2.length r u (by rw [unhide HZR]; simp) hu
              have HRU := hide hru
              obtain ⟨adu, capu, rfl, q3, q4⟩ := hru
              rw [List.length_map] at hu HRU
              have HQ : Hid (∀ W, Below w.heap.size w W → W.cell? ⟨bl, q, none⟩ = some (.slice (some ⟨g, 0, none⟩) (r.length + 8) (r.length + 8)) ∧ W.cell? ⟨gr, p2.length, none⟩ = some (.slice (some ⟨g, 0, none⟩) r.length (r.length + 8)) ∧ W.cell? ⟨b2, o2 + p2.length, none⟩ = some (.slice adu r.length capu)) := by
                intro W hW
                refine ⟨?_, ?_, ?_⟩
                · rw [hW.cell (p := ⟨bl, _, none⟩) zl, (unhide HLN).lst.cellAt _ (by omega), ← unhide HQD, unhide HLS, ← unhide HLS1, List.getElem?_append_right (by omega), Nat.add_sub_cancel_left, List.getElem?_append_left (by omega), hl2]
                · have hb := (unhide HFF) _ _ (unhide HGR)
                  rw [hW.cell (p := ⟨gr, _, none⟩) (lt_of_heap hb), (blk hb).1]
                  have e : (cur.toList.take (t.rows.length + 8))[p2.length]? = some (.slice (some ⟨g, 0, none⟩) r.length (r.length + 8)) := by
                    rw [unhide HTK, List.getElem?_append_left (by omega), he]
                  rw [List.getElem?_take, if_pos (by omega)] at e
                  simpa using e
                · rw [hW.cell (p := ⟨b2, _, none⟩) z2, cc2 _ (by omega), hu]
              clear q9 e11 q3 q4 hu rr ccc cc2 lr he hl2
              have HGI := hide hg
              clear hg vs
              have hsz := (unhide HBX).size
              obtain ⟨-, -, -, c3, -, -, -, -, -, -, -, j9⟩ := (unhide HP) _ (unhide HBX)
              obtain ⟨y1, -, y3⟩ := (unhide HQ) _ (unhide HBX)
              go_upto_region 12 with (fail)
              go_cut [10] (fun c W => c = .bool true ∧ Below w.heap.size w W)
              case first =>
                have b5a : (0 : Int) ≤ (pre.length : Int) := by omega
                have b5b : (pre.length : Int) < (l.length : Int) := by omega
                have b5c : (0 : Int) ≤ (p2.length : Int) := by omega
                have b5d : (p2.length : Int) < (t.rows.length : Int) := by omega
                have b5e : (0 : Int) ≤ (q : Int) := by omega
                have b5f : (q : Int) < (nrows l : Int) := by omega
                go_region_held3 (fun w' => w'.cell? ⟨p, 3, none⟩ = some (.slice (some ⟨bl, 0, none⟩) (nrows l) cl') ∧ w'.cell? ⟨bl, q, none⟩ = some (.slice (some ⟨g, 0, none⟩) (r.length + 8) (r.length + 8)) ∧ w'.cell? ⟨b1, o1 + pre.length * 3 + 2, none⟩ = some (.slice (some ⟨b2, o2, none⟩) t.rows.length capr) ∧ w'.cell? ⟨b2, o2 + p2.length, none⟩ = some (.slice adu r.length capu)) (go_keep) (first
                  | (go_at_call 14; refine (lentInts_any _ r _ (by exact (unhide HRU).keep (unhide HBX).drew) (by omega)).mono ?_; rintro e w1 ⟨g1, rfl, hg1, hh1, hb1⟩; have HB1 := hide ((unhide HBX).drew.trans (hb1.mono (by exact hsz))); obtain ⟨-, -, -, i3, -, -, -, -, -, -, -, i9⟩ := (unhide HP) _ (unhide HB1); obtain ⟨v1, -, v3⟩ := (unhide HQ) _ (unhide HB1); have HR1 := hide (row_all hh1 (r.length + 8) (by simp) (by unfold maxLen; omega) (r.length + 8)); clear hh1 hb1)
                  | (go_at_call 19; refine (sameInts_any _ _ (r ++ List.replicate 8 (-77)) (r ++ List.replicate 8 (-77)) _ (by exact lints_row ((unhide HFX) _ (unhide HB1)) (unhide HGI) hrl) (by have h := unhide HR1; rw [List.take_of_length_le (by simp)] at h; exact h)).mono ?_; rintro e w2 ⟨rfl, hb2⟩; have HB2 := hide ((unhide HB1).trans (hb2.mono (by have := (unhide HB1).size; omega))); rw [decide_eq_true rfl]; obtain ⟨-, -, -, k3, -, -, -, -, -, -, -, k9⟩ := (unhide HP) _ (unhide HB2); obtain ⟨q1, -, q3⟩ := (unhide HQ) _ (unhide HB2); clear hb2))
                all_goals
                  go_wp2_with fail
                  go_meet
                  case rel => exact ⟨rfl, unhide HB2⟩
              case rest =>
                clear c3 j9 y1 y3 hsz
                obtain ⟨rfl, hbc⟩ := hcut
                have HBC := hide hbc
                clear hbc HBX
                have hsz := (unhide HBC).size
                obtain ⟨-, -, c2, -, -, j3, -, -, -, -, -, j9⟩ := (unhide HP) _ (unhide HBC)
                obtain ⟨-, y2, y3⟩ := (unhide HQ) _ (unhide HBC)
                go_upto_region 13 with (fail)
                go_cut [11] (fun c W => c = .bool true ∧ Below w.heap.size w W)
                case first =>
                  have b5a : (0 : Int) ≤ (pre.length : Int) := by omega
                  have b5b : (pre.length : Int) < (l.length : Int) := by omega
                  have b5c : (0 : Int) ≤ (p2.length : Int) := by omega
                  have b5d : (p2.length : Int) < (t.rows.length : Int) := by omega
                  have b5e : (p2.length : Int) < (t.rows.length : Int) + 8 := by omega
                  go_region_held3 (fun w' => w'.cell? ⟨p, 2, none⟩ = some (.slice (some ⟨br, 0, none⟩) l.length cr) ∧ w'.cell? ⟨br, pre.length, none⟩ = some (.slice (some ⟨gr, 0, none⟩) (t.rows.length + 8) cap) ∧ w'.cell? ⟨gr, p2.length, none⟩ = some (.slice (some ⟨g, 0, none⟩) r.length (r.length + 8)) ∧ w'.cell? ⟨b1, o1 + pre.length * 3 + 2, none⟩ = some (.slice (some ⟨b2, o2, none⟩) t.rows.length capr) ∧ w'.cell? ⟨b2, o2 + p2.length, none⟩ = some (.slice adu r.length capu)) (go_keep) ((go_at_call 19; refine (sameInts_any _ _ r r _ (by exact lints_cut ((unhide HFX) _ (unhide HBC).drew) (unhide HGI) hrl) (by exact (unhide HRU).keep (unhide HBC).drew)).mono ?_; rintro e w2 ⟨rfl, hb2⟩; have HB2 := hide ((unhide HBC).drew.trans (hb2.mono (by exact hsz))); rw [decide_eq_true rfl]; obtain ⟨-, -, k2, -, -, k3, -, -, -, -, -, k9⟩ := (unhide HP) _ (unhide HB2); obtain ⟨-, q2, q3⟩ := (unhide HQ) _ (unhide HB2); clear hb2))
                  all_goals
                    go_wp2_with fail
                    go_meet
                    case rel => exact ⟨rfl, unhide HB2⟩
                case rest =>
                  clear c2 j3 j9 y2 y3 hsz
                  obtain ⟨rfl, hbd⟩ := hcut
                  have HBD := hide hbd
                  clear hbd HBC
                  go_wp2
                  go_roundg s2.length
                  case measure => simp
                  case rel =>
                    refine ⟨p2 ++ [r], s2, unhide HZR2, rfl, ?_, ?_, unhide HBD⟩
                    · rw [List.length_append, ← Nat.add_assoc, unhide HQD]; go_num
                    · rw [List.length_append]; go_num
            | nil =>
              have hlt2 : decide (p2.length < t.rows.length) = false := by simp at l2 ⊢; omega
              have HP2 : Hid (p2.length = t.rows.length) := by unfold Hid; simp at l2; omega
              clear l2
              go_wp2_with fail
              clear hlt2
              go_loopg [12] 8 (fun f k W => f ≤ 8 ∧ k = .int .i64 ((8 - f : Nat) : Int) ∧ Below w.heap.size w W)
              case atStart => exact ⟨Nat.le_refl _, rfl, unhide HBX⟩
              case round =>
                clear HBX
                obtain ⟨hf8, rfl, hbw⟩ := hrel
                have HBX := hide hbw
                clear hbw
                cases gk with
                | succ f =>
                  have hq1 : 8 - (f + 1) < 8 := by omega
                  have hq2 : 8 - (f + 1) + 1 = 8 - f := by omega
                  generalize 8 - (f + 1) = m at *
                  have hd : decide (m < 8) = true := by simpa using hq1
                  have HQ2 := hide hq2
                  clear hq2
                  obtain ⟨v, hv⟩ : ∃ v, ps[m]? = some v := ⟨ps[m]'(by rw [unhide HPS]; exact hq1), List.getElem?_eq_getElem _⟩
                  obtain ⟨q, rfl, hqr⟩ := lpad_row ((unhide HFX) _ (unhide HBX)) ((unhide HPAD) v (List.mem_of_getElem? hv))
                  have y1 : wr.cell? ⟨gr, t.rows.length + m, none⟩ = some (.slice (some ⟨q, 0, none⟩) 1 1) := by
                    have hb := (unhide HFF) _ _ (unhide HGR)
                    rw [(unhide HBX).cell (p := ⟨gr, _, none⟩) (lt_of_heap hb), (blk hb).1]
                    have e : (cur.toList.take (t.rows.length + 8))[t.rows.length + m]? = some (.slice (some ⟨q, 0, none⟩) 1 1) := by
                      rw [unhide HTK, List.getElem?_append_right (by omega), hel.1, Nat.add_sub_cancel_left, hv]
                    rw [List.getElem?_take, if_pos (by omega)] at e
                    simpa using e
                  have HQR := hide hqr
                  clear hqr hv
                  have hsz := (unhide HBX).size
                  obtain ⟨-, -, c2, -, -, j3, -⟩ := (unhide HP) _ (unhide HBX)
                  go_wp2_with fail
                  refine (sameInts_any _ _ [-77] [-77] _ (by exact (unhide HQR).keep ((Below.refl _ _).alloc (Nat.le_refl _) _)) (by exact row_all (xs := [.int .i64 (-77)]) (heap_last rfl) 1 (by simp) (by unfold maxLen; omega) 1)).mono ?_
                  rintro e w2 ⟨rfl, hb2⟩
                  have HB2 := hide (((unhide HBX).alloc (by omega) _).trans (hb2.mono (by simp; omega)))
                  rw [decide_eq_true rfl]
                  clear hb2 c2 j3 y1
                  go_wp2
                  go_roundg f
                  case measure => simp
                  case rel =>
                    refine ⟨by omega, ?_, unhide HB2⟩
                    rw [← unhide HQ2]; go_num
                | zero =>
                  have hd : decide (8 - 0 < 8) = false := by decide
                  have e : nrows (pre ++ [t]) = q := by rw [nrows_append, ← unhide HQD, unhide HP2]; simp [nrows]
                  have HE := hide e
                  clear e
                  go_wp2
                  go_roundg suf.length
                  case measure => simp
                  case rel =>
                    refine ⟨pre ++ [t], suf, unhide HZ2, rfl, ?_, ?_, unhide HBX⟩
                    · rw [unhide HE]
                    · rw [List.length_append]; go_num
end Go.Proofs.YtfkeddkfegaeiaaDoor
