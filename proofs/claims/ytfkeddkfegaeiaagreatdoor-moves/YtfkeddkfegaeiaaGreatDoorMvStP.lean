/-
  Part 35.
-/
import Derived.Test.YtfkeddkfegaeiaaGreatDoorMvStO
namespace Go.Proofs.YtfkeddkfegaeiaaGreatDoor
open Go.RowKit
/-- a window as it lies, whole. -/
structure WnF (w0 : World) (G : Fx) (wd : Nat) (wb : Nat) (ah : Int) (ps os : List (List Int → Int)) (f : List Int → Int) (F : Int → List Int → Int) : Prop where
  lie : ∃ gc go cbo pv rv, WnM w0 G wd wb (.func (.func gc) #[] #[]) (.func (.func go) #[] cbo) pv rv ah ps os ∧ CallG gc F ∧ FnG w0 G wd go cbo f
  ahd : 0 ≤ ah ∧ ah ≤ 9223372036854775807
set_option maxRecDepth 100000 in
set_option maxHeartbeats 1000000 in
theorem numbers_any (w0 : World) (G : Fx) (wd wb : Nat) (ah : Int) (ps os : List (List Int → Int)) (f : List Int → Int) (F : Int → List Int → Int) (hm : WnF w0 G wd wb ah ps os f F) :
    ItG w0 G wd 285 #[.pointer (some ⟨wb, 0, none⟩)] #[] (winF ps os f F ah) := by
  refine ⟨enters_of Tryz.func285 (by kernel_rfl) rfl, fun W rv rows hW hwd hn hr => ?_⟩
  obtain ⟨gc, go, cbo, pv, rv', hm1, hcg, hfg⟩ := hm.lie
  obtain ⟨ha0, ha1⟩ := hm.ahd
  have HC := hide (seats_any w0 G wd wb _ _ pv rv' ah ps os hm1 rows hwd hn rv W hW hr)
  have HWD := hide hwd
  have HW := hide hW
  have HR := hide hr
  have HCG := hide hcg.2
  have HFG := hide hfg.2
  have eg := hcg.1
  have eg2 := hfg.1
  have hwb := hW.new _ _ hm1.box
  have HWB := hide hwb
  have zwb := lt_of_heap hwb
  obtain ⟨vs, ⟨adr, capr, rfl, mr, cr⟩, lr, rr⟩ := hr
  rw [lr] at HR HC ⊢
  obtain ⟨i0, hi, hinf⟩ := Option.map_eq_some_iff.1 infoInt
  simp only [Prod.mk.injEq] at hinf
  obtain ⟨hz0, hz1, hz2⟩ := hinf
  have HI := hide hi
  have HZ0 := hide hz0
  have HZ1 := hide hz1
  have HZ2 := hide hz2
  have HLR := hide lr
  clear hi hz0 hz1 hz2 lr hm hm1 hwd hW hwb cr rr mr hcg hfg
  obtain ⟨WF, hwf⟩ : ∃ WF, WF = winF ps os f F ah rows := ⟨_, rfl⟩
  have HWF := hide hwf
  have hwl : WF.length = rows.length := by rw [hwf]; exact winF_len _ _ _ _ _ _
  have HWL := hide hwl
  rw [← hwf]
  clear hwf hwl
  show Calls Tryz.prog 285 #[_, _] W _
  go_enter Tryz.func285, Tryz.ntmps285
  go_wp2_with fail
  refine (unhide HC).mono ?_
  rintro e w1 ⟨g, d, rfl, hg, hs2, hb1, hsr, hrw⟩
  have HS2 := hide hs2
  have HB1 := hide hb1
  have HLN : Hid (Line ps os rows d) := ⟨hsr, hrw⟩
  clear HC hs2 hb1 hsr hrw
  go_wp2_with (at_make; refine wpList_make_full _ rfl _ _ 32 rfl w1.heap.size 3 i0 (.int .i64 0) 1 Tryz.underlying32 (unhide HI) (unhide HZ0) (unhide HZ1) .i64 .i64 _ _ rows.length rfl rfl ?c1 ?c2 ?c3 ?c4 ?c5 ?_)
  case c1 => simp
  case c2 => simp
  case c3 => rw [unhide HZ2]; omega
  case c4 => unfold maxLen; omega
  case c5 => exact Nat.le_refl _
  intro w2 ho hg2
  rcases ho.2 with ⟨hv, _⟩ | ⟨g1, cap, cur, hv, hge, hh, c1, c2, c3, c4⟩
  · cases hv
  injection hv with hv1 hv2 hv3
  injection hv1 with hv1
  injection hv1 with hv1
  subst hv1
  have hcl : cur.toList.length = rows.length := by rw [Array.length_toList, c3]; omega
  have HH2 : Hid (w2.heap[w1.heap.size]? = some (.cells cur.toList.toArray 3 (0, 0))) := by unfold Hid; rw [hh]
  have HB2 : Hid (Below w1.heap.size w1 w2) := (Below.refl _ _).grown hg2 (Nat.le_refl _) (fun k e => by cases e)
  clear ho hg2 hh c1 c2 c3 c4 hv2 hv3 hge
  generalize cur.toList = L at *
  obtain ⟨b2, hb2⟩ : ∃ b2, b2 = w1.heap.size := ⟨_, rfl⟩
  rw [← hb2] at HH2 ⊢
  have zb2 : b2 ≤ w1.heap.size := by omega
  have zb2' : w1.heap.size ≤ b2 := by omega
  have hgb : g < b2 := by rw [hb2]; obtain ⟨cc, h1, -⟩ := (unhide HS2).lie; exact lt_of_heap h1
  clear hb2
  obtain ⟨OFS, hofs⟩ : ∃ OFS, OFS = (List.range rows.length).map fun j => f (rows.getD (d j).row []) := ⟨_, rfl⟩
  have hol : OFS.length = rows.length := by rw [hofs]; simp
  have HOFS := hide hofs
  have HOL := hide hol
  clear hofs hol
  go_wp2_with fail
  go_loopg [22] rows.length (fun q i W' => ∃ k, k + q = rows.length ∧ i = .int .i64 (k : Nat) ∧ W'.heap[b2]? = some (.cells (intsV (OFS.take k) ++ L.drop k).toArray 3 (0, 0)) ∧ Below w1.heap.size w1 W')
  case atStart => exact ⟨0, by simp, rfl, by simpa using unhide HH2, unhide HB2⟩
  case round =>
    obtain ⟨k, hkq, rfl, hh, hbw⟩ := hrel
    have HHW := hide hh
    have HBW := hide hbw
    have zw := lt_of_heap hh
    obtain ⟨kc, kf⟩ := blk hh
    clear hh hbw
    by_cases hlt : k < rows.length
    · have hd : decide (k < rows.length) = true := by simpa using hlt
      obtain ⟨gm, rfl⟩ : ∃ gm, gk = gm + 1 := ⟨gk - 1, by omega⟩
      obtain ⟨hri, hky⟩ := (unhide HLN).key hlt
      obtain ⟨zg, y0, y1, y2⟩ := ((unhide HS2).below (unhide HBW)).lie.at hlt
      generalize hx0 : (d k).row = ri at *
      generalize (d k).pa = pa at *
      generalize (d k).pl = pl at *
      generalize (d k).pc = pc at *
      generalize (d k).oa = oa at *
      generalize (d k).ol = ol at *
      generalize (d k).oc = oc at *
      obtain ⟨vs2, ⟨adr2, capr2, e0, -, cr⟩, lr2, rr⟩ := unhide HR
      injection e0 with e1 e2 e3
      subst e1 e3
      rw [lr2] at cr
      obtain ⟨b1, o1, rfl, z1, cc1⟩ := cr (by omega)
      obtain ⟨u, hu⟩ : ∃ u, vs2[ri]? = some u := ⟨vs2[ri]'(by rw [lr2]; omega), List.getElem?_eq_getElem _⟩
      obtain ⟨r, hr⟩ : ∃ r, rows[ri]? = some r := ⟨_, List.getElem?_eq_getElem hri⟩
      have hru := rr ri r u hr hu
      have HBA : Hid (Below W.heap.size W wr) := (unhide HB1).trans ((unhide HBW).mono (unhide HB1).size)
      have k1 : wr.cell? ⟨b1, o1 + ri, none⟩ = some u := by
        rw [(unhide HBA).cell (p := ⟨b1, _, none⟩) z1, cc1 _ (by omega), hu]
      have HRU := hide (hru.keep (unhide HBA))
      have HRL : Hid (r.length = wd) := (unhide HWD) r (List.mem_of_getElem? hr)
      obtain ⟨adu, capu, rfl, -, -⟩ := hru
      rw [List.length_map] at k1 HRU
      have kx : wr.cell? ⟨wb, 1, none⟩ = some (.func (.func go) #[] cbo) := by
        rw [(unhide HBA).cell (p := ⟨wb, 1, none⟩) zwb, (blk (unhide HWB)).1]; rfl
      have HFR : Hid (OFS[k]? = some (f r)) := by
        unfold Hid
        rw [unhide HOFS, List.getElem?_map, List.getElem?_range hlt]
        show some (f (rows.getD (d k).row [])) = _
        rw [hx0, List.getD_eq_getElem?_getD, hr]; rfl
      have q1 : (0 : Int) ≤ (ri : Int) := by omega
      have q2 : (ri : Int) < (rows.length : Int) := by omega
      clear hu hr cc1 cr rr lr2 e2 hky hx0 kc
      go_wp2_with fail
      obtain ⟨bs, hbs⟩ : ∃ bs, bs = wr.heap.size := ⟨_, rfl⟩
      rw [← hbs]
      generalize hwz : wr.alloc (.cells #[.int .i64 (ri : Nat), .slice pa pl pc, .slice oa ol oc] 479 (0, 0)) = wz
      have HBZ : Hid (Below wr.heap.size wr wz) := by rw [← hwz]; exact (Below.refl _ _).alloc (Nat.le_refl _) _
      have hbz : wz.heap[bs]? = some (.cells #[.int .i64 (ri : Nat), .slice pa pl pc, .slice oa ol oc] 479 (0, 0)) := by rw [← hwz, hbs]; exact heap_last rfl
      have zbs := lt_of_heap hbz
      have zsz : wr.heap.size ≤ wz.heap.size := (unhide HBZ).size
      have zbs' : wr.heap.size ≤ bs := by omega
      have zs1 := (unhide HB1).size
      have zsa := (unhide HBA).size
      have x0 : wz.cell? ⟨bs, 0, none⟩ = some (.int .i64 (ri : Nat)) := (blk hbz).1 0
      have x1 : wz.cell? ⟨b1, o1 + ri, none⟩ = some (.slice adu r.length capu) := ((unhide HBZ).cell (p := ⟨b1, _, none⟩) (by show b1 < wr.heap.size; omega)).trans k1
      have x2 : wz.cell? ⟨wb, 1, none⟩ = some (.func (.func go) #[] cbo) := ((unhide HBZ).cell (p := ⟨wb, 1, none⟩) (by show wb < wr.heap.size; omega)).trans kx
      have HHZ : Hid (wz.heap[b2]? = some (.cells (intsV (OFS.take k) ++ L.drop k).toArray 3 (0, 0))) := ((unhide HBZ).block _ zw).trans (unhide HHW)
      have zw2 : b2 < wz.heap.size := by omega
      have n1 : bs ≠ b2 := by omega
      have n2 : b1 ≠ b2 := by omega
      have n3 : wb ≠ b2 := by omega
      have hlp : (intsV (OFS.take k)).length = k := by simp [unhide HOL]; omega
      obtain ⟨t, L', hL⟩ : ∃ t L', L.drop k = t :: L' := by
        cases e : L.drop k with
        | nil => exfalso; have := congrArg List.length e; rw [List.length_drop] at this; simp at this; omega
        | cons t L' => exact ⟨t, L', rfl⟩
      have HKT : Hid (∀ w' : World, w'.heap[b2]? = some (.cells (intsV (OFS.take k) ++ L.drop k).toArray 3 (0, 0)) → w'.cell? ⟨b2, k, none⟩ = some t) := fun w' h => by
        rw [(blk h).1, hL, List.getElem?_toArray, List.getElem?_append_right (by omega), hlp, Nat.sub_self]; rfl
      have HNX : Hid ((intsV (OFS.take k) ++ L.drop k).toArray.setIfInBounds k (.int .i64 (f r)) = (intsV (OFS.take (k + 1)) ++ L.drop (k + 1)).toArray) := by
        unfold Hid
        have hd1 : L.drop (k + 1) = L' := by rw [← List.drop_drop, hL]; rfl
        rw [hL, hd1, List.setIfInBounds_toArray, List.set_append_right _ _ (by omega), hlp, Nat.sub_self, List.set_cons_zero, List.take_add_one, unhide HFR]
        simp
      clear hwz hbz hbs y0 y1 y2 k1 kx hL hlp
      go_region_held3 (fun w' => w'.cell? ⟨wb, 1, none⟩ = some (.func (.func go) #[] cbo) ∧ w'.cell? ⟨bs, 0, none⟩ = some (.int .i64 (ri : Nat)) ∧ w'.cell? ⟨b1, o1 + ri, none⟩ = some (.slice adu r.length capu)) (first | go_keep | exact ⟨by rw [cellFar _ _ _ _ n3]; assumption, by rw [cellFar _ _ _ _ n1]; assumption, by rw [cellFar _ _ _ _ n2]; assumption⟩) (first
        | (refine ((unhide HFG) _ _ r (by exact (unhide HW).below ((unhide HBA).trans ((unhide HBZ).drew.mono zsa))) (unhide HRL) (by exact (unhide HRU).keep (unhide HBZ).drew)).mono ?_; rintro e w3 ⟨rfl, hb3⟩; have HH3 : Hid (w3.heap[b2]? = some (.cells (intsV (OFS.take k) ++ L.drop k).toArray 3 (0, 0))) := (hb3.block b2 zw2).trans (unhide HHZ); have kf2 := (blk (unhide HH3)).2; have k2 := (unhide HKT) w3 (unhide HH3); have zw3 := lt_of_heap (unhide HH3); have zw4 : wz.heap.size ≤ w3.heap.size := hb3.size; have HB3 : Hid (Below wz.heap.size wz w3) := (Below.refl _ _).drew.trans hb3; have x0' := (hb3.cell (p := ⟨bs, 0, none⟩) zbs).trans x0; have x1' := (hb3.cell (p := ⟨b1, o1 + ri, none⟩) (by show b1 < wz.heap.size; omega)).trans x1; have x2' := (hb3.cell (p := ⟨wb, 1, none⟩) (by show wb < wz.heap.size; omega)).trans x2; clear hb3))
      have HB5 : Hid (Below w1.heap.size w1 w3) := (unhide HBW).trans ((((unhide HBZ).trans ((unhide HB3).mono zsz))).mono (unhide HBW).size)
      clear x0 x1 x2 x0' x1' x2' k2 kf2
      go_wp2
      go_roundg gm
      case measure => simp
      case rel =>
        refine ⟨k + 1, by omega, by go_num, ?_, (unhide HB5).setCell zb2' _⟩
        rw [heap_set (unhide HH3), unhide HNX]
    · have hd : decide (k < rows.length) = false := by simpa using hlt
      have hkn : k = rows.length := by omega
      have HHO : Hid (wr.heap[b2]? = some (.cells (intsV OFS).toArray 3 (0, 0))) := by
        have := unhide HHW
        rw [hkn, List.drop_eq_nil_of_le (by omega), List.append_nil, List.take_of_length_le (by rw [unhide HOL]; omega)] at this
        exact this
      clear hkn kc HHW
      go_wp2_with (at_make; refine wpList_make_full _ rfl _ _ 32 rfl wr.heap.size 3 i0 (.int .i64 0) 1 Tryz.underlying32 (unhide HI) (unhide HZ0) (unhide HZ1) .i64 .i64 _ _ rows.length rfl rfl ?c1 ?c2 ?c3 ?c4 ?c5 ?_)
      case c1 => simp
      case c2 => simp
      case c3 => rw [unhide HZ2]; omega
      case c4 => unfold maxLen; omega
      case c5 => exact Nat.le_refl _
      intro w4 ho hg4
      rcases ho.2 with ⟨hv, _⟩ | ⟨g1, cap, cur, hv, hge, hh, c1, c2, c3, c4⟩
      · cases hv
      injection hv with hv1 hv2 hv3
      injection hv1 with hv1
      injection hv1 with hv1
      subst hv1
      have hcl2 : cur.toList.length = rows.length := by rw [Array.length_toList, c3]; omega
      have HH4 : Hid (w4.heap[wr.heap.size]? = some (.cells cur.toList.toArray 3 (0, 0))) := by unfold Hid; rw [hh]
      have HB4 : Hid (Below wr.heap.size wr w4) := (Below.refl _ _).grown hg4 (Nat.le_refl _) (fun k e => by cases e)
      have HB4' : Hid (Below w1.heap.size w1 wr) := unhide HBW
      clear ho hg4 hh c1 c2 c3 c4 hv2 hv3 hge HBW
      generalize cur.toList = M at *
      clear HH2 HB2 HLR
      obtain ⟨b3, hb3⟩ : ∃ b3, b3 = wr.heap.size := ⟨_, rfl⟩
      rw [← hb3] at HH4 ⊢
      have zb3 : b3 ≤ wr.heap.size := by omega
      have zb3' : wr.heap.size ≤ b3 := by omega
      have hb23 : b2 < b3 := by omega
      clear hb3
      go_wp2_with fail
      go_loopg [10, 46] rows.length (fun q sv i W' => ∃ (k st : Nat) (nl : List Value), k + q = rows.length ∧ i = .int .i64 (k : Nat) ∧ sv = .int .i64 (st : Nat) ∧ st ≤ k ∧ (k = 0 ∨ Strt d 0 st (k - 1)) ∧ nl.length = rows.length ∧ W'.heap[b3]? = some (.cells nl.toArray 3 (0, 0)) ∧ (∀ j, j < k → nl[(d j).row]? = (intsV WF)[(d j).row]?) ∧ Below wr.heap.size wr W')
      case atStart => exact ⟨0, 0, M, by simp, rfl, rfl, Nat.le_refl _, Or.inl rfl, hcl2, unhide HH4, fun j h => absurd h (Nat.not_lt_zero _), unhide HB4⟩
      case round =>
        clear hkq hlt hd kf zw HH4
        obtain ⟨k, st, nl, hkq, rfl, rfl, hst, hsr, hnl, hh, hdn, hbw⟩ := hrel
        have HHN := hide hh
        have HDN := hide hdn
        have HSR := hide hsr
        have HBW := hide hbw
        have HBX : Hid (Below w1.heap.size w1 wr) := (unhide HB4').trans ((unhide HBW).mono (unhide HB4').size)
        have HBA : Hid (Below W.heap.size W wr) := (unhide HB1).trans ((unhide HBX).mono (unhide HB1).size)
        have HHOF := hide ((hbw.block _ (lt_of_heap (unhide HHO))).trans (unhide HHO))
        have zn := lt_of_heap hh
        clear hh hdn hsr hbw
        by_cases hlt : k < rows.length
        · have hd : decide (k < rows.length) = true := by simpa using hlt
          obtain ⟨gm, rfl⟩ : ∃ gm, gk = gm + 1 := ⟨gk - 1, by omega⟩
          have hsts := (unhide HS2).below (unhide HBX)
          obtain ⟨hri, -⟩ := (unhide HLN).key hlt
          obtain ⟨zg, y0, y1, y2⟩ := hsts.lie.at hlt
          obtain ⟨-, -, x1, -⟩ := hsts.lie.at (show st < rows.length by omega)
          have HPK := hide (hsts.ok k hlt).part.row
          have HPS := hide (hsts.ok st (by omega)).part.row
          have HNEW : Hid (∃ s2, (if (d k).part = (d st).part then st else k) = s2 ∧ Strt d 0 s2 k) := by
            refine ⟨_, rfl, ?_⟩
            rcases unhide HSR with h0 | h0
            · subst h0
              obtain rfl : st = 0 := by omega
              rw [if_pos rfl]
              exact Line.strt0
            · by_cases hk0 : k = 0
              · subst hk0
                obtain rfl : st = 0 := by omega
                rw [if_pos rfl]
                exact Line.strt0
              · have e : k - 1 + 1 = k := by omega
                by_cases hq : (d k).part = (d st).part
                · rw [if_pos hq]
                  have := h0.on (by rw [e]; exact hq)
                  rw [e] at this
                  exact this
                · rw [if_neg hq]
                  have := (unhide HLN).anew (by omega) h0 (by rw [e]; exact hq)
                  rw [e] at this
                  exact this
          obtain ⟨s2, hs2, hstr⟩ := unhide HNEW
          have hs2k := hstr.le
          have HSTR := hide hstr
          have HS2E := hide hs2
          generalize hx0 : (d k).row = ri at *
          have HX0 := hide hx0
          generalize (d k).pa = pa at *
          generalize (d k).pl = pl at *
          generalize (d k).pc = pc at *
          generalize (d k).oa = oa at *
          generalize (d k).ol = ol at *
          generalize (d k).oc = oc at *
          generalize (d st).pa = pa2 at *
          generalize (d st).pl = pl2 at *
          generalize (d st).pc = pc2 at *
          have q1 : (0 : Int) ≤ (st : Int) := by omega
          have q2 : (st : Int) < (rows.length : Int) := by omega
          have kc0 : wr.cell? ⟨wb, 0, none⟩ = some (.func (.func gc) #[] #[]) := by
            rw [(unhide HBA).cell (p := ⟨wb, 0, none⟩) zwb, (blk (unhide HWB)).1]; rfl
          have kc4 : wr.cell? ⟨wb, 4, none⟩ = some (.int .i64 ah) := by
            rw [(unhide HBA).cell (p := ⟨wb, 4, none⟩) zwb, (blk (unhide HWB)).1]; rfl
          clear hsts HNEW hs2 hstr hx0
          go_wp2_with fail
          obtain ⟨bs, hbs⟩ : ∃ bs, bs = wr.heap.size := ⟨_, rfl⟩
          rw [← hbs]
          generalize hwz : wr.alloc (.cells #[.int .i64 (ri : Nat), .slice pa pl pc, .slice oa ol oc] 479 (0, 0)) = wz
          have HBZ : Hid (Below wr.heap.size wr wz) := by rw [← hwz]; exact (Below.refl _ _).alloc (Nat.le_refl _) _
          have hbz : wz.heap[bs]? = some (.cells #[.int .i64 (ri : Nat), .slice pa pl pc, .slice oa ol oc] 479 (0, 0)) := by rw [← hwz, hbs]; exact heap_last rfl
          have HBS := hide hbz
          have zbs := lt_of_heap hbz
          have zsz : wr.heap.size ≤ wz.heap.size := (unhide HBZ).size
          have zbs' : wr.heap.size ≤ bs := by omega
          have x0 : wz.cell? ⟨bs, 0, none⟩ = some (.int .i64 (ri : Nat)) := (blk hbz).1 0
          have x2 : wz.cell? ⟨bs, 1, none⟩ = some (.slice pa pl pc) := (blk hbz).1 1
          have x3 : wz.cell? ⟨g, st * 3 + 1, none⟩ = some (.slice pa2 pl2 pc2) := ((unhide HBZ).cell (p := ⟨g, _, none⟩) zg).trans x1
          have HEQ := hide (sEqual_any _ _ _ _ wz.drew ((unhide HPK).keep (unhide HBZ).drew) ((unhide HPS).keep (unhide HBZ).drew))
          obtain ⟨B, hB⟩ : ∃ B, B = decide ((d k).part = (d st).part) := ⟨_, rfl⟩
          rw [← hB] at HEQ
          have HB := hide hB
          have zsa := (unhide HBA).size
          have zsx := (unhide HBX).size
          have zg2 : g < wz.heap.size := by omega
          have zwb2 : wb < wz.heap.size := by omega
          have x4 : wz.cell? ⟨wb, 0, none⟩ = some (.func (.func gc) #[] #[]) := ((unhide HBZ).cell (p := ⟨wb, 0, none⟩) (by show wb < wr.heap.size; omega)).trans kc0
          have x5 : wz.cell? ⟨wb, 4, none⟩ = some (.int .i64 ah) := ((unhide HBZ).cell (p := ⟨wb, 4, none⟩) (by show wb < wr.heap.size; omega)).trans kc4
          clear hwz hbz hbs y0 y1 y2 x1 hB kc0 kc4
          go_region_held3 (fun w' => w'.cell? ⟨bs, 1, none⟩ = some (.slice pa pl pc) ∧ w'.cell? ⟨g, st * 3 + 1, none⟩ = some (.slice pa2 pl2 pc2)) (go_keep) (first
            | (go_at_call 252; refine (unhide HEQ).mono ?_; rintro e we ⟨rfl, hbe⟩; have HBE : Hid (Below wz.heap.size wz we) := (Below.refl _ _).drew.trans hbe; have zse : wz.heap.size ≤ we.heap.size := hbe.size; have a0 := (hbe.cell (p := ⟨bs, 0, none⟩) zbs).trans x0; have a2 := (hbe.cell (p := ⟨bs, 1, none⟩) zbs).trans x2; have a3 := (hbe.cell (p := ⟨g, st * 3 + 1, none⟩) zg2).trans x3; have a4 := (hbe.cell (p := ⟨wb, 0, none⟩) zwb2).trans x4; have a5 := (hbe.cell (p := ⟨wb, 4, none⟩) zwb2).trans x5; clear hbe))
          clear x0 x2 x3 x4 x5 a2 a3
          go_upto_if 59 with (fail)
          go_cut [10] from 60 to 60 (fun sv W' => sv = .int .i64 (s2 : Nat) ∧ W' = we)
          case first =>
            cases B with
            | true =>
              have HE2 : Hid (st = s2) := by
                have h := unhide HS2E
                rw [if_pos (by simpa using (unhide HB).symm)] at h
                exact h
              go_wp2_with fail
              go_meet
              case rel => exact ⟨by rw [unhide HE2], rfl⟩
            | false =>
              have HE2 : Hid (k = s2) := by
                have h := unhide HS2E
                rw [if_neg (by simpa using (unhide HB).symm)] at h
                exact h
              go_wp2_with fail
              go_meet
              case rel => exact ⟨by rw [unhide HE2], rfl⟩
          case rest =>
            obtain ⟨rfl, hWr⟩ := hcut
            obtain rfl := hWr.symm
            obtain ⟨lo, hlo⟩ : ∃ lo, lo = s2 + (k - s2 - ah.toNat) := ⟨_, rfl⟩
            have hmx : max (s2 : Int) ((k : Int) - ah) = (lo : Nat) := by omega
            have v1 : IntKind.i64.wrap ((k : Int) - ah) = (k : Int) - ah := by unfold IntKind.wrap; simp [IntKind.bits, IntKind.signed]; omega
            have v2 : IntKind.i64.wrap ((k : Int) - (s2 : Int)) = (k : Int) - (s2 : Int) := by unfold IntKind.wrap; simp [IntKind.bits, IntKind.signed]; omega
            have v3 : IntKind.i64.wrap ((k : Int) - (s2 : Int) + 1) = (k : Int) - (s2 : Int) + 1 := by unfold IntKind.wrap; simp [IntKind.bits, IntKind.signed]; omega
            have hlk : lo ≤ k := by omega
            obtain ⟨fr, hfr⟩ : ∃ fr, fr = (OFS.drop lo).take (k + 1 - lo) := ⟨_, rfl⟩
            have hfl : fr.length = k + 1 - lo := by rw [hfr, List.length_take, List.length_drop, unhide HOL]; omega
            have HBWE : Hid (Below wr.heap.size wr we) := (unhide HBZ).trans ((unhide HBE).mono zsz)
            have HHE : Hid (we.heap[b2]? = some (.cells (intsV OFS).toArray 3 (0, 0))) := ((unhide HBWE).block _ (by omega)).trans (unhide HHOF)
            have HHN2 : Hid (we.heap[b3]? = some (.cells nl.toArray 3 (0, 0))) := ((unhide HBWE).block _ zn).trans (unhide HHN)
            have HFR : Hid (RowAt we (.slice (some ⟨b2, lo, none⟩) (k + 1 - lo) (rows.length - lo)) (intsV fr)) := by
              refine ⟨some ⟨b2, lo, none⟩, rows.length - lo, by rw [List.length_map, hfl], by rw [List.length_map, hfl]; unfold maxLen; omega, fun _ => ⟨b2, lo, rfl, lt_of_heap (unhide HHE), fun j hj => ?_⟩⟩
              rw [List.length_map, hfl] at hj
              rw [(blk (unhide HHE)).1, hfr, List.getElem?_toArray, List.getElem?_map, List.getElem?_map, List.getElem?_take, if_pos hj, List.getElem?_drop]
            have HVAL : Hid ((intsV WF)[ri]? = some (.int .i64 (F ((k : Int) - (s2 : Int) + 1) fr))) := by
              unfold Hid
              have h := (unhide HLN).num hlt (unhide HSTR) f F ah
              rw [← unhide HWF, ← unhide HOFS, ← hlo, ← hfr, unhide HX0] at h
              rw [List.getElem?_map, h]; rfl
            obtain ⟨t, ht⟩ : ∃ t, nl[ri]? = some t := ⟨_, List.getElem?_eq_getElem (by omega)⟩
            have HT := hide ht
            have hf0 : 0 < fr.length := by omega
            have hf9 : fr.length ≤ 4000 := by omega
            have n1 : bs ≠ b3 := by omega
            have n2 : wb ≠ b3 := by omega
            have zn2 : b3 < we.heap.size := by omega
            have zb2e : b2 < we.heap.size := by omega
            have zbse : bs < we.heap.size := by omega
            have zwbe : wb < we.heap.size := by omega
            generalize hplc : (k : Int) - (s2 : Int) + 1 = plc at *
            have u1 : (0 : Int) ≤ (lo : Int) := by omega
            have u2 : (lo : Int) ≤ (k : Int) + 1 := by omega
            have u3 : (k : Int) + 1 ≤ (rows.length : Int) := by omega
            have u4 : (0 : Int) ≤ (ri : Int) := by omega
            have u5 : (ri : Int) < (rows.length : Int) := by omega
            clear hlo hfr ht
            go_upto_region 16 with (fail)
            go_region_held3 (fun w' => w'.cell? ⟨wb, 0, none⟩ = some (.func (.func gc) #[] #[]) ∧ w'.cell? ⟨bs, 0, none⟩ = some (.int .i64 (ri : Nat))) (first | go_keep | exact ⟨by rw [cellFar _ _ _ _ n2]; assumption, by rw [cellFar _ _ _ _ n1]; assumption⟩) (first
              | (refine ((unhide HCG) _ _ plc fr hf0 hf9 (by exact (unhide HFR).keep (Below.refl _ _).drew)).mono ?_; rintro e wc ⟨rfl, hbc⟩; have HHC : Hid (wc.heap[b3]? = some (.cells nl.toArray 3 (0, 0))) := (hbc.block b3 zn2).trans (unhide HHN2); have kf3 := (blk (unhide HHC)).2; have k3 : wc.cell? ⟨b3, ri, none⟩ = some t := by { rw [(blk (unhide HHC)).1, List.getElem?_toArray]; exact unhide HT }; have zwc := lt_of_heap (unhide HHC); have HBC : Hid (Below we.heap.size we wc) := (Below.refl _ _).drew.trans hbc; have c0 := (hbc.cell (p := ⟨bs, 0, none⟩) zbse).trans a0; have c4 := (hbc.cell (p := ⟨wb, 0, none⟩) zwbe).trans a4; have zsc : we.heap.size ≤ wc.heap.size := hbc.size; clear hbc))
            have HBF : Hid (Below wr.heap.size wr wc) := (unhide HBWE).trans ((unhide HBC).mono (by omega))
            clear a0 a4 a5 c0 c4 k3 kf3 v1 v2 v3 hmx hplc
            go_wp2
            go_roundg gm
            case measure => simp
            case rel =>
              refine ⟨k + 1, s2, nl.set ri (.int .i64 (F plc fr)), by omega, by go_num, rfl, by omega, Or.inr (unhide HSTR), by simpa using hnl, ?_, fun j hj => ?_, ((unhide HBW).trans ((unhide HBF).mono (unhide HBW).size)).setCell zb3' _⟩
              · rw [heap_set (unhide HHC), List.setIfInBounds_toArray]
              · by_cases e : (d j).row = ri
                · rw [e, List.getElem?_set_self (by omega), unhide HVAL]
                · rw [List.getElem?_set_ne (fun h => e h.symm)]
                  refine (unhide HDN) j ?_
                  by_cases e2 : j = k
                  · subst e2; exact absurd (unhide HX0) e
                  · omega
        · have hd : decide (k < rows.length) = false := by simpa using hlt
          have hkn : k = rows.length := by omega
          have HEQ : Hid (nl = intsV WF) := by
            refine List.ext_getElem? fun i => ?_
            by_cases hi : i < rows.length
            · obtain ⟨j, hj, rfl⟩ := (unhide HLN).all hi
              exact (unhide HDN) j (by omega)
            · rw [List.getElem?_eq_none (by omega), List.getElem?_eq_none (by rw [List.length_map, unhide HWL]; omega)]
          clear hkn
          go_wp2
          go_ret
          refine ⟨_, rfl, ?_, fun b o n c e => by injection e with e _ _; injection e with e; injection e with e; have := (unhide HB1).size; omega, unhide HWL, unhide HBA⟩
          have h9 := unhide HHN
          rw [unhide HEQ] at h9
          have h8 := row_full h9 (by rw [List.length_map, unhide HWL]; unfold maxLen; omega) rows.length
          rw [show (intsV WF).length = rows.length from by rw [List.length_map, unhide HWL]] at h8
          exact h8
end Go.Proofs.YtfkeddkfegaeiaaGreatDoor
