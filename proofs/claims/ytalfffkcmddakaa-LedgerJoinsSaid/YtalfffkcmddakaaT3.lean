/- The document's Join. -/
import Derived.Test.YtalfffkcmddakaaT2
import Derived.Test.YtalfffkcmddakaaS5
namespace Go.Proofs.Ytalfffkcmddakaa
open Go.RowKit Go.Shelf

set_option maxRecDepth 100000 in
set_option maxHeartbeats 64000000 in
theorem djoin2_b (A1 A2 : Option Addr) (a b : List Pl.En) (n1 c1 n2 c2 : Nat) (hn1 : a.length = n1) (hn2 : b.length = n2) (hc1 : n1 ≤ c1) (hc2 : n2 ≤ c2) (hm1 : n1 ≤ maxLen) (hm2 : n2 ≤ maxLen) (w : World) (hI1 : Rows enL 4 w A1 a) (hI2 : Rows enL 4 w A2 b) :
    Calls Try.prog 35 #[.slice A1 n1 c1, .slice A2 n2 c2] w fun e w' => ∃ v vO, e = .returned (.tuple #[v, vO, .int .i64 (Pl.joE a b)]) ∧ w'.ownsRow w.heap.size 24 4 v (Pl.joV a b).length (flt enL (Pl.joV a b)) ∧ w'.ownsRow w.heap.size 61 9 vO (Pl.joD a b).length (flt dfL (Pl.joD a b)) ∧ Below w.heap.size w w' := by
  have H1 := Lib.hid (dcompare2_b A1 A2 a b n1 c1 n2 c2 hn1 hn2 hc1 hc2 hm1 hm2 w hI1 hI2)
  by_cases hco : Pl.coE a b = 0
  case neg =>
    have e0 : Pl.coE a b = 90 := by unfold Pl.coE at hco ⊢; split <;> simp_all
    have e1 : Pl.coV a b = [] := by unfold Pl.coV; rw [if_neg hco]
    have e2 : Pl.joE a b = 90 := by
      unfold Pl.coE at hco
      unfold Pl.joE
      split
      · rfl
      · rename_i h; simp [h] at hco
    have e3 : Pl.joV a b = [] := by unfold Pl.joV; rw [e2]; rfl
    have e4 : Pl.joD a b = [] := by unfold Pl.joD; rw [e2]; rfl
    rw [e0, e1] at H1
    rw [e2, e3, e4]
    clear e0 e1 e2 e3 e4 hco hI1 hI2 hn1 hn2 hc1 hc2 hm1 hm2
    go_enter Try.func35, Try.ntmps35
    go_wp2_with fail
    refine H1.out.mono ?_
    rintro e w1 ⟨v1, rfl, _, hb1⟩
    go_wp2
    exact bodyPost_ret (v := .tuple #[.slice none 0 0, .slice none 0 0, .int .i64 90]) (by simp [results, Try.results35, go_sem]) rfl ⟨_, _, rfl, World.ownsRow_nil _ _ _ _, World.ownsRow_nil _ _ _ _, hb1⟩
  case pos =>
  obtain ⟨hva, hvb⟩ := Pl.co_ok.1 hco
  have ha := Pl.vb_iff.1 hva
  have hb := Pl.vb_iff.1 hvb
  have hl1 : n1 ≤ 200 := by rw [← hn1]; exact ha.len
  have hl2 : n2 ≤ 200 := by rw [← hn2]; exact hb.len
  obtain ⟨X, hX⟩ : ∃ X, Pl.dif a b = X := ⟨_, rfl⟩
  obtain ⟨m, hm⟩ : ∃ m, X.length = m := ⟨_, rfl⟩
  have hm400 : m ≤ 400 := by rw [← hm, ← hX]; have := Pl.dif_len a b; omega
  have e1 : Pl.coV a b = X := by unfold Pl.coV; rw [if_pos hco, hX]
  rw [hco, e1, hm] at H1
  obtain ⟨O, hO⟩ : ∃ O, Pl.oth a b = O := ⟨_, rfl⟩
  obtain ⟨q, hq⟩ : ∃ q, O.length = q := ⟨_, rfl⟩
  have hOX : Pl.ot3 X = O := by rw [← hO]; unfold Pl.ot3 Pl.oth; rw [hX]
  have hq400 : q ≤ 400 := by rw [← hq, ← hO]; have := Pl.oth_len a b; omega
  obtain ⟨E, hE⟩ : ∃ E, Pl.evr a b = E := ⟨_, rfl⟩
  obtain ⟨p, hp⟩ : ∃ p, E.length = p := ⟨_, rfl⟩
  have hp400 : p ≤ 400 := by rw [← hp, ← hE]; have := Pl.evr_len a b; omega
  have hRJ : Pl.rest E O = Pl.jn a b := by rw [← hE, ← hO]; exact Pl.rst_jn ha hb
  obtain ⟨J, hJ⟩ : ∃ J, Pl.jn a b = J := ⟨_, rfl⟩
  obtain ⟨j, hj⟩ : ∃ j, J.length = j := ⟨_, rfl⟩
  have hj400 : j ≤ 400 := by rw [← hj, ← hJ]; have := Pl.jn_len a b; omega
  have HEV := Lib.hid (fun W (h : Below w.heap.size w W) => devery_b A1 A2 a b n1 c1 n2 c2 hn1 hn2 hl1 hl2 W (hI1.below h) (hI2.below h))
  rw [hE] at HEV
  have HJE : Hid (Pl.joE a b = if 200 < j then 4 else 0) := Lib.hid (by unfold Pl.joE; rw [hva, hvb, hJ, hj]; rfl)
  have HJV : Hid (Pl.joV a b = if Pl.joE a b = 0 then J else []) := Lib.hid (by unfold Pl.joV; rw [hJ])
  have HJD : Hid (Pl.joD a b = if Pl.joE a b = 0 then O else []) := Lib.hid (by unfold Pl.joD; rw [hO])
  generalize Pl.joE a b = jE at *
  generalize Pl.joV a b = jV at *
  generalize Pl.joD a b = jD at *
  rw [hJ] at hRJ
  have HM := Lib.hid hm
  have HOX := Lib.hid hOX
  have HQ := Lib.hid hq
  have HP := Lib.hid hp
  have HRJ := Lib.hid hRJ
  have HJL := Lib.hid hj
  obtain ⟨i0, hi, hz0, hz1, hz2⟩ := info_parts infoDf3
  obtain ⟨i1, hi', hy0, hy1, hy2⟩ := info_parts infoEn3
  clear hco hva hvb ha hb hl1 hl2 hX hm e1 hO hq hOX hE hp hRJ hJ hj hI1 hI2 hn1 hn2 hc1 hc2 hm1 hm2
  go_enter Try.func35, Try.ntmps35
  go_wp2_with fail
  refine H1.out.mono ?_
  rintro e w1 ⟨v1, rfl, hO1, hb1⟩
  obtain ⟨Ax, cx, rfl, hRx⟩ := (show ∃ A c, v1 = .slice A m c ∧ Rows dfL 9 w1 A X from by
    obtain ⟨A, c, e, h, _, _⟩ := rows_of_owns encDf (show w1.ownsRow w.heap.size 61 9 v1 X.length (flt dfL X) from by rw [HM.out]; exact hO1)
    exact ⟨A, c, by rw [e, HM.out], h⟩)
  have HRx := Lib.hid hRx
  have HB1 := Lib.hid hb1
  clear hO1 hRx hb1 H1
  go_wp2
  go_loopw [9, 29] (fun v i wr => ∃ (k : Nat) (lv : Value), k ≤ m ∧ lv = v ∧ i = .int .i64 k ∧ Hid (wr.ownsRow w1.heap.size 61 9 lv (Pl.ot3 (X.take k)).length (flt dfL (Pl.ot3 (X.take k)))) ∧ Hid (Below w1.heap.size w1 wr)) (fun _ i _ => m - (intOf i).toNat)
  case atStart => exact ⟨0, _, Nat.zero_le _, rfl, rfl, Lib.hid (World.ownsRow_nil _ _ _ _), Lib.hid (Below.refl _ _)⟩
  case round =>
    obtain ⟨k, lv, hk, rfl, rfl, HO, HW⟩ := hrel
    obtain ⟨wo, rfl⟩ : ∃ wo, wo = wr := ⟨_, rfl⟩
    by_cases hlt : k < m
    · have hltI : (k : Int) < (m : Int) := by omega
      have hkx : k < X.length := by rw [HM.out]; exact hlt
      obtain ⟨bx, ox, rfl, hbx, hcx⟩ := HRx.out.open (by omega)
      have hr := row_at hbx hcx HW.out hkx
      have HST := Lib.hid (Pl.ot3_take hkx)
      have HDL : Hid ((Pl.ot3 (X.take k)).length ≤ 400) := Lib.hid (by have := Pl.ot3_len X k; omega)
      clear hcx
      generalize X[k] = d at *
      generalize Pl.ot3 (X.take k) = Y at *
      have bz := Blk.new wo 61 zdf
      have HBz := Lib.hid ((Below.refl wo.heap.size wo).alloc (Nat.le_refl _) (.cells zdf 61))
      clear hkx
      by_cases h3 : d.k = 3
      · have e3 : (d.k == 3) = true := by simp [h3]
        have HN : Hid (Pl.ot3 (X.take (k + 1)) = Y ++ [d]) := Lib.hid (by rw [HST.out, if_pos h3])
        clear HST h3
        go_wp2_with (first
          | (have h9 := bz
             refine st_df (k := d) bz rfl rfl _ _ rfl rfl rfl ?_
             clear h9
             intro w9 bY hO9
             have hb9 : Below wo.heap.size wo w9 := HBz.out.trans (hO9.below (Nat.le_refl _))
             have HO9 := Lib.hid (own_keep HO.out hb9)
             have HW9 := Lib.hid (HW.out.trans (hb9.mono HW.out.size))
             have q0 := bY.cell 0
             have hr7 := bY.range
             clear bz hO9 hb9 hr)
          | (have h9 := hr
             refine ldm_df hr rfl _ rfl rfl ?_
             clear h9)
          | (have h9 := hr7
             refine ldm_df hr7 rfl _ rfl rfl ?_
             clear h9)
          | (at_builtin; go_loud (refine wpList_append_own _ rfl _ _ 46 rfl w1.heap.size 61 i0 _ 9 72 Try.underlying46 hi hz0 hz1 hz2 rfl (by decide) _ _ _ rfl (HO9.out.alloc _) ⟨w9.heap.size, 0, none⟩ 1 1 (dfL d) rfl rfl (new_cells' _ _ _ rfl) (dfL_one d) (by unfold maxLen; have := HDL.out; omega) (by have := HDL.out; omega) (HW9.out.alloc HW9.out.size _).size ?_; intro v5 w10 hO5 hg5 _)))
        have HW5 := Lib.hid ((HW9.out.alloc HW9.out.size (.cells (dfL d).toArray 61)).grown hg5 (HW9.out.alloc HW9.out.size _).size (fun s h => (HO9.out.lt s h).1))
        have HO5 := Lib.hid hO5
        clear hO5 hg5 q0 hr7 bY
        go_roundw
        case rel => exact ⟨k + 1, _, by omega, rfl, by go_num, Lib.hid (by rw [HN.out, flt_append, flt_one, List.length_append]; exact HO5.out), HW5⟩
        case measure => simp [intOf]; omega
      · have e3 : (d.k == 3) = false := by simp [h3]
        have HN : Hid (Pl.ot3 (X.take (k + 1)) = Y) := Lib.hid (by rw [HST.out, if_neg h3])
        clear HST h3
        go_wp2_with (first
          | (have h9 := bz
             refine st_df (k := d) bz rfl rfl _ _ rfl rfl rfl ?_
             clear h9
             intro w9 bY hO9
             have hb9 : Below wo.heap.size wo w9 := HBz.out.trans (hO9.below (Nat.le_refl _))
             have HO9 := Lib.hid (own_keep HO.out hb9)
             have HW9 := Lib.hid (HW.out.trans (hb9.mono HW.out.size))
             have q0 := bY.cell 0
             clear bz hO9 hb9 hr bY)
          | (have h9 := hr
             refine ldm_df hr rfl _ rfl rfl ?_
             clear h9))
        clear q0
        go_roundw
        case rel => exact ⟨k + 1, _, by omega, rfl, by go_num, Lib.hid (by rw [HN.out]; exact HO9.out), HW9⟩
        case measure => simp [intOf]; omega
    · obtain rfl : k = m := by omega
      have hO2 := HO.out
      rw [List.take_of_length_le (by rw [HM.out]; exact Nat.le_refl _), HOX.out, HQ.out] at hO2
      have HB2 := Lib.hid (HB1.out.trans (HW.out.mono HB1.out.size))
      have HO2 := Lib.hid (hO2.mono HB1.out.size)
      clear hO2 HO HW HB1 HRx HOX HM
      go_wp2_with fail
      refine (HEV.out _ HB2.out).mono ?_
      rintro e w3 ⟨v3, rfl, hO3, hb3⟩
      rw [HP.out] at hO3
      obtain ⟨A3, c3, rfl, hR3, _, _, _⟩ := rows_own2 HP.out hO3
      have HB3 := Lib.hid (HB2.out.trans (hb3.mono HB2.out.size))
      have HR3 := Lib.hid hR3
      have hO4 := own_keep HO2.out hb3
      obtain ⟨Ao, co, rfl, hRo⟩ := (show ∃ A c, lv = Value.slice A q c ∧ Rows dfL 9 w3 A O from by
        obtain ⟨A, c, e, h, _, _⟩ := rows_of_owns encDf (show w3.ownsRow w.heap.size 61 9 lv O.length (flt dfL O) from by rw [HQ.out]; exact hO4)
        exact ⟨A, c, by rw [e, HQ.out], h⟩)
      have HRo := Lib.hid hRo
      have HO4 := Lib.hid hO4
      clear hO3 hb3 hR3 hO4 hRo HO2 HB2 HEV
      go_wp2
      go_loopw [12, 15, 45] (fun v _ i wr => ∃ k : Nat, k ≤ p ∧ i = .int .i64 k ∧ Hid (wr.ownsRow w3.heap.size 24 4 v (Pl.rest (E.take k) O).length (flt enL (Pl.rest (E.take k) O))) ∧ Hid (Below w3.heap.size w3 wr)) (fun _ _ i _ => p - (intOf i).toNat)
      case atStart => exact ⟨0, Nat.zero_le _, rfl, Lib.hid (World.ownsRow_nil _ _ _ _), Lib.hid (Below.refl _ _)⟩
      case round =>
        obtain ⟨i, hk', rfl, HO, HW⟩ := hrel
        obtain ⟨wo, rfl⟩ : ∃ wo, wo = wr := ⟨_, rfl⟩
        by_cases hlt2 : i < p
        · have hltI2 : (i : Int) < (p : Int) := by omega
          have hkx : i < E.length := by rw [HP.out]; exact hlt2
          obtain ⟨bx, ox, rfl, hbx, hcx⟩ := HR3.out.open (by omega)
          have hr := row_at hbx hcx HW.out hkx
          have HST := Lib.hid (Pl.rst_take (O := O) hkx)
          have HDL : Hid ((Pl.rest (E.take i) O).length ≤ 400) := Lib.hid (by have := Pl.rst_len E O i; omega)
          clear hcx
          generalize E[i] = x at *
          generalize Pl.rest (E.take i) O = Y at *
          have bz := Blk.new wo 24 zen
          have HBz := Lib.hid ((Below.refl wo.heap.size wo).alloc (Nat.le_refl _) (.cells zen 24))
          clear hkx
          go_wp2_with (first
            | (have h9 := bz
               refine st_en (k := x) bz rfl rfl _ _ rfl rfl rfl ?_
               clear h9
               intro w5 bY hO5
               have hb5 : Below wo.heap.size wo w5 := HBz.out.trans (hO5.below (Nat.le_refl _))
               have HO5 := Lib.hid (own_keep HO.out hb5)
               have HW5 := Lib.hid (HW.out.trans (hb5.mono HW.out.size))
               clear bz hO5 hb5 hr)
            | (have h9 := hr
               refine ldm_en hr rfl _ rfl rfl ?_
               clear h9))
          clear HO HW
          generalize hgx : wo.heap.size = gx at *
          clear hgx HBz
          go_loopw [15, 51] (fun s i wr => ∃ k : Nat, k ≤ q ∧ i = .int .i64 k ∧ s = .bool (Pl.apt (O.take k) (Pl.nm x)) ∧ Hid (Blk wr gx 24 (enA x)) ∧ Hid (Below w5.heap.size w5 wr)) (fun _ i _ => q - (intOf i).toNat)
          case atStart => exact ⟨0, Nat.zero_le _, rfl, rfl, Lib.hid bY, Lib.hid (Below.refl _ _)⟩
          case round =>
            obtain ⟨k, hk, rfl, rfl, HY, HV⟩ := hrel
            obtain ⟨wi, rfl⟩ : ∃ wi, wi = wr := ⟨_, rfl⟩
            by_cases hlt3 : k < q
            · have hltI3 : (k : Int) < (q : Int) := by omega
              have hkd : k < O.length := by rw [HQ.out]; exact hlt3
              obtain ⟨bo, oo, rfl, hbo, hco⟩ := HRo.out.open (by omega)
              have hr := row_at hbo hco (HW5.out.trans (HV.out.mono HW5.out.size)) hkd
              have HAT := Lib.hid (Pl.apt_take (n := Pl.nm x) hkd)
              clear hco
              generalize O[k] = d at *
              generalize Pl.apt (O.take k) (Pl.nm x) = s at *
              have bz := Blk.new wi 61 zdf
              have HBz := Lib.hid ((Below.refl wi.heap.size wi).alloc (Nat.le_refl _) (.cells zdf 61))
              clear hkd
              cases s
              case true =>
                have HN : Hid (Pl.apt (O.take (k + 1)) (Pl.nm x) = true) := Lib.hid (by rw [HAT.out]; rfl)
                clear HAT
                go_wp2_with (first
                  | (have h9 := bz
                     refine st_df (k := d) bz rfl rfl _ _ rfl rfl rfl ?_
                     clear h9
                     intro w9 bD hO9
                     have hb9 : Below wi.heap.size wi w9 := HBz.out.trans (hO9.below (Nat.le_refl _))
                     have HY9 := Lib.hid (HY.out.below hb9 HY.out.lt)
                     have HV9 := Lib.hid (HV.out.trans (hb9.mono HV.out.size))
                     clear bz hO9 hb9 hr bD)
                  | (have h9 := hr
                     refine ldm_df hr rfl _ rfl rfl ?_
                     clear h9))
                go_roundw
                case rel => exact ⟨k + 1, by omega, by go_num, by rw [HN.out], HY9, HV9⟩
                case measure => simp [intOf]; omega
              case false =>
                obtain ⟨u, hu⟩ : ∃ u, decide (Pl.nm x = Pl.nm d.m) = u := ⟨_, rfl⟩
                have HLK := Lib.hid (fun W => like_b x d.m u hu W)
                have HN : Hid (Pl.apt (O.take (k + 1)) (Pl.nm x) = u) := Lib.hid (by rw [HAT.out, hu]; rfl)
                clear HAT hu
                go_wp2_with (first
                  | (have h9 := bz
                     refine st_df (k := d) bz rfl rfl _ _ rfl rfl rfl ?_
                     clear h9
                     intro w9 bD hO9
                     have hb9 : Below wi.heap.size wi w9 := HBz.out.trans (hO9.below (Nat.le_refl _))
                     have HY9 := Lib.hid (HY.out.below hb9 HY.out.lt)
                     have HV9 := Lib.hid (HV.out.trans (hb9.mono HV.out.size))
                     have rx := HY9.out.range
                     have rm := df_m bD.range
                     clear bz hO9 hb9 hr bD)
                  | (have h9 := hr
                     refine ldm_df hr rfl _ rfl rfl ?_
                     clear h9)
                  | (have h9 := rx
                     refine ldm_en (s := x) rx rfl _ rfl rfl ?_
                     clear h9)
                  | (have h9 := rm
                     refine ldm_en (s := d.m) rm rfl _ rfl rfl ?_
                     clear h9))
                refine (HLK.out w9).mono ?_
                rintro e w10 ⟨rfl, hb10⟩
                have HY10 := Lib.hid (HY9.out.below hb10 HY9.out.lt)
                have HV10 := Lib.hid (HV9.out.trans (hb10.mono HV9.out.size))
                clear hb10 rx rm HY9 HV9
                go_wp2
                go_roundw
                case rel => exact ⟨k + 1, by omega, by go_num, by rw [HN.out], HY10, HV10⟩
                case measure => simp [intOf]; omega
            · obtain rfl : k = q := by omega
              have HAQ : Hid (Pl.apt (O.take k) (Pl.nm x) = Pl.apt O (Pl.nm x)) := Lib.hid (by rw [List.take_of_length_le (by rw [HQ.out]; exact Nat.le_refl _)])
              rw [HAQ.out]
              have HO9 := Lib.hid (own_keep HO5.out HV.out)
              have HW9 := Lib.hid (HW5.out.trans (HV.out.mono HW5.out.size))
              generalize Pl.apt O (Pl.nm x) = s at *
              cases s
              case true =>
                have HN : Hid (Pl.rest (E.take (i + 1)) O = Y) := Lib.hid (by rw [HST.out]; rfl)
                clear HST bY
                go_wp2
                go_roundw
                case rel => exact ⟨i + 1, by omega, by go_num, Lib.hid (by rw [HN.out]; exact HO9.out), HW9⟩
                case measure => simp [intOf]; omega
              case false =>
                have HN : Hid (Pl.rest (E.take (i + 1)) O = Y ++ [x]) := Lib.hid (by rw [HST.out]; rfl)
                have rx := HY.out.range
                clear HST bY
                go_wp2_with (first
                  | (have h9 := rx
                     refine ldm_en (s := x) rx rfl _ rfl rfl ?_
                     clear h9)
                  | (at_builtin; go_loud (refine wpList_append_own _ rfl _ _ 22 rfl w3.heap.size 24 i1 _ 4 32 Try.underlying22 hi' hy0 hy1 hy2 rfl (by decide) _ _ _ rfl (HO9.out.alloc _) ⟨wi.heap.size, 0, none⟩ 1 1 (enL x) rfl rfl (new_cells' _ _ _ rfl) (enL_one x) (by unfold maxLen; have := HDL.out; omega) (by have := HDL.out; omega) (HW9.out.alloc HW9.out.size _).size ?_; intro v5 w10 hO5 hg5 _)))
                have HWA := Lib.hid ((HW9.out.alloc HW9.out.size (.cells (enL x).toArray 24)).grown hg5 (HW9.out.alloc HW9.out.size _).size (fun s h => (HO9.out.lt s h).1))
                have HOA := Lib.hid hO5
                clear hO5 hg5 rx
                go_roundw
                case rel => exact ⟨i + 1, by omega, by go_num, Lib.hid (by rw [HN.out, flt_append, flt_one, List.length_append]; exact HOA.out), HWA⟩
                case measure => simp [intOf]; omega
        · obtain rfl : i = p := by omega
          have hO2 := HO.out
          rw [List.take_of_length_le (by rw [HP.out]; exact Nat.le_refl _), HRJ.out, HJL.out] at hO2
          obtain ⟨Aj, cj, rfl, _⟩ := rows_own2 HJL.out hO2
          have HO2 := Lib.hid (hO2.mono HB3.out.size)
          have HOO := Lib.hid (own_keep HO4.out HW.out)
          have HW5 := Lib.hid (HB3.out.trans (HW.out.mono HB3.out.size))
          clear hO2 HO HW
          by_cases h200 : 200 < j
          · have hI : (200 : Int) < (j : Int) := by omega
            have h1 := HJE.out
            rw [if_pos h200] at h1
            subst h1
            have h2 := HJV.out
            have h3 := HJD.out
            simp at h2 h3
            subst h2
            subst h3
            clear HJE HJV HJD h200
            go_wp2
            exact bodyPost_ret (v := .tuple #[.slice none 0 0, .slice none 0 0, .int .i64 4]) (by simp [results, Try.results35, go_sem]) rfl ⟨_, _, rfl, World.ownsRow_nil _ _ _ _, World.ownsRow_nil _ _ _ _, HW5.out⟩
          · have hI : ¬ (200 : Int) < (j : Int) := by omega
            have h1 := HJE.out
            rw [if_neg h200] at h1
            subst h1
            have h2 := HJV.out
            have h3 := HJD.out
            simp at h2 h3
            subst h2
            subst h3
            clear HJE HJV HJD h200
            go_wp2
            exact bodyPost_ret (v := .tuple #[.slice Aj j cj, .slice Ao q co, .int .i64 0]) (by simp [results, Try.results35, go_sem]) rfl ⟨_, _, rfl, by rw [HJL.out]; exact HO2.out, by rw [HQ.out]; exact HOO.out, HW5.out⟩
end Go.Proofs.Ytalfffkcmddakaa
