/- TopPairs. -/
import Derived.Test.YtmjnlmmjfbpogaaL7
import Derived.Test.YtmjnlmmjfbpogaaS15
import Derived.Test.YtmjnlmmjfbpogaaT2
namespace Go.Proofs.Ytmjnlmmjfbpogaa
open Go.RowKit Go.Shelf

set_option maxRecDepth 100000 in
set_option maxHeartbeats 32000000 in
theorem law_pairs (A : Option Addr) (l : List Pl.Tm) (c : Nat) (ua ub ud : Nat) (ha : ua ≤ 65535) (hb : ub ≤ 65535) (hd : ud ≤ 65535) (w : World) (hI : Tms w A l) :
    Calls Try.prog 13 #[.slice A l.length c, .agg #[.int .u16 ua, .int .u16 ub, .int .u16 ud]] w fun e w' => e = .returned (.bool true) ∧ Below w.heap.size w w' := by
  have HI := Lib.hid hI
  have HS := Lib.hid paired_any
  have HV := Lib.hid (fun (w' : World) hI => rvalid_any A l c w' hI)
  obtain ⟨n, hn⟩ : ∃ n, l.length = n := ⟨_, rfl⟩
  have HN := Lib.hid hn
  have H1 := Lib.hid (fun (w' : World) tol hI => Most_any A l c n hn tol w' hI)
  have H2 := Lib.hid (fun (w' : World) tol hI => Match_any A l c n hn tol w' hI)
  have H3 := Lib.hid (fun (w' : World) tol hI => Guard_any A l c n hn tol w' hI)
  have H4 := Lib.hid (fun (w' : World) tol AM (M : List (Nat × Nat)) cM m (hm : M.length = m) (hm7 : m ≤ 70) hI hM => rCheck_any A l c n hn tol AM (M.map fun e => ((e.1 : Int), (e.2 : Int))) cM m (by rw [List.length_map]; exact hm) hm7 w' hI hM)
  have H5 := Lib.hid (fun (w' : World) tol AG (g : List Nat) cg m (hm : g.length = m) (hm6 : m ≤ 600) hI hL => rIsGuard_any A l c n hn tol AG (g.map (fun n : Nat => (n : Int))) cg m (by rw [List.length_map]; exact hm) hm6 w' hI hL)
  have H6 := Lib.hid (fun (w' : World) AM (M : List (Nat × Nat)) cM m (hm : M.length = m) (hm7 : m ≤ 70) hI hM => Worst_any A l c n hn AM (M.map fun e => ((e.1 : Int), (e.2 : Int))) cM m (by rw [List.length_map]; exact hm) hm7 w' hI hM)
  have H7 := Lib.hid (fun (w' : World) k hI => Tolerance_any A l c n hn k w' hI)
  rw [hn] at HV ⊢
  obtain ⟨V, hv⟩ : ∃ V, Pl.vs l = V := ⟨_, rfl⟩
  rw [hv] at HV
  have hBa := (Below.refl w.heap.size w).alloc (Nat.le_refl _) (.cells #[.int .u16 ua, .int .u16 ub, .int .u16 ud] 66)
  have bVa := Blk.new w 66 #[.int .u16 ua, .int .u16 ub, .int .u16 ud]
  have HIa := Lib.hid (HI.out.below hBa)
  have HVV := Lib.hid hv
  clear hI hn hv
  by_cases hw : (16 : Int) < (n : Int)
  · go_enter Try.func13, Try.ntmps13
    go_wp2_with fail
    refine (HS.out _).mono ?_
    rintro e wz ⟨rfl, hbz⟩
    go_wp2
    go_ret
    exact ⟨rfl, hBa.trans (hbz.mono hBa.size)⟩
  have hn16 : n ≤ 16 := by omega
  cases V with
  | false =>
    go_enter Try.func13, Try.ntmps13
    go_wp2_with fail
    refine (HV.out _ HIa.out).mono ?_
    rintro e w1 ⟨rfl, hb1⟩
    have hB1 := hBa.trans (hb1.mono hBa.size)
    go_wp2_with fail
    refine (HS.out _).mono ?_
    rintro e wz ⟨rfl, hbz⟩
    go_wp2
    go_ret
    exact ⟨rfl, hB1.trans (hbz.mono hB1.size)⟩
  | true =>
    have hvs := HVV.out
    have HTP := Lib.hid (fun k t e tol (h0 : 0 ≤ tol) (h1 : tol ≤ 1000) (hk : 0 ≤ k) (hm : k ≤ ((Pl.mt l tol).length : Int)) (h : Pl.Tp l k t e) => Pl.tp_le hvs h0 h1 hk hm h)
    have HTE := Lib.hid (fun t e (h : Pl.Tp l ((Pl.mo l 9 : Nat) + 1) t e) => Pl.tp_end hvs h)
    have HMO := Lib.hid (fun tol => Pl.mt_mo l tol)
    have HMM := Lib.hid (fun tol tol' (h : tol ≤ tol') => Pl.mt_tol (Pl.ok_of hvs) (tol := tol) (tol' := tol') h)
    have HCK : Hid (∀ tol, 0 ≤ tol → tol ≤ 1000 → Pl.ck l tol = 0) := Lib.hid (fun tol h0 h1 => by unfold Pl.ck; rw [if_pos hvs, if_pos (Pl.inB_true.2 ⟨h0, h1⟩)])
    have HWS := Lib.hid (fun tol (h0 : 0 ≤ tol) (h1 : tol ≤ 1000) => Pl.ws_mt (l := l) (tol := tol) hvs h0 h1)
    have HM2 : Hid (∀ tol, 2 * (Pl.mt l tol).length ≤ n) := Lib.hid (fun tol => by have := Pl.rs_count (Pl.mt_mch l tol); have := HN.out; omega)
    clear hvs HVV
    go_enter Try.func13, Try.ntmps13
    go_wp2_with fail
    refine (HV.out _ HIa.out).mono ?_
    rintro e w1 ⟨rfl, hb1⟩
    have hB1 := hBa.trans (hb1.mono hBa.size)
    have bV1 := bVa.below hb1 bVa.lt
    have HI1 := Lib.hid (HIa.out.below hb1)
    clear hb1 hBa bVa HIa HV
    go_wp2
    go_loopw [5, 7, 8, 9, 10, 11, 12, 13, 14, 15, 16, 17, 18, 19, 20, 21] (fun v5 v7 v8 _ _ _ _ _ _ _ _ _ _ _ _ _ wr => ∃ i : Nat, ∃ tol last : Int, i ≤ 3 ∧ v8 = .int .i64 i ∧ v7 = .int .i64 tol ∧ v5 = .int .i64 last ∧ 0 ≤ tol ∧ tol ≤ 1000 ∧ -1 ≤ last ∧ last ≤ ((Pl.mt l tol).length : Int) ∧ Blk wr w.heap.size 66 #[.int .u16 ua, .int .u16 ub, .int .u16 ud] ∧ Below w.heap.size w wr) (fun _ _ v8 _ _ _ _ _ _ _ _ _ _ _ _ _ _ => 3 - (intOf v8).toNat)
    case atStart => exact ⟨0, 0, -1, Nat.zero_le _, rfl, rfl, rfl, by omega, by omega, by omega, by omega, bV1, hB1⟩
    case round =>
      clear bV1 hB1 HI1
      obtain ⟨i, tol, last, hi, rfl, rfl, rfl, ht0, ht1, hl0, hl1, bV, hB⟩ := hrel
      obtain ⟨wo, rfl⟩ : ∃ wo, wo = wr := ⟨_, rfl⟩
      have HIo := Lib.hid (HI.out.below hB)
      by_cases hlt : i < 3
      · have hltI : (i : Int) < 3 := by omega
        obtain ⟨u, hu, q0⟩ : ∃ u : Nat, u ≤ 65535 ∧ wo.cell? ⟨w.heap.size, i, none⟩ = some (.int .u16 u) := by
          match i, hlt with
          | 0, _ => exact ⟨ua, ha, (bV.cell 0).trans rfl⟩
          | 1, _ => exact ⟨ub, hb, (bV.cell 1).trans rfl⟩
          | 2, _ => exact ⟨ud, hd, (bV.cell 2).trans rfl⟩
        have k1 : IntKind.i64.wrap (u : Int) = (u : Int) := IntWalk.i64_in _ (by omega)
        obtain ⟨r, hr⟩ : ∃ r : Nat, u % 400 = r := ⟨_, rfl⟩
        have hr4 : r < 400 := by omega
        have k2 : (u : Int).tmod 400 = (r : Int) := by rw [← hr]; rfl
        have k3 : (u : Int) % 400 = (r : Int) := by rw [← hr]; rfl
        clear hr
        go_wp2_with fail
        obtain ⟨T, hT⟩ : ∃ T, min (tol + (r : Int)) 1000 = T := ⟨_, rfl⟩
        have hT0 : 0 ≤ T := by omega
        have hT1 : T ≤ 1000 := by omega
        have hTt : tol ≤ T := by omega
        rw [hT]
        have HCKT := Lib.hid (HCK.out T hT0 hT1)
        have hgr := HMM.out tol T hTt
        have hm2 := HM2.out T
        have HMT : Hid (Pl.Mt l T = Pl.mt l T) := Lib.hid (by unfold Pl.Mt; rw [if_pos HCKT.out])
        have HPF := Lib.hid (Pl.chk_mt HCKT.out)
        have HWT := Lib.hid (HWS.out T hT0 hT1)
        obtain ⟨m, hm⟩ : ∃ m, (Pl.mt l T).length = m := ⟨_, rfl⟩
        have HM := Lib.hid hm
        rw [hm] at hgr hm2
        have hlm : last ≤ (m : Int) := by omega
        have hlm' : ¬ (m : Int) < last := by omega
        clear hT hgr hl1 hm k1 k2 k3 q0 hTt hr4 hu
        refine (H1.out _ T HIo.out).mono ?_
        rintro e w2 ⟨rfl, hb⟩
        rw [HMT.out, HM.out, HCKT.out]
        have hB2 := hB.trans (hb.mono hB.size)
        have HI2 := Lib.hid (HIo.out.below hb)
        have bV2 := bV.below hb bV.lt
        clear hb hB HIo bV
        go_wp2_with fail
        refine (H2.out _ T HI2.out).mono ?_
        rintro e w3 ⟨v3, rfl, hown, hb⟩
        obtain ⟨A1, c1, rfl, hr1, _, _⟩ := rows_of_owns encPr hown
        rw [HMT.out] at hr1
        rw [HMT.out, HM.out, HCKT.out]
        have hB3 := hB2.trans (hb.mono hB2.size)
        have HI3 := Lib.hid (HI2.out.below hb)
        have bV3 := bV2.below hb bV2.lt
        have H66 := Lib.hid hr1
        clear hb hB2 HI2 bV2 hr1 hown
        go_wp2_with fail
        refine (H3.out _ T HI3.out).mono ?_
        rintro e w4 ⟨v4, g, rfl, hg, hown, hb⟩
        obtain ⟨AG, cg, rfl, hr, _, _⟩ := rows_of_owns encIr hown
        have HGL : Hid (g.length = m) := Lib.hid (hg.len.trans (by rw [HMT.out, HM.out]))
        have hig := hg.ig HCKT.out
        have HGV := Lib.hid hig.1
        have HGE := Lib.hid hig.2
        rw [HGL.out, HCKT.out]
        have hB4 := hB3.trans (hb.mono hB3.size)
        have HI4 := Lib.hid (HI3.out.below hb)
        have bV4 := bV3.below hb bV3.lt
        have HA4 := Lib.hid (H66.out.below hb)
        have HR4 := Lib.hid hr
        clear hb hB3 HI3 bV3 H66 hr hown hg hig
        go_wp2_with fail
        refine (H4.out _ T A1 (Pl.mt l T) c1 m HM.out (by omega) HI4.out (rows_pairs HA4.out)).mono ?_
        rintro e w5 ⟨rfl, hb⟩
        rw [HPF.out]
        have hB5 := hB4.trans (hb.mono hB4.size)
        have HI5 := Lib.hid (HI4.out.below hb)
        have bV5 := bV4.below hb bV4.lt
        have HA5 := Lib.hid (HA4.out.below hb)
        have HR5 := Lib.hid (HR4.out.below hb)
        clear hb hB4 HI4 bV4 HA4 HR4
        go_wp2_with fail
        refine (H5.out _ T AG g cg m HGL.out (by omega) HI5.out (rows_int HR5.out)).mono ?_
        rintro e w6 ⟨rfl, hb⟩
        rw [HGV.out, HGE.out]
        have hB6 := hB5.trans (hb.mono hB5.size)
        have HI6 := Lib.hid (HI5.out.below hb)
        have bV6 := bV5.below hb bV5.lt
        have HA6 := Lib.hid (HA5.out.below hb)
        clear hb hB5 HI5 bV5 HA5 HR5
        go_wp2_with fail
        refine (H6.out _ A1 (Pl.mt l T) c1 m HM.out (by omega) HI6.out (rows_pairs HA6.out)).mono ?_
        rintro e w7 ⟨rfl, hb⟩
        rw [HWT.out.1]
        obtain ⟨W, hW⟩ : ∃ W, Pl.wsV l ((Pl.mt l T).map fun e => ((e.1 : Int), (e.2 : Int))) = W := ⟨_, rfl⟩
        have hWT := HWT.out.2
        rw [hW] at hWT
        rw [hW]
        have hWT' : ¬ T < W := by omega
        have hB7 := hB6.trans (hb.mono hB6.size)
        have bV7 := bV6.below hb bV6.lt
        clear hb hB6 HI6 bV6 HA6 hW
        go_wp2_with fail
        go_loopw [19, 20, 21] (fun v19 _ _ wr => ∃ k : Int, 0 ≤ k ∧ k ≤ (m : Int) + 1 ∧ v19 = .int .i64 k ∧ Blk wr w.heap.size 66 #[.int .u16 ua, .int .u16 ub, .int .u16 ud] ∧ Below w.heap.size w wr) (fun v19 _ _ _ => ((m : Int) + 1 - intOf v19).toNat)
        case atStart => exact ⟨last + 1, by omega, by omega, by go_num, bV7, hB7⟩
        case round =>
          clear bV7 hB7
          obtain ⟨k, hk0, hk1, rfl, bV, hB⟩ := hrel
          obtain ⟨wp, rfl⟩ : ∃ wp, wp = wr := ⟨_, rfl⟩
          have HIp := Lib.hid (HI.out.below hB)
          by_cases hkm : k ≤ (m : Int)
          · have HT := Lib.hid (fun t e (h : Pl.Tp l k t e) => HTP.out k t e T hT0 hT1 hk0 (by rw [HM.out]; exact hkm) h)
            go_wp2_with fail
            refine (H7.out _ k HIp.out).mono ?_
            rintro e w8 ⟨t, r8, rfl, htp, hb⟩
            obtain ⟨rfl, ht⟩ := HT.out t r8 htp
            have ht' : ¬ T < t := by omega
            have hB8 := hB.trans (hb.mono hB.size)
            have bV8 := bV.below hb bV.lt
            clear hb hB bV HT htp
            go_wp2_with fail
            go_roundw
            case rel => exact ⟨k + 1, by omega, by omega, by go_num, bV8, hB8⟩
            case measure => simp [intOf]; omega
          · go_wp2_with fail
            go_roundw
            case rel => exact ⟨i + 1, T, (m : Int), by omega, by go_num, rfl, rfl, hT0, hT1, by omega, by rw [HM.out]; exact Int.le_refl _, bV, hB⟩
            case measure => simp [intOf]; omega
      · obtain rfl : i = 3 := by omega
        have hlmo : last ≤ ((Pl.mo l 9 : Nat) : Int) := by have := HMO.out tol; omega
        have hmo9 := Pl.mo_le (l := l) (n := 9)
        rw [HN.out] at hmo9
        have HML := Lib.hid (fun k => Pl.mo_le (l := l) (n := k))
        clear bV hl1
        go_wp2_with fail
        go_loopw [6, 22, 23, 24, 25] (fun v6 v22 _ _ _ wr => ∃ k M : Nat, k ≤ 9 ∧ M = Pl.mo l k ∧ v22 = .int .i64 ((k : Int) + 1) ∧ v6 = .int .i64 M ∧ Below w.heap.size w wr) (fun _ v22 _ _ _ _ => (10 - intOf v22).toNat)
        case atStart => exact ⟨0, 0, by omega, rfl, by go_num, rfl, hB⟩
        case round =>
          clear hB HIo
          obtain ⟨k, M, hk, hM, rfl, rfl, hB⟩ := hrel
          obtain ⟨wp, rfl⟩ : ∃ wp, wp = wr := ⟨_, rfl⟩
          have hMle : M ≤ k * n := by rw [hM, ← HN.out]; exact HML.out k
          have HM := Lib.hid hM
          have hM144 : M ≤ 144 := Nat.le_trans hMle (Nat.le_trans (Nat.mul_le_mul hk hn16) (by decide))
          clear hM hMle
          by_cases hk9 : k < 9
          · have hk9I : (k : Int) + 1 ≤ 9 := by omega
            obtain ⟨C, hC⟩ : ∃ C : Int, (k : Int) + 1 = C := ⟨_, rfl⟩
            have HC := Lib.hid hC
            have hC9 : C ≤ 9 := by omega
            have hC1 : 1 ≤ C := by omega
            rw [hC]
            clear hC hk9I
            go_wp2_with fail
            go_loopw [23, 24, 25] (fun v23 v24 v25 wr => ∃ i x y : Nat, i ≤ n ∧ x ≤ i ∧ y ≤ i ∧ v23 = .int .i64 x ∧ v24 = .int .i64 y ∧ v25 = .int .i64 i ∧ Hid (x = Pl.csc l 1 C i) ∧ Hid (y = Pl.csc l 2 C i) ∧ Below w.heap.size w wr) (fun _ _ v25 _ => n - (intOf v25).toNat)
            case atStart => exact ⟨0, 0, 0, Nat.zero_le _, Nat.le_refl _, Nat.le_refl _, rfl, rfl, rfl, Lib.hid rfl, Lib.hid rfl, hB⟩
            case round =>
              clear hB
              obtain ⟨i, x, y, hi, hx, hy, rfl, rfl, rfl, hX, hY, hB⟩ := hrel
              obtain ⟨wq, rfl⟩ : ∃ wq, wq = wr := ⟨_, rfl⟩
              by_cases hin : i < n
              · have hinI : (i : Int) < (n : Int) := by omega
                have hil : i < l.length := by rw [HN.out]; exact hin
                obtain ⟨bz, oz, rfl, hbz, hcz⟩ := tms_open HI.out (by omega)
                obtain ⟨_, q1, _, q3⟩ := tms_cells hbz hcz hB hil
                have HY1 := Lib.hid (fun (h1 : (Pl.at' l i).side = 1) (h2 : (Pl.at' l i).col = C) => Pl.csc_yes h1 h2)
                have HY2 := Lib.hid (fun (h1 : (Pl.at' l i).side = 2) (h2 : (Pl.at' l i).col = C) => Pl.csc_yes h1 h2)
                have HN1 := Lib.hid (fun (h : ¬ ((Pl.at' l i).side = 1 ∧ (Pl.at' l i).col = C)) => Pl.csc_no h)
                have HN2 := Lib.hid (fun (h : ¬ ((Pl.at' l i).side = 2 ∧ (Pl.at' l i).col = C)) => Pl.csc_no h)
                clear hcz hil
                generalize (Pl.at' l i).side = sd at *
                generalize (Pl.at' l i).col = cc at *
                by_cases hcc : cc = C
                · subst hcc
                  by_cases h1 : sd = 1
                  · subst h1
                    have E1 := Lib.hid (HY1.out rfl rfl)
                    have E2 := Lib.hid (HN2.out (by rintro ⟨h, _⟩; cases h))
                    clear HY1 HY2 HN1 HN2
                    go_wp2_with fail
                    go_roundw
                    case rel => exact ⟨i + 1, x + 1, y, by omega, by omega, by omega, by go_num, rfl, by go_num, Lib.hid (by rw [E1.out, hX.out]), Lib.hid (by rw [E2.out, hY.out]), hB⟩
                    case measure => simp [intOf]; omega
                  · by_cases h2 : sd = 2
                    · subst h2
                      have E1 := Lib.hid (HN1.out (by rintro ⟨h, _⟩; cases h))
                      have E2 := Lib.hid (HY2.out rfl rfl)
                      clear HY1 HY2 HN1 HN2 h1
                      go_wp2_with fail
                      go_roundw
                      case rel => exact ⟨i + 1, x, y + 1, by omega, by omega, by omega, rfl, by go_num, by go_num, Lib.hid (by rw [E1.out, hX.out]), Lib.hid (by rw [E2.out, hY.out]), hB⟩
                      case measure => simp [intOf]; omega
                    · have E1 := Lib.hid (HN1.out (fun h => h1 h.1))
                      have E2 := Lib.hid (HN2.out (fun h => h2 h.1))
                      clear HY1 HY2 HN1 HN2
                      go_wp2_with fail
                      go_roundw
                      case rel => exact ⟨i + 1, x, y, by omega, by omega, by omega, rfl, rfl, by go_num, Lib.hid (by rw [E1.out, hX.out]), Lib.hid (by rw [E2.out, hY.out]), hB⟩
                      case measure => simp [intOf]; omega
                · have E1 := Lib.hid (HN1.out (fun h => hcc h.2))
                  have E2 := Lib.hid (HN2.out (fun h => hcc h.2))
                  have hcd : (cc == C) = false := by simp [hcc]
                  clear HY1 HY2 HN1 HN2
                  go_wp2_with fail
                  go_roundw
                  case rel => exact ⟨i + 1, x, y, by omega, by omega, by omega, rfl, rfl, by go_num, Lib.hid (by rw [E1.out, hX.out]), Lib.hid (by rw [E2.out, hY.out]), hB⟩
                  case measure => simp [intOf]; omega
              · obtain rfl : i = n := by omega
                have HMN : Hid (M + min x y = Pl.mo l (k + 1)) := Lib.hid (by
                  rw [Pl.mo, HM.out, hX.out, hY.out, HC.out, HN.out])
                have hCk : C = (k : Int) + 1 := HC.out.symm
                clear hX hY
                go_wp2_with fail
                go_roundw
                case rel => exact ⟨k + 1, M + min x y, by omega, HMN.out, by go_num, by go_num, hB⟩
                case measure => simp [intOf]; omega
          · obtain rfl : k = 9 := by omega
            have HIp := Lib.hid (HI.out.below hB)
            have hlM : last ≤ (M : Int) := by rw [HM.out]; exact hlmo
            have HTE2 : Hid (∀ t e, Pl.Tp l ((M : Int) + 1) t e → e = 4) := Lib.hid (fun t e h => HTE.out t e (by rw [← HM.out]; exact h))
            clear hk9
            go_wp2_with fail
            refine (H7.out _ _ HIp.out).mono ?_
            rintro e w8 ⟨t, r8, rfl, htp, hb⟩
            obtain rfl := HTE2.out t r8 htp
            have hB8 := hB.trans (hb.mono hB.size)
            clear hb hB htp
            go_wp2_with fail
            refine (HS.out _).mono ?_
            rintro e w9 ⟨rfl, hb⟩
            go_wp2
            go_ret
            exact ⟨rfl, hB8.trans (hb.mono hB8.size)⟩
end Go.Proofs.Ytmjnlmmjfbpogaa
