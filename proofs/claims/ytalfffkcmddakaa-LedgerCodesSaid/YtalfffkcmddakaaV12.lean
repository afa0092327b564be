/- The law of codes. -/
import Derived.Test.YtalfffkcmddakaaW9
import Derived.Test.YtalfffkcmddakaaZ8
namespace Go.Proofs.Ytalfffkcmddakaa
open Go.RowKit Go.Shelf

theorem Pl.dcv_len (l : Pl.Bs) : (Pl.dcV l).length ≤ 1000 := by
  unfold Pl.dcV
  split
  · rename_i h
    rw [Pl.decN_len]
    unfold Pl.okD at h
    simp at h
    omega
  · simp
set_option maxRecDepth 100000 in
set_option maxHeartbeats 16000000 in
theorem law_codes (A B : Option Addr) (a : List Pl.En) (bs : Pl.Bs) (n1 c1 n2 c2 : Nat) (hn1 : a.length = n1) (hn2 : bs.length = n2) (w : World) (hc1 : n1 ≤ c1) (hc2 : n2 ≤ c2) (ht1 : c1 ≤ maxLen) (hI1 : Rows enL 4 w A a) (hI2 : Rows u8L 1 w B bs) :
    Calls Try.prog 8 #[.slice A n1 c1, .slice B n2 c2] w fun e w' => e = .returned (.bool true) ∧ Below w.heap.size w w' := by
  have hm1 : n1 ≤ maxLen := Nat.le_trans hc1 ht1
  have H1 := Lib.hid (encode2_b A a c1 n1 hn1 hm1 w hI1)
  have H2 := Lib.hid (fun W (h : Below w.heap.size w W) => dencode2_b A a c1 n1 hn1 hc1 hm1 W (hI1.below h))
  have H3 := Lib.hid (fun W (h : Below w.heap.size w W) => decode2_b B bs c2 n2 hn2 hc2 W (hI2.below h))
  have H4 := Lib.hid (fun W (h : Below w.heap.size w W) => ddecode2_b B bs c2 n2 hn2 hc2 W (hI2.below h))
  have H5 := Lib.hid (fun W (h : Below w.heap.size w W) => sorted2_any A a c1 n1 hn1 hm1 W (hI1.below h))
  have hdl := Pl.dcv_len bs
  have hcases : Pl.cdE a = 90 ∨ Pl.cdE a = 0 ∧ Pl.Vb a := by
    unfold Pl.cdE
    cases h : Pl.vB a
    · exact .inl rfl
    · exact .inr ⟨rfl, Pl.vb_iff.1 h⟩
  generalize Pl.dcE bs = de at *
  generalize Pl.dcV bs = dv at *
  obtain ⟨q, hq⟩ : ∃ q, dv.length = q := ⟨_, rfl⟩
  rw [hq] at H3 H4 hdl
  have HQ := Lib.hid hq
  obtain ⟨X, hX⟩ : ∃ X, Pl.cdV a = X := ⟨_, rfl⟩
  obtain ⟨p, hp⟩ : ∃ p, X.length = p := ⟨_, rfl⟩
  rw [hX, hp] at H1 H2
  have HP := Lib.hid hp
  have n1' : (de != de) = false := by simp
  have n2' : (de == de) = true := by simp
  clear hq hp hI1 hI2 hn1 hn2 hc1 hc2 ht1 hm1
  rcases hcases with hce | ⟨hce, hvb⟩
  · rw [hce] at H1 H2
    clear hce hX
    go_enter Try.func8, Try.ntmps8
    go_wp2_with fail
    refine H1.out.mono ?_
    rintro e w1 ⟨v1, rfl, hO1, hb1⟩
    obtain ⟨Ap, cp, rfl, hRp⟩ := rows_ownb HP.out hO1
    have HB1 := Lib.hid hb1
    have HRp := Lib.hid hRp
    clear hO1 hb1 hRp H1
    go_wp2_with fail
    refine (H2.out _ HB1.out).mono ?_
    rintro e w2 ⟨v2, rfl, hO2, hb2⟩
    obtain ⟨Aq, cq, rfl, hRq⟩ := rows_ownb HP.out hO2
    have HB2 := Lib.hid (HB1.out.trans (hb2.mono HB1.out.size))
    have cv1 := conv_rows (HRp.out.below hb2) p cp HP.out
    have cv2 := conv_rows hRq p cq HP.out
    generalize str X = S at *
    have hSS : (S.toList == S.toList) = true := by simp
    clear hO2 hb2 hRq H2 HRp
    go_wp2_with fail
    refine (H3.out _ HB2.out).mono ?_
    rintro e w3 ⟨v3, rfl, hO3, hb3⟩
    obtain ⟨Ae, ce, rfl, hRe, _, _, _⟩ := rows_own2 HQ.out hO3
    have HB3 := Lib.hid (HB2.out.trans (hb3.mono HB2.out.size))
    have HRe := Lib.hid hRe
    clear hO3 hb3 hRe H3 cv1 cv2
    go_wp2_with fail
    refine (H4.out _ HB3.out).mono ?_
    rintro e w4 ⟨v4, rfl, hO4, hb4⟩
    obtain ⟨Af, cf, rfl, hRf, _, _, _⟩ := rows_own2 HQ.out hO4
    have HB4 := Lib.hid (HB3.out.trans (hb4.mono HB3.out.size))
    have HSE := Lib.hid (same_eq Ae Af dv ce cf q HQ.out hdl w4 (HRe.out.below hb4) hRf)
    clear hO4 hb4 hRf H4 HRe
    go_wp2_with fail
    refine HSE.out.mono ?_
    rintro e w5 ⟨rfl, hb5⟩
    have HB5 := Lib.hid (HB4.out.trans (hb5.mono HB4.out.size))
    clear hb5 HSE
    go_wp2_with fail
    refine (awake_any w5).mono ?_
    rintro e w6 ⟨rfl, hb6⟩
    have HB6 := Lib.hid (HB5.out.trans (hb6.mono HB5.out.size))
    clear hb6
    go_wp2
    go_ret
    exact ⟨rfl, HB6.out⟩
  · have hcd := Pl.cd_ok hvb
    have hrd := Pl.dc_round hvb
    rw [← hcd.2, hX] at hrd
    have hso : Pl.soE a = 0 ∧ Pl.soV a = Pl.srt a := by unfold Pl.soE Pl.soV; rw [Pl.vb_iff.2 hvb]; exact ⟨rfl, rfl⟩
    rw [hce] at H1 H2
    rw [hso.1, hso.2] at H5
    have H6 := Lib.hid (fun A' c' W (hc : p ≤ c') h => decode2_b A' X c' p HP.out hc W h)
    rw [hrd.1, hrd.2] at H6
    obtain ⟨Y, hY⟩ : ∃ Y, Pl.srt a = Y := ⟨_, rfl⟩
    have hyl : Y.length ≤ 1000 := by rw [← hY, Pl.srt_len]; have := hvb.len; omega
    obtain ⟨y, hy⟩ : ∃ y, Y.length = y := ⟨_, rfl⟩
    rw [hY] at H5
    rw [hY, hy] at H6
    rw [hy] at hyl
    have HY := Lib.hid hy
    clear hce hX hcd hrd hso hY hy hvb
    go_enter Try.func8, Try.ntmps8
    go_wp2_with fail
    refine H1.out.mono ?_
    rintro e w1 ⟨v1, rfl, hO1, hb1⟩
    obtain ⟨Ap, cp, rfl, hRp, hpc⟩ : ∃ A c, v1 = .slice A p c ∧ Rows u8L 1 w1 A X ∧ p ≤ c := by
      obtain ⟨A, c, e, h1, h2, _⟩ := rows_of_owns encU8 (show w1.ownsRow w.heap.size 5 1 v1 X.length (flt u8L X) from by rw [HP.out]; exact hO1)
      rw [HP.out] at e h2
      exact ⟨A, c, e, h1, h2⟩
    have HB1 := Lib.hid hb1
    have HRp := Lib.hid hRp
    have HPC := Lib.hid hpc
    clear hO1 hb1 hRp H1 hpc
    go_wp2_with fail
    refine (H2.out _ HB1.out).mono ?_
    rintro e w2 ⟨v2, rfl, hO2, hb2⟩
    obtain ⟨Aq, cq, rfl, hRq⟩ := rows_ownb HP.out hO2
    have HB2 := Lib.hid (HB1.out.trans (hb2.mono HB1.out.size))
    have HRp2 := Lib.hid (HRp.out.below hb2)
    have cv1 := conv_rows HRp2.out p cp HP.out
    have cv2 := conv_rows hRq p cq HP.out
    generalize str X = S at *
    have hSS : (S.toList == S.toList) = true := by simp
    clear hO2 hb2 hRq H2 HRp
    go_wp2_with fail
    refine (H3.out _ HB2.out).mono ?_
    rintro e w3 ⟨v3, rfl, hO3, hb3⟩
    obtain ⟨Ae, ce, rfl, hRe, _, _, _⟩ := rows_own2 HQ.out hO3
    have HB3 := Lib.hid (HB2.out.trans (hb3.mono HB2.out.size))
    have HRe := Lib.hid hRe
    have HRp3 := Lib.hid (HRp2.out.below hb3)
    clear hO3 hb3 hRe H3 cv1 cv2 HRp2
    go_wp2_with fail
    refine (H4.out _ HB3.out).mono ?_
    rintro e w4 ⟨v4, rfl, hO4, hb4⟩
    obtain ⟨Af, cf, rfl, hRf, _, _, _⟩ := rows_own2 HQ.out hO4
    have HB4 := Lib.hid (HB3.out.trans (hb4.mono HB3.out.size))
    have HRp4 := Lib.hid (HRp3.out.below hb4)
    have HSE := Lib.hid (same_eq Ae Af dv ce cf q HQ.out hdl w4 (HRe.out.below hb4) hRf)
    clear hO4 hb4 hRf H4 HRe HRp3
    go_wp2_with fail
    refine HSE.out.mono ?_
    rintro e w5 ⟨rfl, hb5⟩
    have HB5 := Lib.hid (HB4.out.trans (hb5.mono HB4.out.size))
    have HRp5 := Lib.hid (HRp4.out.below hb5)
    clear hb5 HSE HRp4
    go_wp2_with fail
    refine (H6.out _ _ _ HPC.out HRp5.out).mono ?_
    rintro e w6 ⟨v6, rfl, hO6, hb6⟩
    obtain ⟨Ag, cg, rfl, hRg, _, _, _⟩ := rows_own2 HY.out hO6
    have HB6 := Lib.hid (HB5.out.trans (hb6.mono HB5.out.size))
    have HRg := Lib.hid hRg
    clear hO6 hb6 hRg H6 HRp5
    go_wp2_with fail
    refine (H5.out _ HB6.out).mono ?_
    rintro e w7 ⟨v7, rfl, hO7, hb7⟩
    rw [HY.out] at hO7
    obtain ⟨Ah, ch, rfl, hRh, _, _, _⟩ := rows_own2 HY.out hO7
    have HB7 := Lib.hid (HB6.out.trans (hb7.mono HB6.out.size))
    have HSE := Lib.hid (same_eq Ag Ah Y cg ch y HY.out hyl w7 (HRg.out.below hb7) hRh)
    clear hO7 hb7 hRh H5 HRg
    go_wp2_with fail
    refine HSE.out.mono ?_
    rintro e w8 ⟨rfl, hb8⟩
    have HB8 := Lib.hid (HB7.out.trans (hb8.mono HB7.out.size))
    clear hb8 HSE
    go_wp2_with fail
    refine (awake_any w8).mono ?_
    rintro e w9 ⟨rfl, hb9⟩
    have HB9 := Lib.hid (HB8.out.trans (hb9.mono HB8.out.size))
    clear hb9
    go_wp2
    go_ret
    exact ⟨rfl, HB9.out⟩
end Go.Proofs.Ytalfffkcmddakaa
