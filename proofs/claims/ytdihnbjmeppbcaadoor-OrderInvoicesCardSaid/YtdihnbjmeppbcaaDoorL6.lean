/- OrderInvoices. -/
import Derived.Test.YtdihnbjmeppbcaaDoorWQ
import Derived.Test.YtdihnbjmeppbcaaDoorL3
namespace Go.Proofs.YtdihnbjmeppbcaaDoor
open Go.RowKit Go.Shelf

theorem ivV_len (l : List Pl.Pr) (r : List Pl.Rt) (f : Pl.Fm) : (Pl.ivV l r f).length ≤ 1000 := by
  by_cases h : Pl.ivE l r f = 0
  · have e : Pl.ivV l r f = Pl.tab (Pl.lnV l r f) f.ls.length := if_pos h
    rw [e, Pl.tab_len]
    by_cases hk : Pl.ckE l r f = 0
    · have := (Pl.vf_true.1 (Pl.ck_ok hk).f).n1; omega
    · rw [ivE_ck hk] at h; exact absurd h hk
  · rw [ivV_no h]; simp

set_option maxRecDepth 100000 in
set_option maxHeartbeats 8000000 in
theorem law_invoices (A : Option Addr) (l : List Pl.Pr) (c : Nat) (B : Option Addr) (r : List Pl.Rt) (j : Nat) (f : Pl.Fm) (i : Int) (w : World) (hP : PrsIn w A l c) (hR : RtsIn w B r j) (hF : FmIn w f) :
    Calls Tryd.prog 6 #[.agg (mkA A l c B r j), .agg (fmA f), .int .i64 i] w fun e w' => e = .returned (.bool true) ∧ Below w.heap.size w w' := by
  have hB0 := (Below.refl w.heap.size w).alloc (Nat.le_refl _) (.cells (mkA A l c B r j) 25)
  have hB := hB0.alloc (by simp) (.cells (fmA f) 28)
  have bM := (Blk.new w 25 (mkA A l c B r j)).alloc (.cells (fmA f) 28)
  have bF := Blk.new (w.alloc (.cells (mkA A l c B r j) 25)) 28 (fmA f)
  simp only [World.size_alloc] at bF
  have HC := Lib.hid sane_any
  have HW := Lib.hid (fun w' hb => wide_any A l c B r j f w' (hP.below (W' := w') hb) (hR.below hb) (hF.below hb))
  have H1 := Lib.hid (fun w' hb => Line_b A l c B r j f i w' (hP.below (W' := w') hb) (hR.below hb) (hF.below hb))
  have H2 := Lib.hid (fun w' hb => rLine_b A l c B r j f i w' (hP.below (W' := w') hb) (hR.below hb) (hF.below hb))
  have H3 := Lib.hid (fun w' hb => Invoice_b A l c B r j f w' (hP.below (W' := w') hb) (hR.below hb) (hF.below hb))
  have H4 := Lib.hid (fun w' hb => rInvoice_b A l c B r j f w' (hP.below (W' := w') hb) (hR.below hb) (hF.below hb))
  have HVL := Lib.hid (ivV_len l r f)
  generalize Pl.liV l r f i = LV at *
  generalize Pl.liE l r f i = LE at *
  generalize Pl.ivS l r f = S at *
  generalize Pl.ivE l r f = E at *
  generalize hWo : (w.alloc (.cells (mkA A l c B r j) 25)).alloc (.cells (fmA f) 28) = W at *
  have hr1 := bM.range
  have hr2 := bF.range
  have hMl := bM.lt
  have hFl := bF.lt
  have HM := Lib.hid bM
  have HF := Lib.hid bF
  clear hP hR hF bM bF hB0
  go_enter Tryd.func6, Tryd.ntmps6
  go_wp2_with (first | refine ldm_mk hr1 rfl _ rfl rfl ?_ | refine ldm_fm hr2 rfl _ rfl rfl ?_)
  refine (HW.out _ hB).mono ?_
  rintro e w2 ⟨⟨v, rfl⟩, hb2⟩
  have hB2 := hB.trans (hb2.mono hB.size)
  cases v
  rotate_left
  · go_wp2_with fail
    refine (HC.out _).mono ?_
    rintro e w3 ⟨rfl, hb3⟩
    have hB3 := hB2.trans (hb3.mono hB2.size)
    go_wp2
    go_ret
    exact ⟨rfl, hB3⟩
  have bM2 := HM.out.below hb2 hMl
  have bF2 := HF.out.below hb2 hFl
  have hMl2 := bM2.lt
  have hFl2 := bF2.lt
  have m0 := bM2.cell 0
  have m1 := bM2.cell 1
  have q2 := bF2.range
  clear hr1 hr2 hb2 HW hB HM HF hWo hMl hFl
  go_wp2_with (refine ldm_fm q2 rfl _ rfl rfl ?_)
  refine (H1.out _ hB2).mono ?_
  rintro e w3 ⟨rfl, hb3⟩
  have hB3 := hB2.trans (hb3.mono hB2.size)
  have bM3 := bM2.below hb3 hMl2
  have bF3 := bF2.below hb3 hFl2
  have hMl3 := bM3.lt
  have hFl3 := bF3.lt
  clear m0 m1 q2 bM2 bF2 hb3 hMl2 hFl2 hB2 H1
  have m0 := bM3.cell 0
  have m1 := bM3.cell 1
  have q2 := bF3.range
  go_wp2_with (refine ldm_fm q2 rfl _ rfl rfl ?_)
  refine (H2.out _ hB3).mono ?_
  rintro e w4 ⟨rfl, hb4⟩
  have hB4 := hB3.trans (hb4.mono hB3.size)
  have bM4 := bM3.below hb4 hMl3
  have bF4 := bF3.below hb4 hFl3
  have hMl4 := bM4.lt
  have hFl4 := bF4.lt
  clear m0 m1 q2 bM3 bF3 hb4 hMl3 hFl3 hB3 H2
  have m0 := bM4.cell 0
  have m1 := bM4.cell 1
  have q2 := bF4.range
  go_wp2_with (refine ldm_fm q2 rfl _ rfl rfl ?_)
  refine (H3.out _ hB4).mono ?_
  rintro e w5 ⟨v5, rfl, ho5, hb5⟩
  obtain ⟨A1, c1, rfl, hr5, _, _⟩ := rows_of_owns encIn ho5
  have hB5 := hB4.trans (hb5.mono hB4.size)
  have bM5 := bM4.below hb5 hMl4
  have bF5 := bF4.below hb5 hFl4
  have hMl5 := bM5.lt
  have hFl5 := bF5.lt
  clear m0 m1 q2 bM4 bF4 hb5 hMl4 hFl4 hB4 H3 ho5
  have m0 := bM5.cell 0
  have m1 := bM5.cell 1
  have q2 := bF5.range
  have H5 := Lib.hid hr5
  clear hr5
  go_wp2_with (refine ldm_fm q2 rfl _ rfl rfl ?_)
  refine (H4.out _ hB5).mono ?_
  rintro e w6 ⟨v6, rfl, ho6, hb6⟩
  obtain ⟨A2, c2, rfl, hr6, _, _⟩ := rows_of_owns encIn ho6
  have hB6 := hB5.trans (hb6.mono hB5.size)
  have HSM := Lib.hid (same_eq A1 A2 (Pl.ivV l r f) c1 c2 _ rfl HVL.out w6 (H5.out.below hb6) hr6)
  clear m0 m1 q2 bM5 bF5 hb6 hMl5 hFl5 hB5 H4 ho6 hr6 H5
  generalize (Pl.ivV l r f).length = n at *
  go_wp2_with fail
  refine HSM.out.mono ?_
  rintro e w7 ⟨rfl, hb7⟩
  have hB7 := hB6.trans (hb7.mono hB6.size)
  go_wp2_with fail
  refine (HC.out _).mono ?_
  rintro e w8 ⟨rfl, hb8⟩
  have hB8 := hB7.trans (hb8.mono hB7.size)
  go_wp2
  go_ret
  exact ⟨rfl, hB8⟩
end Go.Proofs.YtdihnbjmeppbcaaDoor
