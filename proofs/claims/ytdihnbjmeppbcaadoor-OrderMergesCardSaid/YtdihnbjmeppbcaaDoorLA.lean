/- OrderMerges. -/
import Derived.Test.YtdihnbjmeppbcaaDoorX5
import Derived.Test.YtdihnbjmeppbcaaDoorWO
import Derived.Test.YtdihnbjmeppbcaaDoorWA
import Derived.Test.YtdihnbjmeppbcaaDoorL3
namespace Go.Proofs.YtdihnbjmeppbcaaDoor
open Go.RowKit Go.Shelf

theorem same2 (f : Pl.Fm) (A B : Option Addr) (c e : Nat) (w : World) (hF : FmIn w (Pl.mgF f A c)) (hG : FmIn w (Pl.mgF f B e)) :
    Calls Tryd.prog 34 #[.agg (fmA (Pl.mgF f A c)), .agg (fmA (Pl.mgF f B e))] w fun e w' => e = .returned (.bool true) ∧ Below w.heap.size w w' := by
  by_cases h : Pl.mgE f = 0
  · have e1 : ∀ A c, Pl.mgF f A c = ⟨f.cus, f.d, f.cur, Pl.mgd f, A, c⟩ := fun A c => if_pos h
    rw [e1] at hF hG ⊢
    rw [e1]
    exact sameform_b _ _ _ _ _ _ _ _ _ rfl w hF hG
  · rw [mgF_no h] at hF hG ⊢
    rw [mgF_no h]
    exact sameform_b _ _ _ [] _ _ _ _ _ rfl w hF hG

set_option maxRecDepth 100000 in
set_option maxHeartbeats 16000000 in
theorem law_merges (A : Option Addr) (l : List Pl.Pr) (c : Nat) (B : Option Addr) (r : List Pl.Rt) (j : Nat) (f : Pl.Fm) (w : World) (hP : PrsIn w A l c) (hR : RtsIn w B r j) (hF : FmIn w f) :
    Calls Tryd.prog 7 #[.agg (mkA A l c B r j), .agg (fmA f)] w fun e w' => e = .returned (.bool true) ∧ Below w.heap.size w w' := by
  have hB0 := (Below.refl w.heap.size w).alloc (Nat.le_refl _) (.cells (mkA A l c B r j) 25)
  have hB := hB0.alloc (by simp) (.cells (fmA f) 28)
  have bM := (Blk.new w 25 (mkA A l c B r j)).alloc (.cells (fmA f) 28)
  have bF := Blk.new (w.alloc (.cells (mkA A l c B r j) 25)) 28 (fmA f)
  simp only [World.size_alloc] at bF
  have HC := Lib.hid sane_any
  have HW := Lib.hid (fun w' hb => wide_any A l c B r j f w' (hP.below (W' := w') hb) (hR.below hb) (hF.below hb))
  have H1 := Lib.hid (fun w' hb => Merge_b f w' (hF.below (W' := w') hb))
  have H2 := Lib.hid (fun w' hb => rMerge_b f w' (hF.below (W' := w') hb))
  have H3 := Lib.hid (fun w' hb => Invoice_b A l c B r j f w' (hP.below (W' := w') hb) (hR.below hb) (hF.below hb))
  have H4 := Lib.hid (fun (w' : World) (g : Pl.Fm) (hb : Below w.heap.size w w') (hg : FmIn w' g) => Invoice_b A l c B r j g w' (hP.below (W' := w') hb) (hR.below hb) hg)
  have hr1 := bM.range
  have hr2 := bF.range
  have hMl := bM.lt
  have hFl := bF.lt
  have HM := Lib.hid bM
  have HFB := Lib.hid bF
  clear hP hR hF bM bF hB0
  generalize hWo : (w.alloc (.cells (mkA A l c B r j) 25)).alloc (.cells (fmA f) 28) = W at *
  go_enter Tryd.func7, Tryd.ntmps7
  go_wp2_with (first | refine ldm_mk hr1 rfl _ rfl rfl ?_ | refine ldm_fm hr2 rfl _ rfl rfl ?_)
  refine (HW.out _ hB).mono ?_
  rintro e w2 ⟨⟨v, rfl⟩, hb2⟩
  have hB2 := hB.trans (hb2.mono hB.size)
  have bM2 := HM.out.below hb2 hMl
  have bF2 := HFB.out.below hb2 hFl
  have hMl2 := bM2.lt
  have hFl2 := bF2.lt
  have q2 := bF2.range
  have HM2 := Lib.hid bM2
  have HF2 := Lib.hid bF2
  clear hr1 hr2 hb2 HW hB HM HFB hWo hMl hFl bM2 bF2
  cases v
  rotate_left
  · go_wp2_with fail
    refine (HC.out _).mono ?_
    rintro e w3 ⟨rfl, hb3⟩
    have hB3 := hB2.trans (hb3.mono hB2.size)
    go_wp2
    go_ret
    exact ⟨rfl, hB3⟩
  go_wp2_with (refine ldm_fm (s := f) q2 rfl _ rfl rfl ?_)
  refine (H1.out w2 hB2).mono ?_
  rintro e w3 ⟨A3, c3, rfl, hI3, hb3⟩
  have hB3 := hB2.trans (hb3.mono hB2.size)
  have HS := Lib.hid (same2 f A3)
  obtain ⟨E, hE⟩ : ∃ E, Pl.mgE f = E := ⟨_, rfl⟩
  have HIV := Lib.hid (fun h1 h2 h3 => Pl.iv_mgd (l := l) (r := r) (f := f) h1 h2 h3 A3 c3)
  rw [hE]
  have b5 := Blk.new w3 28 (fmA (Pl.mgF f A3 c3))
  have hb5 := (Below.refl w3.heap.size w3).alloc (Nat.le_refl _) (.cells (fmA (Pl.mgF f A3 c3)) 28)
  have hB5 := hB3.trans (hb5.mono hB3.size)
  have q5 := ((HF2.out.below hb3 hFl2).below hb5 (Nat.lt_of_lt_of_le hFl2 hb3.size)).range
  have HI3 := Lib.hid hI3
  have HF3 := Lib.hid (HF2.out.below hb3 hFl2)
  have HM3 := Lib.hid (HM2.out.below hb3 hMl2)
  have hFl3 : w.heap.size + 1 < w3.heap.size := Nat.lt_of_lt_of_le hFl2 hb3.size
  have hMl3 : w.heap.size < w3.heap.size := Nat.lt_of_lt_of_le hMl2 hb3.size
  have HG5 := Lib.hid b5
  have hGl5 := b5.lt
  have HB5 := Lib.hid hB5
  have HBB5 := Lib.hid hb5
  have HEE := Lib.hid hE
  clear hI3 hb3 hB3 hB2 q2 b5 hb5 hB5 hE H1 HF2 HM2
  generalize hG1 : Pl.mgF f A3 c3 = G1 at *
  have HG1 := Lib.hid hG1
  clear hG1
  go_wp2_with (refine ldm_fm (s := f) q5 rfl _ rfl rfl ?_)
  refine (H2.out _ HB5.out).mono ?_
  rintro e w6 ⟨A6, c6, rfl, hI6, hb6⟩
  rw [HEE.out]
  have hs := same2 f A3 A6 c3 c6
  rw [HG1.out] at hs
  generalize Pl.mgF f A6 c6 = G2 at *
  have HS2 := Lib.hid hs
  have hb36 := HBB5.out.trans (hb6.mono HBB5.out.size)
  have hB6 := HB5.out.trans (hb6.mono HB5.out.size)
  have bG6 := HG5.out.below hb6 hGl5
  have hI36 := HI3.out.below hb36
  have hF6 := HF3.out.below hb36 hFl3
  have hM6 := HM3.out.below hb36 hMl3
  have hb7 := (Below.refl w6.heap.size w6).alloc (Nat.le_refl _) (.cells (fmA G2) 28)
  have b7 := Blk.new w6 28 (fmA G2)
  have q7 := b7.range
  have q57 := (bG6.below hb7 bG6.lt).range
  have HI67 := Lib.hid (hI6.below hb7)
  have HI37 := Lib.hid (hI36.below hb7)
  have HF7 := Lib.hid (hF6.below hb7 hF6.lt)
  have HM7 := Lib.hid (hM6.below hb7 hM6.lt)
  have HG57 := Lib.hid (bG6.below hb7 bG6.lt)
  have hFl7 := (hF6.below hb7 hF6.lt).lt
  have hMl7 := (hM6.below hb7 hM6.lt).lt
  have hGl7 := (bG6.below hb7 bG6.lt).lt
  have HB7 := Lib.hid (hB6.trans (hb7.mono hB6.size))
  clear hs H2 HG5 HBB5 HB5 HI3 HF3 HM3 hb36 hB6 bG6 hI36 hF6 hM6 hI6 hb6 hb7 b7 q5 hGl5 hFl3 hMl3 hFl2 hMl2 HS
  go_wp2_with (first | refine ldm_fm (s := G1) q57 rfl _ rfl rfl ?_ | refine ldm_fm (s := G2) q7 rfl _ rfl rfl ?_)
  refine (HS2.out _ HI37.out HI67.out).mono ?_
  rintro e w8 ⟨rfl, hb8⟩
  have HF8 := Lib.hid (HF7.out.below hb8 hFl7)
  have HM8 := Lib.hid (HM7.out.below hb8 hMl7)
  have HG8 := Lib.hid (HG57.out.below hb8 hGl7)
  have HI8 := Lib.hid (HI37.out.below hb8)
  have HB8 := Lib.hid (HB7.out.trans (hb8.mono HB7.out.size))
  clear HS2 HF7 HM7 HG57 HI37 HI67 HB7 hb8 q57 q7 hFl7 hMl7 hGl7
  go_wp2_with fail
  refine (HC.out _).mono ?_
  rintro e w9 ⟨rfl, hb9⟩
  have bF9 := HF8.out.below hb9 HF8.out.lt
  have bM9 := HM8.out.below hb9 HM8.out.lt
  have bG9 := HG8.out.below hb9 HG8.out.lt
  have HI9 := Lib.hid (HI8.out.below hb9)
  have HB9 := Lib.hid (HB8.out.trans (hb9.mono HB8.out.size))
  have q9 := bF9.range
  have m0 := bM9.cell 0
  have m1 := bM9.cell 1
  have HF9 := Lib.hid bF9
  have HM9 := Lib.hid bM9
  have HG9 := Lib.hid bG9
  have hFl9 := bF9.lt
  have hMl9 := bM9.lt
  have hGl9 := bG9.lt
  clear HF8 HM8 HG8 HI8 HB8 hb9 bF9 bM9 bG9 HC
  go_wp2_with (refine ldm_fm (s := f) q9 rfl _ rfl rfl ?_)
  refine (H3.out w9 HB9.out).mono ?_
  rintro e w10 ⟨v10, rfl, ho10, hb10⟩
  have hB10 := HB9.out.trans (hb10.mono HB9.out.size)
  have bF10 := HF9.out.below hb10 hFl9
  have bM10 := HM9.out.below hb10 hMl9
  have bG10 := HG9.out.below hb10 hGl9
  have hI10 := HI9.out.below hb10
  have f2 := bF10.cell 2
  have n0 := bM10.cell 0
  have n1 := bM10.cell 1
  have q10 := bG10.range
  have HI10 := Lib.hid hI10
  have HB10 := Lib.hid hB10
  obtain ⟨H, hH⟩ : ∃ H, Pl.ivE l r f = H := ⟨_, rfl⟩
  obtain ⟨S, hS⟩ : ∃ S, Pl.ivS l r f = S := ⟨_, rfl⟩
  rw [hH, hS]
  have HH := Lib.hid hH
  have HSS := Lib.hid hS
  obtain ⟨b, hb⟩ : ∃ b, (f.cur.toList == [69, 85, 82]) = b := ⟨_, rfl⟩
  have HBE : Hid (b = true → f.cur = Pl.eurB) := Lib.hid (fun h => by rw [eur_eq] at hb; rw [h] at hb; exact of_decide_eq_true hb)
  have HL4 := Lib.hid (H4.out w10 G1 hB10 hI10)
  have HB4 := Lib.hid hB10
  clear H3 HF9 HM9 HG9 HI9 HB9 ho10 hb10 hI10 hB10 bF10 bM10 bG10 q9 m0 m1 hH hS H4 hFl9 hMl9 hGl9
  by_cases h1 : E = 0
  rotate_left
  · have d1 : (E == 0) = false := by simpa using h1
    go_wp2
    go_ret
    exact ⟨rfl, HB10.out⟩
  subst h1
  by_cases h2 : H = 0
  rotate_left
  · have d1 : (H == 0) = false := by simpa using h2
    go_wp2
    go_ret
    exact ⟨rfl, HB10.out⟩
  subst h2
  cases b
  · go_wp2
    go_ret
    exact ⟨rfl, HB10.out⟩
  obtain ⟨j1, j2⟩ := HIV.out HH.out (HBE.out rfl) HEE.out
  rw [HSS.out] at j2
  have HJ1 := Lib.hid j1
  have HJ2 := Lib.hid j2
  clear j1 j2 HIV HBE
  go_wp2_with (refine ldm_fm (s := G1) q10 rfl _ rfl rfl ?_)
  refine HL4.out.mono ?_
  rintro e w11 ⟨v11, rfl, ho11, hb11⟩
  have hB11 := HB10.out.trans (hb11.mono HB10.out.size)
  rw [HJ1.out, HJ2.out]
  clear ho11 hb11
  go_wp2
  go_ret
  exact ⟨rfl, hB11⟩
end Go.Proofs.YtdihnbjmeppbcaaDoor
