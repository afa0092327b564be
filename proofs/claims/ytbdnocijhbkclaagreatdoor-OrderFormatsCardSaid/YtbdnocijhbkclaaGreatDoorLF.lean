/- OrderFormats. -/
import Derived.Test.YtbdnocijhbkclaaGreatDoorLG
import Derived.Test.YtbdnocijhbkclaaGreatDoorWC
namespace Go.Proofs.YtbdnocijhbkclaaGreatDoor
open Go.RowKit Go.Shelf

set_option maxRecDepth 100000 in
set_option maxHeartbeats 8000000 in
theorem law_formats (f : Pl.Fm) (w : World) (hE : Env w) (hF : FmIn w f) :
    Calls Tryz.prog 3 #[.agg (fmA f)] w fun e w' => e = .returned (.bool true) ∧ Below w.heap.size w w' := by
  have HC := Lib.hid sane_any
  have hbx := (Below.refl w.heap.size w).alloc (Nat.le_refl _) (.cells (fmA f) 24)
  have bF := Blk.new w 24 (fmA f)
  have HW := Lib.hid (wide_any none [] 0 none [] 0 f _ ⟨.inl rfl, Nat.le_refl _, Nat.zero_le _, fun y hy => (by cases hy)⟩ ⟨.inl rfl, Nat.le_refl _, Nat.zero_le _, fun y hy => (by cases hy)⟩ (hF.below hbx))
  have HB := Lib.hid hbx
  have HFB := Lib.hid bF
  have hlF := bF.lt
  have hr := bF.range
  have HE := Lib.hid (hE.below hbx)
  have HFI := Lib.hid (hF.below hbx)
  have zm : mkA none [] 0 none [] 0 = #[.slice none 0 0, .slice none 0 0] := rfl
  clear hbx bF hE hF
  generalize hWo : w.alloc (.cells (fmA f) 24) = W at *
  go_enter Tryz.func3, Tryz.ntmps3
  go_wp2_with (refine ldm_fm (s := f) hr rfl _ rfl rfl ?_)
  refine HW.out.mono ?_
  rintro e w1 ⟨⟨b, rfl⟩, hb1⟩
  have HB1 := Lib.hid (HB.out.trans (hb1.mono HB.out.size))
  have HF1 := Lib.hid (HFB.out.below hb1 hlF)
  have HFI1 := Lib.hid (HFI.out.below hb1)
  have HE1 := Lib.hid (HE.out.below hb1)
  have r1 := HF1.out.range
  clear hb1 hr HFB HB HFI HE hWo HW hlF
  cases b
  case true =>
    go_wp2_with fail
    refine (HC.out _).mono ?_
    rintro e w2 ⟨rfl, hb2⟩
    have HB2 := Lib.hid (HB1.out.trans (hb2.mono HB1.out.size))
    clear hb2
    go_wp2_with fail
    go_ret
    exact ⟨rfl, HB2.out⟩
  case false =>
    have HP := Lib.hid (Format_any f w1 HE1.out HFI1.out)
    obtain ⟨T, hT⟩ : ∃ T, Pl.foT f = T := ⟨_, rfl⟩
    obtain ⟨E, hEE⟩ : ∃ E, Pl.foE f = E := ⟨_, rfl⟩
    have hTE : (E = 0 ∧ Pl.Vf f ∧ T = Pl.txt f) ∨ E = 3 := by
      rw [← hEE, ← hT]
      unfold Pl.foE Pl.foT
      cases hv : Pl.vf f
      · exact .inr rfl
      · exact .inl ⟨rfl, Pl.vf_true.1 hv, rfl⟩
    have HQ := Lib.hid (fun W (hb : Below _ _ W) => rFormat_any f W (HFI1.out.below hb))
    rw [hT, hEE] at HP HQ
    clear hT hEE
    go_wp2_with (refine ldm_fm (s := f) r1 rfl _ rfl rfl ?_)
    refine HP.out.mono ?_
    rintro e w2 ⟨rfl, hb2⟩
    have HQ2 := Lib.hid (HQ.out w2 hb2)
    have HB2 := Lib.hid (HB1.out.trans (hb2.mono HB1.out.size))
    have HF2 := Lib.hid (HF1.out.below hb2 HF1.out.lt)
    have HFI2 := Lib.hid (HFI1.out.below hb2)
    have HE2 := Lib.hid (HE1.out.below hb2)
    have r2 := HF2.out.range
    clear hb2 r1 HP HQ HB1 HF1 HFI1 HE1
    go_wp2_with (refine ldm_fm (s := f) r2 rfl _ rfl rfl ?_)
    refine HQ2.out.mono ?_
    rintro e w3 ⟨rfl, hb3⟩
    have HB3 := Lib.hid (HB2.out.trans (hb3.mono HB2.out.size))
    have HF3 := Lib.hid (HF2.out.below hb3 HF2.out.lt)
    have HFI3 := Lib.hid (HFI2.out.below hb3)
    have HE3 := Lib.hid (HE2.out.below hb3)
    have hTT : (T == T) = true := by simp
    have hEq : (E == E) = true := by simp
    clear hb3 r2 HQ2 HB2 HF2 HFI2 HE2
    go_wp2_with fail
    refine (HC.out _).mono ?_
    rintro e w4 ⟨rfl, hb4⟩
    have HB4 := Lib.hid (HB3.out.trans (hb4.mono HB3.out.size))
    have HF4 := Lib.hid (HF3.out.below hb4 HF3.out.lt)
    have HFI4 := Lib.hid (HFI3.out.below hb4)
    have HE4 := Lib.hid (HE3.out.below hb4)
    have r4 := HF4.out.range
    clear hb4 HB3 HF3 HFI3 HE3 hTT hEq
    rcases hTE with ⟨rfl, hv, ht⟩ | rfl
    · have hl : T.length ≤ 1277 := by rw [ht]; exact Pl.txt_len hv
      have HPa := Lib.hid (parse_any ⟨T.toArray⟩ (by rw [bsz]; omega) w4 HE4.out)
      have HV := Lib.hid hv
      have hbt : Pl.byt (⟨T.toArray⟩ : ByteArray) = T := by unfold Pl.byt; simp
      have HT := Lib.hid (hbt.trans ht)
      clear hv ht hl hbt
      go_wp2_with fail
      refine HPa.out.mono ?_
      rintro e w5 ⟨g, E5, rfl, hb5, hgi, hgk⟩
      have hk : E5 = 0 ∧ g.cus = f.cus ∧ g.d = f.d ∧ g.cur = f.cur ∧ g.ls = f.ls := by
        rcases hgk with ⟨e2, v2, t2⟩ | ⟨e2, z2, n2⟩
        · exact ⟨e2, Pl.txt_inj v2 HV.out (t2.trans HT.out)⟩
        · exact absurd HT.out.symm (n2 f HV.out)
      obtain ⟨rfl, c1, c2, c3, c4⟩ := hk
      have hbx := (Below.refl w5.heap.size w5).alloc (Nat.le_refl _) (.cells (fmA g) 24)
      have bG := Blk.new w5 24 (fmA g)
      have HF5 := Lib.hid ((HF4.out.below hb5 HF4.out.lt).below hbx (HF4.out.below hb5 HF4.out.lt).lt)
      have HS := Lib.hid (same_of g f c1 c2 c3 c4 _ (hgi.below hbx) ((HFI4.out.below hb5).below hbx))
      have HB5 := Lib.hid (HB4.out.trans ((hb5.trans (hbx.mono hb5.size)).mono HB4.out.size))
      have r5 := HF5.out.range
      have r6 := bG.range
      clear hb5 hgi hgk hbx bG c1 c2 c3 c4 r4 HPa
      generalize hW5 : w5.alloc (.cells (fmA g) 24) = W5 at *
      go_wp2_with (first | refine ldm_fm (s := g) r6 rfl _ rfl rfl ?_ | refine ldm_fm (s := f) r5 rfl _ rfl rfl ?_)
      refine HS.out.mono ?_
      rintro e w6 ⟨rfl, hb6⟩
      have HB6 := Lib.hid (HB5.out.trans (hb6.mono HB5.out.size))
      clear hb6
      go_wp2_with fail
      go_ret
      exact ⟨rfl, HB6.out⟩
    · go_wp2_with fail
      go_ret
      exact ⟨rfl, HB4.out⟩
end Go.Proofs.YtbdnocijhbkclaaGreatDoor
