/- OrderValid. -/
import Derived.Test.YtdihnbjmeppbcaaDoorWJ
import Derived.Test.YtdihnbjmeppbcaaDoorL3
namespace Go.Proofs.YtdihnbjmeppbcaaDoor
open Go.RowKit Go.Shelf

set_option maxRecDepth 100000 in
set_option maxHeartbeats 8000000 in
theorem law_valid (A : Option Addr) (l : List Pl.Pr) (c : Nat) (B : Option Addr) (r : List Pl.Rt) (j : Nat) (f : Pl.Fm) (w : World) (hP : PrsIn w A l c) (hR : RtsIn w B r j) (hF : FmIn w f) :
    Calls Tryd.prog 3 #[.agg (mkA A l c B r j), .agg (fmA f)] w fun e w' => e = .returned (.bool true) ∧ Below w.heap.size w w' := by
  have hB0 := (Below.refl w.heap.size w).alloc (Nat.le_refl _) (.cells (mkA A l c B r j) 25)
  have hB := hB0.alloc (by simp) (.cells (fmA f) 28)
  have bM := (Blk.new w 25 (mkA A l c B r j)).alloc (.cells (fmA f) 28)
  have bF := Blk.new (w.alloc (.cells (mkA A l c B r j) 25)) 28 (fmA f)
  simp only [World.size_alloc] at bF
  have HC := Lib.hid sane_any
  have HW := Lib.hid (fun w' hb => wide_any A l c B r j f w' (hP.below (W' := w') hb) (hR.below hb) (hF.below hb))
  have hrl : r.length ≤ maxLen := Nat.le_trans hR.cap hR.top
  have H1 := Lib.hid (fun w' hb => vprices_b A l c _ rfl _ rfl w' (hP.below (W' := w') hb))
  have H2 := Lib.hid (fun w' hb => rvprices_b A l c _ rfl _ rfl w' (hP.below (W' := w') hb))
  have H3 := Lib.hid (fun w' hb => vrates_b B r j _ rfl hrl hR.each _ rfl w' (hR.rows.below (W' := w') hb))
  have H4 := Lib.hid (fun w' hb => rvrates_b B r j _ rfl hrl hR.each _ rfl w' (hR.rows.below (W' := w') hb))
  have H5 := Lib.hid (fun w' hb => vform_b f _ rfl w' (hF.below (W' := w') hb))
  have H6 := Lib.hid (fun w' hb => rvform_b f _ rfl w' (hF.below (W' := w') hb))
  generalize Pl.vps l = x1 at *
  generalize Pl.vrs r = x2 at *
  generalize Pl.vf f = x3 at *
  generalize hWo : (w.alloc (.cells (mkA A l c B r j) 25)).alloc (.cells (fmA f) 28) = W at *
  have hr1 := bM.range
  have hr2 := bF.range
  have hMl := bM.lt
  have hFl := bF.lt
  have HM := Lib.hid bM
  have HF := Lib.hid bF
  clear hP hR hF bM bF hB0 hrl
  go_enter Tryd.func3, Tryd.ntmps3
  go_wp2_with (first | refine ldm_mk hr1 rfl _ rfl rfl ?_ | refine ldm_fm hr2 rfl _ rfl rfl ?_)
  refine (HW.out _ hB).mono ?_
  rintro e w2 ⟨⟨v, rfl⟩, hb2⟩
  have hB2 := hB.trans (hb2.mono hB.size)
  cases v
  rotate_left
  · go_wp2_with fail
    refine (HC.out _).mono ?_
    rintro e w3 ⟨rfl, hb3⟩
    have hB3 := hB2.trans (hb3.mono hB2.size)
    go_wp2
    go_ret
    exact ⟨rfl, hB3⟩
  have bM2 := HM.out.below hb2 hMl
  have bF2 := HF.out.below hb2 hFl
  have hMl2 := bM2.lt
  have hFl2 := bF2.lt
  clear hr1 hr2 hb2 HW hB HM HF hWo hMl hFl
  have m0 := fun s : Ext w2 => (bM2.below s.h hMl2).cell 0
  have m1 := fun s : Ext w2 => (bM2.below s.h hMl2).cell 1
  have f0 := fun s : Ext w2 => (bF2.below s.h hFl2).cell 0
  have f1 := fun s : Ext w2 => (bF2.below s.h hFl2).cell 1
  have f2 := fun s : Ext w2 => (bF2.below s.h hFl2).cell 2
  have f3 := fun s : Ext w2 => (bF2.below s.h hFl2).cell 3
  have K1 := Lib.hid (fun s : Ext w2 => H1.out s.w (hB2.trans (s.h.mono hB2.size)))
  have K2 := Lib.hid (fun s : Ext w2 => H2.out s.w (hB2.trans (s.h.mono hB2.size)))
  have K3 := Lib.hid (fun s : Ext w2 => H3.out s.w (hB2.trans (s.h.mono hB2.size)))
  have K4 := Lib.hid (fun s : Ext w2 => H4.out s.w (hB2.trans (s.h.mono hB2.size)))
  have K5 := Lib.hid (fun s : Ext w2 => H5.out s.w (hB2.trans (s.h.mono hB2.size)))
  have K6 := Lib.hid (fun s : Ext w2 => H6.out s.w (hB2.trans (s.h.mono hB2.size)))
  clear H1 H2 H3 H4 H5 H6 bM2 bF2
  go_wp2
  refine wp_region_ext (by kernel_rfl) (by kernel_rfl) ?_
  repeat (go_big_quiet_step (first
    | (go_at_call 15; refine calls_ext (K1.out _))
    | (go_at_call 16; refine calls_ext (K2.out _))
    | (go_at_call 17; refine calls_ext (K3.out _))
    | (go_at_call 18; refine calls_ext (K4.out _))
    | (go_at_call 19; refine calls_ext (K5.out _))
    | (go_at_call 20; refine calls_ext (K6.out _))
    | (go_at_call 14; refine calls_ext (HC.out _))))
  refine wpQuiet_nil ?_
  rintro _ ⟨s, rfl⟩
  have hB3 := hB2.trans (s.h.mono hB2.size)
  go_wp2
  go_ret
  exact ⟨rfl, hB3⟩
end Go.Proofs.YtdihnbjmeppbcaaDoor
