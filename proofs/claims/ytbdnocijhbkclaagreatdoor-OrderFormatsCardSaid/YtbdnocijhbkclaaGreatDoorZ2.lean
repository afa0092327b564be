/- Format, of both. -/
import Derived.Test.YtbdnocijhbkclaaGreatDoorZ1
import Derived.Test.YtbdnocijhbkclaaGreatDoorWQ
namespace Go.Proofs.YtbdnocijhbkclaaGreatDoor
open Go.RowKit Go.Shelf Go.Sort Go.Lib

/-- the text that Format answers -/
def Pl.foT (f : Pl.Fm) : List UInt8 := if Pl.vf f then Pl.txt f else []
def Pl.foE (f : Pl.Fm) : Int := if Pl.vf f then 0 else 3
set_option maxRecDepth 100000 in
set_option maxHeartbeats 4000000 in
theorem Format_any (f : Pl.Fm) (w : World) (hE : Env w) (hF : FmIn w f) :
    Calls Tryz.prog 7 #[.agg (fmA f)] w fun e w' => e = .returned (.tuple #[.string ⟨(Pl.foT f).toArray⟩, .int .i64 (Pl.foE f)]) ∧ Below w.heap.size w w' := by
  have hB := (Below.refl w.heap.size w).alloc (Nat.le_refl _) (.cells (fmA f) 24)
  have bF := Blk.new w 24 (fmA f)
  obtain ⟨x, hx⟩ : ∃ x, Pl.vf f = x := ⟨_, rfl⟩
  have HV := Lib.hid (vform_b f x hx _ (hF.below hB))
  have HB := Lib.hid hB
  have HFB := Lib.hid bF
  have hFl := bF.lt
  have hr0 := bF.range
  cases x
  · have HT : Hid (Pl.foT f = [] ∧ Pl.foE f = 3) := Lib.hid (by unfold Pl.foT Pl.foE; rw [hx]; exact ⟨rfl, rfl⟩)
    rw [HT.out.1, HT.out.2]
    clear hx hE hF hB bF
    generalize hWo : w.alloc (.cells (fmA f) 24) = W at *
    go_enter Tryz.func7, Tryz.ntmps7
    go_wp2_with (refine ldm_fm hr0 rfl _ rfl rfl ?_)
    refine HV.out.mono ?_
    rintro e w2 ⟨rfl, hb2⟩
    have HB2 := Lib.hid (HB.out.trans (hb2.mono HB.out.size))
    clear hb2
    go_wp2_with fail
    refine bodyPost_ret (v := .tuple #[.string ⟨#[]⟩, .int .i64 3]) (by simp [results, Tryz.results7, go_sem]) rfl ?_
    exact ⟨rfl, HB2.out⟩
  · have HT : Hid (Pl.foT f = Pl.txt f ∧ Pl.foE f = 0) := Lib.hid (by unfold Pl.foT Pl.foE; rw [hx]; exact ⟨rfl, rfl⟩)
    rw [HT.out.1, HT.out.2]
    have HW := Lib.hid (fun W hb => written_any f (Pl.vf_true.1 hx) W ((hE.below hB).below hb) ((hF.rows.below hB).below hb))
    clear hx hE hF hB bF
    generalize hWo : w.alloc (.cells (fmA f) 24) = W at *
    go_enter Tryz.func7, Tryz.ntmps7
    go_wp2_with (refine ldm_fm hr0 rfl _ rfl rfl ?_)
    refine HV.out.mono ?_
    rintro e w2 ⟨rfl, hb2⟩
    have HB2 := Lib.hid (HB.out.trans (hb2.mono HB.out.size))
    have HW2 := Lib.hid (HW.out w2 hb2)
    have hr2 := (HFB.out.below hb2 hFl).range
    clear hb2
    go_wp2_with (refine ldm_fm hr2 rfl _ rfl rfl ?_)
    refine HW2.out.mono ?_
    rintro e w3 ⟨rfl, hb3⟩
    have HB3 := Lib.hid (HB2.out.trans (hb3.mono HB2.out.size))
    clear hb3
    go_wp2_with fail
    refine bodyPost_ret (v := .tuple #[.string ⟨(Pl.txt f).toArray⟩, .int .i64 0]) (by simp [results, Tryz.results7, go_sem]) rfl ?_
    exact ⟨rfl, HB3.out⟩
set_option maxRecDepth 100000 in
set_option maxHeartbeats 4000000 in
theorem rFormat_any (f : Pl.Fm) (w : World) (hF : FmIn w f) :
    Calls Tryz.prog 8 #[.agg (fmA f)] w fun e w' => e = .returned (.tuple #[.string ⟨(Pl.foT f).toArray⟩, .int .i64 (Pl.foE f)]) ∧ Below w.heap.size w w' := by
  obtain ⟨x, hx⟩ : ∃ x, Pl.vf f = x := ⟨_, rfl⟩
  cases x
  · have hB := (Below.refl w.heap.size w).alloc (Nat.le_refl _) (.cells (fmA f) 24)
    have hr0 := (Blk.new w 24 (fmA f)).range
    have HV := Lib.hid (rvform_b f false hx _ (hF.below hB))
    have HB := Lib.hid hB
    have HT : Hid (Pl.foT f = [] ∧ Pl.foE f = 3) := Lib.hid (by unfold Pl.foT Pl.foE; rw [hx]; exact ⟨rfl, rfl⟩)
    rw [HT.out.1, HT.out.2]
    clear hx hF hB
    generalize hWo : w.alloc (.cells (fmA f) 24) = W at *
    go_enter Tryz.func8, Tryz.ntmps8
    go_wp2_with (refine ldm_fm hr0 rfl _ rfl rfl ?_)
    refine HV.out.mono ?_
    rintro e w2 ⟨rfl, hb2⟩
    have HB2 := Lib.hid (HB.out.trans (hb2.mono HB.out.size))
    clear hb2
    go_wp2_with fail
    refine bodyPost_ret (v := .tuple #[.string ⟨#[]⟩, .int .i64 3]) (by simp [results, Tryz.results8, go_sem]) rfl ?_
    exact ⟨rfl, HB2.out⟩
  · have HT : Hid (Pl.foT f = Pl.txt f ∧ Pl.foE f = 0) := Lib.hid (by unfold Pl.foT Pl.foE; rw [hx]; exact ⟨rfl, rfl⟩)
    rw [HT.out.1, HT.out.2]
    exact rformat_c f (Pl.vf_true.1 hx) w hF.rows (fun w' hb => rvform_b f true hx w' (hF.below hb))
end Go.Proofs.YtbdnocijhbkclaaGreatDoor
