/- BarrelHours, every input. -/
import Derived.Test.YtlfbfdhdkccaeaaL4
namespace Go.Proofs.Ytlfbfdhdkccaeaa
open Go.RowKit Go.Shelf

set_option maxRecDepth 100000 in
set_option maxHeartbeats 4000000 in
theorem hours_no (b : Pl.Bt) (cl fr : Int) (cs : Bool) (hno : Pl.vs [b] = false ∨ Pl.vs [b] = true ∧ (cl < 0 ∨ ¬ cl < 0 ∧ (100 < cl ∨ ¬ 100 < cl ∧ (fr < 0 ∨ ¬ fr < 0 ∧ 1000000 < fr)))) (w : World) :
    Calls Try.prog 14 #[.agg (btA b), .agg #[.int .i64 cl, .int .i64 fr], .bool cs] w fun e w' => e = .returned (.bool true) ∧ Below w.heap.size w w' := by
  have hB0 := ((Below.refl w.heap.size w).alloc (Nat.le_refl _) (.cells (btA b) 25)).alloc (by simp) (.cells #[.int .i64 cl, .int .i64 fr] 52)
  have bB0 := (Blk.new w 25 (btA b)).alloc (.cells #[.int .i64 cl, .int .i64 fr] 52)
  have bP0 := Blk.new (w.alloc (.cells (btA b) 25)) 52 #[.int .i64 cl, .int .i64 fr]
  simp only [World.size_alloc] at bP0
  obtain ⟨wa, hwa⟩ : ∃ wa, wa = (w.alloc (.cells (btA b) 25)).alloc (.cells #[.int .i64 cl, .int .i64 fr] 52) := ⟨_, rfl⟩
  rw [← hwa] at hB0 bB0 bP0
  have s0 := fun s : Ext wa => s.cell ((bP0.cell 0).trans rfl)
  have s1 := fun s : Ext wa => s.cell ((bP0.cell 1).trans rfl)
  have HS := Lib.hid sane_any
  have HRV := Lib.hid (fun w' AL (hI : Bts w' AL [b]) => rvalid_any AL [b] 1 w' hI)
  generalize Pl.vs [b] = v at *
  have HB0 := Lib.hid hB0
  have HBB := Lib.hid bB0
  have HNO := Lib.hid hno
  clear hB0 bB0 bP0 hno
  go_enter Try.func14, Try.ntmps14
  go_wp2_with fail
  rw [← hwa]
  clear hwa
  refine wp_region_ext (by kernel_rfl) (by kernel_rfl) ?_
  repeat (go_big_quiet_step (fail))
  refine wpQuiet_nil ?_
  rintro _ ⟨s, rfl⟩
  have hB := HB0.out.trans (s.h.mono HB0.out.size)
  have bB := HBB.out.below s.h HBB.out.lt
  clear s0 s1 HBB HB0
  generalize s.w = w0 at *
  have hrb := bB.range
  have HT0 := Lib.hid (bts_one w0 b)
  have hB1 := hB.alloc hB.size (.cells (btA b) 25)
  go_wp2_with (refine ldm_bt hrb rfl _ rfl rfl ?_)
  refine (HRV.out _ _ HT0.out).mono ?_
  rintro e w1 ⟨rfl, hb1⟩
  have hB2 := hB1.trans (hb1.mono hB1.size)
  clear hB hb1 bB hrb HT0 hB1 HRV
  rcases HNO.out with rfl | ⟨rfl, e1 | ⟨e1, e2 | ⟨e2, e3 | ⟨e3, e4⟩⟩⟩⟩
  all_goals
    go_wp2_with fail
    refine (HS.out _).mono ?_
    rintro e w2 ⟨rfl, hb2⟩
    go_wp2
    go_ret
    exact ⟨rfl, hB2.trans (hb2.mono hB2.size)⟩

theorem law_hours (b : Pl.Bt) (cl fr : Int) (cs : Bool) (w : World) :
    Calls Try.prog 14 #[.agg (btA b), .agg #[.int .i64 cl, .int .i64 fr], .bool cs] w fun e w' => e = .returned (.bool true) ∧ Below w.heap.size w w' := by
  cases hv : Pl.vs [b] with
  | false => exact hours_no b cl fr cs (.inl hv) w
  | true =>
    by_cases e1 : cl < 0
    · exact hours_no b cl fr cs (.inr ⟨hv, .inl e1⟩) w
    by_cases e2 : 100 < cl
    · exact hours_no b cl fr cs (.inr ⟨hv, .inr ⟨e1, .inl e2⟩⟩) w
    by_cases e3 : fr < 0
    · exact hours_no b cl fr cs (.inr ⟨hv, .inr ⟨e1, .inr ⟨e2, .inl e3⟩⟩⟩) w
    by_cases e4 : 1000000 < fr
    · exact hours_no b cl fr cs (.inr ⟨hv, .inr ⟨e1, .inr ⟨e2, .inr ⟨e3, e4⟩⟩⟩⟩) w
    exact hours_go b cl fr cs hv (by omega) (by omega) (by omega) (by omega) w
end Go.Proofs.Ytlfbfdhdkccaeaa
