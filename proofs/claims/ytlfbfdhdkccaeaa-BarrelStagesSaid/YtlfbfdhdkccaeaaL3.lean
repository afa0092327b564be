/- BarrelStages. -/
import Derived.Test.YtlfbfdhdkccaeaaS3
namespace Go.Proofs.Ytlfbfdhdkccaeaa
open Go.RowKit Go.Shelf

set_option maxRecDepth 100000 in
set_option maxHeartbeats 4000000 in
theorem law_stages (A : Option Addr) (l : List Pl.Bt) (c : Nat) (r : Pl.Rn) (hrw : Pl.Rw r) (cl h : Int) (w : World) (hI : Bts w A l) :
    Calls Try.prog 13 #[.slice A l.length c, .agg (rnA r), .agg #[.int .i64 cl, .int .i64 h]] w fun e w' => e = .returned (.bool true) ∧ Below w.heap.size w w' := by
  have hB0 := ((Below.refl w.heap.size w).alloc (Nat.le_refl _) (.cells (rnA r) 66)).alloc (by simp) (.cells #[.int .i64 cl, .int .i64 h] 52)
  have bR0 := (Blk.new w 66 (rnA r)).alloc (.cells #[.int .i64 cl, .int .i64 h] 52)
  have bP0 := Blk.new (w.alloc (.cells (rnA r) 66)) 52 #[.int .i64 cl, .int .i64 h]
  simp only [World.size_alloc] at bP0
  obtain ⟨wa, hwa⟩ : ∃ wa, wa = (w.alloc (.cells (rnA r) 66)).alloc (.cells #[.int .i64 cl, .int .i64 h] 52) := ⟨_, rfl⟩
  rw [← hwa] at hB0 bR0 bP0
  have s0 := fun s : Ext wa => s.cell ((bP0.cell 0).trans rfl)
  have s1 := fun s : Ext wa => s.cell ((bP0.cell 1).trans rfl)
  have HI := Lib.hid hI
  have HS := Lib.hid sane_any
  have H1 := Lib.hid (fun w' hI => Stage_any A l c _ rfl r hrw cl h w' hI)
  have H2 := Lib.hid (fun w' hI => rStage_any A l c _ rfl r hrw cl h w' hI)
  generalize Pl.stV l r cl h = v1 at *
  generalize Pl.stE l r cl = v2 at *
  generalize l.length = n at *
  have HBR := Lib.hid bR0
  have HB0 := Lib.hid hB0
  clear hI bP0 bR0 hrw hB0
  go_enter Try.func13, Try.ntmps13
  go_wp2_with fail
  rw [← hwa]
  clear hwa
  refine wp_region_ext (by kernel_rfl) (by kernel_rfl) ?_
  repeat (go_big_quiet_step (fail))
  refine wpQuiet_nil ?_
  rintro _ ⟨s, rfl⟩
  have hB := HB0.out.trans (s.h.mono HB0.out.size)
  have bR := HBR.out.below s.h HBR.out.lt
  have hrr : s.w.rangeAt w.heap.size 0 (rnL r) := bR.range
  clear s0 s1 HBR HB0
  generalize s.w = w0 at *
  by_cases hw : (50 : Int) < (n : Int)
  · have HW := Lib.hid (wide_b A n c 50 true (by simp [hw]))
    go_wp2_with fail
    refine (HW.out _).mono ?_
    rintro e w3 ⟨rfl, rfl⟩
    go_wp2_with fail
    refine (HS.out _).mono ?_
    rintro e w4 ⟨rfl, hb⟩
    go_wp2
    go_ret
    exact ⟨rfl, hB.trans (hb.mono hB.size)⟩
  have HW := Lib.hid (wide_b A n c 50 false (by simp [hw]))
  have HI0 := Lib.hid (HI.out.below hB)
  clear hw
  go_wp2_with fail
  refine (HW.out _).mono ?_
  rintro e w3 ⟨rfl, rfl⟩
  go_wp2_with (first | refine ldm_rn hrr rfl _ rfl rfl ?_)
  refine (H1.out _ HI0.out).mono ?_
  rintro e w1 ⟨rfl, hb1⟩
  have hB1 := hB.trans (hb1.mono hB.size)
  have hrr1 : w1.rangeAt w.heap.size 0 (rnL r) := (bR.below hb1 bR.lt).range
  have HI1 := Lib.hid (HI0.out.below hb1)
  clear hb1 hB HI0 H1 bR hrr
  go_wp2_with (first | refine ldm_rn hrr1 rfl _ rfl rfl ?_)
  refine (H2.out _ HI1.out).mono ?_
  rintro e w2 ⟨rfl, hb2⟩
  have hB2 := hB1.trans (hb2.mono hB1.size)
  clear hb2 hB1 HI1 H2 hrr1
  go_wp2_with fail
  refine (HS.out _).mono ?_
  rintro e w3 ⟨rfl, hb3⟩
  go_wp2
  go_ret
  exact ⟨rfl, hB2.trans (hb3.mono hB2.size)⟩
end Go.Proofs.Ytlfbfdhdkccaeaa
