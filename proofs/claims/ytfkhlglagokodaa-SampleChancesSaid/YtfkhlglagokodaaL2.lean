/- SampleChances. -/
import Derived.Test.YtfkhlglagokodaaA6
import Derived.Test.YtfkhlglagokodaaB2
namespace Go.Proofs.Ytfkhlglagokodaa
open Go.RowKit Go.Shelf

set_option maxRecDepth 100000 in
set_option maxHeartbeats 4000000 in
theorem law_chances (p : Pl.Pn) (L b : Int) (w : World) :
    Calls Try.prog 7 #[.agg (pnA p), .int .i64 L, .int .i64 b] w fun e w' => e = .returned (.bool true) ∧ Below w.heap.size w w' := by
  have hB0 := (Below.refl w.heap.size w).alloc (Nat.le_refl _) (.cells (pnA p) 23)
  have bP := Blk.new w 23 (pnA p)
  have H1 := Lib.hid (fun (w' : World) => Chance_b p L b w')
  have H2 := Lib.hid (fun (w' : World) => rChance_b p L b w')
  have H7 := Lib.hid awake_any
  generalize Pl.Cn p L b = v1 at *
  generalize Pl.Cd p L b = v2 at *
  generalize Pl.Ce p L b = v3 at *
  have hr0 := bP.range
  go_enter Try.func7, Try.ntmps7
  go_wp2_with (refine ldm_pn hr0 rfl _ rfl rfl ?_)
  refine (H1.out _).mono ?_
  rintro e w1 ⟨rfl, hb1⟩
  have hB1 := hB0.trans (hb1.mono hB0.size)
  have bP1 := bP.below hb1 bP.lt
  have hr1 := bP1.range
  clear hb1 hB0 bP hr0
  go_wp2_with (refine ldm_pn hr1 rfl _ rfl rfl ?_)
  refine (H2.out _).mono ?_
  rintro e w2 ⟨rfl, hb2⟩
  have hB2 := hB1.trans (hb2.mono hB1.size)
  clear hb2 hB1 bP1 hr1
  go_wp2_with (go_at_call 21; refine (H7.out _).mono ?_; rintro e w3 ⟨rfl, hb3⟩)
  have hB3 := hB2.trans (hb3.mono hB2.size)
  go_ret
  exact ⟨rfl, hB3⟩
end Go.Proofs.Ytfkhlglagokodaa
