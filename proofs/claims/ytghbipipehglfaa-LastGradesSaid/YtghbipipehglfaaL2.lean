/- LastGrades. -/
import Derived.Test.YtghbipipehglfaaA16
import Derived.Test.YtghbipipehglfaaA17
import Derived.Test.YtghbipipehglfaaA13
namespace Go.Proofs.Ytghbipipehglfaa
open Go.RowKit Go.Shelf

set_option maxRecDepth 100000 in
set_option maxHeartbeats 4000000 in
theorem law_grades (s : Pl.Sz) (st : Nat → Int) (n : Int) (w : World) :
    Calls Try.prog 4 #[.agg (szA s), .agg (a5A st), .int .i64 n] w fun e w' => e = .returned (.bool true) ∧ Below w.heap.size w w' := by
  obtain ⟨cv, hcv⟩ : ∃ cv, Pl.gE s st n = cv := ⟨_, rfl⟩
  obtain ⟨g, hg⟩ : ∃ g, Pl.gV s st n = g := ⟨_, rfl⟩
  have HG := Lib.hid (dgrade_any s st n)
  have HRG := Lib.hid (rgrade_any s st n)
  rw [hcv, hg] at HG HRG
  clear hcv hg
  have heq := fun w => run_eq24 g w
  have hB := ((Below.refl w.heap.size w).alloc (Nat.le_refl _) (.cells (szA s) 24)).alloc (by simp) (.cells (a5A st) 22)
  have bS := (Blk.new w 24 (szA s)).alloc (.cells (a5A st) 22)
  have bT := Blk.new (w.alloc (.cells (szA s) 24)) 22 (a5A st)
  simp only [World.size_alloc] at bT
  have hS := bS.lt
  have hT := bT.lt
  go_enter Try.func4, Try.ntmps4
  go_wp2_with (first | refine ld_size (by assumption) rfl _ rfl rfl ?_ | refine ld_five (by assumption) rfl _ rfl rfl ?_)
  refine (HG.out _).mono ?_
  rintro e w1 ⟨rfl, hb1⟩
  have hB1 := (hB.trans (hb1.mono hB.size)).alloc (by have := (hB.trans (hb1.mono hB.size)).size; exact this) (.cells (szA Pl.zsz) 24)
  have bS1 := (bS.below hb1 hS).alloc (.cells (szA Pl.zsz) 24)
  have bT1 := (bT.below hb1 hT).alloc (.cells (szA Pl.zsz) 24)
  have bA := Blk.new w1 24 (szA Pl.zsz)
  have hz1 : w.heap.size + 1 < w1.heap.size := Nat.lt_of_lt_of_le hT hb1.size
  clear bS bT hS hT hb1 hB
  go_wp2_with (first | (refine st_size (s := g) bA rfl rfl _ _ rfl rfl rfl ?_; intro w2 bA2 hO; have bS2 := bS1.only hO (by omega); have bT2 := bT1.only hO (by omega); have hB2 := hB1.trans (hO.below (B := w.heap.size) (by omega)); clear hO bS1 bT1 hB1 bA) | refine ld_size (by assumption) rfl _ rfl rfl ?_ | refine ld_five (by assumption) rfl _ rfl rfl ?_)
  refine (HRG.out _).mono ?_
  rintro e w3 ⟨rfl, hb3⟩
  have hB3 := (hB2.trans (hb3.mono hB2.size)).alloc (by have := (hB2.trans (hb3.mono hB2.size)).size; exact this) (.cells (szA Pl.zsz) 24)
  have bA3 := (bA2.below hb3 bA2.lt).alloc (.cells (szA Pl.zsz) 24)
  have bC := Blk.new w3 24 (szA Pl.zsz)
  have hz3 : w1.heap.size < w3.heap.size := Nat.lt_of_lt_of_le bA2.lt hb3.size
  clear bS2 bT2 bA2 hb3 hB2
  go_wp2_with (first | (refine st_size (s := g) bC rfl rfl _ _ rfl rfl rfl ?_; intro w4 bC4 hO; have bA4 := bA3.only hO (by omega); have hB4 := hB3.trans (hO.below (B := w.heap.size) (by omega)); clear hO hB3 bC bA3) | refine ld_size (by assumption) rfl _ rfl rfl ?_)
  refine (awake_any _).mono ?_
  rintro e wa ⟨rfl, hba⟩
  go_wp2
  go_ret
  exact ⟨rfl, hB4.trans (hba.mono hB4.size)⟩
end Go.Proofs.Ytghbipipehglfaa
