/- Need: the program's and the document's; arrays compared. -/
import Derived.Test.YtghbipipehglfaaA6
namespace Go.Proofs.Ytghbipipehglfaa
open Go.RowKit Go.Shelf

theorem run_eq22 (z1 z2 z3 z4 z5 : Int) (w : World) : (Op.equalIn 10000 22 (.agg #[.int .i64 z1, .int .i64 z2, .int .i64 z3, .int .i64 z4, .int .i64 z5]) (.agg #[.int .i64 z1, .int .i64 z2, .int .i64 z3, .int .i64 z4, .int .i64 z5])).run Try.prog w = .ok true w := by
  have u3 := Try.underlying3
  have a3 := Try.isAgg3
  have q3 := Try.sizeOf3
  rw [show (10000 : Nat) = 9999 + 1 from rfl, Op.equalIn]
  simp only [Sem.run_bind, run_underlying Try.underlying22, Result.andThen_ok]
  simp only [Std.Legacy.Range.forIn_eq_forIn_range', Std.Legacy.Range.size, Nat.sub_zero, Nat.add_sub_cancel, Nat.div_one, List.range'_succ, List.range'_zero, List.forIn_cons, List.forIn_nil]
  go_simp
theorem ndV_no {s : Pl.Sz} {h : Pl.Hd} (hc : Pl.cp s h ≠ 0) : ndV s h = fun _ => 0 := if_neg hc
theorem ndV_ok {s : Pl.Sz} {h : Pl.Hd} (hc : Pl.cp s h = 0) : ndV s h = Pl.nd s h := if_pos hc

set_option maxRecDepth 100000 in
set_option maxHeartbeats 2000000 in
theorem dneed_any (s : Pl.Sz) (h : Pl.Hd) (w : World) :
    Calls Try.prog 9 #[.agg (szA s), .agg (hdA h)] w fun e w' => e = .returned (.tuple #[.agg (a5A (ndV s h)), .int .i64 (Pl.cp s h)]) ∧ Below w.heap.size w w' := by
  have hB0 := (((Below.refl w.heap.size w).alloc (Nat.le_refl _) (.cells (szA s) 24)).alloc (by simp) (.cells (hdA h) 26)).alloc (by simp; omega) (.cells (a5A fun _ => 0) 22)
  have bS := ((Blk.new w 24 (szA s)).alloc (.cells (hdA h) 26)).alloc (.cells (a5A fun _ => 0) 22)
  have bH := (Blk.new (w.alloc (.cells (szA s) 24)) 26 (hdA h)).alloc (.cells (a5A fun _ => 0) 22)
  have bR := Blk.new ((w.alloc (.cells (szA s) 24)).alloc (.cells (hdA h) 26)) 22 (a5A fun _ => 0)
  simp only [World.size_alloc] at bH bR
  have hbl := bH.lt
  have hbs := bS.lt
  have hbr := bR.lt
  rcases cp3 s h with hc | hc | hc
  · obtain ⟨hs, hh⟩ := Pl.cp_ok.1 hc
    have HC := Lib.hid hc
    have HS := Lib.hid hs
    have HH := Lib.hid hh
    rw [hc, ndV_ok hc]
    clear hs hh hc
    go_enter Try.func9, Try.ntmps9
    go_wp2_with (first | refine ld_size bS rfl _ rfl rfl ?_ | refine ld_head bH rfl _ rfl rfl ?_ | (go_at_call 26; refine (checkpair_b s h 0 HC.out _).mono ?_; rintro e w1 ⟨rfl, hb1⟩; have hB1 := hB0.trans (hb1.mono hB0.size); have bS1 := bS.below hb1 hbs; have bH1 := bH.below hb1 hbl; have bR1 := bR.below hb1 hbr; clear hb1) | refine ld_size bS1 rfl _ rfl rfl ?_ | refine ld_head bH1 rfl _ rfl rfl ?_ | (go_at_call 27; refine (needs_any s h HS.out HH.out _).mono ?_; rintro e w2 ⟨rfl, hb2⟩; have bR2 := bR1.below hb2 bR1.lt) | (refine st_five (f := Pl.nd s h) bR2 rfl rfl _ _ rfl rfl rfl ?_; intro w3 bR3 hO))
    have hB3 := (hB1.trans (hb2.mono hB1.size)).trans (hO.below (B := w.heap.size) (by omega))
    exact bodyPost_ret (results_cell_tmp rfl _ _ _ _ _ _ _ rfl bR3 Try.underlying22 rfl info22) rfl ⟨rfl, hB3⟩
  all_goals
    have HC := Lib.hid hc
    rw [hc, ndV_no (by rw [hc]; decide)]
    clear hc
    go_enter Try.func9, Try.ntmps9
    go_wp2_with (first | refine ld_size bS rfl _ rfl rfl ?_ | refine ld_head bH rfl _ rfl rfl ?_ | (go_at_call 26; refine (checkpair_b s h _ HC.out _).mono ?_; rintro e w1 ⟨rfl, hb1⟩; have hB1 := hB0.trans (hb1.mono hB0.size); have bR1 := bR.below hb1 hbr; clear hb1) | (refine st_five (f := fun _ => 0) bR1 rfl rfl _ _ rfl rfl rfl ?_; intro w3 bR3 hO))
    have hB3 := hB1.trans (hO.below (B := w.heap.size) (by omega))
    exact bodyPost_ret (results_cell_tmp rfl _ _ _ _ _ _ _ rfl bR3 Try.underlying22 rfl info22) rfl ⟨rfl, hB3⟩

set_option maxRecDepth 100000 in
set_option maxHeartbeats 2000000 in
theorem rdneed_any (s : Pl.Sz) (h : Pl.Hd) (w : World) :
    Calls Try.prog 10 #[.agg (szA s), .agg (hdA h)] w fun e w' => e = .returned (.tuple #[.agg (a5A (ndV s h)), .int .i64 (Pl.cp s h)]) ∧ Below w.heap.size w w' := by
  have hB0 := (((Below.refl w.heap.size w).alloc (Nat.le_refl _) (.cells (szA s) 24)).alloc (by simp) (.cells (hdA h) 26)).alloc (by simp; omega) (.cells (a5A fun _ => 0) 22)
  have bS := ((Blk.new w 24 (szA s)).alloc (.cells (hdA h) 26)).alloc (.cells (a5A fun _ => 0) 22)
  have bH := (Blk.new (w.alloc (.cells (szA s) 24)) 26 (hdA h)).alloc (.cells (a5A fun _ => 0) 22)
  have bR := Blk.new ((w.alloc (.cells (szA s) 24)).alloc (.cells (hdA h) 26)) 22 (a5A fun _ => 0)
  simp only [World.size_alloc] at bH bR
  have hbl := bH.lt
  have hbs := bS.lt
  have hbr := bR.lt
  rcases cp3 s h with hc | hc | hc
  · obtain ⟨hs, hh⟩ := Pl.cp_ok.1 hc
    have HC := Lib.hid hc
    have HS := Lib.hid hs
    have HH := Lib.hid hh
    rw [hc, ndV_ok hc]
    clear hs hh hc
    go_enter Try.func10, Try.ntmps10
    go_wp2_with (first | refine ld_size bS rfl _ rfl rfl ?_ | refine ld_head bH rfl _ rfl rfl ?_ | (go_at_call 28; refine (single_b s h 0 HC.out _).mono ?_; rintro e w1 ⟨rfl, hb1⟩; have hB1 := hB0.trans (hb1.mono hB0.size); have bS1 := bS.below hb1 hbs; have bH1 := bH.below hb1 hbl; have bR1 := bR.below hb1 hbr; clear hb1) | refine ld_size bS1 rfl _ rfl rfl ?_ | refine ld_head bH1 rfl _ rfl rfl ?_ | (go_at_call 29; refine (rneed_any s h HS.out HH.out _).mono ?_; rintro e w2 ⟨rfl, hb2⟩; have bR2 := (bR1.below hb2 bR1.lt).alloc (.cells (a5A fun _ => 0) 22); have hlt2 : w.heap.size + 1 + 1 < w2.heap.size := Nat.lt_of_lt_of_le bR1.lt hb2.size; have bN2 := Blk.new w2 22 (a5A fun _ => 0)) | (refine st_five (f := Pl.nd s h) bN2 rfl rfl _ _ rfl rfl rfl ?_; intro w3 bN3 hO3; have bR3 := bR2.only hO3 (by omega)) | refine ld_five bN3 rfl _ rfl rfl ?_ | (refine st_five (f := Pl.nd s h) bR3 rfl rfl _ _ rfl rfl rfl ?_; intro w4 bR4 hO4))
    have hB2 := hB1.trans (hb2.mono hB1.size)
    have hB4 := ((hB2.alloc hB2.size (.cells (a5A fun _ => 0) 22)).trans (hO3.below (B := w.heap.size) (by omega))).trans (hO4.below (B := w.heap.size) (by omega))
    exact bodyPost_ret (results_cell_tmp rfl _ _ _ _ _ _ _ rfl bR4 Try.underlying22 rfl info22) rfl ⟨rfl, hB4⟩
  all_goals
    have HC := Lib.hid hc
    rw [hc, ndV_no (by rw [hc]; decide)]
    clear hc
    go_enter Try.func10, Try.ntmps10
    go_wp2_with (first | refine ld_size bS rfl _ rfl rfl ?_ | refine ld_head bH rfl _ rfl rfl ?_ | (go_at_call 28; refine (single_b s h _ HC.out _).mono ?_; rintro e w1 ⟨rfl, hb1⟩; have hB1 := hB0.trans (hb1.mono hB0.size); have bR1 := bR.below hb1 hbr; clear hb1) | (refine st_five (f := fun _ => 0) bR1 rfl rfl _ _ rfl rfl rfl ?_; intro w3 bR3 hO))
    have hB3 := hB1.trans (hO.below (B := w.heap.size) (by omega))
    exact bodyPost_ret (results_cell_tmp rfl _ _ _ _ _ _ _ rfl bR3 Try.underlying22 rfl info22) rfl ⟨rfl, hB3⟩
end Go.Proofs.Ytghbipipehglfaa
