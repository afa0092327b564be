/- LastNeeds. -/
import Derived.Test.YtghbipipehglfaaA14
import Derived.Test.YtghbipipehglfaaA13
namespace Go.Proofs.Ytghbipipehglfaa
open Go.RowKit Go.Shelf

theorem fitV_flt {s : Pl.Sz} {h : Pl.Hd} (hc : Pl.cp s h = 0) : (((fltV s h).length : Int) == 0) = fitV s h := by
  unfold fltV fitV Pl.fit
  rw [if_pos hc, if_pos hc, Bool.eq_iff_iff]
  simp

set_option maxRecDepth 100000 in
set_option maxHeartbeats 4000000 in
theorem law_needs (s : Pl.Sz) (h : Pl.Hd) (w : World) :
    Calls Try.prog 3 #[.agg (szA s), .agg (hdA h)] w fun e w' => e = .returned (.bool true) ∧ Below w.heap.size w w' := by
  obtain ⟨cv, hcv⟩ : ∃ cv, Pl.cp s h = cv := ⟨_, rfl⟩
  obtain ⟨x, hx⟩ : ∃ x, fitV s h = x := ⟨_, rfl⟩
  obtain ⟨q, hq⟩ : ∃ q, fltV s h = q := ⟨_, rfl⟩
  obtain ⟨f, hf⟩ : ∃ f, ndV s h = f := ⟨_, rfl⟩
  have hql : q.length ≤ 6 := hq ▸ fltV_len s h
  have hfit : (cv = 0 ∧ (((q.length : Int) == 0) = x)) ∨ (cv = 30 ∧ x = false) ∨ (cv = 31 ∧ x = false) := by
    rcases cp3 s h with hc | hc | hc
    · exact .inl ⟨by rw [← hcv, hc], by rw [← hx, ← hq]; exact fitV_flt hc⟩
    · exact .inr (.inl ⟨by rw [← hcv, hc], by rw [← hx]; exact if_neg (by rw [hc]; decide)⟩)
    · exact .inr (.inr ⟨by rw [← hcv, hc], by rw [← hx]; exact if_neg (by rw [hc]; decide)⟩)
  have HN := Lib.hid (dneed_any s h)
  have HRN := Lib.hid (rdneed_any s h)
  have HF := Lib.hid (dfits_any s h)
  have HRF := Lib.hid (rdfits_any s h)
  have HL := Lib.hid (dfaults_any s h)
  have HRL := Lib.hid (rdfaults_any s h)
  rw [hcv] at HN HRN HF HRF HL HRL
  rw [hx] at HF HRF
  rw [hf] at HN HRN
  rw [hq] at HL HRL
  clear hcv hx hq hf
  have heq := fun w => run_eq22 (f 0) (f 1) (f 2) (f 3) (f 4) w
  have hB := ((Below.refl w.heap.size w).alloc (Nat.le_refl _) (.cells (szA s) 24)).alloc (by simp) (.cells (hdA h) 26)
  have bS := (Blk.new w 24 (szA s)).alloc (.cells (hdA h) 26)
  have bH := Blk.new (w.alloc (.cells (szA s) 24)) 26 (hdA h)
  simp only [World.size_alloc] at bH
  have hS := bS.lt
  have hH := bH.lt
  rcases hfit with ⟨rfl, hxx⟩ | ⟨rfl, rfl⟩ | ⟨rfl, rfl⟩
  all_goals
    go_enter Try.func3, Try.ntmps3
    go_wp2_with (first | refine ld_size (by assumption) rfl _ rfl rfl ?_ | refine ld_head (by assumption) rfl _ rfl rfl ?_)
    refine (HN.out _).mono ?_
    rintro e w1 ⟨rfl, hb1⟩
    have hB1 := (hB.trans (hb1.mono hB.size)).alloc (by have := (hB.trans (hb1.mono hB.size)).size; exact this) (.cells (a5A fun _ => 0) 22)
    have bS1 := (bS.below hb1 hS).alloc (.cells (a5A fun _ => 0) 22)
    have bH1 := (bH.below hb1 hH).alloc (.cells (a5A fun _ => 0) 22)
    have bA := Blk.new w1 22 (a5A fun _ => 0)
    have hz1 : w.heap.size + 1 < w1.heap.size := Nat.lt_of_lt_of_le hH hb1.size
    clear bS bH hS hH hb1 hB
    go_wp2_with (first | (refine st_five (f := f) bA rfl rfl _ _ rfl rfl rfl ?_; intro w2 bA2 hO; have bS2 := bS1.only hO (by omega); have bH2 := bH1.only hO (by omega); have hB2 := hB1.trans (hO.below (B := w.heap.size) (by omega)); clear hO bS1 bH1 hB1 bA) | refine ld_size (by assumption) rfl _ rfl rfl ?_ | refine ld_head (by assumption) rfl _ rfl rfl ?_)
    refine (HRN.out _).mono ?_
    rintro e w3 ⟨rfl, hb3⟩
    have hB3 := (hB2.trans (hb3.mono hB2.size)).alloc (by have := (hB2.trans (hb3.mono hB2.size)).size; exact this) (.cells (a5A fun _ => 0) 22)
    have bS3 := (bS2.below hb3 bS2.lt).alloc (.cells (a5A fun _ => 0) 22)
    have bH3 := (bH2.below hb3 bH2.lt).alloc (.cells (a5A fun _ => 0) 22)
    have bA3 := (bA2.below hb3 bA2.lt).alloc (.cells (a5A fun _ => 0) 22)
    have bC := Blk.new w3 22 (a5A fun _ => 0)
    have hz3 : w1.heap.size < w3.heap.size := Nat.lt_of_lt_of_le bA2.lt hb3.size
    clear bS2 bH2 bA2 hb3 hB2
    go_wp2_with (first | (refine st_five (f := f) bC rfl rfl _ _ rfl rfl rfl ?_; intro w4 bC4 hO; have bS4 := bS3.only hO (by omega); have bH4 := bH3.only hO (by omega); have bA4 := bA3.only hO (by omega); have hB4 := hB3.trans (hO.below (B := w.heap.size) (by omega)); clear hO bS3 bH3 hB3 bC bA3) | refine ld_five (by assumption) rfl _ rfl rfl ?_ | refine ld_size (by assumption) rfl _ rfl rfl ?_ | refine ld_head (by assumption) rfl _ rfl rfl ?_)
    refine (HF.out _).mono ?_
    rintro e w5 ⟨rfl, hb5⟩
    have hB5 := hB4.trans (hb5.mono hB4.size)
    have bS5 := bS4.below hb5 bS4.lt
    have bH5 := bH4.below hb5 bH4.lt
    clear bS4 bH4 hb5 hB4 bA4 bC4
    go_wp2_with (first | refine ld_size (by assumption) rfl _ rfl rfl ?_ | refine ld_head (by assumption) rfl _ rfl rfl ?_)
    refine (HRF.out _).mono ?_
    rintro e w6 ⟨rfl, hb6⟩
    have hB6 := hB5.trans (hb6.mono hB5.size)
    have bS6 := bS5.below hb6 bS5.lt
    have bH6 := bH5.below hb6 bH5.lt
    clear bS5 bH5 hb6 hB5
    go_wp2_with (first | refine ld_size (by assumption) rfl _ rfl rfl ?_ | refine ld_head (by assumption) rfl _ rfl rfl ?_)
    refine (HL.out _).mono ?_
    rintro e w7 ⟨v7, rfl, hown7, hb7⟩
    have hB7 := hB6.trans (hb7.mono hB6.size)
    have bS7 := bS6.below hb7 bS6.lt
    have bH7 := bH6.below hb7 bH6.lt
    obtain ⟨A7, c7, rfl, hI7⟩ := ints_of_owns hown7
    clear bS6 bH6 hb7 hB6 hown7
    go_wp2_with (first | refine ld_size (by assumption) rfl _ rfl rfl ?_ | refine ld_head (by assumption) rfl _ rfl rfl ?_)
    refine (HRL.out _).mono ?_
    rintro e w8 ⟨v8, rfl, hown8, hb8⟩
    have hB8 := hB7.trans (hb8.mono hB7.size)
    have hI7' := Lib.hid (hI7.below hb8)
    obtain ⟨A8, c8, rfl, hI8⟩ := ints_of_owns hown8
    have HI8 := Lib.hid hI8
    clear bS7 bH7 hb8 hB7 hown8 hI8 hI7
    go_wp2_with (go_at_call 15; refine (same_yes A7 A8 q c7 c8 (by omega) _ hI7'.out HI8.out).mono ?_; rintro e w9 ⟨rfl, hb9⟩; have hB9 := hB8.trans (hb9.mono hB8.size))
    refine (awake_any _).mono ?_
    rintro e wa ⟨rfl, hba⟩
    go_wp2
    go_ret
    exact ⟨rfl, hB9.trans (hba.mono hB9.size)⟩
end Go.Proofs.Ytghbipipehglfaa
