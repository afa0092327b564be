/- TempleLives. -/
import Derived.Test.YtdnfipeadoiepaaL1
import Derived.Test.YtdnfipeadoiepaaP4
namespace Go.Proofs.Ytdnfipeadoiepaa
open Go.RowKit Go.Shelf

set_option maxRecDepth 100000 in
set_option maxHeartbeats 16000000 in
theorem law_lives (c : Pl.Hc) (w : World) :
    Calls Try.prog 12 #[.agg (csA c)] w fun e w' => e = .returned (.bool true) ∧ Below w.heap.size w w' := by
  have hB0 := (Below.refl w.heap.size w).alloc (Nat.le_refl _) (.cells (csA c) 57)
  have bT0 := Blk.new w 57 (csA c)
  have hr0 := cs_range bT0
  have HV := Lib.hid (fun v hv => rvhinge_b c.H v hv)
  have HS := Lib.hid sane_any
  obtain ⟨h, f, n, a⟩ := c
  dsimp only at *
  cases hvb : Pl.vhg h
  · have HVB := Lib.hid hvb
    clear hvb
    go_enter Try.func12, Try.ntmps12
    go_wp2_with (refine ldm_hg hr0 rfl _ rfl rfl ?_)
    refine (HV.out _ HVB.out _).mono ?_
    rintro e w1 ⟨rfl, hb⟩
    have hB1 := hB0.trans (hb.mono hB0.size)
    have bT1 := bT0.below hb bT0.lt
    have hr1 := cs_range bT1
    have q1 := bT1.cell 1
    have q4 := bT1.cell 4
    have q5 := bT1.cell 5
    have q6 := bT1.cell 6
    clear hb hr0 hB0 bT0
    go_wp2_with fail
    refine (HS.out _).mono ?_
    rintro e wz ⟨rfl, hb⟩
    go_wp2
    go_ret
    exact ⟨rfl, hB1.trans (hb.mono hB1.size)⟩
  have HVB := Lib.hid hvb
  by_cases a0 : f < 0
  · clear hvb
    go_enter Try.func12, Try.ntmps12
    go_wp2_with (refine ldm_hg hr0 rfl _ rfl rfl ?_)
    refine (HV.out _ HVB.out _).mono ?_
    rintro e w1 ⟨rfl, hb⟩
    have hB1 := hB0.trans (hb.mono hB0.size)
    have bT1 := bT0.below hb bT0.lt
    have hr1 := cs_range bT1
    have q1 := bT1.cell 1
    have q4 := bT1.cell 4
    have q5 := bT1.cell 5
    have q6 := bT1.cell 6
    clear hb hr0 hB0 bT0
    go_wp2_with fail
    refine (HS.out _).mono ?_
    rintro e wz ⟨rfl, hb⟩
    go_wp2
    go_ret
    exact ⟨rfl, hB1.trans (hb.mono hB1.size)⟩
  by_cases a1 : h.start < f
  · clear hvb
    go_enter Try.func12, Try.ntmps12
    go_wp2_with (refine ldm_hg hr0 rfl _ rfl rfl ?_)
    refine (HV.out _ HVB.out _).mono ?_
    rintro e w1 ⟨rfl, hb⟩
    have hB1 := hB0.trans (hb.mono hB0.size)
    have bT1 := bT0.below hb bT0.lt
    have hr1 := cs_range bT1
    have q1 := bT1.cell 1
    have q4 := bT1.cell 4
    have q5 := bT1.cell 5
    have q6 := bT1.cell 6
    clear hb hr0 hB0 bT0
    go_wp2_with fail
    refine (HS.out _).mono ?_
    rintro e wz ⟨rfl, hb⟩
    go_wp2
    go_ret
    exact ⟨rfl, hB1.trans (hb.mono hB1.size)⟩
  by_cases a2 : a < 0
  · clear hvb
    go_enter Try.func12, Try.ntmps12
    go_wp2_with (refine ldm_hg hr0 rfl _ rfl rfl ?_)
    refine (HV.out _ HVB.out _).mono ?_
    rintro e w1 ⟨rfl, hb⟩
    have hB1 := hB0.trans (hb.mono hB0.size)
    have bT1 := bT0.below hb bT0.lt
    have hr1 := cs_range bT1
    have q1 := bT1.cell 1
    have q4 := bT1.cell 4
    have q5 := bT1.cell 5
    have q6 := bT1.cell 6
    clear hb hr0 hB0 bT0
    go_wp2_with fail
    refine (HS.out _).mono ?_
    rintro e wz ⟨rfl, hb⟩
    go_wp2
    go_ret
    exact ⟨rfl, hB1.trans (hb.mono hB1.size)⟩
  by_cases a3 : h.start ≤ a
  · clear hvb
    go_enter Try.func12, Try.ntmps12
    go_wp2_with (refine ldm_hg hr0 rfl _ rfl rfl ?_)
    refine (HV.out _ HVB.out _).mono ?_
    rintro e w1 ⟨rfl, hb⟩
    have hB1 := hB0.trans (hb.mono hB0.size)
    have bT1 := bT0.below hb bT0.lt
    have hr1 := cs_range bT1
    have q1 := bT1.cell 1
    have q4 := bT1.cell 4
    have q5 := bT1.cell 5
    have q6 := bT1.cell 6
    clear hb hr0 hB0 bT0
    go_wp2_with fail
    refine (HS.out _).mono ?_
    rintro e wz ⟨rfl, hb⟩
    go_wp2
    go_ret
    exact ⟨rfl, hB1.trans (hb.mono hB1.size)⟩
  by_cases a4 : n < 0
  · clear hvb
    go_enter Try.func12, Try.ntmps12
    go_wp2_with (refine ldm_hg hr0 rfl _ rfl rfl ?_)
    refine (HV.out _ HVB.out _).mono ?_
    rintro e w1 ⟨rfl, hb⟩
    have hB1 := hB0.trans (hb.mono hB0.size)
    have bT1 := bT0.below hb bT0.lt
    have hr1 := cs_range bT1
    have q1 := bT1.cell 1
    have q4 := bT1.cell 4
    have q5 := bT1.cell 5
    have q6 := bT1.cell 6
    clear hb hr0 hB0 bT0
    go_wp2_with fail
    refine (HS.out _).mono ?_
    rintro e wz ⟨rfl, hb⟩
    go_wp2
    go_ret
    exact ⟨rfl, hB1.trans (hb.mono hB1.size)⟩
  by_cases a5 : 3000 < n
  · clear hvb
    go_enter Try.func12, Try.ntmps12
    go_wp2_with (refine ldm_hg hr0 rfl _ rfl rfl ?_)
    refine (HV.out _ HVB.out _).mono ?_
    rintro e w1 ⟨rfl, hb⟩
    have hB1 := hB0.trans (hb.mono hB0.size)
    have bT1 := bT0.below hb bT0.lt
    have hr1 := cs_range bT1
    have q1 := bT1.cell 1
    have q4 := bT1.cell 4
    have q5 := bT1.cell 5
    have q6 := bT1.cell 6
    clear hb hr0 hB0 bT0
    go_wp2_with fail
    refine (HS.out _).mono ?_
    rintro e wz ⟨rfl, hb⟩
    go_wp2
    go_ret
    exact ⟨rfl, hB1.trans (hb.mono hB1.size)⟩
  have hvh := Pl.vhg_true.1 hvb
  have hs2 := hvh.s2
  clear hvb
  obtain ⟨N, rfl⟩ : ∃ N : Nat, n = N := ⟨n.toNat, by omega⟩
  have hof : ∀ (k : Int), 0 ≤ k → k ≤ 100000 → ∀ w' : World, Calls Try.prog 37 #[.agg (hgA h), .int .i64 f, .int .i64 k] w' fun e w'' => e = .returned (.tuple #[.int .i64 (Pl.opn h f k.toNat), .int .i64 0]) ∧ Below w'.heap.size w' w'' := fun k h2 h3 w' => by
    have hc : Pl.ckh h f k 0 = 0 := Pl.ckh_mk hvh ⟨by omega, by omega⟩ ⟨by omega, by omega⟩ ⟨by omega, by omega⟩
    have := Opened_any h f k w'
    unfold Pl.opV at this
    rw [if_pos hc, hc] at this
    exact this
  have hsf : ∀ (k : Nat) (l : Int), k ≤ 4000 → 0 ≤ l → l ≤ h.start → ∀ w' : World, Calls Try.prog 45 #[.agg (hgA h), .int .i64 k, .int .i64 l] w' fun e w'' => e = .returned (.tuple #[.int .i64 (Pl.svN (Pl.sv h l k 0 h.start)), .int .i64 (Pl.svE 0 (Pl.sv h l k 0 h.start))]) ∧ Below w'.heap.size w' w'' := fun k l h1 h2 h3 w' => by
    have hc : Pl.ckh h 0 k l = 0 := Pl.ckh_mk hvh ⟨by omega, by omega⟩ ⟨by omega, by omega⟩ ⟨by omega, by omega⟩
    have := Services_any h k l w'
    unfold Pl.svO at this
    rw [if_pos hc, hc, Int.toNat_natCast] at this
    exact this
  have hS1 := Lib.hid (hsf N a (by omega) (by omega) (by omega))
  have hS2 := Lib.hid (hsf (N + 1) a (by omega) (by omega) (by omega))
  have hS3 := Lib.hid (hsf N (a + 1) (by omega) (by omega) (by omega))
  have HK : Hid (((N + 1 : Nat) : Int) = (N : Int) + 1) := Lib.hid (by omega)
  rw [HK.out] at hS2
  have hmore := Lib.hid (Pl.sv_more (h := h) a N 0 h.start)
  have hleast : Hid (∀ s1 u1, Pl.sv h a N 0 h.start = some s1 → Pl.sv h (a + 1) N 0 h.start = some u1 → s1 ≤ u1) := Lib.hid (fun s1 u1 e1 e2 => Pl.sv_least hvh a N 0 0 h.start h.start s1 u1 (by omega) (by omega) (Int.le_refl _) e1 e2)
  generalize Pl.sv h a N 0 h.start = V1 at *
  generalize Pl.sv h a (N + 1) 0 h.start = V2 at *
  generalize Pl.sv h (a + 1) N 0 h.start = V3 at *
  have hcases : (V1 = none ∧ V2 = none ∧ (V3 = none ∨ ∃ u1, V3 = some u1)) ∨ (∃ s1, V1 = some s1 ∧ (V2 = none ∨ ∃ t1, V2 = some t1 ∧ s1 ≤ t1) ∧ (V3 = none ∨ ∃ u1, V3 = some u1 ∧ s1 ≤ u1)) := by
    cases V1 with
    | none => exact .inl ⟨rfl, hmore.out.1 rfl, by cases V3 with | none => exact .inl rfl | some u1 => exact .inr ⟨u1, rfl⟩⟩
    | some s1 =>
      refine .inr ⟨s1, rfl, hmore.out.2 s1 rfl, ?_⟩
      cases V3 with
      | none => exact .inl rfl
      | some u1 => exact .inr ⟨u1, rfl, hleast.out s1 u1 rfl rfl⟩
  have HC := Lib.hid hcases
  have hlife : ∀ w' : World, Calls Try.prog 43 #[.agg (hgA h), .int .i64 f, .int .i64 a] w' fun e w'' => e = .returned (.tuple #[.int .i64 (Pl.liN (Pl.lif h a 100001 0 f)), .bool (Pl.liB (Pl.lif h a 100001 0 f)), .int .i64 0]) ∧ Below w'.heap.size w' w'' := fun w' => by
    have hc : Pl.ckh h f 0 a = 0 := Pl.ckh_mk hvh ⟨by omega, by omega⟩ ⟨by omega, by omega⟩ ⟨by omega, by omega⟩
    have := Life_any h f a w'
    unfold Pl.liO at this
    rw [if_pos hc, hc] at this
    exact this
  have HLI := Lib.hid hlife
  have HOF := Lib.hid hof
  have kn : IntKind.i64.wrap ((N : Int) + 1) = (N : Int) + 1 := IntWalk.i64_in _ (by omega)
  have ka : IntKind.i64.wrap (a + 1) = a + 1 := IntWalk.i64_in _ (by omega)
  have HR : Hid ((∃ m : Nat, Pl.lif h a 100001 0 f = some m ∧ m ≤ 100000 ∧ Pl.opn h f m < a ∧ (0 < m → ¬ Pl.opn h f (m - 1) < a)) ∨ (Pl.lif h a 100001 0 f = none ∧ ¬ Pl.opn h f 100000 < a)) := Lib.hid (by
    cases e : Pl.lif h a 100001 0 f with
    | none => exact .inr ⟨rfl, Pl.lif_none (k := 100001) (n := 0) e 100000 (by omega) (by omega)⟩
    | some m =>
      obtain ⟨h1, h2, h3, h4⟩ := Pl.lif_some (k := 100001) (n := 0) e
      exact .inl ⟨m, rfl, by omega, h3, fun hm => h4 (m - 1) (by omega) (by omega)⟩)
  clear hcases hlife hof hsf hmore hleast hvh HK
  rcases HR.out with ⟨m, hm, hm1, hm2, hm3⟩ | ⟨hm, hm2⟩
  · rw [hm] at HLI
    clear hm HR
    have hOm := Lib.hid (HOF.out m (by omega) (by omega))
    rw [Int.toNat_natCast] at hOm
    by_cases hz : 0 < m
    · have hOm1 := Lib.hid (HOF.out ((m : Int) - 1) (by omega) (by omega))
      rw [show ((m : Int) - 1).toNat = m - 1 from by omega] at hOm1
      have hm4 := hm3 hz
      have km : IntKind.i64.wrap ((m : Int) - 1) = (m : Int) - 1 := IntWalk.i64_in _ (by omega)
      have mz : (0 : Int) < (m : Int) := by omega
      have mle : ¬ (100000 : Int) < (m : Int) := by omega
      have mnn : ¬ (m : Int) < 0 := by omega
      clear hm3 HOF hz hm1
      generalize Pl.opn h f m = X at *
      generalize Pl.opn h f (m - 1) = Y at *
      go_enter Try.func12, Try.ntmps12
      go_wp2_with (refine ldm_hg hr0 rfl _ rfl rfl ?_)
      refine (HV.out _ HVB.out _).mono ?_
      rintro e w1 ⟨rfl, hb⟩
      have hB1 := hB0.trans (hb.mono hB0.size)
      have bT1 := bT0.below hb bT0.lt
      have hr1 := cs_range bT1
      have q1 := bT1.cell 1
      have q4 := bT1.cell 4
      have q5 := bT1.cell 5
      have q6 := bT1.cell 6
      clear hb hr0 hB0 bT0
      go_wp2_with (refine ldm_hg hr1 rfl _ rfl rfl ?_)
      refine (HLI.out _).mono ?_
      rintro e w2 ⟨rfl, hb⟩
      simp only [Pl.liN, Pl.liB]
      have hB2 := hB1.trans (hb.mono hB1.size)
      have bT2 := bT1.below hb bT1.lt
      have hr2 := cs_range bT2
      clear hb hr1 hB1 bT1 q1 q4 q5 q6
      have q1 := bT2.cell 1
      have q4 := bT2.cell 4
      have q5 := bT2.cell 5
      have q6 := bT2.cell 6
      go_wp2_with (refine ldm_hg hr2 rfl _ rfl rfl ?_)
      refine (hOm.out _).mono ?_
      rintro e w3 ⟨rfl, hb⟩
      have hB3 := hB2.trans (hb.mono hB2.size)
      have bT3 := bT2.below hb bT2.lt
      have hr3 := cs_range bT3
      clear hb hr2 hB2 bT2 q1 q4 q5 q6
      have q1 := bT3.cell 1
      have q4 := bT3.cell 4
      have q5 := bT3.cell 5
      have q6 := bT3.cell 6
      go_wp2_with (refine ldm_hg hr3 rfl _ rfl rfl ?_)
      refine (hOm1.out _).mono ?_
      rintro e w4 ⟨rfl, hb⟩
      have hB4 := hB3.trans (hb.mono hB3.size)
      have bT4 := bT3.below hb bT3.lt
      have hr4 := cs_range bT4
      clear hb hr3 hB3 bT3 q1 q4 q5 q6
      have q1 := bT4.cell 1
      have q4 := bT4.cell 4
      have q5 := bT4.cell 5
      have q6 := bT4.cell 6
      go_wp2_with (refine ldm_hg hr4 rfl _ rfl rfl ?_)
      refine (hS1.out _).mono ?_
      rintro e w5 ⟨rfl, hb⟩
      have hB5 := hB4.trans (hb.mono hB4.size)
      have bT5 := bT4.below hb bT4.lt
      have hr5 := cs_range bT5
      clear hb hr4 hB4 bT4 q1 q4 q5 q6
      have q1 := bT5.cell 1
      have q4 := bT5.cell 4
      have q5 := bT5.cell 5
      have q6 := bT5.cell 6
      go_wp2_with (refine ldm_hg hr5 rfl _ rfl rfl ?_)
      refine (hS2.out _).mono ?_
      rintro e w6 ⟨rfl, hb⟩
      have hB6 := hB5.trans (hb.mono hB5.size)
      have bT6 := bT5.below hb bT5.lt
      have hr6 := cs_range bT6
      clear hb hr5 hB5 bT5 q1 q4 q5 q6
      have q1 := bT6.cell 1
      have q4 := bT6.cell 4
      have q5 := bT6.cell 5
      have q6 := bT6.cell 6
      go_wp2_with (refine ldm_hg hr6 rfl _ rfl rfl ?_)
      refine (hS3.out _).mono ?_
      rintro e w7 ⟨rfl, hb⟩
      have hB7 := hB6.trans (hb.mono hB6.size)
      have bT7 := bT6.below hb bT6.lt
      have hr7 := cs_range bT7
      clear hb hr6 hB6 bT6 q1 q4 q5 q6
      have q1 := bT7.cell 1
      have q4 := bT7.cell 4
      have q5 := bT7.cell 5
      have q6 := bT7.cell 6
      rcases HC.out with ⟨rfl, rfl, rfl | ⟨u1, rfl⟩⟩ | ⟨s1, rfl, rfl | ⟨t1, rfl, ht1⟩, rfl | ⟨u1, rfl, hu1⟩⟩
      all_goals
        (simp only [Pl.svN, Pl.svE]
         go_wp2_with fail
         refine (HS.out _).mono ?_
         rintro e wz ⟨rfl, hb⟩
         go_wp2
         go_ret
         exact ⟨rfl, hB7.trans (hb.mono hB7.size)⟩)
    · obtain rfl : m = 0 := by omega
      clear hm3 HOF hz hm1
      generalize Pl.opn h f 0 = X at *
      go_enter Try.func12, Try.ntmps12
      go_wp2_with (refine ldm_hg hr0 rfl _ rfl rfl ?_)
      refine (HV.out _ HVB.out _).mono ?_
      rintro e w1 ⟨rfl, hb⟩
      have hB1 := hB0.trans (hb.mono hB0.size)
      have bT1 := bT0.below hb bT0.lt
      have hr1 := cs_range bT1
      have q1 := bT1.cell 1
      have q4 := bT1.cell 4
      have q5 := bT1.cell 5
      have q6 := bT1.cell 6
      clear hb hr0 hB0 bT0
      go_wp2_with (refine ldm_hg hr1 rfl _ rfl rfl ?_)
      refine (HLI.out _).mono ?_
      rintro e w2 ⟨rfl, hb⟩
      simp only [Pl.liN, Pl.liB]
      have hB2 := hB1.trans (hb.mono hB1.size)
      have bT2 := bT1.below hb bT1.lt
      have hr2 := cs_range bT2
      clear hb hr1 hB1 bT1 q1 q4 q5 q6
      have q1 := bT2.cell 1
      have q4 := bT2.cell 4
      have q5 := bT2.cell 5
      have q6 := bT2.cell 6
      go_wp2_with (refine ldm_hg hr2 rfl _ rfl rfl ?_)
      refine (hOm.out _).mono ?_
      rintro e w3 ⟨rfl, hb⟩
      have hB3 := hB2.trans (hb.mono hB2.size)
      have bT3 := bT2.below hb bT2.lt
      have hr3 := cs_range bT3
      clear hb hr2 hB2 bT2 q1 q4 q5 q6
      have q1 := bT3.cell 1
      have q4 := bT3.cell 4
      have q5 := bT3.cell 5
      have q6 := bT3.cell 6
      go_wp2_with (refine ldm_hg hr3 rfl _ rfl rfl ?_)
      refine (hS1.out _).mono ?_
      rintro e w4 ⟨rfl, hb⟩
      have hB4 := hB3.trans (hb.mono hB3.size)
      have bT4 := bT3.below hb bT3.lt
      have hr4 := cs_range bT4
      clear hb hr3 hB3 bT3 q1 q4 q5 q6
      have q1 := bT4.cell 1
      have q4 := bT4.cell 4
      have q5 := bT4.cell 5
      have q6 := bT4.cell 6
      go_wp2_with (refine ldm_hg hr4 rfl _ rfl rfl ?_)
      refine (hS2.out _).mono ?_
      rintro e w5 ⟨rfl, hb⟩
      have hB5 := hB4.trans (hb.mono hB4.size)
      have bT5 := bT4.below hb bT4.lt
      have hr5 := cs_range bT5
      clear hb hr4 hB4 bT4 q1 q4 q5 q6
      have q1 := bT5.cell 1
      have q4 := bT5.cell 4
      have q5 := bT5.cell 5
      have q6 := bT5.cell 6
      go_wp2_with (refine ldm_hg hr5 rfl _ rfl rfl ?_)
      refine (hS3.out _).mono ?_
      rintro e w6 ⟨rfl, hb⟩
      have hB6 := hB5.trans (hb.mono hB5.size)
      have bT6 := bT5.below hb bT5.lt
      have hr6 := cs_range bT6
      clear hb hr5 hB5 bT5 q1 q4 q5 q6
      have q1 := bT6.cell 1
      have q4 := bT6.cell 4
      have q5 := bT6.cell 5
      have q6 := bT6.cell 6
      rcases HC.out with ⟨rfl, rfl, rfl | ⟨u1, rfl⟩⟩ | ⟨s1, rfl, rfl | ⟨t1, rfl, ht1⟩, rfl | ⟨u1, rfl, hu1⟩⟩
      all_goals
        (simp only [Pl.svN, Pl.svE]
         go_wp2_with fail
         refine (HS.out _).mono ?_
         rintro e wz ⟨rfl, hb⟩
         go_wp2
         go_ret
         exact ⟨rfl, hB6.trans (hb.mono hB6.size)⟩)
  · rw [hm] at HLI
    clear hm HR
    have hOm := Lib.hid (HOF.out 100000 (by omega) (by omega))
    rw [show (100000 : Int).toNat = 100000 from rfl] at hOm
    clear HOF
    generalize Pl.opn h f 100000 = X at *
    go_enter Try.func12, Try.ntmps12
    go_wp2_with (refine ldm_hg hr0 rfl _ rfl rfl ?_)
    refine (HV.out _ HVB.out _).mono ?_
    rintro e w1 ⟨rfl, hb⟩
    have hB1 := hB0.trans (hb.mono hB0.size)
    have bT1 := bT0.below hb bT0.lt
    have hr1 := cs_range bT1
    have q1 := bT1.cell 1
    have q4 := bT1.cell 4
    have q5 := bT1.cell 5
    have q6 := bT1.cell 6
    clear hb hr0 hB0 bT0
    go_wp2_with (refine ldm_hg hr1 rfl _ rfl rfl ?_)
    refine (HLI.out _).mono ?_
    rintro e w2 ⟨rfl, hb⟩
    simp only [Pl.liN, Pl.liB]
    have hB2 := hB1.trans (hb.mono hB1.size)
    have bT2 := bT1.below hb bT1.lt
    have hr2 := cs_range bT2
    clear hb hr1 hB1 bT1 q1 q4 q5 q6
    have q1 := bT2.cell 1
    have q4 := bT2.cell 4
    have q5 := bT2.cell 5
    have q6 := bT2.cell 6
    go_wp2_with (refine ldm_hg hr2 rfl _ rfl rfl ?_)
    refine (hOm.out _).mono ?_
    rintro e w3 ⟨rfl, hb⟩
    have hB3 := hB2.trans (hb.mono hB2.size)
    have bT3 := bT2.below hb bT2.lt
    have hr3 := cs_range bT3
    clear hb hr2 hB2 bT2 q1 q4 q5 q6
    have q1 := bT3.cell 1
    have q4 := bT3.cell 4
    have q5 := bT3.cell 5
    have q6 := bT3.cell 6
    go_wp2_with (refine ldm_hg hr3 rfl _ rfl rfl ?_)
    refine (hS1.out _).mono ?_
    rintro e w4 ⟨rfl, hb⟩
    have hB4 := hB3.trans (hb.mono hB3.size)
    have bT4 := bT3.below hb bT3.lt
    have hr4 := cs_range bT4
    clear hb hr3 hB3 bT3 q1 q4 q5 q6
    have q1 := bT4.cell 1
    have q4 := bT4.cell 4
    have q5 := bT4.cell 5
    have q6 := bT4.cell 6
    go_wp2_with (refine ldm_hg hr4 rfl _ rfl rfl ?_)
    refine (hS2.out _).mono ?_
    rintro e w5 ⟨rfl, hb⟩
    have hB5 := hB4.trans (hb.mono hB4.size)
    have bT5 := bT4.below hb bT4.lt
    have hr5 := cs_range bT5
    clear hb hr4 hB4 bT4 q1 q4 q5 q6
    have q1 := bT5.cell 1
    have q4 := bT5.cell 4
    have q5 := bT5.cell 5
    have q6 := bT5.cell 6
    go_wp2_with (refine ldm_hg hr5 rfl _ rfl rfl ?_)
    refine (hS3.out _).mono ?_
    rintro e w6 ⟨rfl, hb⟩
    have hB6 := hB5.trans (hb.mono hB5.size)
    have bT6 := bT5.below hb bT5.lt
    have hr6 := cs_range bT6
    clear hb hr5 hB5 bT5 q1 q4 q5 q6
    have q1 := bT6.cell 1
    have q4 := bT6.cell 4
    have q5 := bT6.cell 5
    have q6 := bT6.cell 6
    rcases HC.out with ⟨rfl, rfl, rfl | ⟨u1, rfl⟩⟩ | ⟨s1, rfl, rfl | ⟨t1, rfl, ht1⟩, rfl | ⟨u1, rfl, hu1⟩⟩
    all_goals
      (simp only [Pl.svN, Pl.svE]
       go_wp2_with fail
       refine (HS.out _).mono ?_
       rintro e wz ⟨rfl, hb⟩
       go_wp2
       go_ret
       exact ⟨rfl, hB6.trans (hb.mono hB6.size)⟩)
end Go.Proofs.Ytdnfipeadoiepaa
