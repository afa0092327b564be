/- TempleWears. -/
import Derived.Test.YtdnfipeadoiepaaL1
import Derived.Test.YtdnfipeadoiepaaP4
namespace Go.Proofs.Ytdnfipeadoiepaa
open Go.RowKit Go.Shelf

abbrev p2A (a b : Int) : Array Value := #[.int .i64 a, .int .i64 b]

set_option maxRecDepth 100000 in
set_option maxHeartbeats 8000000 in
theorem law_wears (h : Pl.Hg) (f0 f1 n0 n1 : Int) (w : World) :
    Calls Try.prog 11 #[.agg (hgA h), .agg (p2A f0 f1), .agg (p2A n0 n1)] w fun e w' => e = .returned (.bool true) ∧ Below w.heap.size w w' := by
  have hB0 := (((Below.refl w.heap.size w).alloc (Nat.le_refl _) (.cells (hgA h) 55)).alloc (by simp) (.cells (p2A f0 f1) 51)).alloc (by simp; omega) (.cells (p2A n0 n1) 51)
  have bH0 := ((Blk.new w 55 (hgA h)).alloc (.cells (p2A f0 f1) 51)).alloc (.cells (p2A n0 n1) 51)
  have bF0 := (Blk.new (w.alloc (.cells (hgA h) 55)) 51 (p2A f0 f1)).alloc (.cells (p2A n0 n1) 51)
  have bN0 := Blk.new ((w.alloc (.cells (hgA h) 55)).alloc (.cells (p2A f0 f1) 51)) 51 (p2A n0 n1)
  simp only [World.size_alloc] at bF0 bN0
  have hr := bH0.range
  have HV := Lib.hid (fun v hv => rvhinge_b h v hv)
  have HS := Lib.hid sane_any
  cases hvb : Pl.vhg h
  · have HVB := Lib.hid hvb
    clear hvb
    go_enter Try.func11, Try.ntmps11
    go_wp2_with (refine ldm_hg hr rfl _ rfl rfl ?_)
    refine (HV.out _ HVB.out _).mono ?_
    rintro e w1 ⟨rfl, hb⟩
    have hB1 := hB0.trans (hb.mono hB0.size)
    have bH1 := bH0.below hb bH0.lt
    have bF1 := bF0.below hb bF0.lt
    have bN1 := bN0.below hb bN0.lt
    have c1 := bH1.cell 1
    have cf0 := bF1.cell 0
    have cf1 := bF1.cell 1
    have cn0 := bN1.cell 0
    have cn1 := bN1.cell 1
    clear hb hr hB0 bH0 bF0 bN0
    go_wp2_with fail
    refine (HS.out _).mono ?_
    rintro e w2 ⟨rfl, hb⟩
    go_wp2
    go_ret
    exact ⟨rfl, hB1.trans (hb.mono hB1.size)⟩
  have HVB := Lib.hid hvb
  by_cases a0 : n0 < 0
  · clear hvb
    go_enter Try.func11, Try.ntmps11
    go_wp2_with (refine ldm_hg hr rfl _ rfl rfl ?_)
    refine (HV.out _ HVB.out _).mono ?_
    rintro e w1 ⟨rfl, hb⟩
    have hB1 := hB0.trans (hb.mono hB0.size)
    have bH1 := bH0.below hb bH0.lt
    have bF1 := bF0.below hb bF0.lt
    have bN1 := bN0.below hb bN0.lt
    have c1 := bH1.cell 1
    have cf0 := bF1.cell 0
    have cf1 := bF1.cell 1
    have cn0 := bN1.cell 0
    have cn1 := bN1.cell 1
    clear hb hr hB0 bH0 bF0 bN0
    go_wp2_with fail
    refine (HS.out _).mono ?_
    rintro e w2 ⟨rfl, hb⟩
    go_wp2
    go_ret
    exact ⟨rfl, hB1.trans (hb.mono hB1.size)⟩
  by_cases a1 : n1 < 0
  · clear hvb
    go_enter Try.func11, Try.ntmps11
    go_wp2_with (refine ldm_hg hr rfl _ rfl rfl ?_)
    refine (HV.out _ HVB.out _).mono ?_
    rintro e w1 ⟨rfl, hb⟩
    have hB1 := hB0.trans (hb.mono hB0.size)
    have bH1 := bH0.below hb bH0.lt
    have bF1 := bF0.below hb bF0.lt
    have bN1 := bN0.below hb bN0.lt
    have c1 := bH1.cell 1
    have cf0 := bF1.cell 0
    have cf1 := bF1.cell 1
    have cn0 := bN1.cell 0
    have cn1 := bN1.cell 1
    clear hb hr hB0 bH0 bF0 bN0
    go_wp2_with fail
    refine (HS.out _).mono ?_
    rintro e w2 ⟨rfl, hb⟩
    go_wp2
    go_ret
    exact ⟨rfl, hB1.trans (hb.mono hB1.size)⟩
  by_cases a2 : 2000 < n0
  · clear hvb
    go_enter Try.func11, Try.ntmps11
    go_wp2_with (refine ldm_hg hr rfl _ rfl rfl ?_)
    refine (HV.out _ HVB.out _).mono ?_
    rintro e w1 ⟨rfl, hb⟩
    have hB1 := hB0.trans (hb.mono hB0.size)
    have bH1 := bH0.below hb bH0.lt
    have bF1 := bF0.below hb bF0.lt
    have bN1 := bN0.below hb bN0.lt
    have c1 := bH1.cell 1
    have cf0 := bF1.cell 0
    have cf1 := bF1.cell 1
    have cn0 := bN1.cell 0
    have cn1 := bN1.cell 1
    clear hb hr hB0 bH0 bF0 bN0
    go_wp2_with fail
    refine (HS.out _).mono ?_
    rintro e w2 ⟨rfl, hb⟩
    go_wp2
    go_ret
    exact ⟨rfl, hB1.trans (hb.mono hB1.size)⟩
  by_cases a3 : 2000 < n1
  · clear hvb
    go_enter Try.func11, Try.ntmps11
    go_wp2_with (refine ldm_hg hr rfl _ rfl rfl ?_)
    refine (HV.out _ HVB.out _).mono ?_
    rintro e w1 ⟨rfl, hb⟩
    have hB1 := hB0.trans (hb.mono hB0.size)
    have bH1 := bH0.below hb bH0.lt
    have bF1 := bF0.below hb bF0.lt
    have bN1 := bN0.below hb bN0.lt
    have c1 := bH1.cell 1
    have cf0 := bF1.cell 0
    have cf1 := bF1.cell 1
    have cn0 := bN1.cell 0
    have cn1 := bN1.cell 1
    clear hb hr hB0 bH0 bF0 bN0
    go_wp2_with fail
    refine (HS.out _).mono ?_
    rintro e w2 ⟨rfl, hb⟩
    go_wp2
    go_ret
    exact ⟨rfl, hB1.trans (hb.mono hB1.size)⟩
  by_cases a4 : f0 < 0
  · clear hvb
    go_enter Try.func11, Try.ntmps11
    go_wp2_with (refine ldm_hg hr rfl _ rfl rfl ?_)
    refine (HV.out _ HVB.out _).mono ?_
    rintro e w1 ⟨rfl, hb⟩
    have hB1 := hB0.trans (hb.mono hB0.size)
    have bH1 := bH0.below hb bH0.lt
    have bF1 := bF0.below hb bF0.lt
    have bN1 := bN0.below hb bN0.lt
    have c1 := bH1.cell 1
    have cf0 := bF1.cell 0
    have cf1 := bF1.cell 1
    have cn0 := bN1.cell 0
    have cn1 := bN1.cell 1
    clear hb hr hB0 bH0 bF0 bN0
    go_wp2_with fail
    refine (HS.out _).mono ?_
    rintro e w2 ⟨rfl, hb⟩
    go_wp2
    go_ret
    exact ⟨rfl, hB1.trans (hb.mono hB1.size)⟩
  by_cases a5 : f1 < f0
  · clear hvb
    go_enter Try.func11, Try.ntmps11
    go_wp2_with (refine ldm_hg hr rfl _ rfl rfl ?_)
    refine (HV.out _ HVB.out _).mono ?_
    rintro e w1 ⟨rfl, hb⟩
    have hB1 := hB0.trans (hb.mono hB0.size)
    have bH1 := bH0.below hb bH0.lt
    have bF1 := bF0.below hb bF0.lt
    have bN1 := bN0.below hb bN0.lt
    have c1 := bH1.cell 1
    have cf0 := bF1.cell 0
    have cf1 := bF1.cell 1
    have cn0 := bN1.cell 0
    have cn1 := bN1.cell 1
    clear hb hr hB0 bH0 bF0 bN0
    go_wp2_with fail
    refine (HS.out _).mono ?_
    rintro e w2 ⟨rfl, hb⟩
    go_wp2
    go_ret
    exact ⟨rfl, hB1.trans (hb.mono hB1.size)⟩
  by_cases a6 : h.start < f1
  · clear hvb
    go_enter Try.func11, Try.ntmps11
    go_wp2_with (refine ldm_hg hr rfl _ rfl rfl ?_)
    refine (HV.out _ HVB.out _).mono ?_
    rintro e w1 ⟨rfl, hb⟩
    have hB1 := hB0.trans (hb.mono hB0.size)
    have bH1 := bH0.below hb bH0.lt
    have bF1 := bF0.below hb bF0.lt
    have bN1 := bN0.below hb bN0.lt
    have c1 := bH1.cell 1
    have cf0 := bF1.cell 0
    have cf1 := bF1.cell 1
    have cn0 := bN1.cell 0
    have cn1 := bN1.cell 1
    clear hb hr hB0 bH0 bF0 bN0
    go_wp2_with fail
    refine (HS.out _).mono ?_
    rintro e w2 ⟨rfl, hb⟩
    go_wp2
    go_ret
    exact ⟨rfl, hB1.trans (hb.mono hB1.size)⟩
  have hvh := Pl.vhg_true.1 hvb
  have hs2 := hvh.s2
  clear hvb
  obtain ⟨M, rfl⟩ : ∃ M : Nat, n0 = M := ⟨n0.toNat, by omega⟩
  obtain ⟨N, rfl⟩ : ∃ N : Nat, n1 = N := ⟨n1.toNat, by omega⟩
  have hof : ∀ (f : Int) (k : Nat), 0 ≤ f → f ≤ h.start → k ≤ 4000 → ∀ w' : World, Calls Try.prog 37 #[.agg (hgA h), .int .i64 f, .int .i64 k] w' fun e w'' => e = .returned (.tuple #[.int .i64 (Pl.opn h f k), .int .i64 0]) ∧ Below w'.heap.size w' w'' := fun f k h1 h2 h3 w' => by
    have hc : Pl.ckh h f k 0 = 0 := Pl.ckh_mk hvh ⟨h1, h2⟩ ⟨by omega, by omega⟩ ⟨by omega, by omega⟩
    have := Opened_any h f k w'
    unfold Pl.opV at this
    rw [if_pos hc, hc, Int.toNat_natCast] at this
    exact this
  have hbd := Pl.opn_bounds hvh (f := f0) (by omega) M
  have hO1 := Lib.hid (hof f0 M (by omega) (by omega) (by omega))
  have hO2 := Lib.hid (hof f1 M (by omega) (by omega) (by omega))
  have hO3 := Lib.hid (hof (Pl.opn h f0 M) N hbd.1 (by omega) (by omega))
  have hO4 := Lib.hid (hof f0 (M + N) (by omega) (by omega) (by omega))
  have hm := Pl.opn_mono hvh (f := f0) (g := f1) (by omega) (by omega) M
  have hc2 := (Pl.opn_bounds hvh hbd.1 N).2
  have HAD : Hid (Pl.opn h f0 (M + N) = Pl.opn h (Pl.opn h f0 M) N) := Lib.hid (Pl.opn_add h f0 M N)
  rw [HAD.out] at hO4
  generalize Pl.opn h (Pl.opn h f0 M) N = C at *
  generalize Pl.opn h f0 M = X at *
  generalize Pl.opn h f1 M = Y at *
  obtain ⟨hx0, hx1⟩ := hbd
  have k1 : IntKind.i64.wrap ((M : Int) + (N : Int)) = (M : Int) + (N : Int) := IntWalk.i64_in _ (by omega)
  have HK : Hid (((M + N : Nat) : Int) = (M : Int) + (N : Int)) := Lib.hid (by omega)
  rw [HK.out] at hO4
  clear hof HAD hvh
  go_enter Try.func11, Try.ntmps11
  go_wp2_with (refine ldm_hg hr rfl _ rfl rfl ?_)
  refine (HV.out _ HVB.out _).mono ?_
  rintro e w1 ⟨rfl, hb⟩
  have hB1 := hB0.trans (hb.mono hB0.size)
  have bH1 := bH0.below hb bH0.lt
  have bF1 := bF0.below hb bF0.lt
  have bN1 := bN0.below hb bN0.lt
  have c1 := bH1.cell 1
  have cf0 := bF1.cell 0
  have cf1 := bF1.cell 1
  have cn0 := bN1.cell 0
  have cn1 := bN1.cell 1
  clear hb hr hB0 bH0 bF0 bN0
  have hr1 := bH1.range
  go_wp2_with (refine ldm_hg hr1 rfl _ rfl rfl ?_)
  refine (hO1.out _).mono ?_
  rintro e w2 ⟨rfl, hb⟩
  have hB2 := hB1.trans (hb.mono hB1.size)
  have bH2 := bH1.below hb bH1.lt
  have bF2 := bF1.below hb bF1.lt
  have bN2 := bN1.below hb bN1.lt
  clear hb hr1 hB1 bH1 bF1 bN1 c1 cf0 cf1 cn0 cn1
  have hr2 := bH2.range
  have c1 := bH2.cell 1
  have cf0 := bF2.cell 0
  have cf1 := bF2.cell 1
  have cn0 := bN2.cell 0
  have cn1 := bN2.cell 1
  go_wp2_with (refine ldm_hg hr2 rfl _ rfl rfl ?_)
  refine (hO2.out _).mono ?_
  rintro e w3 ⟨rfl, hb⟩
  have hB3 := hB2.trans (hb.mono hB2.size)
  have bH3 := bH2.below hb bH2.lt
  have bF3 := bF2.below hb bF2.lt
  have bN3 := bN2.below hb bN2.lt
  clear hb hr2 hB2 bH2 bF2 bN2 c1 cf0 cf1 cn0 cn1
  have hr3 := bH3.range
  have c1 := bH3.cell 1
  have cf0 := bF3.cell 0
  have cf1 := bF3.cell 1
  have cn0 := bN3.cell 0
  have cn1 := bN3.cell 1
  go_wp2_with (refine ldm_hg hr3 rfl _ rfl rfl ?_)
  refine (hO3.out _).mono ?_
  rintro e w4 ⟨rfl, hb⟩
  have hB4 := hB3.trans (hb.mono hB3.size)
  have bH4 := bH3.below hb bH3.lt
  have bF4 := bF3.below hb bF3.lt
  have bN4 := bN3.below hb bN3.lt
  clear hb hr3 hB3 bH3 bF3 bN3 c1 cf0 cf1 cn0 cn1
  have hr4 := bH4.range
  have c1 := bH4.cell 1
  have cf0 := bF4.cell 0
  have cf1 := bF4.cell 1
  have cn0 := bN4.cell 0
  have cn1 := bN4.cell 1
  go_wp2_with (refine ldm_hg hr4 rfl _ rfl rfl ?_)
  refine (hO4.out _).mono ?_
  rintro e w5 ⟨rfl, hb⟩
  have hB5 := hB4.trans (hb.mono hB4.size)
  have bH5 := bH4.below hb bH4.lt
  have bF5 := bF4.below hb bF4.lt
  have bN5 := bN4.below hb bN4.lt
  clear hb hr4 hB4 bH4 bF4 bN4 c1 cf0 cf1 cn0 cn1
  have hr5 := bH5.range
  have c1 := bH5.cell 1
  have cf0 := bF5.cell 0
  have cf1 := bF5.cell 1
  have cn0 := bN5.cell 0
  have cn1 := bN5.cell 1
  go_wp2_with fail
  refine (HS.out _).mono ?_
  rintro e w6 ⟨rfl, hb⟩
  go_wp2
  go_ret
  exact ⟨rfl, hB5.trans (hb.mono hB5.size)⟩
end Go.Proofs.Ytdnfipeadoiepaa
