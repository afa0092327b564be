/- SampleLeasts. -/
import Derived.Test.YtfkhlglagokodaaL5
import Derived.Test.YtfkhlglagokodaaM2
namespace Go.Proofs.Ytfkhlglagokodaa
open Go.RowKit Go.Shelf

theorem oE_ok {R : Option Nat} (h : Pl.oE R = 0) : ∃ n, R = some n := by
  cases R with
  | none => cases h
  | some n => exact ⟨n, rfl⟩

set_option maxRecDepth 100000 in
set_option maxHeartbeats 16000000 in
theorem law_leasts (L b a p q : Int) (hp : p ≤ 9223372036854775807) (hq : q ≤ 9223372036854775807) (w : World) :
    Calls Try.prog 8 #[.int .i64 L, .int .i64 b, .int .i64 a, .agg (frA p q)] w fun e w' => e = .returned (.bool true) ∧ Below w.heap.size w w' := by
  have hB0 := (Below.refl w.heap.size w).alloc (Nat.le_refl _) (.cells (frA p q) 51)
  have bT := Blk.new w 51 (frA p q)
  have hr := bT.range
  have H1 := Lib.hid (fun w' : World => Least_b L b a p q hp hq w')
  have H2 := Lib.hid (fun w' : World => rLeast_b L b a p q hp hq w')
  have H7 := Lib.hid awake_any
  by_cases hE : Pl.LE L b a p q = 0
  rotate_left
  · generalize Pl.LE L b a p q = E at *
    generalize Pl.LN L b a p q = N at *
    have hE1 : (E != 0) = true := by simpa using hE
    clear hE
    go_enter Try.func8, Try.ntmps8
    go_wp2_with (refine ldm_fr hr rfl _ rfl rfl ?_)
    refine (H1.out _).mono ?_
    rintro e w1 ⟨rfl, hb1⟩
    have hB1 := hB0.trans (hb1.mono hB0.size)
    have bT1 := bT.below hb1 bT.lt
    have hr1 := bT1.range
    clear hb1 hB0 bT bT1 hr
    go_wp2_with (refine ldm_fr hr1 rfl _ rfl rfl ?_)
    refine (H2.out _).mono ?_
    rintro e w2 ⟨rfl, hb2⟩
    have hB2 := hB1.trans (hb2.mono hB1.size)
    clear hb2 hB1 hr1
    go_wp2_with fail
    refine (H7.out _).mono ?_
    rintro e w3 ⟨rfl, hb3⟩
    have hB3 := hB2.trans (hb3.mono hB2.size)
    go_wp2
    go_ret
    exact ⟨rfl, hB3⟩
  · have hok : Pl.lok L b a p q = true := by
      cases h : Pl.lok L b a p q with
      | true => rfl
      | false => rw [(Pl.lok_LE h).1] at hE; cases hE
    obtain ⟨l, c, t, x, y, rfl, rfl, rfl, rfl, rfl, q1, q2, q3, q4, q5⟩ := Pl.lok_ok hok
    obtain ⟨e1, e2⟩ := Pl.LE_nat hok
    rw [hE] at e1
    obtain ⟨n, hn⟩ := oE_ok e1.symm
    rw [hn] at e2
    obtain ⟨f1, f2, f3, f4⟩ := Pl.lsr_some hn
    have hnl : n ≤ l := by omega
    rw [hE, show Pl.LN l c t x y = n from e2] at H1 H2
    obtain ⟨c1, c2, c3⟩ := C_val q2 q3 hnl (show t < n by omega)
    have HC1 := Lib.hid (fun w' : World => Chance_b ⟨n, t⟩ l c w')
    rw [c1, c2, c3] at HC1
    have HD1 := Lib.hid (fun w' : World => Compare_b (Pl.cn n t l c) (Pl.cd n t l c) x y (by have := Pl.cn_le (s := n) q3 (show t < n by omega); have := Pl.cd_big (s := n) (a := t) (bad := c) q2; omega) (by have := Pl.cd_big (s := n) (a := t) (bad := c) q2; omega) (by omega) (by omega) (Pl.cd_pos hnl) q5 w')
    have hle : Pl.cmp (Pl.cn n t l c * y) (x * Pl.cd n t l c) ≤ 0 := of_decide_eq_true f1
    generalize Pl.cmp (Pl.cn n t l c * y) (x * Pl.cd n t l c) = r1 at *
    generalize Pl.cn n t l c = u1 at *
    generalize Pl.cd n t l c = u2 at *
    have hle2 : ¬ 0 < r1 := by omega
    have hn60 : n ≤ 60 := by omega
    have hn0 : 1 ≤ n := by omega
    have k1 : IntKind.i64.wrap ((n : Int) - 1) = (n : Int) - 1 := IntWalk.i64_in _ (by omega)
    have k2 : IntKind.i64.wrap ((t : Int) + 1) = (t : Int) + 1 := IntWalk.i64_in _ (by omega)
    by_cases hc : n = t + 1
    · have hv0 : Pl.vP ⟨(n : Int) - 1, t⟩ = false := by
        cases h : Pl.vP ⟨(n : Int) - 1, t⟩ with
        | false => rfl
        | true =>
          have h5 := Pl.vP_iff.1 h
          have h6 : (t : Int) ≤ (n : Int) - 1 - 1 := h5.2.2.2
          omega
      obtain ⟨g1, g2, g3⟩ := Pl.Ce_not hv0 l c
      have HC2 := Lib.hid (fun w' : World => Chance_b ⟨(n : Int) - 1, t⟩ l c w')
      rw [g1, g2, g3] at HC2
      have hnt : (n : Int) = (t : Int) + 1 := by omega
      have hnt2 : ((n : Int) == (t : Int) + 1) = true := by simp [hnt]
      have HNT := Lib.hid hnt
      clear hE hok e1 e2 hn f1 f2 f3 f4 c1 c2 c3 hv0 g1 g2 g3 q1 q2 q3 q4 q5 hnl hc hnt hp hq
      go_enter Try.func8, Try.ntmps8
      go_wp2_with (refine ldm_fr hr rfl _ rfl rfl ?_)
      refine (H1.out _).mono ?_
      rintro e w1 ⟨rfl, hb1⟩
      have hB1 := hB0.trans (hb1.mono hB0.size)
      have bT1 := bT.below hb1 bT.lt
      have hr1 := bT1.range
      clear hb1 hB0 bT hr
      go_wp2_with (refine ldm_fr hr1 rfl _ rfl rfl ?_)
      refine (H2.out _).mono ?_
      rintro e w2 ⟨rfl, hb2⟩
      have hB2 := hB1.trans (hb2.mono hB1.size)
      have bT2 := bT1.below hb2 bT1.lt
      clear hb2 hB1 bT1 hr1
      go_wp2_with fail
      refine (HC1.out _).mono ?_
      rintro e w3 ⟨rfl, hb3⟩
      have hB3 := hB2.trans (hb3.mono hB2.size)
      have bT3 := bT2.below hb3 bT2.lt
      have hr3 := bT3.range
      clear hb3 hB2 bT2
      go_wp2_with (refine ldm_fr hr3 rfl _ rfl rfl ?_)
      refine (HD1.out _).mono ?_
      rintro e w4 ⟨rfl, hb4⟩
      have hB4 := hB3.trans (hb4.mono hB3.size)
      clear hb4 hB3 bT3 hr3
      go_wp2_with fail
      refine (HC2.out _).mono ?_
      rintro e w5 ⟨rfl, hb5⟩
      have hB5 := hB4.trans (hb5.mono hB4.size)
      clear hb5 hB4
      go_wp2_with fail
      refine (H7.out _).mono ?_
      rintro e w6 ⟨rfl, hb6⟩
      have hB6 := hB5.trans (hb6.mono hB5.size)
      go_wp2
      go_ret
      exact ⟨rfl, hB6⟩
    · obtain ⟨n', hn'⟩ : ∃ n', n = n' + 1 := ⟨n - 1, by omega⟩
      have hn1 : (n : Int) - 1 = (n' : Int) := by omega
      obtain ⟨d1, d2, d3⟩ := C_val q2 q3 (show n' ≤ l by omega) (show t < n' by omega)
      have HC2 := Lib.hid (fun w' : World => Chance_b ⟨n', t⟩ l c w')
      rw [d1, d2, d3] at HC2
      have HD2 := Lib.hid (fun w' : World => Compare_b (Pl.cn n' t l c) (Pl.cd n' t l c) x y (by have := Pl.cn_le (s := n') q3 (show t < n' by omega); have := Pl.cd_big (s := n') (a := t) (bad := c) q2; omega) (by have := Pl.cd_big (s := n') (a := t) (bad := c) q2; omega) (by omega) (by omega) (Pl.cd_pos (by omega)) q5 w')
      have hgt : ¬ Pl.cmp (Pl.cn n' t l c * y) (x * Pl.cd n' t l c) ≤ 0 := of_decide_eq_false (f4 n' (by omega) (by omega))
      generalize Pl.cmp (Pl.cn n' t l c * y) (x * Pl.cd n' t l c) = r2 at *
      generalize Pl.cn n' t l c = v1 at *
      generalize Pl.cd n' t l c = v2 at *
      have hgt2 : 0 < r2 := by omega
      rw [hn1] at k1
      clear hE hok e1 e2 hn f1 f2 f3 f4 c1 c2 c3 d1 d2 d3 q1 q2 q3 q4 q5 hnl hc hn' hgt hp hq
      go_enter Try.func8, Try.ntmps8
      go_wp2_with (refine ldm_fr hr rfl _ rfl rfl ?_)
      refine (H1.out _).mono ?_
      rintro e w1 ⟨rfl, hb1⟩
      have hB1 := hB0.trans (hb1.mono hB0.size)
      have bT1 := bT.below hb1 bT.lt
      have hr1 := bT1.range
      clear hb1 hB0 bT hr
      go_wp2_with (refine ldm_fr hr1 rfl _ rfl rfl ?_)
      refine (H2.out _).mono ?_
      rintro e w2 ⟨rfl, hb2⟩
      have hB2 := hB1.trans (hb2.mono hB1.size)
      have bT2 := bT1.below hb2 bT1.lt
      clear hb2 hB1 bT1 hr1
      go_wp2_with fail
      refine (HC1.out _).mono ?_
      rintro e w3 ⟨rfl, hb3⟩
      have hB3 := hB2.trans (hb3.mono hB2.size)
      have bT3 := bT2.below hb3 bT2.lt
      have hr3 := bT3.range
      clear hb3 hB2 bT2
      go_wp2_with (refine ldm_fr hr3 rfl _ rfl rfl ?_)
      refine (HD1.out _).mono ?_
      rintro e w4 ⟨rfl, hb4⟩
      have hB4 := hB3.trans (hb4.mono hB3.size)
      have bT4 := bT3.below hb4 bT3.lt
      clear hb4 hB3 bT3 hr3
      go_wp2_with fail
      refine (HC2.out _).mono ?_
      rintro e w5 ⟨rfl, hb5⟩
      have hB5 := hB4.trans (hb5.mono hB4.size)
      have bT5 := bT4.below hb5 bT4.lt
      have hr5 := bT5.range
      clear hb5 hB4 bT4
      go_wp2_with (refine ldm_fr hr5 rfl _ rfl rfl ?_)
      refine (HD2.out _).mono ?_
      rintro e w6 ⟨rfl, hb6⟩
      have hB6 := hB5.trans (hb6.mono hB5.size)
      clear hb6 hB5 bT5 hr5
      go_wp2_with fail
      refine (H7.out _).mono ?_
      rintro e w7 ⟨rfl, hb7⟩
      have hB7 := hB6.trans (hb7.mono hB6.size)
      go_wp2
      go_ret
      exact ⟨rfl, hB7⟩
end Go.Proofs.Ytfkhlglagokodaa
