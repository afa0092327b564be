/- Least, of both sides. -/
import Derived.Test.YtfkhlglagokodaaM1
namespace Go.Proofs.Ytfkhlglagokodaa
open Go.RowKit Go.Shelf

/-- what is asked of numbers, step by step -/
theorem lok_parts (L b a p q : Int) (x1 x2 x3 x4 : Bool) (h1 : Pl.inB 1 L 60 = x1) (h2 : Pl.inB 0 b L = x2) (h3 : Pl.inB 0 a (L - 1) = x3) (h4 : (decide (0 ≤ p) && decide (0 < q)) = x4) : Pl.lok L b a p q = (x1 && (x2 && (x3 && x4))) := by
  subst h1 h2 h3 h4; rfl

set_option maxRecDepth 100000 in
set_option maxHeartbeats 8000000 in
theorem Least_b (L b a p q : Int) (hp : p ≤ 9223372036854775807) (hq : q ≤ 9223372036854775807) (w : World) :
    Calls Try.prog 35 #[.int .i64 L, .int .i64 b, .int .i64 a, .agg (frA p q)] w fun e w' => e = .returned (.tuple #[.int .i64 (Pl.LN L b a p q), .int .i64 (Pl.LE L b a p q)]) ∧ Below w.heap.size w w' := by
  have hB0 := (Below.refl w.heap.size w).alloc (Nat.le_refl _) (.cells (frA p q) 51)
  have bT := Blk.new w 51 (frA p q)
  have hr := bT.range
  obtain ⟨x1, h1⟩ : ∃ x, Pl.inB 1 L 60 = x := ⟨_, rfl⟩
  obtain ⟨x2, h2⟩ : ∃ x, Pl.inB 0 b L = x := ⟨_, rfl⟩
  obtain ⟨x3, h3⟩ : ∃ x, Pl.inB 0 a (L - 1) = x := ⟨_, rfl⟩
  obtain ⟨x4, h4⟩ : ∃ x, (decide (0 ≤ p) && decide (0 < q)) = x := ⟨_, rfl⟩
  have hlok := lok_parts L b a p q x1 x2 x3 x4 h1 h2 h3 h4
  have H1 := Lib.hid h1
  have H2 := Lib.hid h2
  have H3 := Lib.hid h3
  have H4 := Lib.hid (fun w' : World => isfrac_b p q x4 h4 w')
  by_cases hok : (x1 && (x2 && (x3 && x4))) = true
  rotate_left
  · have hok' : (x1 && (x2 && (x3 && x4))) = false := by simpa using hok
    obtain ⟨e1, e2⟩ := Pl.lok_LE (hlok.trans hok')
    have E1 := Lib.hid e1
    have E2 := Lib.hid e2
    have hc : x1 = false ∨ (x1 = true ∧ x2 = false) ∨ (x1 = true ∧ x2 = true ∧ x3 = false) ∨ (x1 = true ∧ x2 = true ∧ x3 = true ∧ x4 = false) := by cases x1 <;> cases x2 <;> cases x3 <;> cases x4 <;> simp_all
    have k1 : x1 = true → IntKind.i64.wrap (L - 1) = L - 1 := fun h => IntWalk.i64_in _ (by rw [h] at h1; have := Pl.inB_iff.1 h1; omega)
    clear h2 h3 h4 hlok hok hok' e1 e2
    rcases hc with rfl | ⟨rfl, rfl⟩ | ⟨rfl, rfl, rfl⟩ | ⟨rfl, rfl, rfl, rfl⟩
    · clear h1 k1
      go_enter Try.func35, Try.ntmps35
      go_wp2_with (go_at_call 44; refine (within_any _ _ _ _).mono ?_; rintro e w1 ⟨rfl, rfl⟩; first | rw [H1.out] | rw [H2.out] | rw [H3.out])
      go_ret2
      exact ⟨by rw [E1.out, E2.out]; rfl, hB0⟩
    · clear h1
      have k2 := k1 rfl
      clear k1
      go_enter Try.func35, Try.ntmps35
      go_wp2_with (go_at_call 44; refine (within_any _ _ _ _).mono ?_; rintro e w1 ⟨rfl, rfl⟩; first | rw [H1.out] | rw [H2.out] | rw [H3.out])
      go_ret2
      exact ⟨by rw [E1.out, E2.out]; rfl, hB0⟩
    · clear h1
      have k2 := k1 rfl
      clear k1
      go_enter Try.func35, Try.ntmps35
      go_wp2_with (go_at_call 44; refine (within_any _ _ _ _).mono ?_; rintro e w1 ⟨rfl, rfl⟩; first | rw [H1.out] | rw [H2.out] | rw [H3.out])
      go_ret2
      exact ⟨by rw [E1.out, E2.out]; rfl, hB0⟩
    · clear h1
      have k2 := k1 rfl
      clear k1
      go_enter Try.func35, Try.ntmps35
      go_wp2_with (first | refine ldm_fr hr rfl _ rfl rfl ?_ | (go_at_call 44; refine (within_any _ _ _ _).mono ?_; rintro e w1 ⟨rfl, rfl⟩; first | rw [H1.out] | rw [H2.out] | rw [H3.out]))
      refine (H4.out _).mono ?_
      rintro e w1 ⟨rfl, hb1⟩
      have hB1 := hB0.trans (hb1.mono hB0.size)
      go_wp2
      go_ret2
      exact ⟨by rw [E1.out, E2.out]; rfl, hB1⟩
  · obtain ⟨l, c, t, x, y, rfl, rfl, rfl, rfl, rfl, q1, q2, q3, q4, q5⟩ := Pl.lok_ok (hlok.trans hok)
    obtain ⟨e1, e2⟩ := Pl.LE_nat (hlok.trans hok)
    obtain ⟨rfl, rfl, rfl, rfl⟩ : x1 = true ∧ x2 = true ∧ x3 = true ∧ x4 = true := by cases x1 <;> cases x2 <;> cases x3 <;> cases x4 <;> simp_all
    have k2 : IntKind.i64.wrap ((l : Int) - 1) = (l : Int) - 1 := IntWalk.i64_in _ (by omega)
    obtain ⟨R, hR⟩ : ∃ R, Pl.lsr (Pl.enough l c t x y) (t + 1) (l - t) = R := ⟨_, rfl⟩
    rw [hR] at e1 e2
    have E1 := Lib.hid e1
    have E2 := Lib.hid e2
    have HR : Hid (Pl.lsr (Pl.enough l c t x y) (t + 1) (l + 1 - (t + 1)) = R) := Lib.hid (by rw [← hR]; congr 1; omega)
    have HC := Lib.hid (fun s (h1 : s ≤ l) (h2 : t < s) (w' : World) => chance_b s t l c q2 q3 h1 h2 w')
    have HD := Lib.hid (fun s (h1 : s ≤ l) (h2 : t < s) (w' : World) => compare_b (Pl.cn s t l c) (Pl.cd s t l c) x y (by have := Pl.cn_le (s := s) q3 h2; have := Pl.cd_big (s := s) (a := t) (bad := c) q2; omega) (by have := Pl.cd_big (s := s) (a := t) (bad := c) q2; omega) (by omega) (by omega) w')
    have htl : t + 1 ≤ l := q4
    have hl60 : l ≤ 60 := q2
    clear h1 h2 h3 h4 hlok hok e1 e2 hR q1 q2 q3 q4 q5
    go_enter Try.func35, Try.ntmps35
    go_wp2_with (first | refine ldm_fr hr rfl _ rfl rfl ?_ | (go_at_call 44; refine (within_any _ _ _ _).mono ?_; rintro e w1 ⟨rfl, rfl⟩; first | rw [H1.out] | rw [H2.out] | rw [H3.out]))
    refine (H4.out _).mono ?_
    rintro e w1 ⟨rfl, hb1⟩
    have hB1 := hB0.trans (hb1.mono hB0.size)
    have bT1 := bT.below hb1 bT.lt
    have HT1 := Lib.hid bT1
    have hTl := bT1.lt
    clear hb1 hB0 bT bT1 hr H4 k2
    go_wp2
    go_loopw [10] (fun j wr => ∃ s : Nat, t + 1 ≤ s ∧ s ≤ l + 1 ∧ j = .int .i64 s ∧ Hid (Pl.lsr (Pl.enough l c t x y) s (l + 1 - s) = R) ∧ Below w1.heap.size w1 wr) (fun j _ => l + 1 - (intOf j).toNat)
    case atStart => exact ⟨t + 1, Nat.le_refl _, by omega, by go_num, HR, Below.refl _ _⟩
    case round =>
      clear HR
      obtain ⟨s, hs1, hs2, rfl, hs, hB⟩ := hrel
      obtain ⟨wo, rfl⟩ : ∃ wo, wo = wr := ⟨_, rfl⟩
      by_cases hlt : s ≤ l
      · have hltI : (s : Int) ≤ (l : Int) := by omega
        have HC1 := Lib.hid (HC.out s hlt (by omega))
        have HD1 := Lib.hid (HD.out s hlt (by omega))
        have z0 := fun e : Ext wo => e.cell (((HT1.out.below hB hTl).cell 0).trans rfl)
        have z1 := fun e : Ext wo => e.cell (((HT1.out.below hB hTl).cell 1).trans rfl)
        obtain ⟨v, hv⟩ : ∃ v, Pl.enough l c t x y s = v := ⟨_, rfl⟩
        have HV : Hid (decide (Pl.cmp (Pl.cn s t l c * y) (x * Pl.cd s t l c) ≤ 0) = v) := Lib.hid hv
        have HS : Hid (Pl.lsr (Pl.enough l c t x y) s ((l + 1 - (s + 1)) + 1) = R) := Lib.hid (by rw [← hs.out]; congr 1; omega)
        have HY : Hid (v = true → R = some s) := Lib.hid (fun h => by rw [← HS.out]; exact Pl.lsr_yes (hv.trans h))
        have HN : Hid (v = false → Pl.lsr (Pl.enough l c t x y) (s + 1) (l + 1 - (s + 1)) = R) := Lib.hid (fun h => by rw [← HS.out]; exact (Pl.lsr_no (hv.trans h)).symm)
        generalize Pl.cmp (Pl.cn s t l c * y) (x * Pl.cd s t l c) = r at *
        generalize Pl.cn s t l c = f1 at *
        generalize Pl.cd s t l c = f2 at *
        clear hs hv HS
        go_wp2
        refine wp_region_ext (by kernel_rfl) (by kernel_rfl) ?_
        repeat (go_big_quiet_step (first | (go_at_call 52; refine calls_ext (HC1.out _)) | (go_at_call 55; refine calls_ext (HD1.out _))))
        refine wpQuiet_nil ?_
        rintro _ ⟨z, rfl⟩
        have hB2 := hB.trans (z.h.mono hB.size)
        cases v with
        | true =>
          have hv2 : r ≤ 0 := of_decide_eq_true HV.out
          have HY2 := Lib.hid (HY.out rfl)
          clear HV
          have hB3 := hB1.trans (hB2.mono hB1.size)
          go_wp2
          go_ret2
          exact ⟨by rw [E1.out, E2.out, HY2.out]; rfl, hB3⟩
        | false =>
          have hv2 : ¬ r ≤ 0 := of_decide_eq_false HV.out
          have HN2 := Lib.hid (HN.out rfl)
          clear HV
          go_wp2
          go_roundw
          case rel => exact ⟨s + 1, by omega, by omega, by go_num, HN2, hB2⟩
          case measure => simp [intOf]; omega
      · have hltI : ¬ (s : Int) ≤ (l : Int) := by omega
        have HN : Hid (R = none) := Lib.hid (by rw [← hs.out, show l + 1 - s = 0 from by omega]; rfl)
        have hB3 := hB1.trans (hB.mono hB1.size)
        clear hs
        go_wp2
        go_ret2
        exact ⟨by rw [E1.out, E2.out, HN.out]; rfl, hB3⟩

set_option maxRecDepth 100000 in
set_option maxHeartbeats 8000000 in
theorem rLeast_b (L b a p q : Int) (hp : p ≤ 9223372036854775807) (hq : q ≤ 9223372036854775807) (w : World) :
    Calls Try.prog 36 #[.int .i64 L, .int .i64 b, .int .i64 a, .agg (frA p q)] w fun e w' => e = .returned (.tuple #[.int .i64 (Pl.LN L b a p q), .int .i64 (Pl.LE L b a p q)]) ∧ Below w.heap.size w w' := by
  have hB0 := (Below.refl w.heap.size w).alloc (Nat.le_refl _) (.cells (frA p q) 51)
  have bT := Blk.new w 51 (frA p q)
  have r0 := bT.cell 0
  have r1 := bT.cell 1
  by_cases hok : Pl.lok L b a p q = true
  rotate_left
  · have hok' : Pl.lok L b a p q = false := by simpa using hok
    obtain ⟨e1, e2⟩ := Pl.lok_LE hok'
    have E1 := Lib.hid e1
    have E2 := Lib.hid e2
    have hc : L < 1 ∨ (¬ L < 1 ∧ 60 < L) ∨ (¬ L < 1 ∧ ¬ 60 < L ∧ b < 0) ∨ (¬ L < 1 ∧ ¬ 60 < L ∧ ¬ b < 0 ∧ L < b) ∨ (¬ L < 1 ∧ ¬ 60 < L ∧ ¬ b < 0 ∧ ¬ L < b ∧ a < 0) ∨ (¬ L < 1 ∧ ¬ 60 < L ∧ ¬ b < 0 ∧ ¬ L < b ∧ ¬ a < 0 ∧ L ≤ a) ∨ (¬ L < 1 ∧ ¬ 60 < L ∧ ¬ b < 0 ∧ ¬ L < b ∧ ¬ a < 0 ∧ ¬ L ≤ a ∧ p < 0) ∨ (¬ L < 1 ∧ ¬ 60 < L ∧ ¬ b < 0 ∧ ¬ L < b ∧ ¬ a < 0 ∧ ¬ L ≤ a ∧ ¬ p < 0 ∧ q < 1) := by
      by_cases d1 : L < 1
      · exact .inl d1
      by_cases d2 : 60 < L
      · exact .inr (.inl ⟨d1, d2⟩)
      by_cases d3 : b < 0
      · exact .inr (.inr (.inl ⟨d1, d2, d3⟩))
      by_cases d4 : L < b
      · exact .inr (.inr (.inr (.inl ⟨d1, d2, d3, d4⟩)))
      by_cases d5 : a < 0
      · exact .inr (.inr (.inr (.inr (.inl ⟨d1, d2, d3, d4, d5⟩))))
      by_cases d6 : L ≤ a
      · exact .inr (.inr (.inr (.inr (.inr (.inl ⟨d1, d2, d3, d4, d5, d6⟩)))))
      by_cases d7 : p < 0
      · exact .inr (.inr (.inr (.inr (.inr (.inr (.inl ⟨d1, d2, d3, d4, d5, d6, d7⟩))))))
      by_cases d8 : q < 1
      · exact .inr (.inr (.inr (.inr (.inr (.inr (.inr ⟨d1, d2, d3, d4, d5, d6, d7, d8⟩))))))
      · exfalso
        apply hok
        unfold Pl.lok
        simp only [Bool.and_eq_true, Pl.inB_iff, decide_eq_true_iff]
        omega
    clear hok hok' e1 e2 bT
    rcases hc with d1 | ⟨d1, d2⟩ | ⟨d1, d2, d3⟩ | ⟨d1, d2, d3, d4⟩ | ⟨d1, d2, d3, d4, d5⟩ | ⟨d1, d2, d3, d4, d5, d6⟩ | ⟨d1, d2, d3, d4, d5, d6, d7⟩ | ⟨d1, d2, d3, d4, d5, d6, d7, d8⟩ <;>
    (go_enter Try.func36, Try.ntmps36
     go_wp2
     go_ret2
     exact ⟨by rw [E1.out, E2.out]; rfl, hB0⟩)
  · obtain ⟨l, c, t, x, y, rfl, rfl, rfl, rfl, rfl, q1, q2, q3, q4, q5⟩ := Pl.lok_ok hok
    obtain ⟨e1, e2⟩ := Pl.LE_nat hok
    obtain ⟨R, hR⟩ : ∃ R, Pl.lsr (Pl.enough l c t x y) (t + 1) (l - t) = R := ⟨_, rfl⟩
    rw [hR] at e1 e2
    have E1 := Lib.hid e1
    have E2 := Lib.hid e2
    have HR : Hid (Pl.lsr (Pl.enough l c t x y) (t + 1) (l + 1 - (t + 1)) = R) := Lib.hid (by rw [← hR]; congr 1; omega)
    have HC := Lib.hid (fun s (h1 : s ≤ l) (h2 : t < s) (w' : World) => rchance_b s t l c q2 q3 h1 h2 w')
    have HD := Lib.hid (fun s (h1 : s ≤ l) (h2 : t < s) (w' : World) => order_b _ (Pl.cn s t l c) (Pl.cd s t l c) x y (Nat.le_refl _) (by have := Pl.cn_le (s := s) q3 h2; have := Pl.cd_big (s := s) (a := t) (bad := c) q2; omega) (by have := Pl.cd_big (s := s) (a := t) (bad := c) q2; omega) (by omega) (by omega) (Pl.cd_pos h1) q5 w')
    have htl : t + 1 ≤ l := q4
    have hl60 : l ≤ 60 := q2
    have d1 : ¬ (l : Int) < 1 := by omega
    have d2 : ¬ (60 : Int) < (l : Int) := by omega
    have d3 : ¬ (c : Int) < 0 := by omega
    have d4 : ¬ (l : Int) < (c : Int) := by omega
    have d5 : ¬ (t : Int) < 0 := by omega
    have d6 : ¬ (l : Int) ≤ (t : Int) := by omega
    have d7 : ¬ (x : Int) < 0 := by omega
    have d8 : ¬ (y : Int) < 1 := by omega
    have HT := Lib.hid bT
    have hTl := bT.lt
    clear hok e1 e2 hR q1 q2 q3 q4 q5 bT
    go_enter Try.func36, Try.ntmps36
    go_wp2
    clear d1 d2 d3 d4 d5 d6 d7 d8 r0 r1
    generalize w.alloc (.cells (frA (x : Int) (y : Int)) 51) = w1 at *
    go_loopw [10, 11, 12] (fun j _ _ wr => ∃ s : Nat, t + 1 ≤ s ∧ s ≤ l + 1 ∧ j = .int .i64 s ∧ Hid (Pl.lsr (Pl.enough l c t x y) s (l + 1 - s) = R) ∧ Below w1.heap.size w1 wr) (fun j _ _ _ => l + 1 - (intOf j).toNat)
    case atStart => exact ⟨t + 1, Nat.le_refl _, by omega, by go_num, HR, Below.refl _ _⟩
    case round =>
      clear HR
      obtain ⟨s, hs1, hs2, rfl, hs, hB⟩ := hrel
      obtain ⟨wo, rfl⟩ : ∃ wo, wo = wr := ⟨_, rfl⟩
      by_cases hlt : s ≤ l
      · have hltI : (s : Int) ≤ (l : Int) := by omega
        have HC1 := Lib.hid (HC.out s hlt (by omega))
        have HD1 := Lib.hid (HD.out s hlt (by omega))
        have bO := HT.out.below hB hTl
        obtain ⟨v, hv⟩ : ∃ v, Pl.enough l c t x y s = v := ⟨_, rfl⟩
        have HV : Hid (decide (Pl.cmp (Pl.cn s t l c * y) (x * Pl.cd s t l c) ≤ 0) = v) := Lib.hid hv
        have HS : Hid (Pl.lsr (Pl.enough l c t x y) s ((l + 1 - (s + 1)) + 1) = R) := Lib.hid (by rw [← hs.out]; congr 1; omega)
        have HY : Hid (v = true → R = some s) := Lib.hid (fun h => by rw [← HS.out]; exact Pl.lsr_yes (hv.trans h))
        have HN : Hid (v = false → Pl.lsr (Pl.enough l c t x y) (s + 1) (l + 1 - (s + 1)) = R) := Lib.hid (fun h => by rw [← HS.out]; exact (Pl.lsr_no (hv.trans h)).symm)
        generalize Pl.cmp (Pl.cn s t l c * y) (x * Pl.cd s t l c) = r at *
        generalize Pl.cn s t l c = f1 at *
        generalize Pl.cd s t l c = f2 at *
        clear hs hv HS
        go_wp2_with fail
        refine (HC1.out _).mono ?_
        rintro e w2 ⟨rfl, hb2⟩
        have hB2 := hB.trans (hb2.mono hB.size)
        have bO2 := bO.below hb2 bO.lt
        have r0 := bO2.cell 0
        have r1 := bO2.cell 1
        clear bO bO2 hb2 hB
        go_wp2_with fail
        refine (HD1.out _).mono ?_
        rintro e w3 ⟨rfl, hb3⟩
        have hB3 := hB2.trans (hb3.mono hB2.size)
        clear r0 r1 hb3 hB2
        cases v with
        | true =>
          have hv2 : r ≤ 0 := of_decide_eq_true HV.out
          have HY2 := Lib.hid (HY.out rfl)
          clear HV
          have hB4 := hB0.trans (hB3.mono hB0.size)
          go_wp2
          go_ret2
          exact ⟨by rw [E1.out, E2.out, HY2.out]; rfl, hB4⟩
        | false =>
          have hv2 : ¬ r ≤ 0 := of_decide_eq_false HV.out
          have HN2 := Lib.hid (HN.out rfl)
          clear HV
          go_wp2
          go_roundw
          case rel => exact ⟨s + 1, by omega, by omega, by go_num, HN2, hB3⟩
          case measure => simp [intOf]; omega
      · have hltI : ¬ (s : Int) ≤ (l : Int) := by omega
        have HN : Hid (R = none) := Lib.hid (by rw [← hs.out, show l + 1 - s = 0 from by omega]; rfl)
        have hB3 := hB0.trans (hB.mono hB0.size)
        clear hs
        go_wp2
        go_ret2
        exact ⟨by rw [E1.out, E2.out, HN.out]; rfl, hB3⟩
end Go.Proofs.Ytfkhlglagokodaa
