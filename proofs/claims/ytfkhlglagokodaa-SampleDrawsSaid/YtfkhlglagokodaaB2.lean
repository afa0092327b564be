/- ways, chance, Chance: of the document. -/
import Derived.Test.YtfkhlglagokodaaA5
import Derived.Test.YtfkhlglagokodaaB1
namespace Go.Proofs.Ytfkhlglagokodaa
open Go.RowKit Go.Shelf

set_option maxRecDepth 100000 in
set_option maxHeartbeats 4000000 in
theorem rways_b (L b s i : Nat) (hL : L ≤ 60) (hb : b ≤ L) (hi : i ≤ s) (hs : s ≤ L) (v : Nat) (hv : Pl.wy b (L - b) s i = v) (w : World) :
    Calls Try.prog 51 #[.int .i64 L, .int .i64 b, .int .i64 s, .int .i64 i] w fun e w' => e = .returned (.int .i64 v) ∧ Below w.heap.size w w' := by
  obtain ⟨m, hm⟩ : ∃ m, L = b + m := ⟨L - b, by omega⟩
  obtain ⟨r, hr⟩ : ∃ r, s = i + r := ⟨s - i, by omega⟩
  rw [show L - b = m from by omega] at hv
  have HC1 := Lib.hid (fun w' : World => binomial_b b (by omega) i _ (chz_nat b i) w')
  have HC2 := Lib.hid (fun w' : World => binomial_b m (by omega) r _ (chz_nat m r) w')
  have hle := Pl.wy_le (b := b) (m := m) hi
  have hbm := Pl.ch_le (n := b + m) (by omega) s
  have hW : Pl.wy b m s i = Pl.ch b i * Pl.ch m r := by show Pl.ch b i * Pl.ch m (s - i) = _; rw [show s - i = r from by omega]
  rw [hv] at hle hW
  generalize Pl.ch b i = X at *
  generalize Pl.ch m r = Y at *
  have k1 : IntKind.i64.wrap ((L : Int) - (b : Int)) = (m : Int) := by rw [IntWalk.i64_in _ (by omega)]; omega
  have k2 : IntKind.i64.wrap ((s : Int) - (i : Int)) = (r : Int) := by rw [IntWalk.i64_in _ (by omega)]; omega
  have k3 : IntKind.i64.wrap ((X : Int) * (Y : Int)) = (v : Int) := by rw [← Int.natCast_mul, ← hW, IntWalk.i64_in _ (by omega)]
  clear hm hr hle hbm hW hv
  go_enter Try.func51, Try.ntmps51
  go_wp2_with fail
  refine (HC1.out _).mono ?_
  rintro e w1 ⟨rfl, hb1⟩
  go_wp2_with fail
  refine (HC2.out _).mono ?_
  rintro e w2 ⟨rfl, hb2⟩
  have hB2 := hb1.trans (hb2.mono hb1.size)
  clear hb1 hb2 HC1 HC2
  go_wp2
  go_ret
  exact ⟨rfl, hB2⟩

set_option maxRecDepth 100000 in
set_option maxHeartbeats 4000000 in
theorem rchance_b (s a L b : Nat) (hL : L ≤ 60) (hb : b ≤ L) (hs : s ≤ L) (ha : a < s) (w : World) :
    Calls Try.prog 53 #[.int .i64 s, .int .i64 a, .int .i64 L, .int .i64 b] w fun e w' => e = .returned (.tuple #[.int .i64 (Pl.cn s a L b), .int .i64 (Pl.cd s a L b)]) ∧ Below w.heap.size w w' := by
  have HC := Lib.hid (fun w' : World => binomial_b L hL s _ (chz_nat L s) w')
  obtain ⟨f, hf⟩ : ∃ f, Pl.wy b (L - b) s = f := ⟨_, rfl⟩
  have HWY := Lib.hid (fun (i : Nat) (hi : i ≤ s) (w' : World) => rways_b L b s i hL hb hi hs _ (congrFun hf i) w')
  have hpart : ∀ k, k ≤ s + 1 → Pl.sm f k ≤ 118264581564861424 := fun k hk => by
    rw [← hf]
    refine Nat.le_trans (Pl.wy_part hk) ?_
    rw [show b + (L - b) = L from by omega]
    exact Pl.ch_le hL s
  have HPT := Lib.hid hpart
  have HN : Hid (Pl.sm f (a + 1) = Pl.nm s a L b) := Lib.hid (by rw [← hf]; rfl)
  have HCL := Lib.hid (Pl.ch_le hL s)
  have HCP := Lib.hid (Pl.ch_pos hs)
  obtain ⟨a1, ha1⟩ : ∃ a1, a + 1 = a1 := ⟨_, rfl⟩
  have k0 : IntKind.i64.wrap ((a : Int) + 1) = (a1 : Int) := by rw [IntWalk.i64_in _ (by omega)]; omega
  have k00 : (a : Int) + 1 = (a1 : Int) := by omega
  rw [ha1] at HN
  have hsa : a1 ≤ s := by omega
  have hs60 : s ≤ 60 := by omega
  clear hf hpart ha1
  go_enter Try.func53, Try.ntmps53
  go_wp2_with fail
  refine (HC.out _).mono ?_
  rintro e w1 ⟨rfl, hb1⟩
  go_wp2
  clear k0 k00 HC
  go_loopw [10, 12, 19] (fun x _ j wr => ∃ i : Nat, i ≤ a1 ∧ x = .int .i64 (Pl.sm f i) ∧ j = .int .i64 i ∧ Below w.heap.size w wr) (fun _ _ j _ => a1 - (intOf j).toNat)
  case atStart => exact ⟨0, Nat.zero_le _, rfl, rfl, hb1⟩
  case round =>
    clear hb1
    obtain ⟨i, hi, rfl, rfl, hB⟩ := hrel
    obtain ⟨wo, rfl⟩ : ∃ wo, wo = wr := ⟨_, rfl⟩
    by_cases hlt : i < a1
    · have hltI : (i : Int) < (a1 : Int) := by omega
      have HW := Lib.hid (HWY.out i (by omega))
      have b1 := HPT.out (i + 1) (by omega)
      have e1 : Pl.sm f (i + 1) = Pl.sm f i + f i := rfl
      rw [e1] at b1
      have E1 := Lib.hid e1
      generalize Pl.sm f i = X at *
      generalize f i = Y at *
      obtain ⟨Z, hZ⟩ : ∃ Z, X + Y = Z := ⟨_, rfl⟩
      rw [hZ] at E1 b1
      have k1 : IntKind.i64.wrap ((X : Int) + (Y : Int)) = (Z : Int) := by rw [IntWalk.i64_in _ (by omega)]; omega
      clear b1 e1 hZ
      go_wp2_with fail
      refine (HW.out _).mono ?_
      rintro e w2 ⟨rfl, hb2⟩
      have hB2 := hB.trans (hb2.mono hB.size)
      clear hb2 hB HW
      go_wp2
      go_roundw
      case rel => exact ⟨i + 1, by omega, by rw [E1.out], by go_num, hB2⟩
      case measure => simp [intOf]; omega
    · obtain rfl : i = a1 := by omega
      have HX : Hid (Pl.sm f i ≤ 118264581564861424) := Lib.hid (HPT.out i (by omega))
      rw [HN.out] at HX ⊢
      have HD := Lib.hid (fun (w' : World) => gcd_b (Pl.nm s a L b) (Pl.ch L s) HX.out HCL.out _ rfl w')
      change Hid (∀ w', Calls _ _ _ w' fun e w'' => e = .returned (.int .i64 (Pl.dv s a L b)) ∧ _) at HD
      have hdp := Pl.dv_pos (a := a) (bad := b) hs
      have e1 : Pl.nm s a L b / Pl.dv s a L b = Pl.cn s a L b := rfl
      have e2 : Pl.ch L s / Pl.dv s a L b = Pl.cd s a L b := rfl
      have hx := HX.out
      have hc := HCL.out
      have c1 : Pl.cn s a L b ≤ Pl.nm s a L b := Nat.div_le_self _ _
      have c2 : Pl.cd s a L b ≤ Pl.ch L s := Nat.div_le_self _ _
      clear HN HPT HX HCL HCP HWY
      generalize hcn : Pl.cn s a L b = cn at *
      generalize hcd : Pl.cd s a L b = cd at *
      have HCN := Lib.hid hcn
      have HCD := Lib.hid hcd
      clear hcn hcd
      generalize Pl.nm s a L b = N at *
      generalize Pl.ch L s = A at *
      generalize Pl.dv s a L b = d at *
      have hd1 : ¬ (d : Int) = 0 := by omega
      have k1 : (N : Int).tdiv (d : Int) = (cn : Int) := by rw [← e1]; rfl
      have k2 : (A : Int).tdiv (d : Int) = (cd : Int) := by rw [← e2]; rfl
      have k3 : IntKind.i64.wrap ((N : Int).tdiv (d : Int)) = (cn : Int) := by rw [k1]; exact IntWalk.i64_in _ (by omega)
      have k4 : IntKind.i64.wrap ((A : Int).tdiv (d : Int)) = (cd : Int) := by rw [k2]; exact IntWalk.i64_in _ (by omega)
      have k5 : (N : Int) / (d : Int) = (cn : Int) := by rw [← e1]; rfl
      have k6 : (A : Int) / (d : Int) = (cd : Int) := by rw [← e2]; rfl
      go_wp2_with fail
      refine (HD.out _).mono ?_
      rintro e w3 ⟨rfl, hb3⟩
      have hB3 := hB.trans (hb3.mono hB.size)
      clear hB hb3 HD
      go_wp2
      refine wp_region_ext (by kernel_rfl) (by kernel_rfl) ?_
      repeat (go_big_quiet_step (fail))
      refine wpQuiet_nil ?_
      rintro _ ⟨x, rfl⟩
      have hB4 := hB3.trans (x.h.mono hB3.size)
      go_wp2
      go_ret2
      exact ⟨by rw [HCN.out, HCD.out]; rfl, hB4⟩

set_option maxRecDepth 100000 in
set_option maxHeartbeats 4000000 in
theorem rChance_b (p : Pl.Pn) (L b : Int) (w : World) :
    Calls Try.prog 34 #[.agg (pnA p), .int .i64 L, .int .i64 b] w fun e w' => e = .returned (.tuple #[.int .i64 (Pl.Cn p L b), .int .i64 (Pl.Cd p L b), .int .i64 (Pl.Ce p L b)]) ∧ Below w.heap.size w w' := by
  have hB := (Below.refl w.heap.size w).alloc (Nat.le_refl _) (.cells (pnA p) 23)
  have bT := Blk.new w 23 (pnA p)
  have hr := bT.range
  obtain ⟨x1, h1⟩ : ∃ x, Pl.vP p = x := ⟨_, rfl⟩
  have HV := Lib.hid (rvalid_b p x1 h1)
  cases x1
  · obtain ⟨e1, e2, e3⟩ := Pl.Ce_not h1 L b
    have E1 := Lib.hid e1
    have E2 := Lib.hid e2
    have E3 := Lib.hid e3
    clear h1 e1 e2 e3 bT
    go_enter Try.func34, Try.ntmps34
    go_wp2_with (refine ldm_pn hr rfl _ rfl rfl ?_)
    refine (HV.out _).mono ?_
    rintro e w1 ⟨rfl, hb1⟩
    have hB1 := hB.trans (hb1.mono hB.size)
    go_wp2
    go_ret3
    exact ⟨by rw [E1.out, E2.out, E3.out]; rfl, hB1⟩
  by_cases hok : Pl.inB p.s L 60 = true ∧ Pl.inB 0 b L = true
  · obtain ⟨s, a, l, c, rfl, rfl, rfl, q1, q2, q3, q4, e1, e2, e3⟩ := Pl.Ce_ok h1 hok.1 hok.2
    have E1 := Lib.hid e1
    have E2 := Lib.hid e2
    have E3 := Lib.hid e3
    have HC := Lib.hid (fun (w' : World) => rchance_b s a l c q1 q2 q3 q4 w')
    have c1 : ¬ (l : Int) < (s : Int) := by omega
    have c2 : ¬ (60 : Int) < (l : Int) := by omega
    have c3 : ¬ (c : Int) < 0 := by omega
    have c4 : ¬ (l : Int) < (c : Int) := by omega
    clear h1 e1 e2 e3 q1 q2 q3 q4 hok
    go_enter Try.func34, Try.ntmps34
    go_wp2_with (refine ldm_pn hr rfl _ rfl rfl ?_)
    refine (HV.out _).mono ?_
    rintro e w1 ⟨rfl, hb1⟩
    have hB1 := hB.trans (hb1.mono hB.size)
    have bT1 := bT.below hb1 bT.lt
    have q0 := bT1.cell 0
    have q1 := bT1.cell 1
    clear bT bT1 hr hB
    go_wp2_with fail
    refine (HC.out _).mono ?_
    rintro e w2 ⟨rfl, hb2⟩
    have hB2 := hB1.trans (hb2.mono hB1.size)
    clear hb1 hb2 hB1 q0 q1
    go_wp2
    go_ret3
    exact ⟨by rw [E1.out, E2.out, E3.out]; rfl, hB2⟩
  · obtain ⟨e1, e2, e3⟩ := Pl.Ce_bad h1 hok
    have E1 := Lib.hid e1
    have E2 := Lib.hid e2
    have E3 := Lib.hid e3
    have hc : L < p.s ∨ (¬ L < p.s ∧ 60 < L) ∨ (¬ L < p.s ∧ ¬ 60 < L ∧ b < 0) ∨ (¬ L < p.s ∧ ¬ 60 < L ∧ ¬ b < 0 ∧ L < b) := by
      by_cases d1 : L < p.s
      · exact .inl d1
      · by_cases d2 : 60 < L
        · exact .inr (.inl ⟨d1, d2⟩)
        · by_cases d3 : b < 0
          · exact .inr (.inr (.inl ⟨d1, d2, d3⟩))
          · refine .inr (.inr (.inr ⟨d1, d2, d3, ?_⟩))
            by_cases d4 : L < b
            · exact d4
            · exact absurd ⟨Pl.inB_iff.2 ⟨by omega, by omega⟩, Pl.inB_iff.2 ⟨by omega, by omega⟩⟩ hok
    clear h1 e1 e2 e3 hok
    rcases hc with d1 | ⟨d1, d2⟩ | ⟨d1, d2, d3⟩ | ⟨d1, d2, d3, d4⟩ <;>
    (go_enter Try.func34, Try.ntmps34
     go_wp2_with (refine ldm_pn hr rfl _ rfl rfl ?_)
     refine (HV.out _).mono ?_
     rintro e w1 ⟨rfl, hb1⟩
     have hB1 := hB.trans (hb1.mono hB.size)
     have bT1 := bT.below hb1 bT.lt
     have q0 := bT1.cell 0
     have q1 := bT1.cell 1
     clear bT bT1 hr
     go_wp2
     go_ret3
     exact ⟨by rw [E1.out, E2.out, E3.out]; rfl, hB1⟩)
end Go.Proofs.Ytfkhlglagokodaa
