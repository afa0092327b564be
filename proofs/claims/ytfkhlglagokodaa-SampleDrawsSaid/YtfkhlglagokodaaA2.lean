/- choose, divisor: of the program. -/
import Derived.Test.YtfkhlglagokodaaA1
namespace Go.Proofs.Ytfkhlglagokodaa
open Go.RowKit Go.Shelf

theorem chz_neg {n : Nat} {k : Int} (h : Pl.inB 0 k n = false) : Pl.chz n k = 0 := by
  unfold Pl.chz
  by_cases e : k < 0
  · rw [if_pos e]
  · rw [if_neg e]
    refine Pl.ch_lt ?_
    rcases Nat.lt_or_ge n k.toNat with e2 | e2
    · exact e2
    · rw [Pl.inB_iff.2 ⟨by omega, by omega⟩] at h; cases h
theorem chz_nat (n k : Nat) : Pl.chz n k = Pl.ch n k := by unfold Pl.chz; rw [if_neg (by omega)]; rfl

set_option maxRecDepth 100000 in
set_option maxHeartbeats 2000000 in
theorem choose_b (n : Nat) (hn : n ≤ 60) (k : Int) (v : Nat) (hv : Pl.chz n k = v) (w : World) :
    Calls Try.prog 48 #[.int .i64 n, .int .i64 k] w fun e w' => e = .returned (.int .i64 v) ∧ Below w.heap.size w w' := by
  obtain ⟨x, hx⟩ : ∃ x, Pl.inB 0 k n = x := ⟨_, rfl⟩
  have HX := Lib.hid hx
  cases x with
  | false =>
    have HV : Hid (v = 0) := Lib.hid (by rw [← hv]; exact chz_neg hx)
    clear hv hx
    go_enter Try.func48, Try.ntmps48
    go_wp2_with (go_at_call 44; refine (within_b _ _ _ _ HX.out _).mono ?_; rintro e w1 ⟨rfl, rfl⟩)
    go_ret
    exact ⟨by rw [HV.out]; rfl, Below.refl _ _⟩
  | true =>
    obtain ⟨h0, hk⟩ := Pl.inB_iff.1 hx
    obtain ⟨K, rfl⟩ : ∃ K : Nat, k = K := ⟨k.toNat, by omega⟩
    have hK : K ≤ n := by omega
    have HV : Hid (Pl.ch n K = v) := Lib.hid (by rw [← hv, chz_nat])
    clear hv hx h0 hk
    go_enter Try.func48, Try.ntmps48
    go_wp2_with (go_at_call 44; refine (within_b _ _ _ _ HX.out _).mono ?_; rintro e w1 ⟨rfl, hw1⟩; rw [hw1])
    go_loopw [5, 6, 12] (fun c _ j wr => ∃ i C : Nat, i ≤ K ∧ c = .int .i64 C ∧ j = .int .i64 i ∧ Hid (Pl.ch n i = C) ∧ wr = w) (fun _ _ j _ => K - (intOf j).toNat)
    case atStart => exact ⟨0, 1, Nat.zero_le _, rfl, rfl, Lib.hid (Pl.ch_0 n), rfl⟩
    case round =>
      obtain ⟨i, C, hi, rfl, rfl, hC, rfl⟩ := hrel
      by_cases hlt : i < K
      · have hiI : (i : Int) < (K : Int) := by omega
        have hmul := Pl.ch_mul (n := n) (k := i) (by omega)
        have b1 := Pl.ch_le hn i
        have b2 := Pl.ch_le hn (i + 1)
        rw [hC.out] at hmul b1
        obtain ⟨D, hD⟩ : ∃ D, Pl.ch n (i + 1) = D := ⟨_, rfl⟩
        have HD := Lib.hid hD
        rw [hD] at hmul b2
        obtain ⟨m, hm⟩ : ∃ m, n = i + m := ⟨n - i, by omega⟩
        rw [hm, Nat.add_sub_cancel_left] at hmul
        obtain ⟨E, hE⟩ : ∃ E, C * m = E := ⟨_, rfl⟩
        rw [hE] at hmul
        have bE : E ≤ 118264581564861424 * 60 := by rw [← hE]; exact Nat.mul_le_mul b1 (by omega)
        have k1 : IntKind.i64.wrap ((n : Int) - (i : Int)) = (m : Int) := by rw [IntWalk.i64_in _ (by omega)]; omega
        have k2 : IntKind.i64.wrap ((C : Int) * (m : Int)) = (E : Int) := by rw [← Int.natCast_mul, hE, IntWalk.i64_in _ (by omega)]
        have k4 : (E : Int) / ((i : Int) + 1) = (D : Int) := by
          rw [hmul, Int.natCast_mul, show ((i + 1 : Nat) : Int) = (i : Int) + 1 from by omega]
          exact Int.mul_ediv_cancel _ (by omega)
        have bE2 : (E : Int) ≤ 9223372036854775807 := by omega
        have k5 : IntKind.i64.wrap ((E : Int).tdiv ((i : Int) + 1)) = (D : Int) := by rw [IntWalk.i64_quo _ _ (by omega), k4]
        have bD : (D : Int) ≤ 118264581564861424 := by omega
        have K6 := Lib.hid (IntWalk.wrap64_in (D : Int) (by omega))
        clear hmul b1 b2 hD hm hE bE
        go_wp2
        go_roundw
        case rel => exact ⟨i + 1, D, by omega, by first | rfl | rw [k4] | exact congrArg (Value.int .i64) K6.out, by go_num, HD, trivial⟩
        case measure => simp [intOf]; omega
      · obtain rfl : i = K := by omega
        go_wp2
        go_ret
        exact ⟨by rw [← HV.out, ← hC.out]; rfl, Below.refl _ _⟩

set_option maxRecDepth 100000 in
set_option maxHeartbeats 2000000 in
theorem divisor_b (a b : Nat) (ha : a ≤ 118264581564861424) (hb : b ≤ 118264581564861424) (v : Nat) (hv : Nat.gcd a b = v) (w : World) :
    Calls Try.prog 62 #[.int .i64 a, .int .i64 b] w fun e w' => e = .returned (.int .i64 v) ∧ Below w.heap.size w w' := by
  have HV := Lib.hid hv
  clear hv
  go_enter Try.func62, Try.ntmps62
  go_wp2
  go_loopw [0, 1] (fun x y wr => ∃ c d : Nat, x = .int .i64 c ∧ y = .int .i64 d ∧ c ≤ 118264581564861424 ∧ d ≤ 118264581564861424 ∧ Hid (Nat.gcd c d = v) ∧ Below w.heap.size w wr) (fun _ y _ => (intOf y).toNat)
  case atStart => exact ⟨a, b, rfl, rfl, ha, hb, HV, Below.refl _ _⟩
  case round =>
    clear ha hb HV
    obtain ⟨c, d, rfl, rfl, hc, hd, hg, hB⟩ := hrel
    obtain ⟨wo, rfl⟩ : ∃ wo, wo = wr := ⟨_, rfl⟩
    by_cases hz : d = 0
    · subst hz
      have HG : Hid (c = v) := Lib.hid (by rw [← hg.out, Nat.gcd_zero_right])
      clear hg
      go_wp2
      go_ret
      exact ⟨by rw [← HG.out]; rfl, hB⟩
    · have hz1 : ¬ (d : Int) = 0 := by omega
      have hz2 : ((d : Int) != 0) = true := by simp; omega
      obtain ⟨r, hr⟩ : ∃ r, c % d = r := ⟨_, rfl⟩
      have hrd : r < d := by rw [← hr]; exact Nat.mod_lt _ (by omega)
      have HG : Hid (Nat.gcd d r = v) := Lib.hid (by rw [← hr, Pl.gcd_step]; exact hg.out)
      have k1 : (c : Int).tmod (d : Int) = (r : Int) := by rw [← hr]; rfl
      have k2 : IntKind.i64.wrap ((c : Int).tmod (d : Int)) = (r : Int) := by rw [k1]; exact IntWalk.i64_in _ (by omega)
      clear hg hr
      go_wp2
      refine wp_region_ext (by kernel_rfl) (by kernel_rfl) ?_
      repeat (go_big_quiet_step (fail))
      refine wpQuiet_nil ?_
      rintro _ ⟨s, rfl⟩
      have hw2 := hB.trans (s.h.mono hB.size)
      go_wp2
      go_roundw
      case rel => exact ⟨d, r, rfl, by first | rfl | rw [k1], hd, by omega, HG, hw2⟩
      case measure => simp [intOf]; omega
end Go.Proofs.Ytfkhlglagokodaa
