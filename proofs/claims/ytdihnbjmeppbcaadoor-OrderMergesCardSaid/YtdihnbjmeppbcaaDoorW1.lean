/- within and its kin, down and halfUp, of the program and of the document; far. -/
import Derived.Test.YtdihnbjmeppbcaaDoorF2
namespace Go.Proofs.YtdihnbjmeppbcaaDoor
open Go.RowKit Go.Shelf

set_option maxHeartbeats 400000 in
theorem within_b (n a b : Int) (v : Bool) (hv : Pl.inB a n b = v) (w : World) :
    Calls Tryd.prog 57 #[.int .i64 n, .int .i64 a, .int .i64 b] w fun e w' => e = .returned (.bool v) ∧ w' = w := by
  by_cases h1 : a ≤ n
  · have HV : Hid (v = decide (n ≤ b)) := Lib.hid (by rw [← hv]; unfold Pl.inB; rw [decide_eq_true h1]; rfl)
    clear hv
    go_enter Tryd.func57, Tryd.ntmps57
    go_wp2
    go_ret
    exact ⟨by rw [HV.out]; rfl, rfl⟩
  · have HV : Hid (v = false) := Lib.hid (by rw [← hv]; unfold Pl.inB; rw [decide_eq_false h1]; rfl)
    clear hv
    go_enter Tryd.func57, Tryd.ntmps57
    go_wp2
    go_ret
    exact ⟨by rw [HV.out]; rfl, rfl⟩
theorem within_any (n a b : Int) (w : World) :
    Calls Tryd.prog 57 #[.int .i64 n, .int .i64 a, .int .i64 b] w fun e w' => e = .returned (.bool (Pl.inB a n b)) ∧ w' = w := within_b n a b _ rfl w

theorem am_b (x : Int) (v : Bool) (hv : Pl.am x = v) (w : World) :
    Calls Tryd.prog 65 #[.int .i64 x] w fun e w' => e = .returned (.bool v) ∧ w' = w := by
  unfold Pl.am at hv
  have HC := Lib.hid (within_b _ _ _ v hv w)
  clear hv
  go_enter Tryd.func65, Tryd.ntmps65
  go_wp2_with fail
  refine HC.out.mono ?_
  rintro e w1 ⟨rfl, rfl⟩
  go_wp2
  go_ret
  exact ⟨rfl, rfl⟩

theorem wt_b (x : Int) (v : Bool) (hv : Pl.wt x = v) (w : World) :
    Calls Tryd.prog 80 #[.int .i64 x] w fun e w' => e = .returned (.bool v) ∧ w' = w := by
  unfold Pl.wt at hv
  have HC := Lib.hid (within_b _ _ _ v hv w)
  clear hv
  go_enter Tryd.func80, Tryd.ntmps80
  go_wp2_with fail
  refine HC.out.mono ?_
  rintro e w1 ⟨rfl, rfl⟩
  go_wp2
  go_ret
  exact ⟨rfl, rfl⟩

theorem dy_b (x : Int) (v : Bool) (hv : Pl.dy x = v) (w : World) :
    Calls Tryd.prog 55 #[.int .i64 x] w fun e w' => e = .returned (.bool v) ∧ w' = w := by
  unfold Pl.dy at hv
  have HC := Lib.hid (within_b _ _ _ v hv w)
  clear hv
  go_enter Tryd.func55, Tryd.ntmps55
  go_wp2_with fail
  refine HC.out.mono ?_
  rintro e w1 ⟨rfl, rfl⟩
  go_wp2
  go_ret
  exact ⟨rfl, rfl⟩

set_option maxHeartbeats 400000 in
theorem ram_b (x : Int) (v : Bool) (hv : Pl.am x = v) (w : World) :
    Calls Tryd.prog 67 #[.int .i64 x] w fun e w' => e = .returned (.bool v) ∧ w' = w := by
  obtain ⟨p, hp⟩ : ∃ p, decide (-1099511627776 ≤ x) = p := ⟨_, rfl⟩
  obtain ⟨q, hq⟩ : ∃ q, decide (x ≤ 1099511627776) = q := ⟨_, rfl⟩
  have HV : Hid (v = (p && q)) := Lib.hid (by rw [← hv, ← hp, ← hq]; rfl)
  clear hv
  have hp' : decide (x ≥ -1099511627776) = p := hp
  cases p <;> cases q <;>
  (go_enter Tryd.func67, Tryd.ntmps67
   go_wp2
   go_ret
   exact ⟨by rw [HV.out]; rfl, rfl⟩)

set_option maxHeartbeats 400000 in
theorem rdy_b (x : Int) (v : Bool) (hv : Pl.dy x = v) (w : World) :
    Calls Tryd.prog 47 #[.int .i64 x] w fun e w' => e = .returned (.bool v) ∧ w' = w := by
  obtain ⟨p, hp⟩ : ∃ p, decide (0 ≤ x) = p := ⟨_, rfl⟩
  obtain ⟨q, hq⟩ : ∃ q, decide (x ≤ 100000) = q := ⟨_, rfl⟩
  have HV : Hid (v = (p && q)) := Lib.hid (by rw [← hv, ← hp, ← hq]; rfl)
  clear hv
  have hp' : decide (x ≥ 0) = p := hp
  cases p <;> cases q <;>
  (go_enter Tryd.func47, Tryd.ntmps47
   go_wp2
   go_ret
   exact ⟨by rw [HV.out]; rfl, rfl⟩)

/-- rounding down: the machine's numbers -/
theorem dn_facts {a b : Int} (hb : 1 ≤ b) (ha : -9000000000000000000 ≤ a ∧ a ≤ 9000000000000000000) :
    ∃ q r : Int, a.tdiv b = q ∧ a.tmod b = r ∧ IntKind.i64.wrap (a.tdiv b) = q ∧ IntKind.i64.wrap (a.tmod b) = r ∧ IntKind.i64.wrap (q - 1) = q - 1 ∧ (r < 0 → q - 1 = a / b) ∧ (¬ r < 0 → q = a / b) := by
  have h3 : -9000000000000000000 ≤ a.tdiv b ∧ a.tdiv b ≤ 9000000000000000000 := by
    rcases Int.lt_or_le a 0 with h | h
    · have e : a.tdiv b = -((-a) / b) := by
        rw [← Int.tdiv_eq_ediv_of_nonneg (show 0 ≤ -a by omega), Int.neg_tdiv]; omega
      have := IntWalk.tdiv_le (-a) b (by omega) hb
      omega
    · rw [Int.tdiv_eq_ediv_of_nonneg h]
      have := IntWalk.tdiv_le a b h hb
      omega
  have h4 : -9000000000000000000 ≤ a.tmod b ∧ a.tmod b ≤ 9000000000000000000 := by
    rcases Int.lt_or_le a 0 with h | h
    · have e : a.tmod b = -((-a) % b) := by
        rw [← Int.tmod_eq_emod_of_nonneg (show 0 ≤ -a by omega), Int.neg_tmod]; omega
      have := Int.emod_nonneg (-a) (show b ≠ 0 by omega)
      have h5 : (-a) % b ≤ -a := by
        have := Int.emod_add_mul_ediv (-a) b
        have h6 : 0 ≤ b * (-a / b) := Int.mul_nonneg (by omega) (Int.ediv_nonneg (by omega) (by omega))
        omega
      omega
    · rw [Int.tmod_eq_emod_of_nonneg h]
      have := Int.emod_nonneg a (show b ≠ 0 by omega)
      have h5 : a % b ≤ a := by
        have := Int.emod_add_mul_ediv a b
        have h6 : 0 ≤ b * (a / b) := Int.mul_nonneg (by omega) (Int.ediv_nonneg (by omega) (by omega))
        omega
      omega
  exact ⟨_, _, rfl, rfl, IntWalk.i64_in _ (by omega), IntWalk.i64_in _ (by omega), IntWalk.i64_in _ (by omega), fun h => Pl.down_neg (by omega) h, fun h => Pl.down_pos (by omega) h⟩

set_option maxHeartbeats 1000000 in
theorem down_b (a b v : Int) (hb : 1 ≤ b) (ha : Hid (-9000000000000000000 ≤ a ∧ a ≤ 9000000000000000000)) (hv : a / b = v) (w : World) :
    Calls Tryd.prog 97 #[.int .i64 a, .int .i64 b] w fun e w' => e = .returned (.int .i64 v) ∧ w' = w := by
  obtain ⟨q, r, k1, k2, k3, k4, k5, h1, h2⟩ := dn_facts hb ha.out
  rw [hv] at h1 h2
  clear hv k1
  have hb0 : ¬ b = 0 := by omega
  by_cases hr : r < 0
  · obtain rfl : q - 1 = v := h1 hr
    clear h1 h2
    go_enter Tryd.func97, Tryd.ntmps97
    go_wp2
    go_ret
    exact ⟨rfl, rfl⟩
  · obtain rfl : q = v := h2 hr
    clear h1 h2
    go_enter Tryd.func97, Tryd.ntmps97
    go_wp2
    go_ret
    exact ⟨rfl, rfl⟩

set_option maxHeartbeats 1000000 in
theorem below_b (a b v : Int) (hb : 1 ≤ b) (ha : Hid (-9000000000000000000 ≤ a ∧ a ≤ 9000000000000000000)) (hv : a / b = v) (w : World) :
    Calls Tryd.prog 82 #[.int .i64 a, .int .i64 b] w fun e w' => e = .returned (.int .i64 v) ∧ w' = w := by
  obtain ⟨q, r, k1, k2, k3, k4, k5, h1, h2⟩ := dn_facts hb ha.out
  rw [hv] at h1 h2
  clear hv k1
  have hb0 : ¬ b = 0 := by omega
  by_cases hr : r < 0
  · obtain rfl : q - 1 = v := h1 hr
    clear h1 h2
    go_enter Tryd.func82, Tryd.ntmps82
    go_wp2
    go_ret
    exact ⟨rfl, rfl⟩
  · obtain rfl : q = v := h2 hr
    clear h1 h2
    go_enter Tryd.func82, Tryd.ntmps82
    go_wp2
    go_ret
    exact ⟨rfl, rfl⟩

set_option maxHeartbeats 1000000 in
theorem halfup_b (a b v : Int) (hb : 1 ≤ b) (hb2 : b ≤ 1000000) (ha : Hid (-4000000000000000000 ≤ a ∧ a ≤ 4000000000000000000)) (hv : Pl.hu a b = v) (w : World) :
    Calls Tryd.prog 83 #[.int .i64 a, .int .i64 b] w fun e w' => e = .returned (.int .i64 v) ∧ w' = w := by
  have HC := Lib.hid (down_b (2 * a + b) (2 * b) v (by omega) (Lib.hid (by have := ha.out; omega)) hv w)
  have k1 : IntKind.i64.wrap (2 * a) = 2 * a := IntWalk.i64_in _ (by have := ha.out; omega)
  have k2 : IntKind.i64.wrap (2 * a + b) = 2 * a + b := IntWalk.i64_in _ (by have := ha.out; omega)
  have k3 : IntKind.i64.wrap (2 * b) = 2 * b := IntWalk.i64_in _ (by omega)
  clear hv
  go_enter Tryd.func83, Tryd.ntmps83
  go_wp2_with fail
  refine HC.out.mono ?_
  rintro e w1 ⟨rfl, rfl⟩
  go_wp2
  go_ret
  exact ⟨rfl, rfl⟩

set_option maxHeartbeats 2000000 in
theorem rhalfup_b (a m b v : Int) (hb : 1 ≤ b) (hb2 : b ≤ 1000000) (hm : 0 ≤ m) (hm2 : m ≤ 1000000) (ha : Hid (-1099511627776 ≤ a ∧ a ≤ 1099511627776)) (hv : Pl.hu (a * m) b = v) (w : World) :
    Calls Tryd.prog 69 #[.int .i64 a, .int .i64 m, .int .i64 b] w fun e w' => e = .returned (.int .i64 v) ∧ w' = w := by
  obtain ⟨q, hq⟩ : ∃ q, a / b = q := ⟨_, rfl⟩
  have HC := Lib.hid (below_b a b q hb (Lib.hid (by have := ha.out; omega)) hq w)
  have hq1 : -1099511627776 ≤ q ∧ q ≤ 1099511627776 := by rw [← hq]; exact Pl.div_in (by omega) ha.out.1 ha.out.2 (by decide)
  have hqb : a - q * b = a % b := by
    rw [← hq]; have := Int.emod_add_mul_ediv a b; rw [Int.mul_comm] at this; omega
  have hr0 : 0 ≤ a - q * b ∧ a - q * b < b := by
    rw [hqb]; exact ⟨Int.emod_nonneg _ (by omega), Int.emod_lt_of_pos _ (by omega)⟩
  have hqm := Pl.mul_le hq1.1 hq1.2 hm hm2 (by decide)
  have hqb2 := Pl.mul_le hq1.1 hq1.2 (show 0 ≤ b by omega) hb2 (by decide)
  have hrm : 0 ≤ (a - q * b) * m ∧ (a - q * b) * m ≤ 1000000 * 1000000 := ⟨Int.mul_nonneg hr0.1 hm, Int.mul_le_mul (by omega) hm2 hm (by decide)⟩
  have hrm2 : 2 * (a - q * b) * m = 2 * ((a - q * b) * m) := by rw [Int.mul_assoc]
  obtain ⟨u, hu⟩ : ∃ u, (2 * (a - q * b) * m + b) / (2 * b) = u := ⟨_, rfl⟩
  have hv2 : q * m + u = v := by rw [← hv, ← hu, ← hq]; exact Pl.half_split (by omega)
  have hu1 : -3000000000000 ≤ u ∧ u ≤ 3000000000000 := by rw [← hu]; exact Pl.div_in (by omega) (by omega) (by omega) (by decide)
  have HD := Lib.hid (fun (w : World) => below_b (2 * (a - q * b) * m + b) (2 * b) u (by omega) (Lib.hid (by omega)) hu w)
  have k1 : IntKind.i64.wrap (q * m) = q * m := IntWalk.i64_in _ (by omega)
  have k2 : IntKind.i64.wrap (q * b) = q * b := IntWalk.i64_in _ (by omega)
  have k3 : IntKind.i64.wrap (a - q * b) = a - q * b := IntWalk.i64_in _ (by omega)
  have k4 : IntKind.i64.wrap (2 * (a - q * b)) = 2 * (a - q * b) := IntWalk.i64_in _ (by omega)
  have k5 : IntKind.i64.wrap (2 * (a - q * b) * m) = 2 * (a - q * b) * m := IntWalk.i64_in _ (by omega)
  have k6 : IntKind.i64.wrap (2 * (a - q * b) * m + b) = 2 * (a - q * b) * m + b := IntWalk.i64_in _ (by omega)
  have k7 : IntKind.i64.wrap (2 * b) = 2 * b := IntWalk.i64_in _ (by omega)
  have k8 : IntKind.i64.wrap (q * m + u) = q * m + u := IntWalk.i64_in _ (by omega)
  have HV := Lib.hid hv2
  clear hv hq hq1 hqb hr0 hqm hqb2 hrm hrm2 hu hv2 hu1
  go_enter Tryd.func69, Tryd.ntmps69
  go_wp2_with fail
  refine HC.out.mono ?_
  rintro e w1 ⟨rfl, rfl⟩
  go_wp2_with fail
  refine (HD.out _).mono ?_
  rintro e w2 ⟨rfl, rfl⟩
  go_wp2
  go_ret
  exact ⟨by rw [HV.out]; rfl, rfl⟩

set_option maxHeartbeats 2000000 in
/-- how the statement forms share * all - amount * weight -/
theorem far_b (c u a s : Int) (ha : 1 ≤ a) (ha2 : a ≤ 1000000) (hu0 : 0 ≤ u) (hu1 : u ≤ 10000) (hc : Hid (-1000000000000 ≤ c ∧ c ≤ 1000000000000)) (hs : Hid (-1099511627776 ≤ s ∧ s ≤ 1099511627776)) (h1 : Hid (s * a - c * u < a ∧ -a < s * a - c * u)) (w : World) :
    Calls Tryd.prog 41 #[.int .i64 c, .int .i64 u, .int .i64 a, .int .i64 s] w fun e w' => e = .returned (.int .i64 (s * a - c * u)) ∧ Below w.heap.size w w' := by
  obtain ⟨q, r, k1, k2, k3, k4, _⟩ := dn_facts ha (show -9000000000000000000 ≤ c ∧ c ≤ 9000000000000000000 by have := hc.out; omega)
  have hx := Pl.far_in (c := c) (w := u) (a := a) (s := s) (by omega) h1.out.1 h1.out.2 hu0 hu1
  have hE : (s - q * u) * a - r * u = s * a - c * u := by rw [← k1, ← k2]; exact Pl.far_eq
  have hq : -1000000000000 ≤ q ∧ q ≤ 1000000000000 := by
    rw [← k1]
    rcases Int.lt_or_le c 0 with h | h
    · have e : c.tdiv a = -((-c) / a) := by
        rw [← Int.tdiv_eq_ediv_of_nonneg (show 0 ≤ -c by omega), Int.neg_tdiv]; omega
      have := IntWalk.tdiv_le (-c) a (by omega) ha
      have := hc.out
      omega
    · rw [Int.tdiv_eq_ediv_of_nonneg h]
      have := IntWalk.tdiv_le c a h ha
      have := hc.out
      omega
  have hr : -a < r ∧ r < a := by rw [← k2]; exact ⟨Int.lt_tmod_of_pos _ (by omega), Int.tmod_lt_of_pos _ (by omega)⟩
  have hqu := Pl.mul_le hq.1 hq.2 hu0 hu1 (by decide)
  have hru := Pl.mul_le (A := 1000000) (show -1000000 ≤ r by omega) (show r ≤ 1000000 by omega) hu0 hu1 (by decide)
  rw [k1] at hx
  clear k1
  have hxa := Pl.mul_le (A := 10001) hx.1 hx.2 (show 0 ≤ a by omega) ha2 (by decide)
  have j1 : IntKind.i64.wrap (q * u) = q * u := IntWalk.i64_in _ (by omega)
  have j2 : IntKind.i64.wrap (s - q * u) = s - q * u := IntWalk.i64_in _ (by have := hs.out; omega)
  have j3 : IntKind.i64.wrap ((s - q * u) * a) = (s - q * u) * a := IntWalk.i64_in _ (by omega)
  have j4 : IntKind.i64.wrap (r * u) = r * u := IntWalk.i64_in _ (by omega)
  have j5 : IntKind.i64.wrap ((s - q * u) * a - r * u) = (s - q * u) * a - r * u := IntWalk.i64_in _ (by omega)
  have d1 : decide (s - q * u > 20000) = false := decide_eq_false (by omega)
  have d2 : decide (s - q * u < -20000) = false := decide_eq_false (by omega)
  have HE := Lib.hid hE
  have ha0 : ¬ a = 0 := by omega
  clear hE hq hr hqu hru hxa
  go_enter Tryd.func41, Tryd.ntmps41
  go_wp2
  refine wp_region_ext (by kernel_rfl) (by kernel_rfl) ?_
  repeat (go_big_quiet_step (fail))
  refine wpQuiet_nil ?_
  rintro _ ⟨x, rfl⟩
  have hB := x.h
  generalize x.w = w1 at *
  go_wp2
  go_ret
  exact ⟨by rw [← HE.out]; rfl, hB⟩
end Go.Proofs.YtdihnbjmeppbcaaDoor
