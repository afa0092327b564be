/- within and its kin, down and halfUp, of the program and of the document; far. -/
import Derived.Test.YtbdnocijhbkclaaGreatDoorF2
namespace Go.Proofs.YtbdnocijhbkclaaGreatDoor
open Go.RowKit Go.Shelf

set_option maxHeartbeats 400000 in
theorem within_b (n a b : Int) (v : Bool) (hv : Pl.inB a n b = v) (w : World) :
    Calls Tryz.prog 32 #[.int .i64 n, .int .i64 a, .int .i64 b] w fun e w' => e = .returned (.bool v) ∧ w' = w := by
  by_cases h1 : a ≤ n
  · have HV : Hid (v = decide (n ≤ b)) := Lib.hid (by rw [← hv]; unfold Pl.inB; rw [decide_eq_true h1]; rfl)
    clear hv
    go_enter Tryz.func32, Tryz.ntmps32
    go_wp2
    go_ret
    exact ⟨by rw [HV.out]; rfl, rfl⟩
  · have HV : Hid (v = false) := Lib.hid (by rw [← hv]; unfold Pl.inB; rw [decide_eq_false h1]; rfl)
    clear hv
    go_enter Tryz.func32, Tryz.ntmps32
    go_wp2
    go_ret
    exact ⟨by rw [HV.out]; rfl, rfl⟩
theorem within_any (n a b : Int) (w : World) :
    Calls Tryz.prog 32 #[.int .i64 n, .int .i64 a, .int .i64 b] w fun e w' => e = .returned (.bool (Pl.inB a n b)) ∧ w' = w := within_b n a b _ rfl w

theorem am_b (x : Int) (v : Bool) (hv : Pl.am x = v) (w : World) :
    Calls Tryz.prog 22 #[.int .i64 x] w fun e w' => e = .returned (.bool v) ∧ w' = w := by
  unfold Pl.am at hv
  have HC := Lib.hid (within_b _ _ _ v hv w)
  clear hv
  go_enter Tryz.func22, Tryz.ntmps22
  go_wp2_with fail
  refine HC.out.mono ?_
  rintro e w1 ⟨rfl, rfl⟩
  go_wp2
  go_ret
  exact ⟨rfl, rfl⟩

theorem wt_b (x : Int) (v : Bool) (hv : Pl.wt x = v) (w : World) :
    Calls Tryz.prog 24 #[.int .i64 x] w fun e w' => e = .returned (.bool v) ∧ w' = w := by
  unfold Pl.wt at hv
  have HC := Lib.hid (within_b _ _ _ v hv w)
  clear hv
  go_enter Tryz.func24, Tryz.ntmps24
  go_wp2_with fail
  refine HC.out.mono ?_
  rintro e w1 ⟨rfl, rfl⟩
  go_wp2
  go_ret
  exact ⟨rfl, rfl⟩

theorem dy_b (x : Int) (v : Bool) (hv : Pl.dy x = v) (w : World) :
    Calls Tryz.prog 29 #[.int .i64 x] w fun e w' => e = .returned (.bool v) ∧ w' = w := by
  unfold Pl.dy at hv
  have HC := Lib.hid (within_b _ _ _ v hv w)
  clear hv
  go_enter Tryz.func29, Tryz.ntmps29
  go_wp2_with fail
  refine HC.out.mono ?_
  rintro e w1 ⟨rfl, rfl⟩
  go_wp2
  go_ret
  exact ⟨rfl, rfl⟩

set_option maxHeartbeats 400000 in
theorem rdy_b (x : Int) (v : Bool) (hv : Pl.dy x = v) (w : World) :
    Calls Tryz.prog 38 #[.int .i64 x] w fun e w' => e = .returned (.bool v) ∧ w' = w := by
  obtain ⟨p, hp⟩ : ∃ p, decide (0 ≤ x) = p := ⟨_, rfl⟩
  obtain ⟨q, hq⟩ : ∃ q, decide (x ≤ 100000) = q := ⟨_, rfl⟩
  have HV : Hid (v = (p && q)) := Lib.hid (by rw [← hv, ← hp, ← hq]; rfl)
  clear hv
  have hp' : decide (x ≥ 0) = p := hp
  cases p <;> cases q <;>
  (go_enter Tryz.func38, Tryz.ntmps38
   go_wp2
   go_ret
   exact ⟨by rw [HV.out]; rfl, rfl⟩)

/-- rounding down: the machine's numbers -/
theorem dn_facts {a b : Int} (hb : 1 ≤ b) (ha : -9000000000000000000 ≤ a ∧ a ≤ 9000000000000000000) :
    ∃ q r : Int, a.tdiv b = q ∧ a.tmod b = r ∧ IntKind.i64.wrap (a.tdiv b) = q ∧ IntKind.i64.wrap (a.tmod b) = r ∧ IntKind.i64.wrap (q - 1) = q - 1 ∧ (r < 0 → q - 1 = a / b) ∧ (¬ r < 0 → q = a / b) := by
  have h3 : -9000000000000000000 ≤ a.tdiv b ∧ a.tdiv b ≤ 9000000000000000000 := by
    rcases Int.lt_or_le a 0 with h | h
    · have e : a.tdiv b = -((-a) / b) := by
        rw [← Int.tdiv_eq_ediv_of_nonneg (show 0 ≤ -a by omega), Int.neg_tdiv]; omega
      have := IntWalk.tdiv_le (-a) b (by omega) hb
      omega
    · rw [Int.tdiv_eq_ediv_of_nonneg h]
      have := IntWalk.tdiv_le a b h hb
      omega
  have h4 : -9000000000000000000 ≤ a.tmod b ∧ a.tmod b ≤ 9000000000000000000 := by
    rcases Int.lt_or_le a 0 with h | h
    · have e : a.tmod b = -((-a) % b) := by
        rw [← Int.tmod_eq_emod_of_nonneg (show 0 ≤ -a by omega), Int.neg_tmod]; omega
      have := Int.emod_nonneg (-a) (show b ≠ 0 by omega)
      have h5 : (-a) % b ≤ -a := by
        have := Int.emod_add_mul_ediv (-a) b
        have h6 : 0 ≤ b * (-a / b) := Int.mul_nonneg (by omega) (Int.ediv_nonneg (by omega) (by omega))
        omega
      omega
    · rw [Int.tmod_eq_emod_of_nonneg h]
      have := Int.emod_nonneg a (show b ≠ 0 by omega)
      have h5 : a % b ≤ a := by
        have := Int.emod_add_mul_ediv a b
        have h6 : 0 ≤ b * (a / b) := Int.mul_nonneg (by omega) (Int.ediv_nonneg (by omega) (by omega))
        omega
      omega
  exact ⟨_, _, rfl, rfl, IntWalk.i64_in _ (by omega), IntWalk.i64_in _ (by omega), IntWalk.i64_in _ (by omega), fun h => Pl.down_neg (by omega) h, fun h => Pl.down_pos (by omega) h⟩

set_option maxHeartbeats 1000000 in
theorem down_b (a b v : Int) (hb : 1 ≤ b) (ha : Hid (-9000000000000000000 ≤ a ∧ a ≤ 9000000000000000000)) (hv : a / b = v) (w : World) :
    Calls Tryz.prog 46 #[.int .i64 a, .int .i64 b] w fun e w' => e = .returned (.int .i64 v) ∧ w' = w := by
  obtain ⟨q, r, k1, k2, k3, k4, k5, h1, h2⟩ := dn_facts hb ha.out
  rw [hv] at h1 h2
  clear hv k1
  have hb0 : ¬ b = 0 := by omega
  by_cases hr : r < 0
  · obtain rfl : q - 1 = v := h1 hr
    clear h1 h2
    go_enter Tryz.func46, Tryz.ntmps46
    go_wp2
    go_ret
    exact ⟨rfl, rfl⟩
  · obtain rfl : q = v := h2 hr
    clear h1 h2
    go_enter Tryz.func46, Tryz.ntmps46
    go_wp2
    go_ret
    exact ⟨rfl, rfl⟩

set_option maxHeartbeats 1000000 in
theorem halfup_b (a b v : Int) (hb : 1 ≤ b) (hb2 : b ≤ 1000000) (ha : Hid (-4000000000000000000 ≤ a ∧ a ≤ 4000000000000000000)) (hv : Pl.hu a b = v) (w : World) :
    Calls Tryz.prog 53 #[.int .i64 a, .int .i64 b] w fun e w' => e = .returned (.int .i64 v) ∧ w' = w := by
  have HC := Lib.hid (down_b (2 * a + b) (2 * b) v (by omega) (Lib.hid (by have := ha.out; omega)) hv w)
  have k1 : IntKind.i64.wrap (2 * a) = 2 * a := IntWalk.i64_in _ (by have := ha.out; omega)
  have k2 : IntKind.i64.wrap (2 * a + b) = 2 * a + b := IntWalk.i64_in _ (by have := ha.out; omega)
  have k3 : IntKind.i64.wrap (2 * b) = 2 * b := IntWalk.i64_in _ (by omega)
  clear hv
  go_enter Tryz.func53, Tryz.ntmps53
  go_wp2_with fail
  refine HC.out.mono ?_
  rintro e w1 ⟨rfl, rfl⟩
  go_wp2
  go_ret
  exact ⟨rfl, rfl⟩

end Go.Proofs.YtbdnocijhbkclaaGreatDoor
