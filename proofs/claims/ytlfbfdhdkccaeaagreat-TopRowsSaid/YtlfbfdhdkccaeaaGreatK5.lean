/- The closure for empty rows; slices.Contains of truth values. -/
import Derived.Test.YtlfbfdhdkccaeaaGreatK1
import Derived.Test.YtlfbfdhdkccaeaaGreatPZ
namespace Go.Proofs.YtlfbfdhdkccaeaaGreat
open Go.RowKit Go.Shelf

set_option maxRecDepth 100000 in
theorem cl5_b (AX : Option Addr) (m cx : Nat) (w : World) :
    Calls Tryz.prog 53 #[.slice AX m cx] w fun e w' => e = .returned (.bool (decide (m = 0))) ∧ w' = w := by
  by_cases h : m = 0
  · subst h
    go_enter Tryz.func53, Tryz.ntmps53
    go_wp2
    go_ret
    exact ⟨rfl, rfl⟩
  · have h1 : ((m : Int) == 0) = false := by simp [h]
    have HD : Hid (decide (m = 0) = false) := Lib.hid (decide_eq_false h)
    clear h
    go_enter Tryz.func53, Tryz.ntmps53
    go_wp2
    go_ret
    exact ⟨by rw [HD.out]; rfl, rfl⟩

set_option maxRecDepth 100000 in
set_option maxHeartbeats 2000000 in
theorem idxb_b (g n : Nat) (hn : n ≤ 1000) (u : Nat → Bool) (v : Bool) (hv1 : (∀ q, q < n → u q = true) → v = false) (hv2 : ∀ q, q < n → u q = false → v = true) (w : World) (hst : StB w g n u) :
    Calls Tryz.prog 83 #[.slice (some ⟨g, 0, none⟩) n n, .bool false] w fun e w' => ∃ r : Int, e = .returned (.int .i64 r) ∧ decide (0 ≤ r) = v ∧ w' = w := by
  have HS := Lib.hid hst
  have HV1 := Lib.hid hv1
  have HV2 := Lib.hid hv2
  clear hst hv1 hv2
  go_enter Tryz.func83, Tryz.ntmps83
  go_wp2
  go_loop [5, 8] (fun _ i => ∃ k : Nat, k ≤ n ∧ i = .int .i64 k ∧ Hid (∀ q, q < k → u q = true)) (fun _ i => n - (intOf i).toNat)
  case atStart => exact ⟨0, Nat.zero_le _, rfl, Lib.hid (fun q hq => absurd hq (Nat.not_lt_zero _))⟩
  case round =>
    obtain ⟨k, hk, rfl, hall⟩ := hrel
    by_cases hlt : k < n
    · have hltI : (k : Int) < (n : Int) := by omega
      have p0 := HS.out.cell hlt
      have HB := Lib.hid (HV2.out k hlt)
      obtain ⟨y, hy⟩ : ∃ y, u k = y := ⟨_, rfl⟩
      rw [hy] at p0 HB
      have HY := Lib.hid hy
      clear hy
      cases y with
      | false =>
        have HF := Lib.hid (HB.out rfl)
        go_wp2
        go_ret
        exact ⟨_, rfl, by rw [HF.out]; simp, rfl⟩
      | true =>
        go_wp2
        go_round
        case rel => exact ⟨k + 1, by omega, by go_num, Lib.hid (fun i hi => by
          rcases Nat.lt_succ_iff_lt_or_eq.1 hi with h' | rfl
          · exact hall.out i h'
          · exact HY.out)⟩
        case measure => simp [intOf]; omega
    · obtain rfl : k = n := by omega
      have HE := Lib.hid (HV1.out hall.out)
      go_wp2
      go_ret
      exact ⟨_, rfl, by rw [HE.out]; rfl, rfl⟩

set_option maxRecDepth 100000 in
theorem conb_b (g n : Nat) (hn : n ≤ 1000) (u : Nat → Bool) (v : Bool) (hv1 : (∀ q, q < n → u q = true) → v = false) (hv2 : ∀ q, q < n → u q = false → v = true) (w : World) (hst : StB w g n u) :
    Calls Tryz.prog 52 #[.slice (some ⟨g, 0, none⟩) n n, .bool false] w fun e w' => e = .returned (.bool v) ∧ w' = w := by
  have HC := Lib.hid (idxb_b g n hn u v hv1 hv2 w hst)
  clear hst hv1 hv2
  go_enter Tryz.func52, Tryz.ntmps52
  go_wp2_with fail
  refine HC.out.mono ?_
  rintro e w2 ⟨r, rfl, hr, hw2⟩
  obtain rfl : w = w2 := hw2.symm
  have HV : Hid (v = decide (0 ≤ r)) := Lib.hid hr.symm
  clear hr
  go_wp2
  go_ret
  exact ⟨by rw [HV.out]; rfl, rfl⟩
end Go.Proofs.YtlfbfdhdkccaeaaGreat

