/- leastOf, of the program. -/
import Derived.Test.YtlfbfdhdkccaeaaGreatF3
import Derived.Test.YtlfbfdhdkccaeaaGreatPZ
namespace Go.Proofs.YtlfbfdhdkccaeaaGreat
open Go.RowKit Go.Shelf

set_option maxRecDepth 100000 in
set_option maxHeartbeats 4000000 in
theorem least_b (g b : Nat) (h0 : 0 < b) (hb8 : b ≤ 8) (f : Nat → Int) (w : World) (hst : StF 57 (Value.int .i64) w g 8 f) :
    Calls Tryz.prog 24 #[.slice (some ⟨g, 0, none⟩) b 8] w fun e w' => e = .returned (.int .i64 (Pl.fm f b : Nat)) ∧ w' = w := by
  have HST := Lib.hid hst
  have h0I : (0 : Int) < (b : Int) := by omega
  have hbI : ¬ (b : Int) < 1 := by omega
  have HMV : Hid (∀ k, Pl.mv f (k + 1) = min (Pl.mv f k) (f (k + 1))) := Lib.hid (fun _ => rfl)
  have HM0 : Hid (Pl.mv f 0 = f 0) := Lib.hid rfl
  have HFM : Hid (∀ k, f k = Pl.mv f (b - 1) → (∀ q, q < k → f q ≠ Pl.mv f (b - 1)) → k = Pl.fm f b) := Lib.hid (fun k h1 h2 => Pl.fm_one h0 h1 h2)
  have HEX : Hid (∃ k, k < b ∧ f k = Pl.mv f (b - 1)) := Lib.hid (by
    refine ⟨Pl.fm f b, (Pl.fm_spec f b h0).1, ?_⟩
    rw [Pl.mv_fm, show b - 1 + 1 = b from by omega])
  have c0 := hst.cell (q := 0) (by omega)
  clear hst
  have HMN : Hid (Calls Tryz.prog 58 #[.slice (some ⟨g, 0, none⟩) b 8] w fun e w' => e = .returned (.int .i64 (Pl.mv f (b - 1))) ∧ w' = w) := by
    refine Lib.hid ?_
    go_enter Tryz.func58, Tryz.ntmps58
    go_wp2
    go_loop [3, 4] (fun m i => ∃ k : Nat, k + 1 ≤ b ∧ i = .int .i64 ((k : Int) + 1) ∧ m = .int .i64 (Pl.mv f k)) (fun _ i => b - (intOf i).toNat)
    case atStart => exact ⟨0, by omega, rfl, by rw [HM0.out]⟩
    case round =>
      obtain ⟨k, hk, rfl, rfl⟩ := hrel
      by_cases hlt : k + 1 < b
      · have hltI : (k : Int) + 1 < (b : Int) := by omega
        have q0 : w.cell? ⟨g, k + 1, none⟩ = some (.int .i64 (f (k + 1))) := HST.out.cell (q := k + 1) (by omega)
        have hN : ((k : Int) + 1).toNat = k + 1 := by omega
        go_wp2
        go_round
        case rel => exact ⟨k + 1, by omega, by simp, by rw [HMV.out]; congr 1; split <;> omega⟩
        case measure => simp [intOf]; omega
      · have hnI : ¬ (k : Int) + 1 < (b : Int) := by omega
        have HK : Hid (Pl.mv f (b - 1) = Pl.mv f k) := Lib.hid (by rw [show b - 1 = k from by omega])
        go_wp2
        go_ret
        exact ⟨by rw [HK.out]; rfl, rfl⟩
  obtain ⟨V, hV⟩ : ∃ V, Pl.mv f (b - 1) = V := ⟨_, rfl⟩
  rw [hV] at HMN HFM HEX
  have HIX : Hid (Calls Tryz.prog 57 #[.slice (some ⟨g, 0, none⟩) b 8, .int .i64 V] w fun e w' => e = .returned (.int .i64 (Pl.fm f b : Nat)) ∧ w' = w) := by
    refine Lib.hid ?_
    clear HMN hV c0 HMV HM0
    go_enter Tryz.func57, Tryz.ntmps57
    go_wp2
    go_loop [5, 8] (fun _ i => ∃ k : Nat, k ≤ b ∧ i = .int .i64 k ∧ Hid (∀ q, q < k → f q ≠ V)) (fun _ i => b - (intOf i).toNat)
    case atStart => exact ⟨0, Nat.zero_le _, rfl, Lib.hid (fun q hq => absurd hq (Nat.not_lt_zero _))⟩
    case round =>
      obtain ⟨k, hk, rfl, hno⟩ := hrel
      by_cases hlt : k < b
      · have hltI : (k : Int) < (b : Int) := by omega
        have q0 := HST.out.cell (q := k) (by omega)
        by_cases hv : f k = V
        · have hz : (V == f k) = true := by simp [hv]
          have HK := Lib.hid (HFM.out k hv hno.out)
          clear hv hno
          go_wp2
          go_ret
          exact ⟨by rw [← HK.out]; rfl, rfl⟩
        · have hz : (V == f k) = false := by rw [beq_eq_false_iff_ne]; exact fun h => hv h.symm
          have HN : Hid (∀ q, q < k + 1 → f q ≠ V) := Lib.hid (fun q hq => by
            rcases Nat.lt_succ_iff_lt_or_eq.1 hq with h | rfl
            · exact hno.out q h
            · exact hv)
          clear hv hno
          go_wp2
          go_round
          case rel => exact ⟨k + 1, by omega, by go_num, HN⟩
          case measure => simp [intOf]; omega
      · obtain ⟨k', h1, h2⟩ := HEX.out
        exact absurd h2 (hno.out k' (by omega))
  clear HMV HM0 HFM HEX c0 hV
  go_enter Tryz.func24, Tryz.ntmps24
  go_wp2_with fail
  refine HMN.out.mono ?_
  rintro e w1 ⟨rfl, hw1⟩
  obtain rfl : w = w1 := hw1.symm
  go_wp2_with fail
  refine HIX.out.mono ?_
  rintro e w1 ⟨rfl, hw1⟩
  obtain rfl : w = w1 := hw1.symm
  go_wp2
  go_ret
  exact ⟨rfl, rfl⟩
end Go.Proofs.YtlfbfdhdkccaeaaGreat

