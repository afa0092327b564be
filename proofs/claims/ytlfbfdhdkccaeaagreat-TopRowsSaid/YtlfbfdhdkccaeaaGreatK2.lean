/- hasNoIndex, and its closure. -/
import Derived.Test.YtlfbfdhdkccaeaaGreatK1
import Derived.Test.YtlfbfdhdkccaeaaGreatV2
import Derived.Test.YtlfbfdhdkccaeaaGreatPZ
namespace Go.Proofs.YtlfbfdhdkccaeaaGreat
open Go.RowKit Go.Shelf

set_option maxRecDepth 100000 in
theorem noix1_b (i : Int) (A : Option Addr) (n c : Nat) (hn : n ≤ 1000) (b : Bool) (hb : decide (0 ≤ i ∧ i < (n : Int)) = b) (bl : Nat) (w : World) (h : w.cell? ⟨bl, 0, none⟩ = some (.slice A n c)) :
    Calls Tryz.prog 82 #[.int .i64 i, .pointer (some ⟨bl, 0, none⟩)] w fun e w' => e = .returned (.bool (!b)) ∧ w' = w := by
  have HC := Lib.hid (isindex_b i A n c hn b hb w)
  clear hb
  go_enter Tryz.func82, Tryz.ntmps82
  go_wp2_with fail
  refine HC.out.mono ?_
  rintro e w1 ⟨rfl, rfl⟩
  go_wp2
  go_ret
  exact ⟨rfl, rfl⟩

set_option maxRecDepth 100000 in
set_option maxHeartbeats 2000000 in
theorem hasno_b (A : Option Addr) (n c : Nat) (hn : n ≤ 1000) (AX : Option Addr) (xs : List Int) (cx m : Nat) (hm : xs.length = m) (hm63 : m ≤ maxLen) (v : Bool) (hv : Pl.nix n xs = v) (w : World) (hX : Rows inL 1 w AX xs) :
    Calls Tryz.prog 47 #[.slice A n c, .slice AX m cx] w fun e w' => e = .returned (.bool v) ∧ Below w.heap.size w w' := by
  have hm63' : m ≤ 9223372036854775807 := hm63
  have HV1 : Hid ((∀ (i : Nat) (hi : i < xs.length), decide (0 ≤ xs[i] ∧ xs[i] < (n : Int)) = true) → v = false) := Lib.hid (fun h => by rw [← hv]; exact Pl.nix_all h)
  have HV2 : Hid (∀ (i : Nat) (hi : i < xs.length), decide (0 ≤ xs[i] ∧ xs[i] < (n : Int)) = false → v = true) := Lib.hid (fun i hi h => by rw [← hv]; exact Pl.nix_one hi h)
  have hB := (Below.refl w.heap.size w).alloc (Nat.le_refl _) (.cells #[.slice A n c] 22)
  have bX := Blk.new w 22 #[.slice A n c]
  obtain ⟨w1, hw1⟩ : ∃ w1, w1 = w.alloc (.cells #[.slice A n c] 22) := ⟨_, rfl⟩
  rw [← hw1] at hB bX
  have q0 := bX.cell 0
  have HX := Lib.hid (hX.below hB)
  have HM := Lib.hid hm
  have hlt := bX.lt
  have eg : ∀ args w, (callFunc 82 args).run Tryz.prog w = .ok (.enter 82 args) w := enters_of Tryz.func82 (by kernel_rfl) rfl
  have HIX : Hid (Calls Tryz.prog 92 #[.slice AX m cx, .func (.func 82) #[] #[.pointer (some ⟨w.heap.size, 0, none⟩)]] w1 fun e w' => ∃ r : Int, e = .returned (.int .i64 r) ∧ decide (0 ≤ r) = v ∧ w' = w1) := by
    refine Lib.hid ?_
    clear hX hm hv hB bX hw1 hm63
    have HQ := Lib.hid q0
    clear q0
    generalize w.heap.size = bl at *
    go_enter Tryz.func92, Tryz.ntmps92
    go_wp2
    go_loop [5, 8] (fun _ i => ∃ k : Nat, k ≤ m ∧ i = .int .i64 k ∧ Hid (∀ (i : Nat) (hi : i < xs.length), i < k → decide (0 ≤ xs[i] ∧ xs[i] < (n : Int)) = true)) (fun _ i => m - (intOf i).toNat)
    case atStart => exact ⟨0, Nat.zero_le _, rfl, Lib.hid (fun i _ hi => absurd hi (Nat.not_lt_zero _))⟩
    case round =>
      obtain ⟨k, hk, rfl, hall⟩ := hrel
      by_cases hlt : k < m
      · have hltI : (k : Int) < (m : Int) := by omega
        have hkx : k < xs.length := by rw [HM.out]; exact hlt
        obtain ⟨bx, ox, rfl, hbx, hcx⟩ := HX.out.open (by omega)
        have p0 := row_cell (mk := Value.int .i64) hbx hcx (Below.refl _ _) hkx
        obtain ⟨y, hy⟩ : ∃ y, decide (0 ≤ xs[k] ∧ xs[k] < (n : Int)) = y := ⟨_, rfl⟩
        have HC := Lib.hid (noix1_b xs[k] A n c hn y hy bl w1 HQ.out)
        have HY : Hid (∀ (i : Nat) (hi : i < xs.length), i = k → decide (0 ≤ xs[i] ∧ xs[i] < (n : Int)) = y) := Lib.hid (fun i hi e => by subst e; exact hy)
        have HB2 := Lib.hid (HV2.out k hkx)
        rw [hy] at HB2
        clear hcx hy
        generalize xs[k] = x at *
        cases y with
        | false =>
          have HF := Lib.hid (HB2.out rfl)
          go_wp2_with fail
          refine HC.out.mono ?_
          rintro e w2 ⟨rfl, hw2⟩
          obtain rfl : w1 = w2 := hw2.symm
          go_wp2
          go_ret
          exact ⟨_, rfl, by rw [HF.out]; simp, rfl⟩
        | true =>
          go_wp2_with fail
          refine HC.out.mono ?_
          rintro e w2 ⟨rfl, hw2⟩
          obtain rfl : w1 = w2 := hw2.symm
          go_wp2
          go_round
          case rel => exact ⟨k + 1, by omega, by go_num, Lib.hid (fun i hi hik => by
            rcases Nat.lt_succ_iff_lt_or_eq.1 hik with h' | rfl
            · exact hall.out i hi h'
            · exact HY.out _ hi rfl)⟩
          case measure => simp [intOf]; omega
      · obtain rfl : k = m := by omega
        have HE := Lib.hid (HV1.out (fun i hi => hall.out i hi (by rw [← HM.out]; exact hi)))
        go_wp2
        go_ret
        exact ⟨_, rfl, by rw [HE.out]; rfl, rfl⟩
  have HCF : Hid (Calls Tryz.prog 81 #[.slice AX m cx, .func (.func 82) #[] #[.pointer (some ⟨w.heap.size, 0, none⟩)]] w1 fun e w' => e = .returned (.bool v) ∧ w' = w1) := by
    refine Lib.hid ?_
    clear hX hm hv hB bX hw1 hm63 q0
    go_enter Tryz.func81, Tryz.ntmps81
    go_wp2_with fail
    refine HIX.out.mono ?_
    rintro e w2 ⟨r, rfl, hr, hw2⟩
    obtain rfl : w1 = w2 := hw2.symm
    have HV : Hid (v = decide (0 ≤ r)) := Lib.hid hr.symm
    clear hr
    go_wp2
    go_ret
    exact ⟨by rw [HV.out]; rfl, rfl⟩
  subst hw1
  clear hX hm hv hm63 HIX bX q0
  go_enter Tryz.func47, Tryz.ntmps47
  go_wp2_with fail
  refine HCF.out.mono ?_
  rintro e w2 ⟨rfl, rfl⟩
  go_wp2
  go_ret
  exact ⟨rfl, hB⟩

set_option maxRecDepth 100000 in
theorem cl2_b (A : Option Addr) (n c : Nat) (hn : n ≤ 1000) (AX : Option Addr) (xs : List Int) (cx m : Nat) (hm : xs.length = m) (hm63 : m ≤ maxLen) (bl : Nat) (w : World) (hX : Rows inL 1 w AX xs) (hl : w.cell? ⟨bl, 0, none⟩ = some (.slice A n c)) :
    Calls Tryz.prog 46 #[.slice AX m cx, .pointer (some ⟨bl, 0, none⟩)] w fun e w' => e = .returned (.bool (Pl.nix n xs)) ∧ Below w.heap.size w w' := by
  have HC := Lib.hid (hasno_b A n c hn AX xs cx m hm hm63 _ rfl w hX)
  clear hX hm
  go_enter Tryz.func46, Tryz.ntmps46
  go_wp2_with fail
  refine HC.out.mono ?_
  rintro e w1 ⟨rfl, hb1⟩
  go_wp2
  go_ret
  exact ⟨rfl, hb1⟩
end Go.Proofs.YtlfbfdhdkccaeaaGreat

