/- The law's same and samePairs, of two that are alike. -/
import Derived.Test.YtmjnlmmjfbpogaaV7
namespace Go.Proofs.Ytmjnlmmjfbpogaa
open Go.RowKit Go.Shelf

/-- the cell of an index -/
abbrev irc (i : Nat) : List Value := [.int .i64 i]
theorem encIr : Enc irc 1 where
  pos := by decide
  len _ := rfl
  one x v hv := by simp [irc] at hv; rw [hv]; rfl

set_option maxRecDepth 100000 in
set_option maxHeartbeats 4000000 in
theorem samepairs_b (A B : Option Addr) (L : List (Nat × Nat)) (ca cb n : Nat) (hn : L.length = n) (hn6 : n ≤ 600) (w : World) (hA : Rows prc 2 w A L) (hB : Rows prc 2 w B L) :
    Calls Try.prog 30 #[.slice A n ca, .slice B n cb] w fun e w' => e = .returned (.bool true) ∧ Below w.heap.size w w' := by
  have HA := Lib.hid hA
  have HB := Lib.hid hB
  have HN := Lib.hid hn
  clear hA hB hn
  go_enter Try.func30, Try.ntmps30
  go_wp2
  go_loopw [5] (fun i wr => ∃ k : Nat, k ≤ n ∧ i = .int .i64 k ∧ Below w.heap.size w wr) (fun i _ => n - (intOf i).toNat)
  case atStart => exact ⟨0, Nat.zero_le _, rfl, Below.refl _ _⟩
  case round =>
    obtain ⟨k, hk, rfl, hw⟩ := hrel
    obtain ⟨wo, rfl⟩ : ∃ wo, wo = wr := ⟨_, rfl⟩
    by_cases hlt : k < n
    · have hkI : (k : Int) < (n : Int) := by omega
      have hkl : k < L.length := by rw [HN.out]; exact hlt
      obtain ⟨ba, oa, rfl, hba, hca⟩ := HA.out.open (by omega)
      obtain ⟨bb, ob, rfl, hbb, hcb⟩ := HB.out.open (by omega)
      have ra := rangeAt_below (hca k hkl) hba hw
      have rb := rangeAt_below (hcb k hkl) hbb hw
      clear hca hcb
      generalize L[k] = p at *
      obtain ⟨p1, p2⟩ := p
      have qa0 : wo.cell? ⟨ba, oa + k * 2, none⟩ = some (.int .i64 (p1 : Int)) := ra 0 _ rfl
      have qa1 : wo.cell? ⟨ba, oa + k * 2 + 1, none⟩ = some (.int .i64 (p2 : Int)) := ra 1 _ rfl
      have qb0 : wo.cell? ⟨bb, ob + k * 2, none⟩ = some (.int .i64 (p1 : Int)) := rb 0 _ rfl
      have qb1 : wo.cell? ⟨bb, ob + k * 2 + 1, none⟩ = some (.int .i64 (p2 : Int)) := rb 1 _ rfl
      have ya0 := fun e : Ext wo => e.cell qa0
      have ya1 := fun e : Ext wo => e.cell qa1
      have yb0 := fun e : Ext wo => e.cell qb0
      have yb1 := fun e : Ext wo => e.cell qb1
      have heq := fun e : Ext wo => run_eq51 (p1 : Int) p2 p1 p2 true (by simp) e.w
      clear ra rb hkl qa0 qa1 qb0 qb1
      go_wp2
      refine wp_region_ext (by kernel_rfl) (by kernel_rfl) ?_
      repeat (go_big_quiet_step (fail))
      refine wpQuiet_nil ?_
      rintro _ ⟨s, rfl⟩
      have hw2 := hw.trans (s.h.mono hw.size)
      clear ya0 ya1 yb0 yb1 heq
      go_wp2
      go_roundw
      case rel => exact ⟨k + 1, by omega, by go_num, hw2⟩
      case measure => simp [intOf]; omega
    · obtain rfl : k = n := by omega
      go_wp2
      go_ret
      exact ⟨rfl, hw⟩

set_option maxRecDepth 100000 in
set_option maxHeartbeats 4000000 in
theorem same_b (A B : Option Addr) (L : List Nat) (ca cb n : Nat) (hn : L.length = n) (hn6 : n ≤ 600) (w : World) (hA : Rows irc 1 w A L) (hB : Rows irc 1 w B L) :
    Calls Try.prog 31 #[.slice A n ca, .slice B n cb] w fun e w' => e = .returned (.bool true) ∧ Below w.heap.size w w' := by
  have HA := Lib.hid hA
  have HB := Lib.hid hB
  have HN := Lib.hid hn
  clear hA hB hn
  go_enter Try.func31, Try.ntmps31
  go_wp2
  go_loopw [5] (fun i wr => ∃ k : Nat, k ≤ n ∧ i = .int .i64 k ∧ Below w.heap.size w wr) (fun i _ => n - (intOf i).toNat)
  case atStart => exact ⟨0, Nat.zero_le _, rfl, Below.refl _ _⟩
  case round =>
    obtain ⟨k, hk, rfl, hw⟩ := hrel
    obtain ⟨wo, rfl⟩ : ∃ wo, wo = wr := ⟨_, rfl⟩
    by_cases hlt : k < n
    · have hkI : (k : Int) < (n : Int) := by omega
      have hkl : k < L.length := by rw [HN.out]; exact hlt
      obtain ⟨ba, oa, rfl, hba, hca⟩ := HA.out.open (by omega)
      obtain ⟨bb, ob, rfl, hbb, hcb⟩ := HB.out.open (by omega)
      have ra := rangeAt_below (hca k hkl) hba hw
      have rb := rangeAt_below (hcb k hkl) hbb hw
      clear hca hcb
      generalize L[k] = p at *
      have qa0 : wo.cell? ⟨ba, oa + k, none⟩ = some (.int .i64 (p : Int)) := by have := ra 0 _ rfl; rwa [Nat.mul_one] at this
      have qb0 : wo.cell? ⟨bb, ob + k, none⟩ = some (.int .i64 (p : Int)) := by have := rb 0 _ rfl; rwa [Nat.mul_one] at this
      have ya0 := fun e : Ext wo => e.cell qa0
      have yb0 := fun e : Ext wo => e.cell qb0
      clear ra rb hkl qa0 qb0
      go_wp2
      refine wp_region_ext (by kernel_rfl) (by kernel_rfl) ?_
      repeat (go_big_quiet_step (fail))
      refine wpQuiet_nil ?_
      rintro _ ⟨s, rfl⟩
      have hw2 := hw.trans (s.h.mono hw.size)
      clear ya0 yb0
      go_wp2
      go_roundw
      case rel => exact ⟨k + 1, by omega, by go_num, hw2⟩
      case measure => simp [intOf]; omega
    · obtain rfl : k = n := by omega
      go_wp2
      go_ret
      exact ⟨rfl, hw⟩
end Go.Proofs.Ytmjnlmmjfbpogaa
