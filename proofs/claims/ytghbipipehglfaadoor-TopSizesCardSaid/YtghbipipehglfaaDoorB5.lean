/- Sets of indexes as numbers of 64 bits: only, first. -/
import Derived.Test.YtghbipipehglfaaDoorB4
namespace Go.Proofs.YtghbipipehglfaaDoor
open Go.RowKit Go.Shelf

theorem wrap_two {j : Nat} (hj : j < 64) : IntKind.u64.wrap ((2 : Int) ^ j) = ((2 ^ j : Nat) : Int) :=
  (by decide +kernel : ∀ j, j < 64 → IntKind.u64.wrap ((2 : Int) ^ j) = ((2 ^ j : Nat) : Int)) j hj

set_option maxHeartbeats 1000000 in
theorem only_any (j : Nat) (hj : j < 64) (w : World) :
    Calls Tryd.prog 73 #[.int .i64 j] w fun e w' => e = .returned (.int .u64 (2 ^ j : Nat)) ∧ w' = w := by
  have H := Lib.hid (wrap_two hj)
  go_enter Tryd.func73, Tryd.ntmps73
  go_wp2
  go_ret
  refine ⟨?_, rfl⟩
  exact congrArg (fun x => Ending.returned (Value.int .u64 x)) H.out

theorem wrap_first {n : Nat} (hn : n < 64) : IntKind.u64.wrap (((2 ^ n : Nat) : Int) - 1) = ((2 ^ n - 1 : Nat) : Int) :=
  (by decide +kernel : ∀ n, n < 64 → IntKind.u64.wrap (((2 ^ n : Nat) : Int) - 1) = ((2 ^ n - 1 : Nat) : Int)) n hn
set_option maxHeartbeats 1000000 in
theorem first_any (n : Nat) (hn : n < 64) (w : World) :
    Calls Tryd.prog 54 #[.int .i64 n] w fun e w' => e = .returned (.int .u64 (2 ^ n - 1 : Nat)) ∧ w' = w := by
  have H := Lib.hid (wrap_first hn)
  have HO := Lib.hid (only_any n hn w)
  generalize 2 ^ n = N at *
  go_enter Tryd.func54, Tryd.ntmps54
  go_wp2_with fail
  refine HO.out.mono ?_
  rintro e w' ⟨rfl, hw'⟩
  obtain rfl : w = w' := hw'.symm
  go_wp2
  go_ret
  refine ⟨?_, rfl⟩
  exact congrArg (fun x => Ending.returned (Value.int .u64 x)) H.out

namespace Pl
/-- the set of the indexes below n that p holds for -/
def msk (p : Nat → Bool) : Nat → Nat
  | 0 => 0
  | n + 1 => msk p n ||| (if p n then 2 ^ n else 0)
theorem msk_lt (p : Nat → Bool) : ∀ n, msk p n < 2 ^ n
  | 0 => by simp [msk]
  | n + 1 => by
    unfold msk
    refine Nat.or_lt_two_pow (Nat.lt_of_lt_of_le (msk_lt p n) (Nat.pow_le_pow_right (by omega) (by omega))) ?_
    split
    · exact Nat.pow_lt_pow_right (by omega) (by omega)
    · exact Nat.two_pow_pos _
theorem msk_bit (p : Nat → Bool) (n j : Nat) : (msk p n).testBit j = (decide (j < n) && p j) := by
  induction n with
  | zero => simp [msk]
  | succ n ih =>
    unfold msk
    rw [Nat.testBit_or, ih]
    by_cases h : j = n
    · subst h
      split <;> simp_all
    · have h1 : (if p n = true then 2 ^ n else 0).testBit j = false := by
        split
        · rw [Nat.testBit_two_pow]; simp; omega
        · simp
      rw [h1, Bool.or_false]
      congr 1
      simp; omega
end Pl
end Go.Proofs.YtghbipipehglfaaDoor
