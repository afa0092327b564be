/- setOf: the set of a list of indexes. -/
import Derived.Test.YtghbipipehglfaaDoorB6
namespace Go.Proofs.YtghbipipehglfaaDoor
open Go.RowKit Go.Shelf

namespace Pl
/-- the set of a list of different indexes less than n -/
def setL (n : Nat) : List Int → Nat → Option Nat
  | [], s => some s
  | i :: l, s => if inB i 0 ((n : Int) - 1) = true then (if s.testBit i.toNat = true then none else setL n l (s ||| 2 ^ i.toNat)) else none
theorem setL_step {n : Nat} {l : List Int} {k : Nat} {s : Nat} (hk : k < l.length) :
    setL n (l.drop k) s = if inB (l.getD k 0) 0 ((n : Int) - 1) = true then (if s.testBit (l.getD k 0).toNat = true then none else setL n (l.drop (k + 1)) (s ||| 2 ^ (l.getD k 0).toNat)) else none := by
  rw [List.drop_eq_getElem_cons hk, List.getD_eq_getElem?_getD, List.getElem?_eq_getElem hk]; rfl
end Pl
/-- what setOf gives -/
def setV : Option Nat → Value
  | some s => .tuple #[.int .u64 (s : Nat), .bool true]
  | none => .tuple #[.int .u64 0, .bool false]
theorem and_two {m j : Nat} (hm : m < 2 ^ 60) (hj : j < 60) : bits BinOp.and IntKind.u64 (m : Int) (2 ^ j) = if m.testBit j = true then (2 ^ j : Int) else 0 := by
  have h2 : 2 ^ j < 18446744073709551616 := Nat.lt_of_lt_of_le (Nat.pow_lt_pow_right (a := 2) (by omega) hj) (by decide)
  have h := bits_and_u64_nat m (2 ^ j) (by omega) h2
  have e : m &&& 2 ^ j = if m.testBit j = true then 2 ^ j else 0 := by
    refine Nat.eq_of_testBit_eq fun i => ?_
    rw [Nat.testBit_and, Nat.testBit_two_pow]
    by_cases h : j = i
    · subst h
      split <;> simp_all
    · split <;> simp [h]
  rw [e] at h
  have e2 : ((2 ^ j : Nat) : Int) = (2 : Int) ^ j := by simp
  rw [e2] at h
  rw [h]
  split
  · exact e2
  · rfl
theorem or_two' {m j : Nat} (hm : m < 2 ^ 60) (hj : j < 60) : bits BinOp.or IntKind.u64 (m : Int) (2 ^ j) = ((m ||| 2 ^ j : Nat) : Int) := by
  have h2 : 2 ^ j < 18446744073709551616 := Nat.lt_of_lt_of_le (Nat.pow_lt_pow_right (a := 2) (by omega) hj) (by decide)
  have h := bits_or_u64_nat m (2 ^ j) (by omega) h2
  rw [← h]
  congr 1

set_option maxRecDepth 100000 in
set_option maxHeartbeats 4000000 in
theorem setOf_any (A : Option Addr) (l : List Int) (c n : Nat) (hn : n < 60) (hmax : l.length ≤ 9223372036854775807) (w : World) (hI : Ints w A l) :
    Calls Tryd.prog 52 #[.slice A l.length c, .int .i64 n] w fun e w' => e = .returned (setV (Pl.setL n l 0)) ∧ w' = w := by
  obtain ⟨R, hR⟩ : ∃ R, Pl.setL n (l.drop 0) 0 = R := ⟨_, rfl⟩
  have hR' : Pl.setL n l 0 = R := by rw [← hR, List.drop_zero]
  rw [hR']
  clear hR'
  obtain ⟨V, hV⟩ : ∃ V : Value, setV R = V := ⟨_, rfl⟩
  have HV := Lib.hid hV
  rw [hV]
  clear hV
  have HR := Lib.hid hR
  clear hR
  have HI := Lib.hid hI
  clear hI
  go_enter Tryd.func52, Tryd.ntmps52
  go_wp2
  go_loop [6, 8, 11] (fun s _ i => ∃ k m : Nat, k ≤ l.length ∧ i = .int .i64 k ∧ s = .int .u64 m ∧ Hid (m < 2 ^ 60) ∧ Hid (Pl.setL n (l.drop k) m = R)) (fun _ _ i => l.length - (intOf i).toNat)
  case atStart => exact ⟨0, 0, Nat.zero_le _, rfl, rfl, Lib.hid (by decide), HR⟩
  case round =>
    obtain ⟨k, m, hk, rfl, rfl, hm, hr⟩ := hrel
    by_cases hlt : k < l.length
    · obtain ⟨bz, oz, rfl, hcz⟩ : ∃ bb off, A = some ⟨bb, off, none⟩ ∧ ∀ j, j < l.length → w.cell? ⟨bb, off + j, none⟩ = some (.int .i64 (l.getD j 0)) := by
        rcases HI.out with h | ⟨bb, off, he, _, hc⟩
        · rw [h] at hlt; simp at hlt
        · exact ⟨bb, off, he, hc⟩
      have hck := hcz k hlt
      have hr2 := Lib.hid (hr.out.symm.trans (Pl.setL_step hlt))
      clear hcz hr
      generalize l.getD k 0 = y at *
      cases hin : Pl.inB y 0 ((n : Int) - 1) with
      | false =>
        have HN : Hid (R = none) := Lib.hid (by rw [hr2.out, hin]; rfl)
        have HIN := Lib.hid hin
        clear hr2 hin
        go_wp2_with (go_at_call 72; refine (within_b _ _ _ false HIN.out _).mono ?_; rintro e w' ⟨rfl, hw'⟩; obtain rfl : w = w' := hw'.symm)
        go_ret2
        refine ⟨?_, rfl⟩
        rw [← HV.out, HN.out]
        rfl
      | true =>
        obtain ⟨y0, y1⟩ := Pl.inB_true.1 hin
        obtain ⟨j, rfl⟩ := Int.eq_ofNat_of_zero_le y0
        have hj : j < 60 := by omega
        have hr3 : Hid (R = if m.testBit j = true then none else Pl.setL n (l.drop (k + 1)) (m ||| 2 ^ j)) := Lib.hid (by rw [hr2.out, if_pos hin]; rfl)
        have HIN := Lib.hid hin
        have HO := Lib.hid (fun w => only_any j (by omega) w)
        have HAND := and_two hm.out hj
        have HOR := Lib.hid (or_two' hm.out hj)
        have HLT : Hid (m ||| 2 ^ j < 2 ^ 60) := Lib.hid (Nat.or_lt_two_pow hm.out (Nat.pow_lt_pow_right (by omega) hj))
        clear hr2 hin
        obtain ⟨Z, hZ⟩ : ∃ Z, bits BinOp.and IntKind.u64 (m : Int) (2 ^ j) = Z := ⟨_, rfl⟩
        rw [hZ] at HAND
        cases ht : m.testBit j with
        | true =>
          have HN : Hid (R = none) := Lib.hid (by rw [hr3.out, if_pos ht])
          have hz : (Z != 0) = true := by
            have h0 : (2 : Int) ^ j ≠ 0 := Int.ne_of_gt (Int.pow_pos (by decide))
            rw [HAND, if_pos ht]
            exact bne_iff_ne.2 h0
          have HZ := Lib.hid hz
          clear HAND hr3 ht HOR
          go_wp2_with (first | (go_at_call 72; refine (within_b _ _ _ true HIN.out _).mono ?_; rintro e w' ⟨rfl, hw'⟩; obtain rfl : w = w' := hw'.symm) | (go_at_call 73; refine (HO.out _).mono ?_; rintro e w' ⟨rfl, hw'⟩; obtain rfl : w = w' := hw'.symm))
          go_ret2
          refine ⟨?_, rfl⟩
          rw [← HV.out, HN.out]
          rfl
        | false =>
          have HN : Hid (Pl.setL n (l.drop (k + 1)) (m ||| 2 ^ j) = R) := Lib.hid (by rw [hr3.out, if_neg (by rw [ht]; decide)])
          obtain rfl : Z = 0 := by rw [HAND, if_neg (by rw [ht]; decide)]
          clear HAND hr3 ht
          have hor := HOR.out
          generalize m ||| 2 ^ j = M at *
          clear HOR
          go_wp2_with (first | (go_at_call 72; refine (within_b _ _ _ true HIN.out _).mono ?_; rintro e w' ⟨rfl, hw'⟩; obtain rfl : w = w' := hw'.symm) | (go_at_call 73; refine (HO.out _).mono ?_; rintro e w' ⟨rfl, hw'⟩; obtain rfl : w = w' := hw'.symm))
          go_round
          case rel => exact ⟨k + 1, M, by omega, by go_num, rfl, HLT, HN⟩
          case measure => simp [intOf]; omega
    · obtain rfl : k = l.length := by omega
      have HS : Hid (R = some m) := Lib.hid (by rw [← hr.out, List.drop_length]; rfl)
      go_wp2
      go_ret2
      refine ⟨?_, rfl⟩
      rw [← HV.out, HS.out]
      rfl
end Go.Proofs.YtghbipipehglfaaDoor
