/- numberAt, held. -/
import Derived.Test.YtalfffkcmddakabZ2
namespace Go.Proofs.Ytalfffkcmddakab
open Go.RowKit Go.Shelf

theorem or_i64 (x y : Nat) (hx : x < 1099511627776) (hy : y < 256) : bits .or .i64 ((x : Int) * 256) (y : Int) = ((x * 256 + y : Nat) : Int) := by
  have h1 : (BitVec.ofInt 64 ((x : Int) * 256)).toNat = x * 256 := by
    rw [show (x : Int) * 256 = ((x * 256 : Nat) : Int) by simp, BitVec.ofInt_natCast, BitVec.toNat_ofNat]; exact Nat.mod_eq_of_lt (by omega)
  have h2 : (BitVec.ofInt 64 (y : Int)).toNat = y := by
    rw [BitVec.ofInt_natCast, BitVec.toNat_ofNat]; exact Nat.mod_eq_of_lt (by omega)
  show IntKind.i64.wrap ((BitVec.ofInt 64 ((x : Int) * 256) ||| BitVec.ofInt 64 (y : Int)).toNat : Int) = _
  have h3 := Nat.shiftLeft_add_eq_or_of_lt (show y < 2 ^ 8 by omega) x
  rw [Nat.shiftLeft_eq] at h3
  rw [BitVec.toNat_or, h1, h2, ← h3, IntKind.wrap_i64]
  omega

set_option maxRecDepth 100000 in
set_option maxHeartbeats 2000000 in
theorem numat_any (b off : Nat) (l : Pl.Bs) (n c k : Nat) (z : Int) (hz : z = (k : Int)) (hn : l.length = n) (hk : k + 4 ≤ n) (hnc : n ≤ c) (hc : c ≤ maxLen) (w : World) (hI : ∀ (i : Nat) (hi : i < l.length), w.rangeAt b (off + i * 1) (u8L l[i])) :
    Calls Try.prog 63 #[.slice (some ⟨b, off, none⟩) n c, .int .i64 z] w fun e w' => e = .returned (.int .i64 ((Pl.num ((l.drop k).take 4) : Nat) : Int)) ∧ w' = w := by
  subst hz
  unfold maxLen at hc
  have HI := Lib.hid hI
  have HN := Lib.hid hn
  clear hI hn
  go_enter Try.func63, Try.ntmps63
  go_wp2
  go_loop [5, 14] (fun x i => ∃ q : Nat, q ≤ 4 ∧ i = .int .i64 q ∧ x = .int .i64 ((Pl.num ((l.drop k).take q) : Nat) : Int)) (fun _ i => 4 - (intOf i).toNat)
  case atStart => exact ⟨0, by omega, rfl, rfl⟩
  case round =>
    obtain ⟨q, hq, rfl, rfl⟩ := hrel
    by_cases hlt : q < 4
    · have hkl : k + q < l.length := by rw [HN.out]; omega
      have q0 : w.cell? ⟨b, off + k + q, none⟩ = some (.int .u8 (l[k + q].toNat : Int)) := by
        have := HI.out (k + q) hkl 0 _ rfl
        rw [Nat.mul_one, Nat.add_zero, ← Nat.add_assoc] at this
        exact this
      have hx : Pl.num ((l.drop k).take q) < 16777216 := by
        have h1 := Pl.num_lt ((l.drop k).take q) 0
        rw [List.length_take, List.length_drop, Nat.min_eq_left (by omega)] at h1
        have h2 : 256 ^ q ≤ 256 ^ 3 := Nat.pow_le_pow_right (by omega) (by omega)
        unfold Pl.num
        omega
      have hy : l[k + q].toNat < 256 := l[k + q].toNat_lt
      have HS : Hid (Pl.num ((l.drop k).take (q + 1)) = Pl.num ((l.drop k).take q) * 256 + l[k + q].toNat) := Lib.hid (by
        rw [Pl.num_take_succ _ q (by rw [List.length_drop]; omega)]
        simp)
      generalize Pl.num ((l.drop k).take q) = x at *
      generalize l[k + q].toNat = y at *
      clear hkl
      have HO := Lib.hid (or_i64 x y (by omega) hy)
      go_wp2
      go_round
      case rel => exact ⟨q + 1, by omega, by go_num, by rw [HS.out, ← HO.out]⟩
      case measure => simp [intOf]; omega
    · obtain rfl : q = 4 := by omega
      go_wp2
      go_ret
      exact ⟨rfl, rfl⟩

/-- the bytes hold nothing that belongs to the slot -/
def NoH (i : Nat) (l : Pl.Bs) : Prop := ¬ (8 ≤ l.length ∧ l.length ≤ 65544) ∨ (8 ≤ l.length ∧ l.length ≤ 65544) ∧ (Pl.num (l.take 4) ≠ l.length - 8 ∨ Pl.num (l.take 4) = l.length - 8 ∧ (¬ (1 ≤ Pl.hT l ∧ Pl.hT l ≤ 2147483647) ∨ (1 ≤ Pl.hT l ∧ Pl.hT l ≤ 2147483647) ∧ Pl.hT l % 2 ≠ i))
theorem noH_of {i : Nat} {l : Pl.Bs} (h : Pl.isH i l = false) : NoH i l := by
  rw [← Bool.not_eq_true, Pl.isH_iff] at h
  unfold NoH
  by_cases h1 : 8 ≤ l.length ∧ l.length ≤ 65544
  · refine .inr ⟨h1, ?_⟩
    by_cases h2 : Pl.num (l.take 4) = l.length - 8
    · refine .inr ⟨h2, ?_⟩
      by_cases h3 : 1 ≤ Pl.hT l ∧ Pl.hT l ≤ 2147483647
      · exact .inr ⟨h3, fun h4 => h ⟨h1.1, h1.2, h2, h3.1, h3.2, h4⟩⟩
      · exact .inl h3
    · exact .inl h2
  · exact .inl h1
theorem take4 (l : Pl.Bs) : (l.drop 0).take 4 = l.take 4 := rfl
theorem last4 {l : Pl.Bs} {k : Nat} (hk : k + 4 = l.length) : Pl.num ((l.drop k).take 4) = Pl.hT l := by
  unfold Pl.hT
  rw [List.take_of_length_le (by rw [List.length_drop]; omega), show l.length - 4 = k by omega]

set_option maxRecDepth 100000 in
set_option maxHeartbeats 4000000 in
theorem held_no (A : Option Addr) (l : Pl.Bs) (n c i : Nat) (hn : l.length = n) (hnc : n ≤ c) (hc : c ≤ maxLen) (w : World) (hI : Rows u8L 1 w A l) (hH : Pl.isH i l = false) :
    Calls Try.prog 47 #[.int .i64 (i : Nat), .slice A n c] w fun e w' => e = .returned (.tuple #[.slice none 0 0, .int .i64 0]) ∧ w' = w := by
  have h := noH_of hH
  have hc' := hc
  unfold maxLen at hc'
  have hn63 : (n : Int) ≤ 9223372036854775807 := by omega
  clear hH
  rcases h with h1 | ⟨h1, h⟩
  · have HW := Lib.hid (within_b ((n : Int) - 4 - 4) 0 65536 false (Pl.inB_false.2 (by omega)) w)
    clear h1 hI hn hc
    go_enter Try.func47, Try.ntmps47
    go_wp2_with fail
    refine HW.out.mono ?_
    rintro e w1 ⟨rfl, rfl⟩
    go_wp2
    go_ret2
    exact ⟨rfl, rfl⟩
  · obtain ⟨b, off, rfl, hb, hcl⟩ := hI.open (by omega)
    have HW := Lib.hid (within_b ((n : Int) - 4 - 4) 0 65536 true (Pl.inB_true.2 (by omega)) w)
    have HN0 := Lib.hid (numat_any b off l n c 0 0 rfl hn (by omega) hnc hc w hcl)
    rw [take4] at HN0
    have h8 : 8 ≤ n := by omega
    rcases h with h2 | ⟨h2, h⟩
    · have hne : (((Pl.num (l.take 4) : Nat) : Int) != (n : Int) - 4 - 4) = true := by simp; omega
      generalize Pl.num (l.take 4) = x at *
      clear h1 hcl hI hn hc h2
      go_enter Try.func47, Try.ntmps47
      go_wp2_with fail
      refine HW.out.mono ?_
      rintro e w1 ⟨rfl, rfl⟩
      go_wp2_with fail
      refine HN0.out.mono ?_
      rintro e w1 ⟨rfl, rfl⟩
      go_wp2
      go_ret2
      exact ⟨rfl, rfl⟩
    · have hne : (((Pl.num (l.take 4) : Nat) : Int) != (n : Int) - 4 - 4) = false := by simp; omega
      have HN4 := Lib.hid (numat_any b off l n c (n - 4) ((n : Int) - 4) (by omega) hn (by omega) hnc hc w hcl)
      rw [last4 (by omega)] at HN4
      rcases h with h3 | ⟨h3, h4⟩
      · have HV := Lib.hid (within_b ((Pl.hT l : Nat) : Int) 1 2147483647 false (Pl.inB_false.2 (by omega)) w)
        generalize Pl.num (l.take 4) = x at *
        generalize Pl.hT l = y at *
        clear h1 hcl hI hn hc h2 h3
        go_enter Try.func47, Try.ntmps47
        go_wp2_with fail
        refine HW.out.mono ?_
        rintro e w1 ⟨rfl, rfl⟩
        go_wp2_with fail
        refine HN0.out.mono ?_
        rintro e w1 ⟨rfl, rfl⟩
        go_wp2_with fail
        refine HN4.out.mono ?_
        rintro e w1 ⟨rfl, rfl⟩
        go_wp2_with fail
        refine HV.out.mono ?_
        rintro e w1 ⟨rfl, rfl⟩
        go_wp2
        go_ret2
        exact ⟨rfl, rfl⟩
      · have HV := Lib.hid (within_b ((Pl.hT l : Nat) : Int) 1 2147483647 true (Pl.inB_true.2 (by omega)) w)
        have HS := Lib.hid (slotof_any (Pl.hT l) w)
        have hni : (((Pl.hT l % 2 : Nat) : Int) != (i : Int)) = true := by simp; omega
        generalize Pl.num (l.take 4) = x at *
        generalize Pl.hT l % 2 = y2 at *
        generalize Pl.hT l = y at *
        clear h1 hcl hI hn hc h2 h3 h4
        go_enter Try.func47, Try.ntmps47
        go_wp2_with fail
        refine HW.out.mono ?_
        rintro e w1 ⟨rfl, rfl⟩
        go_wp2_with fail
        refine HN0.out.mono ?_
        rintro e w1 ⟨rfl, rfl⟩
        go_wp2_with fail
        refine HN4.out.mono ?_
        rintro e w1 ⟨rfl, rfl⟩
        go_wp2_with fail
        refine HV.out.mono ?_
        rintro e w1 ⟨rfl, rfl⟩
        go_wp2_with fail
        refine HS.out.mono ?_
        rintro e w1 ⟨rfl, rfl⟩
        go_wp2
        go_ret2
        exact ⟨rfl, rfl⟩

set_option maxRecDepth 100000 in
set_option maxHeartbeats 4000000 in
theorem held_yes (A : Option Addr) (l : Pl.Bs) (n c i : Nat) (hn : l.length = n) (hnc : n ≤ c) (hc : c ≤ maxLen) (w : World) (hI : Rows u8L 1 w A l) (hH : Pl.isH i l = true) :
    Calls Try.prog 47 #[.int .i64 (i : Nat), .slice A n c] w fun e w' => ∃ A', e = .returned (.tuple #[.slice (some A') (n - 8) (c - 4), .int .i64 ((Pl.hT l : Nat) : Int)]) ∧ Rows u8L 1 w (some A') (Pl.hI l) ∧ w' = w := by
  obtain ⟨h1, h1', h2, h3, h3', h4⟩ := Pl.isH_iff.1 hH
  have hc' := hc
  unfold maxLen at hc'
  have hn63 : (n : Int) ≤ 9223372036854775807 := by omega
  clear hH
  obtain ⟨b, off, rfl, hb, hcl⟩ := hI.open (by omega)
  have HW := Lib.hid (within_b ((n : Int) - 4 - 4) 0 65536 true (Pl.inB_true.2 (by omega)) w)
  have HN0 := Lib.hid (numat_any b off l n c 0 0 rfl hn (by omega) hnc hc w hcl)
  rw [take4] at HN0
  have h8 : 8 ≤ n := by omega
  have hne : (((Pl.num (l.take 4) : Nat) : Int) != (n : Int) - 4 - 4) = false := by simp; omega
  have HN4 := Lib.hid (numat_any b off l n c (n - 4) ((n : Int) - 4) (by omega) hn (by omega) hnc hc w hcl)
  rw [last4 (by omega)] at HN4
  have HV := Lib.hid (within_b ((Pl.hT l : Nat) : Int) 1 2147483647 true (Pl.inB_true.2 (by omega)) w)
  have HS := Lib.hid (slotof_any (Pl.hT l) w)
  have hni : (((Pl.hT l % 2 : Nat) : Int) != (i : Int)) = false := by simp; omega
  have HR : Hid (Rows u8L 1 w (some ⟨b, off + 4, none⟩) (Pl.hI l)) := Lib.hid (by
    refine .inr ⟨b, off + 4, rfl, hb, fun q hq => ?_⟩
    have hq' : q < n - 8 := by unfold Pl.hI at hq; rw [List.length_take, List.length_drop] at hq; omega
    have e1 : (Pl.hI l)[q] = l[4 + q]'(by omega) := by
      apply Option.some.inj
      rw [← List.getElem?_eq_getElem, ← List.getElem?_eq_getElem]
      unfold Pl.hI
      rw [List.getElem?_take_of_lt (by omega), List.getElem?_drop]
    rw [e1, show off + 4 + q * 1 = off + (4 + q) * 1 by omega]
    exact hcl (4 + q) (by omega))
  have hsl : (Instr.slice 29 (.slice (some ⟨b, off, none⟩) n c) (some (.int .i64 4)) (some (.int .i64 ((n : Int) - 4))) none).run Try.prog w = .ok (.slice (some ⟨b, off + 4, none⟩) (n - 8) (c - 4)) w := by
    have ht : Try.prog.underlying 29 = some (.slice (Try.prog.elem 29)) := by simp [Program.elem, Try.underlying29]
    rw [run_slice_lh w 29 _ _ _ ht .i64 .i64 _ _ (by omega) (by omega) (by omega)]
    have he : Try.prog.elem 29 = 5 := by simp [Program.elem, Try.underlying29]
    rw [he]
    have hz : (Go.sizeOf 5).run Try.prog w = .ok 1 w := by kernel_rfl
    rw [hz]
    have hne : ¬ c = 4 := by omega
    simp [Result.andThen, sliced, Addr.add, hne]
    omega
  generalize Pl.num (l.take 4) = x at *
  generalize Pl.hT l % 2 = y2 at *
  generalize Pl.hT l = y at *
  clear h1 hcl hI hn hc h2 h3 h4 hnc h1' h3' hc'
  go_enter Try.func47, Try.ntmps47
  go_wp2_with fail
  refine HW.out.mono ?_
  rintro e w1 ⟨rfl, rfl⟩
  go_wp2_with fail
  refine HN0.out.mono ?_
  rintro e w1 ⟨rfl, rfl⟩
  go_wp2_with fail
  refine HN4.out.mono ?_
  rintro e w1 ⟨rfl, rfl⟩
  go_wp2_with fail
  refine HV.out.mono ?_
  rintro e w1 ⟨rfl, rfl⟩
  go_wp2_with fail
  refine HS.out.mono ?_
  rintro e w1 ⟨rfl, rfl⟩
  go_wp2
  go_ret2
  exact ⟨_, rfl, HR.out, rfl⟩
end Go.Proofs.Ytalfffkcmddakab
