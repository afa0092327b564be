/- The least element of a set and how many it has: math/bits.TrailingZeros64, OnesCount64; count, precedes. -/
import Derived.Test.YtghbipipehglfaaDoorP10
import Derived.Test.YtghbipipehglfaaDoorB7
import Derived.Shelf.Spec.TrailingZeros
namespace Go.Proofs.YtghbipipehglfaaDoor
open Go.RowKit Go.Shelf

/-- the table of TrailingZeros64 lies in its variable -/
def Tab (W : World) : Prop := 0 < W.heap.size ∧ TabAt 0 Lib.deBruijn64tab W
theorem Tab.below {W W' : World} (h : Tab W) (hb : Below W.heap.size W W') : Tab W' :=
  ⟨Nat.lt_of_lt_of_le h.1 hb.size, fun j hj => (hb.cell (p := ⟨0, j, none⟩) h.1).trans (h.2 j hj)⟩

set_option maxHeartbeats 1000000 in
theorem tz_core (x k idx : Nat) (w : World) (hx0 : ((x : Int) == 0) = false)
    (key : IntKind.u64.wrap (bits BinOp.and IntKind.u64 (x : Int) (IntKind.u64.wrap (-(x : Int))) * 285870213051353865) / 288230376151711744 = (idx : Int))
    (hi : idx < 64) (hk : k < 64) (hcell : w.cell? ⟨0, idx, none⟩ = some (.int .u8 k)) :
    Calls Tryd.prog 91 #[.int .u64 x] w fun e w' => e = .returned (.int .i64 k) ∧ w' = w := by
  go_enter Tryd.func91, Tryd.ntmps91
  go_wp2_with (simp only [key])
  go_ret
  exact ⟨rfl, rfl⟩
theorem tz_any (x : Nat) (hx : x < 2 ^ 64) (h0 : x ≠ 0) (w : World) (hT : Tab w) :
    Calls Tryd.prog 91 #[.int .u64 x] w fun e w' => e = .returned (.int .i64 (Lib.ctz 64 x)) ∧ w' = w := by
  have hx' : x < 18446744073709551616 := by omega
  obtain ⟨hlow, hk⟩ := Lib.lowest_bit 64 x h0 hx
  obtain ⟨hi, htab⟩ := Lib.deBruijn64_at _ hk
  have hcell := hT.2 _ hi
  rw [htab] at hcell
  exact tz_core x _ _ w (by simp; omega) (tz64_key x _ hx' h0 hlow) hi hk hcell

theorem wrap_u64_nat {n : Nat} (h : n < 2 ^ 64) : IntKind.u64.wrap (n : Int) = (n : Int) := by
  rw [IntKind.wrap_u64]; omega
theorem ones_eqs (x : Nat) (hx : x < 2 ^ 40) : ∃ a b c d e f : Nat,
    IntKind.u64.wrap (bits .and .u64 ((x : Int) / 2) 6148914691236517205 + bits .and .u64 (x : Int) 6148914691236517205) = (a : Int) ∧
    IntKind.u64.wrap (bits .and .u64 ((a : Int) / 4) 3689348814741910323 + bits .and .u64 (a : Int) 3689348814741910323) = (b : Int) ∧
    bits .and .u64 (IntKind.u64.wrap ((b : Int) / 16 + (b : Int))) 1085102592571150095 = (c : Int) ∧
    IntKind.u64.wrap ((c : Int) + (c : Int) / 256) = (d : Int) ∧
    IntKind.u64.wrap ((d : Int) + (d : Int) / 65536) = (e : Int) ∧
    IntKind.u64.wrap ((e : Int) + (e : Int) / 4294967296) = (f : Int) ∧ f < 2 ^ 42 ∧ f % 128 = Pl.cnt x := by
  obtain ⟨y, h3, hy, hend⟩ := Pl.pc_end x hx
  have m1 : Pl.mk 85 8 = 6148914691236517205 := by decide
  have m2 : Pl.mk 51 8 = 3689348814741910323 := by decide
  have m3 : Pl.mk 15 8 = 1085102592571150095 := by decide
  have b1 : ∀ (u m : Nat), u < 2 ^ 62 → m < 2 ^ 64 → bits .and .u64 (u : Int) (m : Int) = ((u &&& m : Nat) : Int) := fun u m hu hm => bits_and_u64_nat u m (by omega) (by omega)
  have le : ∀ (u m : Nat), u &&& m ≤ u := fun u m => Nat.and_le_left
  rw [m1, m2, m3] at h3
  unfold Pl.t3 Pl.t2 Pl.t1 at h3
  have l1 := le (x / 2) 6148914691236517205
  have l2 := le x 6148914691236517205
  obtain ⟨a, ha⟩ : ∃ a, a = (x / 2 &&& 6148914691236517205) + (x &&& 6148914691236517205) := ⟨_, rfl⟩
  rw [← ha] at h3
  have l3 := le (a / 4) 3689348814741910323
  have l4 := le a 3689348814741910323
  obtain ⟨b, hb⟩ : ∃ b, b = (a / 4 &&& 3689348814741910323) + (a &&& 3689348814741910323) := ⟨_, rfl⟩
  rw [← hb] at h3
  obtain ⟨d, hd⟩ : ∃ d, d = y + y / 256 := ⟨_, rfl⟩
  obtain ⟨e, he⟩ : ∃ e, e = d + d / 65536 := ⟨_, rfl⟩
  obtain ⟨f, hff⟩ : ∃ f, f = e + e / 4294967296 := ⟨_, rfl⟩
  obtain ⟨hc, hf⟩ := hend d e f hd he hff
  refine ⟨a, b, y, d, e, f, ?_, ?_, ?_, ?_, ?_, ?_, hf, hc⟩
  · have e1 := b1 (x / 2) 6148914691236517205 (by omega) (by omega)
    have e2 := b1 x 6148914691236517205 (by omega) (by omega)
    rw [show ((x : Int) / 2) = ((x / 2 : Nat) : Int) by omega]
    rw [show (6148914691236517205 : Int) = ((6148914691236517205 : Nat) : Int) from rfl, e1, e2, IntKind.wrap_u64]
    omega
  · have e1 := b1 (a / 4) 3689348814741910323 (by omega) (by omega)
    have e2 := b1 a 3689348814741910323 (by omega) (by omega)
    rw [show ((a : Int) / 4) = ((a / 4 : Nat) : Int) by omega]
    rw [show (3689348814741910323 : Int) = ((3689348814741910323 : Nat) : Int) from rfl, e1, e2, IntKind.wrap_u64]
    omega
  · rw [show IntKind.u64.wrap ((b : Int) / 16 + (b : Int)) = ((b / 16 + b : Nat) : Int) by rw [IntKind.wrap_u64]; omega]
    rw [show (1085102592571150095 : Int) = ((1085102592571150095 : Nat) : Int) from rfl, b1 _ _ (by omega) (by omega), h3]
  · rw [IntKind.wrap_u64]; omega
  · rw [IntKind.wrap_u64]; omega
  · rw [IntKind.wrap_u64]; omega
theorem and127 (f : Nat) (hf : f < 2 ^ 42) : bits .and .i64 (f : Int) 127 = ((f % 128 : Nat) : Int) := by
  have h1 : (BitVec.ofInt 64 (f : Int)).toNat = f := by
    rw [BitVec.ofInt_natCast, BitVec.toNat_ofNat]; exact Nat.mod_eq_of_lt (by omega)
  have h2 : (BitVec.ofInt 64 (127 : Int)).toNat = 127 := by decide
  show IntKind.i64.wrap ((BitVec.ofInt 64 (f : Int) &&& BitVec.ofInt 64 (127 : Int)).toNat : Int) = _
  rw [BitVec.toNat_and, h1, h2, show 127 = 2 ^ 7 - 1 from rfl, Nat.and_two_pow_sub_one_eq_mod, IntKind.wrap_i64]
  omega

set_option maxRecDepth 100000 in
set_option maxHeartbeats 2000000 in
theorem ones_any (x : Nat) (hx : x < 2 ^ 40) (w : World) :
    Calls Tryd.prog 84 #[.int .u64 x] w fun e w' => e = .returned (.int .i64 (Pl.cnt x)) ∧ w' = w := by
  obtain ⟨a, b, c, d, e, f, k1, k2, k3, k4, k5, k6, hf, hc⟩ := ones_eqs x hx
  have k7 : bits .and .i64 (f : Int) 127 = (Pl.cnt x : Int) := by rw [and127 f hf, hc]
  generalize Pl.cnt x = N at *
  clear hc hx
  go_enter Tryd.func84, Tryd.ntmps84
  go_wp2
  go_ret
  exact ⟨rfl, rfl⟩

set_option maxHeartbeats 1000000 in
theorem count_any (x : Nat) (hx : x < 2 ^ 40) (w : World) :
    Calls Tryd.prog 58 #[.int .u64 x] w fun e w' => e = .returned (.int .i64 (Pl.cnt x)) ∧ w' = w := by
  have H := Lib.hid (ones_any x hx w)
  clear hx
  generalize Pl.cnt x = N at *
  go_enter Tryd.func58, Tryd.ntmps58
  go_wp2_with fail
  refine H.out.mono ?_
  rintro e w' ⟨rfl, hw'⟩
  obtain rfl : w = w' := hw'.symm
  go_wp2
  go_ret
  exact ⟨rfl, rfl⟩

/-- what precedes tests of two sets with as many elements -/
theorem prec_bits (s t : Nat) (hs : s < 2 ^ 40) (ht : t < 2 ^ 40) : ∃ d : Nat, bits .xor .u64 (s : Int) (t : Int) = (d : Int) ∧
    (bits .and .u64 (bits .and .u64 (s : Int) (d : Int)) (IntKind.u64.wrap (-(d : Int))) != 0) = (decide (s ^^^ t ≠ 0) && s.testBit (Lib.ctz 64 (s ^^^ t))) := by
  have hx : s ^^^ t < 2 ^ 40 := Nat.xor_lt_two_pow hs ht
  refine ⟨s ^^^ t, ?_, ?_⟩
  · have h1 : (BitVec.ofInt 64 (s : Int)).toNat = s := by
      rw [BitVec.ofInt_natCast, BitVec.toNat_ofNat]; exact Nat.mod_eq_of_lt (by omega)
    have h2 : (BitVec.ofInt 64 (t : Int)).toNat = t := by
      rw [BitVec.ofInt_natCast, BitVec.toNat_ofNat]; exact Nat.mod_eq_of_lt (by omega)
    show IntKind.u64.wrap ((BitVec.ofInt 64 (s : Int) ^^^ BitVec.ofInt 64 (t : Int)).toNat : Int) = _
    rw [BitVec.toNat_xor, h1, h2, IntKind.wrap_u64]
    omega
  · generalize s ^^^ t = d at *
    have hsd : s &&& d ≤ s := Nat.and_le_left
    rw [bits_and_u64_nat s d (by omega) (by omega)]
    by_cases h0 : d = 0
    · subst h0
      simp
      decide
    · rw [show IntKind.u64.wrap (-(d : Int)) = ((18446744073709551616 - d : Nat) : Int) by rw [IntKind.wrap_u64]; omega, bits_and_u64_nat _ _ (by omega) (by omega), Nat.and_assoc]
      obtain ⟨hlow, hk⟩ := Lib.lowest_bit 64 d h0 (by omega)
      have hlow' : d &&& (18446744073709551616 - d) = 2 ^ Lib.ctz 64 d := hlow
      rw [hlow']
      have e : s &&& 2 ^ Lib.ctz 64 d = if s.testBit (Lib.ctz 64 d) = true then 2 ^ Lib.ctz 64 d else 0 := by
        refine Nat.eq_of_testBit_eq fun i => ?_
        rw [Nat.testBit_and, Nat.testBit_two_pow]
        by_cases h : Lib.ctz 64 d = i
        · subst h
          split <;> simp_all
        · split <;> simp [h]
      rw [e, decide_eq_true h0, Bool.true_and]
      have := Nat.two_pow_pos (Lib.ctz 64 d)
      cases s.testBit (Lib.ctz 64 d) with
      | true => rw [if_pos rfl, bne_iff_ne]; omega
      | false => rw [if_neg (by decide)]; rfl

set_option maxRecDepth 100000 in
set_option maxHeartbeats 2000000 in
theorem precedes_any (s t : Nat) (hs : s < 2 ^ 40) (ht : t < 2 ^ 40) (w : World) :
    Calls Tryd.prog 86 #[.int .u64 s, .int .u64 t] w fun e w' => e = .returned (.bool (Pl.prec s t)) ∧ w' = w := by
  have H1 := Lib.hid (count_any s hs w)
  have H2 := Lib.hid (count_any t ht w)
  obtain ⟨d, k1, k2⟩ := prec_bits s t hs ht
  by_cases hc : Pl.cnt s = Pl.cnt t
  · have HP : Hid (Pl.prec s t = (decide (s ^^^ t ≠ 0) && s.testBit (Lib.ctz 64 (s ^^^ t)))) := Lib.hid (if_pos hc)
    rw [hc] at H1
    have hn : ((Pl.cnt t : Int) != (Pl.cnt t : Int)) = false := by simp
    rw [← HP.out] at k2
    clear hc HP
    generalize Pl.prec s t = P at *
    generalize Pl.cnt t = N at *
    go_enter Tryd.func86, Tryd.ntmps86
    go_wp2_with (first | (go_at_call 58; refine H1.out.mono ?_; rintro e w' ⟨rfl, hw'⟩; obtain rfl : w = w' := hw'.symm) | (go_at_call 58; refine H2.out.mono ?_; rintro e w' ⟨rfl, hw'⟩; obtain rfl : w = w' := hw'.symm))
    go_ret
    exact ⟨rfl, rfl⟩
  · have HP : Hid (Pl.prec s t = decide (Pl.cnt s < Pl.cnt t)) := Lib.hid (if_neg hc)
    have hn : ((Pl.cnt s : Int) != (Pl.cnt t : Int)) = true := bne_iff_ne.2 (by omega)
    clear k1 k2
    generalize Pl.prec s t = P at *
    generalize Pl.cnt t = N at *
    generalize Pl.cnt s = M at *
    go_enter Tryd.func86, Tryd.ntmps86
    go_wp2_with (first | (go_at_call 58; refine H1.out.mono ?_; rintro e w' ⟨rfl, hw'⟩; obtain rfl : w = w' := hw'.symm) | (go_at_call 58; refine H2.out.mono ?_; rintro e w' ⟨rfl, hw'⟩; obtain rfl : w = w' := hw'.symm))
    go_ret
    refine ⟨?_, rfl⟩
    rw [HP.out]
    simp
end Go.Proofs.YtghbipipehglfaaDoor
