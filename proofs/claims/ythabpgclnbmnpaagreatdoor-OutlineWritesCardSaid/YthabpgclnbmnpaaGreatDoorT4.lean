/- The sum, in hexadecimal digits. -/
import Derived.Test.YthabpgclnbmnpaaGreatDoorT3
import Derived.Test.YthabpgclnbmnpaaGreatDoorB2
import Derived.Shelf.Spec.TrailingZeros
import Derived.Lib.LaidTab
import Derived.Lib.SmallJoins
namespace Go.Proofs.YthabpgclnbmnpaaGreatDoor
open Go.RowKit Go.Shelf Go.Sort Go.Lib

theorem tz_core (x k idx : Nat) (w : World) (hx0 : ((x : Int) == 0) = false)
    (key : IntKind.u64.wrap (bits BinOp.and IntKind.u64 (x : Int) (IntKind.u64.wrap (-(x : Int))) * 285870213051353865) / 288230376151711744 = (idx : Int))
    (hi : idx < 64) (hk : k < 64) (hcell : w.cell? ⟨6, idx, none⟩ = some (.int .u8 k)) :
    Calls Tryz.prog 106 #[.int .u64 x] w fun e w' => e = .returned (.int .i64 k) ∧ w' = w := by
  go_enter Tryz.func106, Tryz.ntmps106
  go_wp2_with (simp only [key])
  go_ret
  exact ⟨rfl, rfl⟩
theorem tz_sixteen (w : World) (hcell : w.cell? ⟨6, 15, none⟩ = some (.int .u8 4)) :
    Calls Tryz.prog 96 #[.int .u64 16] w fun e w' => e = .returned (.int .i64 4) ∧ w' = w := by
  have HC := Lib.hid (tz_core 16 4 15 w rfl (by decide +kernel) (by decide) (by decide) hcell)
  go_enter Tryz.func96, Tryz.ntmps96
  go_wp2_with fail
  refine HC.out.mono ?_
  rintro e w1 ⟨rfl, rfl⟩
  go_wp2_with fail
  go_ret
  exact ⟨rfl, rfl⟩
theorem pow_two (w : World) : Calls Tryz.prog 95 #[.int .i64 16] w fun e w' => e = .returned (.bool true) ∧ w' = w := by
  go_enter Tryz.func95, Tryz.ntmps95
  go_wp2_with fail
  go_ret
  exact ⟨rfl, rfl⟩
/-- the cells behind k digits -/
def Tx.cs (z : Array Value) (n : Nat) : Nat → Array Value
  | 0 => z
  | k + 1 => (Tx.cs z n k).setIfInBounds (64 - k) (.int .u8 (Tx.lx (n / 16 ^ k % 16)).toNat)
theorem cs_size (z : Array Value) (n k : Nat) : (Tx.cs z n k).size = z.size := by
  induction k with
  | zero => rfl
  | succ k ih => unfold Tx.cs; rw [Array.size_setIfInBounds, ih]
theorem cs_at (z : Array Value) (hz : z.size = 65) (n : Nat) : ∀ (k m : Nat), m < k → k ≤ 64 → (Tx.cs z n k)[64 - m]? = some (.int .u8 (Tx.lx (n / 16 ^ m % 16)).toNat)
  | 0, m, h, _ => by omega
  | k + 1, m, h, h64 => by
    unfold Tx.cs
    by_cases e : m = k
    · subst e
      rw [Array.getElem?_setIfInBounds_self_of_lt (by rw [cs_size]; omega)]
    · rw [Array.getElem?_setIfInBounds_ne (by omega)]
      exact cs_at z hz n k m (by omega) (by omega)
theorem and15 (n : Nat) (h : n < 65536) : bits .and .u64 (n : Int) 15 = ((n % 16 : Nat) : Int) := by
  rw [show (15 : Int) = ((15 : Nat) : Int) from rfl, bits_and_u64_nat n 15 (by omega) (by omega), show 15 = 2 ^ 4 - 1 from rfl, Nat.and_two_pow_sub_one_eq_mod]
def Tx.ldig : ByteArray := ⟨#[48, 49, 50, 51, 52, 53, 54, 55, 56, 57, 97, 98, 99, 100, 101, 102, 103, 104, 105, 106, 107, 108, 109, 110, 111, 112, 113, 114, 115, 116, 117, 118, 119, 120, 121, 122]⟩
theorem ldig_at (m : Nat) (h : m < 16) (h' : m < Tx.ldig.size) : Tx.ldig[m] = Tx.lx m := by
  have h1 : ∀ m : Fin 16, Tx.ldig.data[m.val]? = some (Tx.lx m.val) := by decide +kernel
  have h2 := h1 ⟨m, h⟩
  have h3 : Tx.ldig.data[m]? = some (Tx.ldig.data[m]'h') := Array.getElem?_eq_getElem h'
  exact Option.some.inj (h3.symm.trans h2)
theorem nums_all (l : List UInt8) : strOfNums (l.map fun b => (b.toNat : Int)) = ⟨l.toArray⟩ := by
  apply ByteArray.ext
  apply Array.toList_inj.1
  rw [strOfNums_data, List.map_map]
  show _ = l
  exact (List.map_congr_left (g := id) (fun x _ => by simp)).trans (List.map_id l)
theorem slice_arr (b k : Nat) (hk : k ≤ 64) (w : World) : (Instr.sliceAt 116 (.pointer (some ⟨b, 0, none⟩)) (some (.int .i64 (65 - (k : Int) - 1))) none none).run Tryz.prog w = .ok (.slice (some ⟨b, 64 - k, none⟩) (k + 1) (k + 1)) w := by
  have ha : Tryz.prog.arrayLen 116 = 65 := by kernel_rfl
  have he : Tryz.prog.elem 116 = 5 := by kernel_rfl
  have ht : Tryz.prog.underlying 116 = some (.array (Tryz.prog.arrayLen 116) (Tryz.prog.elem 116)) := by rw [ha, he]; kernel_rfl
  rw [run_sliceAt_array_l w 116 ⟨b, 0, none⟩ ht .i64 (65 - (k : Int) - 1) (by omega) (by rw [ha]; omega), he]
  have hs : (sizeOf 5).run Tryz.prog w = .ok 1 w := by kernel_rfl
  rw [hs]
  unfold slicedAt
  rw [ha]
  rw [show (65 - (k : Int) - 1).toNat = 64 - k by omega, show 65 - (64 - k) = k + 1 by omega]
  simp only [Result.andThen]
  rw [if_neg (by omega)]
  simp [Addr.add]
  intro h
  omega
theorem hexl_at (n k : Nat) (hn : n < 65536) (hk : k ≤ 3) (h : n / 16 ^ k < 16) (hp : 0 < k → 16 ≤ n / 16 ^ (k - 1)) : Tx.hexl n = (List.range (k + 1)).map fun j => Tx.lx (n / 16 ^ (k - j) % 16) := by
  unfold Tx.hexl
  have h4 : k = 0 ∨ k = 1 ∨ k = 2 ∨ k = 3 := by omega
  rcases h4 with rfl | rfl | rfl | rfl
  · simp only [Nat.pow_zero, Nat.div_one] at h
    rw [if_pos h]
    simp [List.range_succ, Nat.mod_eq_of_lt h]
  · have hp := hp (by omega)
    simp at h hp
    rw [if_neg (by omega), if_pos (by omega)]
    simp [List.range_succ, Nat.mod_eq_of_lt h]
  · have hp := hp (by omega)
    simp at h hp
    rw [if_neg (by omega), if_neg (by omega), if_pos (by omega)]
    simp [List.range_succ, Nat.mod_eq_of_lt h]
  · have hp := hp (by omega)
    simp at h hp
    rw [if_neg (by omega), if_neg (by omega), if_neg (by omega)]
    simp [List.range_succ, Nat.mod_eq_of_lt h]
set_option maxRecDepth 100000 in
set_option maxHeartbeats 4000000 in
theorem bits_any (n : Nat) (hn : n < 65521) (w : World) (hcell : ∀ w', Below w.heap.size w w' → w'.cell? ⟨6, 15, none⟩ = some (.int .u8 4)) :
    Calls Tryz.prog 75 #[.slice none 0 0, .int .u64 n, .int .i64 16, .bool false, .bool false] w fun e w' => e = .returned (.tuple #[.slice none 0 0, .string ⟨(Tx.hexl n).toArray⟩]) ∧ Below w.heap.size w w' := by
  have HN := Lib.hid hn
  have HT := Lib.hid (fun w' h => tz_sixteen w' (hcell w' h))
  have HP := Lib.hid pow_two
  have hB := (Below.refl w.heap.size w).alloc (Nat.le_refl _) (.cells Tryz.zeroCells116 116)
  have bF := Blk.new w 116 Tryz.zeroCells116
  clear hn hcell
  go_enter Tryz.func75, Tryz.ntmps75
  go_wp2_with fail
  refine (HP.out _).mono ?_
  rintro e w1 ⟨rfl, rfl⟩
  go_wp2_with fail
  refine (HT.out _ hB).mono ?_
  rintro e w1 ⟨rfl, rfl⟩
  have HB := Lib.hid hB
  have HF := Lib.hid bF
  change Hid (Below w.heap.size w (w.alloc (.cells Tryz.zeroCells116 116))) at HB
  change Hid (Blk (w.alloc (.cells Tryz.zeroCells116 116)) w.heap.size 116 Tryz.zeroCells116) at HF
  clear hB bF
  have HZ : Hid (Tryz.zeroCells116.size = 65) := Lib.hid (by decide +kernel)
  generalize w.alloc (.cells Tryz.zeroCells116 116) = W at *
  generalize Tryz.zeroCells116 = z at *
  go_wp2_with fail
  go_loopw [1, 13] (fun u i wr => ∃ k : Nat, k ≤ 3 ∧ u = .int .u64 (n / 16 ^ k : Nat) ∧ i = .int .i64 (65 - k : Int) ∧ Below w.heap.size w wr ∧ Blk wr w.heap.size 116 (Tx.cs z n k) ∧ (0 < k → 16 ≤ n / 16 ^ (k - 1))) (fun u _ _ => (RowKit.intOf u).toNat)
  case atStart => exact ⟨0, by omega, by rw [Nat.pow_zero, Nat.div_one], rfl, HB.out, HF.out, by omega⟩
  case round =>
    obtain ⟨k, hk, rfl, rfl, hb, hF, hp⟩ := hrel
    have HQ : Hid (k = 3 → n / 16 ^ k < 16) := Lib.hid (by rintro rfl; have := HN.out; omega)
    have HQ2 : Hid (n / 16 ^ (k + 1) = n / 16 ^ k / 16) := Lib.hid (by rw [Nat.div_div_eq_div_mul, Nat.pow_succ])
    have HQ3 : Hid (n / 16 ^ k ≤ n) := Lib.hid (Nat.div_le_self _ _)
    have HCS : Hid (Tx.cs z n (k + 1) = (Tx.cs z n k).setIfInBounds (64 - k) (.int .u8 (Tx.lx (n / 16 ^ k % 16)).toNat)) := Lib.hid rfl
    have HE : Hid (n / 16 ^ k < 16 → Tx.hexl n = (List.range (k + 1)).map fun j => Tx.lx (n / 16 ^ (k - j) % 16)) := Lib.hid (fun h => hexl_at n k (by have := HN.out; omega) hk h hp)
    have HN2 := Lib.hid (show n < 65521 from HN.out)
    have HB := Lib.hid hb
    have HF := Lib.hid hF
    have HP := Lib.hid hp
    have hfr := hF.frozen
    have hbl : w.heap.size < wr.heap.size := hF.lt
    clear hb hF hp
    generalize hq : n / 16 ^ k = q at *
    by_cases h16 : 16 ≤ q
    · have hI : 16 ≤ (q : Int) := by omega
      have hA := and15 q (by have := HN2.out; have := HQ3.out; omega)
      have hk2 : k ≤ 2 := by
        rcases Nat.lt_or_ge k 3 with h | h
        · omega
        · have := HQ.out (by omega); omega
      have hd := ldig_at (q % 16) (by omega)
      unfold Tx.ldig at hd
      obtain ⟨v0, hcl⟩ : ∃ v, wr.cell? ⟨w.heap.size, 65 - k - 1, none⟩ = some v := ⟨_, (HF.out.cell _).trans (Array.getElem?_eq_getElem (by rw [cs_size, HZ.out]; omega))⟩
      go_wp2_with fail
      go_round
      case rel =>
        refine ⟨k + 1, by omega, ?_, ?_, ?_, ?_, ?_⟩
        · rw [HQ2.out]; rfl
        · exact congrArg (Value.int .i64) (by omega)
        · exact HB.out.setCell (Nat.le_refl _) _
        · rw [HCS.out, show 64 - k = 65 - k - 1 by omega]; exact HF.out.set_ _ _
        · intro _; rw [Nat.add_sub_cancel, hq]; exact h16
      case measure => simp only [RowKit.intOf]; omega
    · have hI : decide (16 ≤ (q : Int)) = false := by simp; omega
      have hd := ldig_at q (by omega)
      unfold Tx.ldig at hd
      obtain ⟨v0, hcl⟩ : ∃ v, wr.cell? ⟨w.heap.size, 65 - k - 1, none⟩ = some v := ⟨_, (HF.out.cell _).trans (Array.getElem?_eq_getElem (by rw [cs_size, HZ.out]; omega))⟩
      have HCV : Hid ((convert 36 9 (.slice (some ⟨w.heap.size, 64 - k, none⟩) (k + 1) (k + 1))).run Tryz.prog (wr.setCell ⟨w.heap.size, 65 - k - 1, none⟩ (.int .u8 (Tx.lx q).toNat)) = .ok (.string ⟨(Tx.hexl n).toArray⟩) (wr.setCell ⟨w.heap.size, 65 - k - 1, none⟩ (.int .u8 (Tx.lx q).toNat))) := Lib.hid (by
        have hF2 : Blk (wr.setCell ⟨w.heap.size, 65 - k - 1, none⟩ (.int .u8 (Tx.lx q).toNat)) w.heap.size 116 (Tx.cs z n (k + 1)) := by
          have := HF.out.set_ (65 - k - 1) (.int .u8 (Tx.lx q).toNat)
          rw [HCS.out, show 64 - k = 65 - k - 1 by omega, show q % 16 = q by omega]; exact this
        rw [HE.out (by omega)]
        have h := run_convert_bytes_arg (P := Tryz.prog) (wr.setCell ⟨w.heap.size, 65 - k - 1, none⟩ (.int .u8 (Tx.lx q).toNat)) 36 5 Tryz.underlying36 Tryz.underlying5 w.heap.size (64 - k) (k + 1) (k + 1) ((List.range (k + 1)).map fun j => ((Tx.lx (n / 16 ^ (k - j) % 16)).toNat : Int)) (by simp) (fun i hi => by
          have hc := cs_at z HZ.out n (k + 1) (k - i) (by omega) (by omega)
          rw [show 64 - (k - i) = 64 - k + i by omega] at hc
          rw [hF2.cell, hc]
          simp only [List.getD_eq_getElem?_getD, List.getElem?_map]
          rw [List.getElem?_range (by omega)]
          rfl) 9 Tryz.underlying9
        rw [h, ← nums_all, List.map_map]
        rfl)
      have hsl := slice_arr w.heap.size k (by omega) (wr.setCell ⟨w.heap.size, 65 - k - 1, none⟩ (.int .u8 (Tx.lx q).toNat))
      have hcv := HCV.out
      clear HCV
      go_wp2_with fail
      go_ret2
      exact ⟨rfl, HB.out.setCell (Nat.le_refl _) _⟩
set_option maxRecDepth 100000 in
set_option maxHeartbeats 1000000 in
theorem fint_in (n : Nat) (hn : n < 65521) (w : World) (hcell : ∀ w', Below w.heap.size w w' → w'.cell? ⟨6, 15, none⟩ = some (.int .u8 4)) :
    Calls Tryz.prog 52 #[.int .i64 n, .int .i64 16] w fun e w' => e = .returned (.string ⟨(Tx.hexl n).toArray⟩) ∧ Below w.heap.size w w' := by
  have HC := Lib.hid (bits_any n hn w hcell)
  have hI : decide ((n : Int) < 0) = false := by simp
  have hW : IntKind.u64.wrap (n : Int) = (n : Int) := by rw [IntKind.wrap_u64]; omega
  clear hn hcell
  go_enter Tryz.func52, Tryz.ntmps52
  go_wp2_with fail
  refine HC.out.mono ?_
  rintro e w1 ⟨rfl, hb⟩
  go_wp2_with fail
  go_ret
  exact ⟨rfl, hb⟩
set_option maxRecDepth 100000 in
set_option maxHeartbeats 1000000 in
theorem fint_any (n : Nat) (hn : n < 65521) (w : World) (hcell : ∀ w', Below w.heap.size w w' → w'.cell? ⟨6, 15, none⟩ = some (.int .u8 4)) :
    Calls Tryz.prog 37 #[.int .i64 n, .int .i64 16] w fun e w' => e = .returned (.string ⟨(Tx.hexl n).toArray⟩) ∧ Below w.heap.size w w' := by
  have HC := Lib.hid (fint_in n hn w hcell)
  clear hn hcell
  go_enter Tryz.func37, Tryz.ntmps37
  go_wp2_with fail
  refine HC.out.mono ?_
  rintro e w1 ⟨rfl, hb⟩
  go_wp2_with fail
  go_ret
  exact ⟨rfl, hb⟩
end Go.Proofs.YthabpgclnbmnpaaGreatDoor
