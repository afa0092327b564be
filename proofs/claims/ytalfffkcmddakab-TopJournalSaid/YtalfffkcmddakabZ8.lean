/- awake: the sanity check of the laws. -/
import Derived.Test.YtalfffkcmddakabZ7
import Derived.Lib.SmallJoins
namespace Go.Proofs.Ytalfffkcmddakab
open Go.RowKit Go.Shelf Go.Joins

theorem aw1 : Pl.svE Pl.dk0 (Pl.opn Pl.dk0) [97] = 0 := by decide +kernel
theorem aw2 : (Pl.svD Pl.dk0 (Pl.opn Pl.dk0) [97]).up = true := by decide +kernel
theorem aw3 : (Pl.opn (Pl.svD Pl.dk0 (Pl.opn Pl.dk0) [97])).t = 1 := by decide +kernel
theorem aw4 : (Pl.opn (Pl.svD Pl.dk0 (Pl.opn Pl.dk0) [97])).im = [97] := by decide +kernel
set_option maxRecDepth 100000 in
set_option maxHeartbeats 4000000 in
theorem awake_any (w : World) : Calls Try.prog 10 #[] w fun e w' => e = .returned (.bool true) ∧ Below w.heap.size w w' := by
  go_enter Try.func10, Try.ntmps10
  go_wp2_with fail
  refine (newdisk_any w).mono ?_
  rintro e w1 ⟨rfl, hD1, hB1⟩
  have HD1 : Hid (Dsk w1 w.heap.size Pl.dk0) := Lib.hid ⟨_, _, _, hD1⟩
  have hbl := hD1.blk.lt
  clear hD1
  have HO := Lib.hid (open_any HD1.out rfl)
  have hb0 := hB1.size
  generalize hb : w.heap.size = b at *
  go_wp2_with fail
  refine HO.out.mono ?_
  rintro e w2 ⟨rfl, hJ2, hb2⟩
  have HD2 := Lib.hid (HD1.out.below hb2)
  have HJ2 := Lib.hid hJ2
  have hB2 := hB1.trans (hb2.mono hb0)
  have hjl : w1.heap.size < w2.heap.size := by obtain ⟨v, h⟩ := hJ2; exact h.blk.lt
  clear HD1 hJ2 HO hb2 hB1
  have hcid := fun (n c : Nat) => run_convert_bytes_const_at w2 29 5 #[.int .u8 97] n c w2.heap.size rfl Try.underlying29 Try.underlying5
  simp only [show (#[Value.int .u8 97] : Array Value).size = 1 from rfl] at hcid
  have hA := (Below.refl w2.heap.size w2).alloc (Nat.le_refl _) (.cells #[.int .u8 97] 5 (1, 2))
  have hR : Rows u8L 1 (w2.alloc (.cells #[.int .u8 97] 5 (1, 2))) (some ⟨w2.heap.size, 0, none⟩) [97] := .inr ⟨w2.heap.size, 0, rfl, by simp, fun i hi j u hu => by
    obtain rfl : i = 0 := by simpa using hi
    have := cell_alloc_mark_at w2 #[.int .u8 97] 5 (1, 2) w2.heap.size (0 + 0 * 1 + j) rfl
    refine this.trans ?_
    rw [show 0 + 0 * 1 + j = j by omega]
    match j, hu with
    | 0, hu => exact hu
    | j + 1, hu => simp at hu⟩
  have HS := Lib.hid (save_any (HJ2.out.below hA) (HD2.out.below hA) (some ⟨w2.heap.size, 0, none⟩) [97] 1 1 rfl (Nat.le_refl _) (by unfold maxLen; omega) (fun h => by cases h) hR)
  rw [aw1] at HS
  have hbs2 : b ≤ w2.heap.size := by have := hB2.size; omega
  have hB3 := hB2.trans (hA.mono hbs2)
  have hbs3 : b ≤ (w2.alloc (.cells #[.int .u8 97] 5 (1, 2))).heap.size := by have := hB3.size; omega
  have hcid1 := hcid 1 1
  clear hcid
  have hs2 : w2.heap.size ≤ (w2.alloc (.cells #[.int .u8 97] 5 (1, 2))).heap.size := hA.size
  clear hR HJ2 HD2 hA hB2
  go_wp2_with fail
  refine (show Calls Try.prog 24 _ _ _ from HS.out).mono ?_
  rintro e w4 ⟨rfl, hD4, hJ4, hF4⟩
  have hB4 := hB3.trans (hF4.below (B := b) (by intro k hk; simp at hk; omega) hbs3)
  have hbs4 : b ≤ w4.heap.size := by have := hB4.size; omega
  have HO := Lib.hid (open_any hD4 aw2)
  clear hD4 hJ4 hF4 hB3 HS
  go_wp2_with fail
  refine HO.out.mono ?_
  rintro e w5 ⟨rfl, hJ5, hb5⟩
  have hB5 := hB4.trans (hb5.mono hbs4)
  have hbs5 : b ≤ w5.heap.size := by have := hB5.size; omega
  obtain ⟨v5, h5⟩ := hJ5
  have HT := Lib.hid (turn_any h5)
  have HI := Lib.hid (image_any h5 (by rw [aw4]; decide))
  rw [aw3] at HT
  rw [aw4] at HI
  clear h5 hb5 hB4 HO
  go_wp2_with fail
  refine (show Calls Try.prog 28 _ _ _ from HT.out).mono ?_
  rintro e w6 ⟨rfl, rfl⟩
  go_wp2_with fail
  refine (show Calls Try.prog 27 _ _ _ from HI.out).mono ?_
  rintro e w7 ⟨A, c, rfl, hR7, _, _, _, hb7⟩
  have hB7 := hB5.trans (hb7.mono hbs5)
  have hcv := conv_rows hR7 1 c rfl
  have hs : ((str [97]).toList == [97]) = true := by decide +kernel
  generalize str [97] = S at *
  clear hR7 HT HI
  go_wp2
  go_ret
  exact ⟨rfl, by rw [hb]; exact hB7⟩
end Go.Proofs.Ytalfffkcmddakab
