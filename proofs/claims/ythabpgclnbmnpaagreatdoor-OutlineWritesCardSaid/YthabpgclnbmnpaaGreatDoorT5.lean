/- The sum of a text, both. -/
import Derived.Test.YthabpgclnbmnpaaGreatDoorT4
import Derived.BigRegion
namespace Go.Proofs.YthabpgclnbmnpaaGreatDoor
open Go.RowKit Go.Shelf

theorem up_lx (k : Nat) (h : k < 16) : Lib.upperB (Tx.lx k) = Tx.hx k := by
  have : ∀ k : Fin 16, Lib.upperB (Tx.lx k.val) = Tx.hx k.val := by decide +kernel
  exact this ⟨k, h⟩
theorem lx_low (k : Nat) (h : k < 16) : (Tx.lx k).toNat < 128 := by
  have : ∀ k : Fin 16, (Tx.lx k.val).toNat < 128 := by decide +kernel
  exact this ⟨k, h⟩
/-- the digits in capitals -/
def Tx.hexu (n : Nat) : List UInt8 := Lib.toUpperA (Tx.hexl n)
theorem hexl_low (n : Nat) (hn : n < 65536) (b : UInt8) (hb : b ∈ Tx.hexl n) : b.toNat < 128 := by
  unfold Tx.hexl at hb
  split at hb
  · simp at hb; subst hb; exact lx_low _ (by omega)
  · split at hb
    · simp at hb; rcases hb with rfl | rfl <;> exact lx_low _ (by omega)
    · split at hb
      · simp at hb; rcases hb with rfl | rfl | rfl <;> exact lx_low _ (by omega)
      · simp at hb; rcases hb with rfl | rfl | rfl | rfl <;> exact lx_low _ (by omega)
theorem hexu_len {n : Nat} : (Tx.hexu n).length = (Tx.hexl n).length := by unfold Tx.hexu Lib.toUpperA; simp
theorem hexu_four (n : Nat) (hn : n < 65536) : (48 :: 48 :: 48 :: Tx.hexu n).drop ((Tx.hexu n).length - 1) = Tx.hex4 n := by
  have h0 : Tx.hx 0 = 48 := rfl
  unfold Tx.hexu Tx.hexl Tx.hex4 Lib.toUpperA
  split
  · rename_i h
    simp only [List.map_cons, List.map_nil, List.length_cons, List.length_nil, List.drop_zero, Nat.zero_add, Nat.sub_self]
    rw [up_lx _ h, Nat.div_eq_of_lt (by omega), Nat.div_eq_of_lt (by omega : n < 256), Nat.div_eq_of_lt h, Nat.mod_eq_of_lt h, Nat.zero_mod, h0]
  · split
    · rename_i h1 h
      simp only [List.map_cons, List.map_nil, List.length_cons, List.length_nil]
      rw [up_lx _ (by omega), up_lx _ (by omega), Nat.div_eq_of_lt (by omega : n < 4096), Nat.div_eq_of_lt (by omega : n < 256), Nat.mod_eq_of_lt (by omega : n / 16 < 16), Nat.zero_mod, h0]
      rfl
    · split
      · rename_i h1 h2 h
        simp only [List.map_cons, List.map_nil, List.length_cons, List.length_nil]
        rw [up_lx _ (by omega), up_lx _ (by omega), up_lx _ (by omega), Nat.div_eq_of_lt (by omega : n < 4096), Nat.mod_eq_of_lt (by omega : n / 256 < 16), h0]
        rfl
      · rename_i h1 h2 h
        simp only [List.map_cons, List.map_nil, List.length_cons, List.length_nil]
        rw [up_lx _ (by omega), up_lx _ (by omega), up_lx _ (by omega), up_lx _ (by omega)]
        rfl
theorem sum_step (s : ByteArray) (k : Nat) (h : k < s.size) : Tx.sumN ((Tx.byt s).take (k + 1)) = (Tx.sumN ((Tx.byt s).take k) * 31 + s[k].toNat) % 65521 := by
  have hl : (Tx.byt s)[k]? = some s[k] := by rw [← byt_at s k h, List.getElem?_eq_getElem (by rw [Tx.byt_len]; exact h)]
  unfold Tx.sumN
  rw [List.take_add_one, hl, List.foldl_append]
  rfl
theorem drop_str (l : List UInt8) (m : Nat) : (⟨l.toArray⟩ : ByteArray).extract m l.length = ⟨(l.drop m).toArray⟩ := by
  apply ByteArray.ext
  rw [ByteArray.data_extract]
  apply Array.toList_inj.1
  simp [List.take_of_length_le]
set_option maxRecDepth 100000 in
set_option maxHeartbeats 4000000 in
theorem sum_any (s : ByteArray) (hs : s.size ≤ 100000) (w : World) (hcell : ∀ w', Below w.heap.size w w' → w'.cell? ⟨6, 15, none⟩ = some (.int .u8 4)) :
    Calls Tryz.prog 16 #[.string s] w fun e w' => e = .returned (.string ⟨(Tx.hex4 (Tx.sumN (Tx.byt s))).toArray⟩) ∧ Below w.heap.size w w' := by
  have HC := Lib.hid (fun n hn => fint_any n hn w hcell)
  have HS := Lib.hid hs
  obtain ⟨z, hz⟩ : ∃ z, Tx.hex4 (Tx.sumN (Tx.byt s)) = z := ⟨_, rfl⟩
  have HZ := Lib.hid hz
  rw [hz]
  clear hz
  have HU := Lib.hid (fun l w => Tryz.strings_ToUpper_ascii l w)
  clear hcell
  go_enter Tryz.func16, Tryz.ntmps16
  go_wp2_with fail
  go_loop [3, 8] (fun a i => ∃ k : Nat, k ≤ s.size ∧ i = .int .i64 k ∧ a = .int .i64 (Tx.sumN ((Tx.byt s).take k))) (fun _ i => s.size - (intOf i).toNat)
  case atStart => exact ⟨0, by omega, rfl, rfl⟩
  case round =>
    obtain ⟨k, hk, rfl, rfl⟩ := hrel
    have hb := Tx.sumN_lt ((Tx.byt s).take k)
    by_cases hlt : k < s.size
    · have HLT := Lib.hid hlt
      have hltI : (k : Int) < (s.size : Int) := by omega
      have HST := Lib.hid (sum_step s k hlt)
      have hb2 := s[k].toNat_lt
      generalize Tx.sumN ((Tx.byt s).take k) = a at *
      go_wp2_with fail
      go_round
      case rel => exact ⟨k + 1, HLT.out, by have := HLT.out; go_num, by rw [HST.out]; go_num⟩
      case measure => have := HLT.out; simp only [intOf]; omega
    · obtain rfl : k = s.size := by omega
      have htk : (Tx.byt s).take s.size = Tx.byt s := by rw [← Tx.byt_len]; exact List.take_length
      rw [htk] at hb ⊢
      generalize Tx.sumN (Tx.byt s) = n at *
      have HN := Lib.hid (HC.out n hb)
      have HL := Lib.hid (@Tx.hexl_len n)
      have HV : Hid (Lib.toUpperA (⟨(Tx.hexl n).toArray⟩ : ByteArray).data.toList = Tx.hexu n) := Lib.hid rfl
      have HU1 := Lib.hid (fun w => HU.out ⟨(Tx.hexl n).toArray⟩ w (by rw [bsz]; have := HL.out; omega) (fun j b h => hexl_low n (by omega) b (List.mem_of_getElem? h)))
      rw [HV.out] at HU1
      have HF4 := Lib.hid (hexu_four n (by omega))
      have hul : 1 ≤ (Tx.hexu n).length ∧ (Tx.hexu n).length ≤ 4 := by rw [hexu_len]; exact HL.out
      have HD : Hid (((⟨#[48, 48, 48]⟩ ++ ⟨(Tx.hexu n).toArray⟩ : ByteArray)).extract (3 + (Tx.hexu n).length - 4) (3 + (Tx.hexu n).length) = ⟨z.toArray⟩) := Lib.hid (by
        have h := drop_str (48 :: 48 :: 48 :: Tx.hexu n) ((Tx.hexu n).length - 1)
        rw [HF4.out, HZ.out] at h
        rw [← h]
        have e1 : (⟨#[48, 48, 48]⟩ ++ ⟨(Tx.hexu n).toArray⟩ : ByteArray) = ⟨(48 :: 48 :: 48 :: Tx.hexu n).toArray⟩ := ByteArray.ext (by simp)
        rw [e1, show 3 + (Tx.hexu n).length - 4 = (Tx.hexu n).length - 1 by omega, show 3 + (Tx.hexu n).length = (48 :: 48 :: 48 :: Tx.hexu n).length by simp; omega])
      clear HF4
      generalize Tx.hexu n = u at *
      generalize Tx.hexl n = l at *
      go_wp2_with fail
      refine HN.out.mono ?_
      rintro e w1 ⟨rfl, hb1⟩
      have HB1 := Lib.hid hb1
      clear hb1
      go_wp2_with fail
      refine (HU1.out _).mono ?_
      rintro e w2 ⟨rfl, hb2⟩
      have HB2 := Lib.hid (HB1.out.trans (hb2.mono HB1.out.size))
      clear hb2
      go_wp2_with fail
      go_ret
      exact ⟨congrArg (fun x => Ending.returned (Value.string x)) HD.out, HB2.out⟩
def Tx.udig : ByteArray := ⟨#[48, 49, 50, 51, 52, 53, 54, 55, 56, 57, 65, 66, 67, 68, 69, 70]⟩
theorem udig_at (m : Nat) (h : m < 16) (h' : m < Tx.udig.size) : Tx.udig[m] = Tx.hx m := by
  have h1 : ∀ m : Fin 16, Tx.udig.data[m.val]? = some (Tx.hx m.val) := by decide +kernel
  have h2 := h1 ⟨m, h⟩
  have h3 : Tx.udig.data[m]? = some (Tx.udig.data[m]'h') := Array.getElem?_eq_getElem h'
  exact Option.some.inj (h3.symm.trans h2)
set_option maxRecDepth 100000 in
set_option maxHeartbeats 4000000 in
theorem rsum_any (s : ByteArray) (hs : s.size ≤ 100000) (w : World) :
    Calls Tryz.prog 21 #[.string s] w fun e w' => e = .returned (.string ⟨(Tx.hex4 (Tx.sumN (Tx.byt s))).toArray⟩) ∧ Below w.heap.size w w' := by
  have HS := Lib.hid hs
  obtain ⟨z, hz⟩ : ∃ z, Tx.hex4 (Tx.sumN (Tx.byt s)) = z := ⟨_, rfl⟩
  have HZ := Lib.hid hz
  rw [hz]
  clear hz
  go_enter Tryz.func21, Tryz.ntmps21
  go_wp2_with fail
  go_loop [3, 8] (fun a i => ∃ k : Nat, k ≤ s.size ∧ i = .int .i64 k ∧ a = .int .i64 (Tx.sumN ((Tx.byt s).take k))) (fun _ i => s.size - (intOf i).toNat)
  case atStart => exact ⟨0, by omega, rfl, rfl⟩
  case round =>
    obtain ⟨k, hk, rfl, rfl⟩ := hrel
    have hb := Tx.sumN_lt ((Tx.byt s).take k)
    by_cases hlt : k < s.size
    · have HLT := Lib.hid hlt
      have hltI : (k : Int) < (s.size : Int) := by omega
      have HST := Lib.hid (sum_step s k hlt)
      have hb2 := s[k].toNat_lt
      generalize Tx.sumN ((Tx.byt s).take k) = a at *
      go_wp2_with fail
      go_round
      case rel => exact ⟨k + 1, HLT.out, by have := HLT.out; go_num, by rw [HST.out]; go_num⟩
      case measure => have := HLT.out; simp only [intOf]; omega
    · obtain rfl : k = s.size := by omega
      have htk : (Tx.byt s).take s.size = Tx.byt s := by rw [← Tx.byt_len]; exact List.take_length
      rw [htk] at hb ⊢
      generalize Tx.sumN (Tx.byt s) = n at *
      have HD1 := udig_at (n / 4096) (by omega)
      have HD2 := udig_at (n / 256 % 16) (by omega)
      have HD3 := udig_at (n / 16 % 16) (by omega)
      have HD4 := udig_at (n % 16) (by omega)
      unfold Tx.udig at HD1 HD2 HD3 HD4
      have c1 : (0 : Int) ≤ (n : Int) % 16 := by omega
      have c2 : (n : Int) % 16 < 16 := by omega
      have c3 : ((n : Int) % 16).toNat = n % 16 := by omega
      have c4 : (0 : Int) ≤ (n : Int) / 16 % 16 := by omega
      have c5 : (n : Int) / 16 % 16 < 16 := by omega
      have c6 : ((n : Int) / 16 % 16).toNat = n / 16 % 16 := by omega
      have c7 : (0 : Int) ≤ (n : Int) / 256 % 16 := by omega
      have c8 : (n : Int) / 256 % 16 < 16 := by omega
      have c9 : ((n : Int) / 256 % 16).toNat = n / 256 % 16 := by omega
      have d1 : (0 : Int) ≤ (n : Int) / 4096 := by omega
      have d2 : (n : Int) / 4096 < 16 := by omega
      have d3 : ((n : Int) / 4096).toNat = n / 4096 := by omega
      have hcv : ∀ W : World, (convert 36 9 (.slice (some ⟨W.heap.size, 0, none⟩) 4 4)).run Tryz.prog (W.alloc (.cells #[.int .u8 (Tx.hx (n / 4096)).toNat, .int .u8 (Tx.hx (n / 256 % 16)).toNat, .int .u8 (Tx.hx (n / 16 % 16)).toNat, .int .u8 (Tx.hx (n % 16)).toNat] 5)).drew = .ok (.string ⟨z.toArray⟩) (W.alloc (.cells #[.int .u8 (Tx.hx (n / 4096)).toNat, .int .u8 (Tx.hx (n / 256 % 16)).toNat, .int .u8 (Tx.hx (n / 16 % 16)).toNat, .int .u8 (Tx.hx (n % 16)).toNat] 5)).drew := fun W => by
        have hz := HZ.out
        unfold Tx.hex4 at hz
        generalize Tx.hx (n / 4096) = a at *
        generalize Tx.hx (n / 256 % 16) = b at *
        generalize Tx.hx (n / 16 % 16) = c at *
        generalize Tx.hx (n % 16) = d at *
        have h := run_convert_bytes_arg (P := Tryz.prog) (W.alloc (.cells #[.int .u8 a.toNat, .int .u8 b.toNat, .int .u8 c.toNat, .int .u8 d.toNat] 5)).drew 36 5 Tryz.underlying36 Tryz.underlying5 W.heap.size 0 4 4 [(a.toNat : Int), b.toNat, c.toNat, d.toNat] rfl (fun i hi => by
          rw [Nat.zero_add, (Blk.new W 5 _).drew.cell]
          rcases (by omega : i = 0 ∨ i = 1 ∨ i = 2 ∨ i = 3) with rfl | rfl | rfl | rfl <;> rfl) 9 Tryz.underlying9
        rw [h, ← hz]
        exact congrArg (fun x => Result.ok (Value.string x) _) (nums_all [a, b, c, d])
      go_wp2_with fail
      go_region
      go_wp2_with fail
      go_ret
      exact ⟨rfl, ((Below.refl w.heap.size w).alloc (Nat.le_refl _) _).drew⟩
end Go.Proofs.YthabpgclnbmnpaaGreatDoor
