/- Small functions on the texts of traces. -/
import Derived.Test.YthabpgclnbmnpaaGreatDoorT1
import Derived.Test.YthabpgclnbmnpaaGreatDoorShelf1
import Derived.Test.YthabpgclnbmnpaaGreatDoorA3
import Derived.Lib.Hide
import Derived.Laws.BytesArg
import Derived.Laws.Concat
import Derived.IntWalk
namespace Go.Proofs.YthabpgclnbmnpaaGreatDoor
open Go.RowKit Go.Shelf

theorem bytes_all {p : UInt8 → Bool} (h : ((List.range 256).all fun n => p (UInt8.ofNat n)) = true) (b : UInt8) : p b = true := by
  have := List.all_eq_true.1 h b.toNat (List.mem_range.2 b.toNat_lt)
  simpa using this
theorem bsz (l : List UInt8) : (⟨l.toArray⟩ : ByteArray).size = l.length := by simp [ByteArray.size]
theorem byt_at (s : ByteArray) (k : Nat) (h : k < s.size) : (Tx.byt s)[k]'(by rw [Tx.byt_len]; exact h) = s[k] := by
  unfold Tx.byt
  rw [Array.getElem_toList]; rfl
theorem u8_back (b : UInt8) : ((b.toNat : Int).toNat).toUInt8 = b := by simp
set_option maxHeartbeats 1000000 in
theorem need_ok (E : Int) (w : World) : Calls Tryz.prog 64 #[.bool true, .int .i64 E] w fun e w' => e = .returned (.tuple #[]) ∧ w' = w := by
  go_enter Tryz.func64, Tryz.ntmps64
  go_wp2
  go_end0
  exact ⟨rfl, rfl⟩
/-- not empty, and of these signs alone -/
def Tx.ofB (signs s : List UInt8) : Bool := (s.all fun b => decide (0 ≤ Lib.indexByte signs b)) && !s.isEmpty
set_option maxRecDepth 100000 in
set_option maxHeartbeats 1000000 in
theorem isof_any (s g : ByteArray) (hs : s.size ≤ 100000) (v : Bool) (hv : Tx.ofB (Tx.byt g) (Tx.byt s) = v) (w : World) : Calls Tryz.prog 29 #[.string s, .string g] w fun e w' => e = .returned (.bool v) ∧ w' = w := by
  have HV := Lib.hid hv
  have hl := Tx.byt_len s
  have HNO : Hid (∀ (k : Nat) (hk : k < s.size), Lib.indexByte (Tx.byt g) s[k] < 0 → v = false) := Lib.hid (fun k hk h => by
    rw [← hv]; unfold Tx.ofB
    rw [Bool.and_eq_false_iff]
    left
    rw [List.all_eq_false]
    refine ⟨s[k], ?_, by simp; omega⟩
    rw [← byt_at s k hk]; exact List.getElem_mem _)
  have HYES : Hid ((∀ (k : Nat) (hk : k < s.size), 0 ≤ Lib.indexByte (Tx.byt g) s[k]) → v = !(Tx.byt s).isEmpty) := Lib.hid (fun h => by
    rw [← hv]; unfold Tx.ofB
    rw [List.all_eq_true.2 (fun b hb => by
      obtain ⟨k, hk, rfl⟩ := List.mem_iff_getElem.1 hb
      rw [byt_at s k hk]
      exact decide_eq_true (h k hk))]
    simp)
  have HI := Lib.hid (fun c w => Tryz.strings_IndexByte g c w)
  have HL := Lib.hid hl
  clear hv hl
  go_enter Tryz.func29, Tryz.ntmps29
  go_wp2_with fail
  go_loop [5, 8] (fun _ i => ∃ k : Nat, k ≤ s.size ∧ i = .int .i64 k ∧ Hid (∀ (j : Nat) (hj : j < s.size), j < k → 0 ≤ Lib.indexByte (Tx.byt g) s[j])) (fun _ i => s.size - (intOf i).toNat)
  case atStart => exact ⟨0, by omega, rfl, Lib.hid (fun j _ h => by omega)⟩
  case round =>
    obtain ⟨k, hk, rfl, HJ⟩ := hrel
    by_cases hlt : k < s.size
    · have HLT := Lib.hid hlt
      have hltI : (k : Int) < (s.size : Int) := by omega
      have HC := Lib.hid (HI.out (s[k].toNat : Int) w)
      rw [u8_back] at HC
      have HN := Lib.hid (HNO.out k hlt)
      have HJ2 : Hid (0 ≤ Lib.indexByte (Tx.byt g) s[k] → ∀ (j : Nat) (hj : j < s.size), j < k + 1 → 0 ≤ Lib.indexByte (Tx.byt g) s[j]) := Lib.hid (fun h j hj hjk => by
        by_cases e : j = k
        · subst e; exact h
        · exact HJ.out j hj (by omega))
      have hgb : g.data.toList = Tx.byt g := rfl
      rw [hgb] at HC
      generalize Lib.indexByte (Tx.byt g) s[k] = z at *
      go_wp2_with fail
      refine HC.out.mono ?_
      rintro e w1 ⟨rfl, rfl⟩
      by_cases hz : z < 0
      · have HF := Lib.hid (HN.out hz)
        go_wp2_with fail
        go_ret
        exact ⟨by rw [HF.out]; rfl, rfl⟩
      · have hz' : decide (z < 0) = false := by simp; omega
        have HJ3 := Lib.hid (HJ2.out (by omega))
        go_wp2_with fail
        go_round
        case rel => exact ⟨k + 1, HLT.out, by have := HLT.out; go_num, HJ3⟩
        case measure => have := HLT.out; simp [intOf]; omega
    · obtain rfl : k = s.size := by omega
      have HF := Lib.hid (HYES.out (fun j hj => HJ.out j hj hj))
      by_cases h0 : s.size = 0
      · have hse : s = ⟨#[]⟩ := by
          have h1 := HL.out
          rw [h0] at h1
          rw [← Tx.byt_back s, List.length_eq_zero_iff.1 h1]
        have hvf : v = false := by rw [HF.out, hse]; rfl
        subst hse
        subst hvf
        go_wp2_with fail
        go_ret
        exact ⟨rfl, rfl⟩
      · have hne : s.toList.isEmpty = false := by
          rw [ByteArray.toList_eq]
          have h1 := HL.out
          unfold Tx.byt at h1
          cases hh : s.data.toList with
          | nil => rw [hh] at h1; simp at h1; omega
          | cons a b => rfl
        have hvt : v = true := by
          rw [HF.out]
          have h1 := HL.out
          cases hh : Tx.byt s with
          | nil => rw [hh] at h1; simp at h1; omega
          | cons a b => rfl
        subst hvt
        go_wp2_with fail
        go_ret
        exact ⟨rfl, rfl⟩
end Go.Proofs.YthabpgclnbmnpaaGreatDoor
