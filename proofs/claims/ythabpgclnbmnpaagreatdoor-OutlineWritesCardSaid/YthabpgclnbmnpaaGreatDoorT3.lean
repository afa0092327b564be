/- The tests of a job and of a side; the document's digits. -/
import Derived.Test.YthabpgclnbmnpaaGreatDoorT2
namespace Go.Proofs.YthabpgclnbmnpaaGreatDoor
open Go.RowKit

theorem dgs_big {n : Nat} (h : ¬ n < 10) : Tx.dgs n = Tx.dgs (n / 10) ++ [UInt8.ofNat (48 + n % 10)] := by
  conv => lhs; unfold Tx.dgs
  rw [if_neg h]
theorem num_one (b : UInt8) : strOfNums [(b.toNat : Int)] = ⟨[b].toArray⟩ := by
  apply ByteArray.ext
  apply Array.toList_inj.1
  rw [strOfNums_data]
  show [_] = [b]
  simp
theorem conv_one (w : World) (b : UInt8) (x : Int) (hx : x = b.toNat) : (convert 36 9 (.slice (some ⟨w.heap.size, 0, none⟩) 1 1)).run Tryz.prog (w.alloc (.cells #[.int .u8 x] 5)) = .ok (.string ⟨[b].toArray⟩) (w.alloc (.cells #[.int .u8 x] 5)) := by
  subst hx
  have h := run_convert_bytes_arg (P := Tryz.prog) (w.alloc (.cells #[.int .u8 b.toNat] 5)) 36 5 Tryz.underlying36 Tryz.underlying5 w.heap.size 0 1 1 [(b.toNat : Int)] rfl (fun i hi => by
    obtain rfl : i = 0 := by omega
    exact World.cell?_alloc_mark w #[.int .u8 b.toNat] 5 (0, 0) 0) 9 Tryz.underlying9
  rw [h, num_one]
set_option maxRecDepth 100000 in
set_option maxHeartbeats 1000000 in
theorem decimal_nat : ∀ (n : Nat), n < 1000000000000 → ∀ w : World, Calls Tryz.prog 41 #[.int .i64 n] w fun e w' => e = .returned (.string ⟨(Tx.dgs n).toArray⟩) ∧ Below w.heap.size w w' := by
  intro n
  induction n using Nat.strongRecOn with
  | _ n ih =>
    intro hn w
    have hI0 : decide ((n : Int) < 0) = false := by simp
    by_cases h10 : n < 10
    · have hcv := conv_one w (UInt8.ofNat (48 + n)) (48 + (n : Int)) (by rw [UInt8.toNat_ofNat']; omega)
      have HB := Lib.hid ((Below.refl w.heap.size w).alloc (Nat.le_refl _) (.cells #[.int .u8 (48 + (n : Int))] 5))
      have hI : (n : Int) < 10 := by omega
      have HV : Hid (Tx.dgs n = [UInt8.ofNat (48 + n)]) := Lib.hid (by unfold Tx.dgs; rw [if_pos h10])
      generalize UInt8.ofNat (48 + n) = b at *
      clear ih
      go_enter Tryz.func41, Tryz.ntmps41
      go_wp2_with fail
      go_ret
      refine ⟨?_, HB.out⟩
      rw [HV.out]; rfl
    · have hI : decide ((n : Int) < 10) = false := by simp; omega
      have HC := Lib.hid (ih (n / 10) (by omega) (by omega))
      rw [show ((n / 10 : Nat) : Int) = (n : Int) / 10 by omega] at HC
      have HD := Lib.hid (ih (n % 10) (by omega) (by omega))
      rw [show ((n % 10 : Nat) : Int) = (n : Int) % 10 by omega, show Tx.dgs (n % 10) = [UInt8.ofNat (48 + n % 10)] by unfold Tx.dgs; rw [if_pos (by omega)]] at HD
      have HV : Hid (Tx.dgs n = Tx.dgs (n / 10) ++ [UInt8.ofNat (48 + n % 10)]) := Lib.hid (dgs_big h10)
      have hlen : ¬ 9223372036854775807 < (Tx.dgs (n / 10)).length + 1 := by
        have := Tx.dgs_len (n / 10) 12 (by decide) (by omega); omega
      generalize UInt8.ofNat (48 + n % 10) = b at *
      generalize Tx.dgs (n / 10) = l at *
      clear ih
      go_enter Tryz.func41, Tryz.ntmps41
      go_wp2_with fail
      refine (HC.out _).mono ?_
      rintro e w1 ⟨rfl, hb1⟩
      have HB1 := Lib.hid hb1
      clear hb1
      go_wp2_with fail
      refine (HD.out _).mono ?_
      rintro e w2 ⟨rfl, hb2⟩
      have HB2 := Lib.hid (HB1.out.trans (hb2.mono HB1.out.size))
      clear hb2
      go_wp2_with fail
      go_ret
      refine ⟨?_, HB2.out⟩
      rw [HV.out]
      refine congrArg Ending.returned (congrArg Value.string (ByteArray.ext ?_))
      simp
set_option maxRecDepth 100000 in
set_option maxHeartbeats 1000000 in
theorem decimal_any (z : Int) (h : -100000000 ≤ z ∧ z ≤ 100000000) (w : World) : Calls Tryz.prog 41 #[.int .i64 z] w fun e w' => e = .returned (.string ⟨(Tx.dcm z).toArray⟩) ∧ Below w.heap.size w w' := by
  by_cases h0 : z < 0
  · have HC := Lib.hid (decimal_nat (-z).toNat (by omega))
    rw [show (((-z).toNat : Nat) : Int) = -z by omega] at HC
    have HV : Hid (Tx.dcm z = 45 :: Tx.dgs (-z).toNat) := Lib.hid (by unfold Tx.dcm; rw [if_pos h0])
    have hlen : ¬ 9223372036854775807 < 1 + (Tx.dgs (-z).toNat).length := by
      have := Tx.dgs_len (-z).toNat 12 (by decide) (by omega); omega
    generalize Tx.dgs (-z).toNat = l at *
    go_enter Tryz.func41, Tryz.ntmps41
    go_wp2_with fail
    refine (HC.out _).mono ?_
    rintro e w1 ⟨rfl, hb1⟩
    have HB1 := Lib.hid hb1
    clear hb1
    go_wp2_with fail
    go_ret
    refine ⟨?_, HB1.out⟩
    rw [HV.out]
    refine congrArg Ending.returned (congrArg Value.string (ByteArray.ext ?_))
    simp
  · obtain ⟨n, rfl⟩ := Int.eq_ofNat_of_zero_le (by omega : 0 ≤ z)
    have := decimal_nat n (by omega) w
    unfold Tx.dcm
    rw [if_neg h0]
    exact this
/-- the signs of a job, one after the other -/
def Tx.sg (b : UInt8) : Bool := (decide (48 ≤ b.toNat) && decide (b.toNat ≤ 57)) || (decide (65 ≤ b.toNat) && decide (b.toNat ≤ 90))
def signs : ByteArray := ⟨#[48, 49, 50, 51, 52, 53, 54, 55, 56, 57, 65, 66, 67, 68, 69, 70, 71, 72, 73, 74, 75, 76, 77, 78, 79, 80, 81, 82, 83, 84, 85, 86, 87, 88, 89, 90]⟩
theorem sg_at (b : UInt8) : decide (0 ≤ Lib.indexByte (Tx.byt signs) b) = Tx.sg b := by
  have := bytes_all (p := fun b => decide (0 ≤ Lib.indexByte (Tx.byt signs) b) == Tx.sg b) (by decide +kernel) b
  exact eq_of_beq this
theorem ofB_job (s : List UInt8) : Tx.ofB (Tx.byt signs) s = (s.all Tx.sg && !s.isEmpty) := by
  unfold Tx.ofB
  congr 2
  funext b
  exact sg_at b
theorem jobB_eq (s : List UInt8) : Tx.jobB s = (decide (1 ≤ s.length) && decide (s.length ≤ 12) && s.all Tx.sg) := rfl
set_option maxRecDepth 100000 in
set_option maxHeartbeats 1000000 in
theorem isjob_any (s : ByteArray) (v : Bool) (hv : Tx.jobB (Tx.byt s) = v) (w : World) : Calls Tryz.prog 11 #[.string s] w fun e w' => e = .returned (.bool v) ∧ w' = w := by
  by_cases h12 : s.size ≤ 12
  · have HC := Lib.hid (isof_any s signs (by omega) v (by
      rw [ofB_job, ← hv, jobB_eq, Tx.byt_len]
      cases hh : Tx.byt s with
      | nil => have := Tx.byt_len s; rw [hh] at this; simp at this; simp [← this]
      | cons a b => have := Tx.byt_len s; rw [hh] at this; simp at this; simp [← this]; omega) w)
    unfold signs at HC
    have hI : (s.size : Int) ≤ 12 := by omega
    clear hv
    go_enter Tryz.func11, Tryz.ntmps11
    go_wp2_with fail
    refine HC.out.mono ?_
    rintro e w1 ⟨rfl, rfl⟩
    go_wp2_with fail
    go_ret
    exact ⟨rfl, rfl⟩
  · have hI : decide ((s.size : Int) ≤ 12) = false := by simp; omega
    have hvf : v = false := by
      rw [← hv, jobB_eq, Tx.byt_len]
      have : decide (s.size ≤ 12) = false := by simp; omega
      rw [this]; simp
    subst hvf
    clear hv
    go_enter Tryz.func11, Tryz.ntmps11
    go_wp2_with fail
    go_ret
    exact ⟨rfl, rfl⟩
theorem side_r (b : UInt8) : ((⟨[b].toArray⟩ : ByteArray).toList == [82]) = decide (b.toNat = 82) := by
  have := bytes_all (p := fun b => ((⟨[b].toArray⟩ : ByteArray).toList == [82]) == decide (b.toNat = 82)) (by decide +kernel) b
  exact eq_of_beq this
theorem side_l (b : UInt8) : ((⟨[b].toArray⟩ : ByteArray).toList == [76]) = decide (b.toNat = 76) := by
  have := bytes_all (p := fun b => ((⟨[b].toArray⟩ : ByteArray).toList == [76]) == decide (b.toNat = 76)) (by decide +kernel) b
  exact eq_of_beq this
set_option maxRecDepth 100000 in
set_option maxHeartbeats 1000000 in
theorem isside_any (b : UInt8) (v : Bool) (hv : Tx.sideB b = v) (w : World) : Calls Tryz.prog 12 #[.string ⟨[b].toArray⟩] w fun e w' => e = .returned (.bool v) ∧ w' = w := by
  have h1 := side_r b
  have h2 := side_l b
  unfold Tx.sideB at hv
  generalize (⟨[b].toArray⟩ : ByteArray) = s at *
  by_cases k1 : b.toNat = 82
  · have q1 : (s.toList == [82]) = true := by rw [h1]; simpa using k1
    have : v = true := by rw [← hv]; simp [k1]
    subst this
    clear hv h1 h2
    go_enter Tryz.func12, Tryz.ntmps12
    go_wp2_with fail
    go_ret
    exact ⟨rfl, rfl⟩
  · have q1 : (s.toList == [82]) = false := by rw [h1]; simpa using k1
    have q2 : (s.toList == [76]) = v := by rw [h2, ← hv]; simp [k1]
    clear hv h1 h2
    go_enter Tryz.func12, Tryz.ntmps12
    go_wp2_with fail
    go_ret
    exact ⟨rfl, rfl⟩
set_option maxRecDepth 100000 in
set_option maxHeartbeats 2000000 in
theorem rjob_any (s : ByteArray) (hs : s.size ≤ 9223372036854775807) (v : Bool) (hv : Tx.jobB (Tx.byt s) = v) (w : World) : Calls Tryz.prog 18 #[.string s] w fun e w' => e = .returned (.bool v) ∧ w' = w := by
  have hl := Tx.byt_len s
  have HNO : Hid (∀ (k : Nat) (hk : k < s.size), Tx.sg s[k] = false → v = false) := Lib.hid (fun k hk h => by
    rw [← hv, jobB_eq, Bool.and_eq_false_iff]
    right
    rw [List.all_eq_false]
    refine ⟨s[k], ?_, by simp [h]⟩
    rw [← byt_at s k hk]; exact List.getElem_mem _)
  have HYES : Hid ((∀ (k : Nat) (hk : k < s.size), Tx.sg s[k] = true) → v = (decide (1 ≤ (s.size : Int)) && decide ((s.size : Int) ≤ 12))) := Lib.hid (fun h => by
    rw [← hv, jobB_eq, hl, List.all_eq_true.2 (fun b hb => by
      obtain ⟨k, hk, rfl⟩ := List.mem_iff_getElem.1 hb
      rw [byt_at s k (by omega)]
      exact h k (by omega))]
    have e1 : decide (1 ≤ s.size) = decide (1 ≤ (s.size : Int)) := by apply decide_eq_decide.2; omega
    have e2 : decide (s.size ≤ 12) = decide ((s.size : Int) ≤ 12) := by apply decide_eq_decide.2; omega
    rw [e1, e2, Bool.and_true])
  have HS := Lib.hid hs
  clear hv hl hs
  go_enter Tryz.func18, Tryz.ntmps18
  go_wp2_with fail
  go_loop [7] (fun i => ∃ k : Nat, k ≤ s.size ∧ i = .int .i64 k ∧ Hid (∀ (j : Nat) (hj : j < s.size), j < k → Tx.sg s[j] = true)) (fun i => s.size - (intOf i).toNat)
  case atStart => exact ⟨0, by omega, rfl, Lib.hid (fun j _ h => by omega)⟩
  case round =>
    obtain ⟨k, hk, rfl, HJ⟩ := hrel
    by_cases hlt : k < s.size
    · have HLT := Lib.hid hlt
      have hltI : (k : Int) < (s.size : Int) := by omega
      have HN := Lib.hid (HNO.out k hlt)
      have HJ2 : Hid (Tx.sg s[k] = true → ∀ (j : Nat) (hj : j < s.size), j < k + 1 → Tx.sg s[j] = true) := Lib.hid (fun h j hj hjk => by
        by_cases e : j = k
        · subst e; exact h
        · exact HJ.out j hj (by omega))
      have HW : Hid (wrap64 ((k : Int) + 1) = ((k + 1 : Nat) : Int)) := Lib.hid (by have h8 := HS.out; unfold wrap64; omega)
      have HG : Hid (Tx.sg s[k] = ((decide (48 ≤ s[k].toNat) && decide (s[k].toNat ≤ 57)) || (decide (65 ≤ s[k].toNat) && decide (s[k].toNat ≤ 90)))) := Lib.hid rfl
      have c1 : decide ((s[k].toNat : Int) < 48) = !decide (48 ≤ s[k].toNat) := by rw [← decide_not]; apply decide_eq_decide.2; omega
      have c2 : decide (57 < (s[k].toNat : Int)) = !decide (s[k].toNat ≤ 57) := by rw [← decide_not]; apply decide_eq_decide.2; omega
      have c3 : decide ((s[k].toNat : Int) < 65) = !decide (65 ≤ s[k].toNat) := by rw [← decide_not]; apply decide_eq_decide.2; omega
      have c4 : decide (90 < (s[k].toNat : Int)) = !decide (s[k].toNat ≤ 90) := by rw [← decide_not]; apply decide_eq_decide.2; omega
      cases d1 : decide (48 ≤ s[k].toNat) <;> cases d2 : decide (s[k].toNat ≤ 57) <;> cases d3 : decide (65 ≤ s[k].toNat) <;> cases d4 : decide (s[k].toNat ≤ 90)
      all_goals try (exfalso; simp only [decide_eq_true_eq, decide_eq_false_iff_not] at d1 d2 d3 d4; omega)
      all_goals
        rw [d1] at c1; rw [d2] at c2; rw [d3] at c3; rw [d4] at c4
        rw [d1, d2, d3, d4] at HG
        first | (change _ = false at c1) | (change _ = true at c1; replace c1 := of_decide_eq_true c1)
        first | (change _ = false at c2) | (change _ = true at c2; replace c2 := of_decide_eq_true c2)
        first | (change _ = false at c3) | (change _ = true at c3; replace c3 := of_decide_eq_true c3)
        first | (change _ = false at c4) | (change _ = true at c4; replace c4 := of_decide_eq_true c4)
        simp only [decide_eq_true_eq, decide_eq_false_iff_not] at d1 d2 d3 d4
        have HDD := Lib.hid (And.intro d1 (And.intro d2 (And.intro d3 d4)))
        clear d1 d2 d3 d4
        go_wp2_with fail
        all_goals first
        | (exfalso; have hd := HDD.out; clear HG HJ HJ2 HN; omega)
        | (go_ret; refine ⟨congrArg (fun x => Ending.returned (Value.bool x)) (HN.out ?_).symm, rfl⟩; exact (HG.out.trans rfl))
        | (go_round
           case rel => exact ⟨k + 1, HLT.out, congrArg (Value.int .i64) HW.out, Lib.hid (HJ2.out (HG.out.trans rfl))⟩
           case measure => have h9 := HLT.out; rw [HW.out]; clear c1 c2 c3 c4 HG HJ HJ2 HN; simp only [intOf]; omega)
    · obtain rfl : k = s.size := by omega
      have HF := Lib.hid (HYES.out (fun j hj => HJ.out j hj hj))
      by_cases h1 : 1 ≤ s.size
      · have hI : 1 ≤ (s.size : Int) := by omega
        go_wp2_with fail
        go_ret
        refine ⟨?_, rfl⟩
        rw [HF.out, decide_eq_true hI]; rfl
      · have hI : decide (1 ≤ (s.size : Int)) = false := by simp; omega
        go_wp2_with fail
        go_ret
        refine ⟨?_, rfl⟩
        rw [HF.out, hI]; rfl
end Go.Proofs.YthabpgclnbmnpaaGreatDoor
