/- Plain: the text of a trace. -/
import Derived.Test.YthabpgclnbmnpaaGreatDoorGeo
import Derived.Lib.ItoaNum
import Derived.Lib.AtoiAllCases
import Derived.Lib.Join
import Derived.Lib.Bytealg
namespace Go.Proofs.YthabpgclnbmnpaaGreatDoor.Tx
open Go

def byt (b : ByteArray) : List UInt8 := b.data.toList
theorem byt_back (b : ByteArray) : (⟨(byt b).toArray⟩ : ByteArray) = b := by cases b; simp [byt]
theorem byt_mk (l : List UInt8) : byt (⟨l.toArray⟩ : ByteArray) = l := by unfold byt; simp
theorem byt_len (s : ByteArray) : (byt s).length = s.size := rfl
/-- the decimal digits of a number -/
def dgs (n : Nat) : List UInt8 := if n < 10 then [UInt8.ofNat (48 + n)] else dgs (n / 10) ++ [UInt8.ofNat (48 + n % 10)]
def dcm (z : Int) : List UInt8 := if z < 0 then 45 :: dgs (-z).toNat else dgs z.toNat
theorem dec_dgs (n : Nat) : Lib.decDigits n = dgs n := by
  induction n using Nat.strongRecOn with
  | _ n ih =>
    rw [Lib.decDigits]
    unfold dgs
    by_cases h : n < 10
    · rw [dif_pos h, if_pos h]
    · rw [dif_neg h, if_neg h, ih (n / 10) (by omega)]
theorem itoa_dcm (z : Int) : Lib.itoa z = dcm z := by
  unfold Lib.itoa dcm
  by_cases h : z < 0
  · rw [if_pos h, if_pos h, dec_dgs, show z.natAbs = (-z).toNat by omega]
  · rw [if_neg h, if_neg h, dec_dgs]
theorem dgs_all (n : Nat) : ∀ b, b ∈ dgs n → 48 ≤ b.toNat ∧ b.toNat ≤ 57 := by
  induction n using Nat.strongRecOn with
  | _ n ih =>
    intro b hb
    unfold dgs at hb
    split at hb
    · simp only [List.mem_singleton] at hb
      subst hb
      rw [UInt8.toNat_ofNat']; omega
    · rcases List.mem_append.1 hb with hb | hb
      · exact ih (n / 10) (by omega) b hb
      · simp only [List.mem_singleton] at hb
        subst hb
        rw [UInt8.toNat_ofNat']; omega
theorem dgs_ne (n : Nat) : dgs n ≠ [] := by
  unfold dgs; split <;> simp
theorem dgs_len (n k : Nat) (hk : 0 < k) (h : n < 10 ^ k) : (dgs n).length ≤ k := by
  induction k generalizing n with
  | zero => omega
  | succ k ih =>
    unfold dgs
    split
    · simp
    · rename_i h10
      rw [List.length_append]
      have : n / 10 < 10 ^ k := by rw [Nat.pow_succ] at h; omega
      have hk0 : 0 < k := by
        rcases Nat.eq_zero_or_pos k with e | e
        · subst e; simp at h; omega
        · exact e
      have := ih (n / 10) hk0 this
      simp; omega
theorem dgs_head (n : Nat) (h : 0 < n) : (dgs n).head? ≠ some 48 := by
  induction n using Nat.strongRecOn with
  | _ n ih =>
    unfold dgs
    by_cases h10 : n < 10
    · rw [if_pos h10]
      intro e
      simp only [List.head?_cons, Option.some.injEq] at e
      have := congrArg UInt8.toNat e
      rw [UInt8.toNat_ofNat'] at this
      have : (48 : UInt8).toNat = 48 := rfl
      omega
    · rw [if_neg h10]
      have := ih (n / 10) (by omega) (by omega)
      rw [List.head?_append]
      cases hh : (dgs (n / 10)).head? with
      | none => exact absurd (List.head?_eq_none_iff.1 hh) (dgs_ne _)
      | some b => rw [hh] at this; simpa using this
theorem pu10 : ∀ (l : List UInt8) (acc : Nat), (∀ b, b ∈ l → 48 ≤ b.toNat ∧ b.toNat ≤ 57) → (acc + 1) * 10 ^ l.length ≤ 1000000000000000000 → Lib.parseUint10 acc l = .ok (l.foldl (fun n b => 10 * n + (b.toNat - 48)) acc)
  | [], acc, _, _ => rfl
  | c :: r, acc, h, hb => by
    have hc := h c (by simp)
    have h10 : 1 ≤ 10 ^ r.length := Nat.pos_of_ne_zero (by simp)
    rw [List.length_cons, Nat.pow_succ] at hb
    have hb2 : (acc + 1) * 10 * 10 ^ r.length ≤ 1000000000000000000 := by rw [Nat.mul_assoc, Nat.mul_comm 10]; exact hb
    have hb3 : (acc + 1) * 10 ≤ 1000000000000000000 := Nat.le_trans (Nat.le_mul_of_pos_right _ h10) hb2
    simp only [Lib.parseUint10]
    rw [if_pos hc, if_neg (by omega), if_neg (by omega), List.foldl_cons, show 10 * acc + (c.toNat - 48) = acc * 10 + (c.toNat - 48) by omega]
    exact pu10 r _ (fun b hb => h b (by simp [hb])) (Nat.le_trans (Nat.mul_le_mul_right _ (by omega)) hb2)
theorem vlu_dgs (n : Nat) : (dgs n).foldl (fun n b => 10 * n + (b.toNat - 48)) 0 = n := by
  induction n using Nat.strongRecOn with
  | _ n ih =>
    unfold dgs
    split
    · rename_i h
      show 10 * 0 + ((UInt8.ofNat (48 + n)).toNat - 48) = n
      rw [UInt8.toNat_ofNat']; omega
    · rename_i h
      rw [List.foldl_append, ih (n / 10) (by omega)]
      show 10 * (n / 10) + ((UInt8.ofNat (48 + n % 10)).toNat - 48) = n
      rw [UInt8.toNat_ofNat']; omega
theorem mag_dgs {n : Nat} (h : n < 10000000000) : Lib.parseMag (dgs n) = .ok n := by
  have hl := dgs_len n 10 (by decide) (by omega)
  unfold Lib.parseMag
  rw [if_neg (dgs_ne n), pu10 _ 0 (dgs_all n) (Nat.le_trans (Nat.mul_le_mul_left _ (Nat.pow_le_pow_right (by decide) hl)) (by decide)), vlu_dgs]
theorem atoi_dcm {z : Int} (h : -1000000 ≤ z ∧ z ≤ 1000000) : Lib.atoiAll (dcm z) = .ok z := by
  unfold dcm
  by_cases h0 : z < 0
  · rw [if_pos h0, Lib.atoiAll_minus, mag_dgs (by omega)]
    unfold Lib.signed
    simp only []
    rw [if_neg (by omega)]
    congr 1
    omega
  · rw [if_neg h0]
    have hm := mag_dgs (n := z.toNat) (by omega)
    have ha := dgs_all z.toNat
    have hne := dgs_ne z.toNat
    generalize dgs z.toNat = l at *
    cases l with
    | nil => exact absurd rfl hne
    | cons c r =>
      have hc := ha c (by simp)
      rw [Lib.atoiAll_plain c r (by omega) (by omega), hm]
      unfold Lib.signless
      simp only []
      rw [if_neg (by omega)]
      congr 1
      omega
/-- the rows in front of the sum -/
def rowP (p : Geo.XY) : List UInt8 := dcm p.1 ++ 32 :: dcm p.2
def rows (job : List UInt8) (side : UInt8) (l : List Geo.XY) : List (List UInt8) :=
  [84, 82, 65, 67, 69, 32, 49] :: (74 :: 79 :: 66 :: 32 :: job) :: [83, 73, 68, 69, 32, side] :: (80 :: 79 :: 73 :: 78 :: 84 :: 83 :: 32 :: dgs l.length) :: l.map rowP
def flat10 (l : List (List UInt8)) : List UInt8 := l.flatMap fun r => r ++ [10]
def front (job : List UInt8) (side : UInt8) (l : List Geo.XY) : List UInt8 := flat10 (rows job side l)
theorem joinTail_flat : ∀ (l : List (List UInt8)), Lib.joinTail [10] l ++ [10] = 10 :: flat10 l
  | [] => rfl
  | x :: l => by
    have ih := joinTail_flat l
    unfold Lib.joinTail flat10 at ih ⊢
    rw [List.map_cons, List.flatten_cons, List.append_assoc, ih, List.flatMap_cons]; simp
theorem join_front (job : List UInt8) (side : UInt8) (l : List Geo.XY) : Lib.join (rows job side l) [10] ++ [10] = front job side l := by
  unfold front rows
  rw [Lib.join_cons, List.append_assoc, joinTail_flat]
  unfold flat10
  rw [List.flatMap_cons]
  simp
def sumS (s : Nat) (b : UInt8) : Nat := (s * 31 + b.toNat) % 65521
def sumN (t : List UInt8) : Nat := t.foldl sumS 1
theorem sumS_lt (s : Nat) (b : UInt8) : sumS s b < 65521 := Nat.mod_lt _ (by decide)
theorem sum_lt : ∀ (t : List UInt8) (s : Nat), s < 65521 → t.foldl sumS s < 65521
  | [], _, h => h
  | b :: t, s, _ => sum_lt t _ (sumS_lt s b)
theorem sumN_lt (t : List UInt8) : sumN t < 65521 := sum_lt t 1 (by decide)
def hx (k : Nat) : UInt8 := UInt8.ofNat (if k < 10 then 48 + k else 55 + k)
def lx (k : Nat) : UInt8 := UInt8.ofNat (if k < 10 then 48 + k else 87 + k)
def hex4 (n : Nat) : List UInt8 := [hx (n / 4096), hx (n / 256 % 16), hx (n / 16 % 16), hx (n % 16)]
/-- the hexadecimal digits of a number below 65536, without leading zeros -/
def hexl (n : Nat) : List UInt8 := if n < 16 then [lx n] else if n < 256 then [lx (n / 16), lx (n % 16)] else if n < 4096 then [lx (n / 256), lx (n / 16 % 16), lx (n % 16)] else [lx (n / 4096), lx (n / 256 % 16), lx (n / 16 % 16), lx (n % 16)]
theorem hexl_len {n : Nat} : 1 ≤ (hexl n).length ∧ (hexl n).length ≤ 4 := by unfold hexl; split <;> (try split) <;> (try split) <;> simp
def jobB (s : List UInt8) : Bool := decide (1 ≤ s.length) && decide (s.length ≤ 12) && s.all fun b => (decide (48 ≤ b.toNat) && decide (b.toNat ≤ 57)) || (decide (65 ≤ b.toNat) && decide (b.toNat ≤ 90))
def sideB (b : UInt8) : Bool := decide (b.toNat = 82) || decide (b.toNat = 76)
/-- the text of a trace -/
def txt (job : List UInt8) (side : UInt8) (l : List Geo.XY) : List UInt8 := front job side l ++ (83 :: 85 :: 77 :: 32 :: (hex4 (sumN (front job side l)) ++ [10]))
theorem indexByte_at (c : UInt8) : ∀ (w rest : List UInt8), (∀ b, b ∈ w → b ≠ c) → Lib.indexByte (w ++ c :: rest) c = w.length
  | [], rest, _ => by simp [Lib.indexByte]
  | b :: w, rest, h => by
    have hb : (b == c) = false := by rw [beq_eq_false_iff_ne]; exact h b (by simp)
    rw [List.cons_append, Lib.indexByte, hb, indexByte_at c w rest (fun x hx => h x (by simp [hx]))]
    have : ((w.length : Int) == -1) = false := by rw [beq_eq_false_iff_ne]; omega
    simp [this]
end Go.Proofs.YthabpgclnbmnpaaGreatDoor.Tx
