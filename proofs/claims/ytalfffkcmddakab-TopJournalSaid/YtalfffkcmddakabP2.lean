/- Plain: disks and journals: bytes, slots, what every call answers and leaves. It imports nothing of the program. -/
import Derived.Test.YtalfffkcmddakabP1
namespace Go.Proofs.Ytalfffkcmddakab.Pl

abbrev Bs := List UInt8
/-- a disk: how often it was made up, whether it is up, its slots, the write that fails (0: none), how many bytes that one leaves -/
structure Dk where
  st : Nat
  up : Bool
  s0 : Bs
  s1 : Bs
  fl : Nat
  kp : Int
def dk0 : Dk := ⟨1, true, [], [], 0, 0⟩
def Dk.sl (D : Dk) (i : Nat) : Bs := if i = 0 then D.s0 else D.s1
def Dk.put (D : Dk) (i : Nat) (l : Bs) : Dk := if i = 0 then { D with s0 := l } else { D with s1 := l }
def kpN (k : Int) (n : Nat) : Nat := (max (min k (n : Int)) 0).toNat
theorem kpN_le (k : Int) (n : Nat) : kpN k n ≤ n := by unfold kpN; omega
/-- what Write answers, and the disk behind it -/
def wrE (D : Dk) (i : Int) : Int := if D.up = false then 91 else if i ≠ 0 ∧ i ≠ 1 then 2 else if D.fl = 1 then 91 else 0
def wrD (D : Dk) (i : Int) (l : Bs) : Dk :=
  if D.up = false then D else if i ≠ 0 ∧ i ≠ 1 then D else if D.fl = 1 then { D.put i.toNat (l.take (kpN D.kp l.length)) with up := false, fl := 0 } else { D.put i.toNat l with fl := D.fl - 1 }
def rdE (D : Dk) (i : Int) : Int := if D.up = false then 91 else if i ≠ 0 ∧ i ≠ 1 then 2 else 0
def rdV (D : Dk) (i : Int) : Bs := if rdE D i = 0 then D.sl i.toNat else []
def armD (D : Dk) (n k : Int) : Dk := { D with fl := n.toNat, kp := k }
def rsD (D : Dk) : Dk := { D with up := true, fl := 0, st := D.st + 1 }

/-- a number as four bytes, and back -/
def four (n : Nat) : Bs := [UInt8.ofNat (n / 16777216), UInt8.ofNat (n / 65536), UInt8.ofNat (n / 256), UInt8.ofNat n]
def num (l : Bs) : Nat := l.foldl (fun n b => n * 256 + b.toNat) 0
theorem four_len (n : Nat) : (four n).length = 4 := rfl
theorem num_four {n : Nat} (h : n < 4294967296) : num (four n) = n := by
  unfold num four
  simp [UInt8.toNat_ofNat']
  omega
theorem num_lt : ∀ (l : Bs) (n : Nat), l.foldl (fun n b => n * 256 + b.toNat) n < (n + 1) * 256 ^ l.length
  | [], n => by simp
  | b :: l, n => by
    rw [List.foldl_cons]
    refine Nat.lt_of_lt_of_le (num_lt l _) ?_
    rw [List.length_cons, Nat.pow_succ, ← Nat.mul_assoc, Nat.mul_right_comm]
    refine Nat.mul_le_mul_right _ ?_
    have := b.toNat_lt
    omega
theorem num_lt4 {l : Bs} (h : l.length = 4) : num l < 4294967296 := by
  have := num_lt l 0
  rw [h] at this
  unfold num
  simpa using this
theorem num_take_succ (l : Bs) (k : Nat) (h : k < l.length) : num (l.take (k + 1)) = num (l.take k) * 256 + l[k].toNat := by
  unfold num
  rw [List.take_succ_eq_append_getElem h, List.foldl_append]
  rfl
/-- the bytes that hold an image and a turn -/
def cod (im : Bs) (t : Nat) : Bs := four im.length ++ im ++ four t
theorem cod_len (im : Bs) (t : Nat) : (cod im t).length = im.length + 8 := by unfold cod; simp [four_len]; omega
/-- whether bytes hold an image and a turn of this slot; these -/
def isH (i : Nat) (b : Bs) : Bool :=
  decide (8 ≤ b.length) && decide (b.length ≤ 65544) && decide (num (b.take 4) = b.length - 8) && decide (1 ≤ num (b.drop (b.length - 4))) && decide (num (b.drop (b.length - 4)) ≤ 2147483647) && decide (num (b.drop (b.length - 4)) % 2 = i)
def hI (b : Bs) : Bs := (b.drop 4).take (b.length - 8)
def hT (b : Bs) : Nat := num (b.drop (b.length - 4))
/-- the turn that bytes hold, or 0 -/
def tO (i : Nat) (b : Bs) : Nat := if isH i b then hT b else 0
theorem isH_iff {i : Nat} {b : Bs} : isH i b = true ↔ 8 ≤ b.length ∧ b.length ≤ 65544 ∧ num (b.take 4) = b.length - 8 ∧ 1 ≤ hT b ∧ hT b ≤ 2147483647 ∧ hT b % 2 = i := by
  unfold isH hT
  simp only [Bool.and_eq_true, decide_eq_true_iff, and_assoc]
/-- a journal: its turn and image, the disk's number when it was opened, whether a Save has found the disk down -/
structure Jn where
  t : Nat
  im : Bs
  st : Nat
  fd : Bool
def stp (D : Dk) (i : Nat) (j : Jn) : Jn := if j.t < tO i (D.sl i) then { j with t := tO i (D.sl i), im := hI (D.sl i) } else j
def opn (D : Dk) : Jn := stp D 1 (stp D 0 ⟨0, [], D.st, false⟩)
def ded (D : Dk) (j : Jn) : Bool := j.fd || decide (j.st ≠ D.st)
def lim (j : Jn) (im : Bs) : Bool := decide (65536 < im.length) || decide (j.t = 2147483647)
def nxI (j : Jn) : Int := ((j.t + 1) % 2 : Nat)
def svE (D : Dk) (j : Jn) (im : Bs) : Int := if ded D j then 92 else if lim j im then 4 else wrE D (nxI j)
def svD (D : Dk) (j : Jn) (im : Bs) : Dk := if ded D j then D else if lim j im then D else wrD D (nxI j) (cod im (j.t + 1))
def svJ (D : Dk) (j : Jn) (im : Bs) : Jn := if ded D j then j else if lim j im then j else if wrE D (nxI j) = 0 then { j with t := j.t + 1, im := im } else { j with fd := true }

theorem hI_cod (im : Bs) (t : Nat) : hI (cod im t) = im := by
  unfold hI
  rw [cod_len]
  unfold cod
  rw [List.append_assoc, List.drop_append_of_le_length (by rw [four_len]; omega), List.drop_eq_nil_of_le (by rw [four_len]; omega), List.nil_append]
  rw [show im.length + 8 - 8 = im.length by omega, List.take_append_of_le_length (Nat.le_refl _), List.take_length]
theorem hT_cod (im : Bs) {t : Nat} (h : t < 4294967296) : hT (cod im t) = t := by
  unfold hT
  rw [cod_len]
  unfold cod
  rw [List.drop_append_of_le_length (by simp [four_len]; omega), List.drop_eq_nil_of_le (by simp [four_len]; omega), List.nil_append]
  exact num_four h
theorem isH_cod {im : Bs} {t : Nat} (h0 : im.length ≤ 65536) (h1 : 1 ≤ t) (h2 : t ≤ 2147483647) : isH (t % 2) (cod im t) = true := by
  rw [isH_iff, cod_len, hT_cod im (by omega)]
  refine ⟨by omega, by omega, ?_, h1, h2, rfl⟩
  unfold cod
  rw [List.append_assoc, List.take_append_of_le_length (by rw [four_len]; omega), List.take_of_length_le (by rw [four_len]; omega), num_four (by omega)]
  omega
/-- a part of such bytes holds nothing -/
theorem isH_cut {im : Bs} {t k : Nat} (i : Nat) (h0 : im.length ≤ 65536) (hk : k < (cod im t).length) : isH i ((cod im t).take k) = false := by
  rw [← Bool.not_eq_true, isH_iff]
  rintro ⟨h1, _, h3, _⟩
  rw [List.length_take, Nat.min_eq_left (by omega)] at h1 h3
  rw [List.take_take, Nat.min_eq_left (by omega)] at h3
  unfold cod at h3
  rw [List.append_assoc, List.take_append_of_le_length (by rw [four_len]; omega), List.take_of_length_le (by rw [four_len]; omega), num_four (by omega)] at h3
  rw [cod_len] at hk
  omega
theorem isH_nil (i : Nat) : isH i [] = false := rfl
end Go.Proofs.Ytalfffkcmddakab.Pl
