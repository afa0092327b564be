/- Plain: the library's words for numbers, held against those of P2. It imports nothing of the program. -/
import Derived.Test.YticjhkfidgkecaaGreatDoorP2
import Derived.Lib.AtoiAllCases
import Derived.Lib.ItoaNum
import Derived.Lib.SlTrimSet
import Derived.Lib.Strings
import Derived.Lib.Bytealg
namespace Go.Proofs.YticjhkfidgkecaaGreatDoor.Pl
open Go

def tens : List UInt8 := [48, 49, 50, 51, 52, 53, 54, 55, 56, 57]
theorem tens_dig (c : UInt8) : tens.contains c = isDig c := by
  have h : c = UInt8.ofNat c.toNat := by simp
  rw [h]
  have hl : c.toNat < 256 := c.toNat_lt
  generalize c.toNat = n at hl
  revert n
  decide +kernel
theorem dropWhile_take (p : UInt8 → Bool) (l : List UInt8) : l.dropWhile p = l.drop (l.takeWhile p).length := by
  induction l with
  | nil => rfl
  | cons a l ih =>
    by_cases h : p a = true
    · simp [h, ih]
    · simp [h]
theorem trimLeft_digs (s : List UInt8) : Lib.trimLeftS s tens = s.drop (digs s).length := by
  unfold Lib.trimLeftS digs
  rw [show (fun x => tens.contains x) = isDig from funext tens_dig]
  exact dropWhile_take _ _
theorem trimSuffix_digs (s : List UInt8) : Lib.trimSuffix s (s.drop (digs s).length) = digs s := by
  have h1 : Lib.hasSuffix s (s.drop (digs s).length) = true := by
    unfold Lib.hasSuffix
    rw [List.isSuffixOf_iff_suffix]
    exact List.drop_suffix _ _
  unfold Lib.trimSuffix
  rw [if_pos h1, List.length_drop]
  have hl : (digs s).length ≤ s.length := by unfold digs; exact (List.takeWhile_sublist _).length_le
  rw [show s.length - (s.length - (digs s).length) = (digs s).length by omega]
  exact (List.prefix_iff_eq_take.1 (List.takeWhile_prefix isDig)).symm
theorem itoa_dec (n : Int) (h0 : 0 ≤ n) (h1 : n ≤ 999) : Lib.itoa n = dec n := by
  have hk : n.toNat ≤ 999 := by omega
  unfold Lib.itoa dec
  rw [if_neg (by omega)]
  generalize n.toNat = k at *
  dsimp only
  by_cases a : k < 10
  · rw [if_pos a, Lib.decDigits, dif_pos a]; rfl
  · rw [if_neg a]
    by_cases b : k < 100
    · rw [if_pos b, Lib.decDigits, dif_neg a, Lib.decDigits, dif_pos (by omega)]; rfl
    · rw [if_neg b, Lib.decDigits, dif_neg a, Lib.decDigits, dif_neg (by omega), Lib.decDigits, dif_pos (by omega)]
      rw [Nat.div_div_eq_div_mul]; rfl
theorem dig_nat {c : UInt8} (h : isDig c = true) : 48 ≤ c.toNat ∧ c.toNat ≤ 57 := by
  unfold isDig at h; simpa using h
theorem atoi_digs {ds : List UInt8} (hd : ∀ c, c ∈ ds → isDig c = true) (ho : OkNum ds) : Lib.atoiAll ds = .ok (val ds) := by
  obtain ⟨h1, h3, _⟩ := ho
  match ds, h1, h3 with
  | [a], _, _ =>
    have ha := dig_nat (hd a (by simp))
    simp [Lib.atoiAll, Lib.parseMag, Lib.parseUint10, val, ha, show ¬ a.toNat = 43 by omega, show ¬ a.toNat = 45 by omega]
    repeat rw [if_neg (by omega)]
    try dsimp only
    repeat rw [if_neg (by omega)]
  | [a, b], _, _ =>
    have ha := dig_nat (hd a (by simp))
    have hb := dig_nat (hd b (by simp))
    simp [Lib.atoiAll, Lib.parseMag, Lib.parseUint10, val, ha, hb, show ¬ a.toNat = 43 by omega, show ¬ a.toNat = 45 by omega]
    repeat rw [if_neg (by omega)]
    try dsimp only
    repeat rw [if_neg (by omega)]
    congr 1
    omega
  | [a, b, c], _, _ =>
    have ha := dig_nat (hd a (by simp))
    have hb := dig_nat (hd b (by simp))
    have hc := dig_nat (hd c (by simp))
    simp [Lib.atoiAll, Lib.parseMag, Lib.parseUint10, val, ha, hb, hc, show ¬ a.toNat = 43 by omega, show ¬ a.toNat = 45 by omega]
    repeat rw [if_neg (by omega)]
    try dsimp only
    repeat rw [if_neg (by omega)]
    congr 1
    omega
theorem atoi_bad {ds : List UInt8} (hd : ∀ c, c ∈ ds → isDig c = true) (hn : ¬ OkNum ds) :
    Lib.atoiAll ds = .syntax ∨ Lib.atoiAll ds = .range ∨ ∃ v, Lib.atoiAll ds = .ok v ∧ (-9223372036854775808 ≤ v ∧ v ≤ 9223372036854775807) ∧ (999 < v ∨ (v ≤ 999 ∧ Lib.itoa v ≠ ds)) := by
  cases h : Lib.atoiAll ds with
  | «syntax» => exact .inl rfl
  | range => exact .inr (.inl rfl)
  | ok v =>
    refine .inr (.inr ⟨v, rfl, Lib.atoiAll_bounds h, ?_⟩)
    rcases Int.lt_or_le 999 v with g | g
    · exact .inl g
    · refine .inr ⟨g, fun e => ?_⟩
      rcases Int.lt_or_le v 0 with n | n
      · unfold Lib.itoa at e
        rw [if_pos n] at e
        have := dig_nat (hd 45 (by rw [← e]; simp))
        revert this; decide
      · rw [itoa_dec v n g] at e
        exact hn (e ▸ (dec_facts v n g).2.1)
theorem digs_len (s : List UInt8) : (digs s).length ≤ s.length := by unfold digs; exact (List.takeWhile_sublist _).length_le
end Go.Proofs.YticjhkfidgkecaaGreatDoor.Pl
