/- Plain: choices and samples as they are asked for. -/
import Derived.Test.YtfkhlglagokodaaP3
namespace Go.Proofs.Ytfkhlglagokodaa.Pl

/-- C(n, k) as it is asked for, and the samples with so many bad pieces -/
def He (n : Int) : Int := if inB 0 n 60 = true then 0 else 2
def Hv (n k : Int) : Nat := if inB 0 n 60 = true then chz n.toNat k else 0
theorem He_ok {n : Nat} (h : n ≤ 60) : He n = 0 := by unfold He; rw [if_pos (inB_iff.2 ⟨by omega, by omega⟩)]
theorem Hv_ok {n k : Nat} (h : n ≤ 60) : Hv n k = ch n k := by unfold Hv chz; rw [if_pos (inB_iff.2 ⟨by omega, by omega⟩), if_neg (by omega)]; rfl
def wok (L b s : Int) : Bool := inB 0 L 60 && (inB 0 b L && inB 0 s L)
def We (L b s : Int) : Int := if wok L b s = true then 0 else 2
def wl (L b s : Nat) : List Nat := (List.range (s + 1)).map (wy b (L - b) s)
def Wl (L b s : Int) : List Nat := if wok L b s = true then wl L.toNat b.toNat s.toNat else []
theorem wok_ok {L b s : Int} (h : wok L b s = true) : ∃ l c t : Nat, L = l ∧ b = c ∧ s = t ∧ l ≤ 60 ∧ c ≤ l ∧ t ≤ l ∧ We L b s = 0 ∧ Wl L b s = wl l c t := by
  have h2 := h
  unfold wok at h2
  simp only [Bool.and_eq_true, inB_iff] at h2
  obtain ⟨⟨a1, a2⟩, ⟨a3, a4⟩, a5, a6⟩ := h2
  obtain ⟨l, rfl⟩ : ∃ k : Nat, L = k := ⟨L.toNat, by omega⟩
  obtain ⟨c, rfl⟩ : ∃ k : Nat, b = k := ⟨b.toNat, by omega⟩
  obtain ⟨t, rfl⟩ : ∃ k : Nat, s = k := ⟨s.toNat, by omega⟩
  refine ⟨l, c, t, rfl, rfl, rfl, by omega, by omega, by omega, ?_, ?_⟩
  · unfold We; rw [if_pos h]
  · unfold Wl; rw [if_pos h]; rfl
theorem wok_nat {l c t : Nat} (h1 : l ≤ 60) (h2 : c ≤ l) (h3 : t ≤ l) : wok l c t = true := by
  unfold wok; simp only [Bool.and_eq_true, inB_iff]; omega
theorem wl_len (L b s : Nat) : (wl L b s).length = s + 1 := by simp [wl]
theorem wl_sum (L b s : Nat) : ∀ k, k ≤ s + 1 → ((wl L b s).take k).foldl (· + ·) 0 = sm (wy b (L - b) s) k := by
  intro k
  induction k with
  | zero => intro _; rfl
  | succ k ih =>
    intro hk
    rw [List.take_succ_eq_append_getElem (by rw [wl_len]; omega), List.foldl_append, ih (by omega)]
    show _ + (wl L b s)[k]'_ = _
    simp [wl, sm]
end Go.Proofs.Ytfkhlglagokodaa.Pl
