/- Plain: what the slots hold behind any losses of power. -/
import Derived.Test.YtalfffkcmddakabP2
namespace Go.Proofs.Ytalfffkcmddakab.Pl

/-- the slots hold this turn and image -/
def Hol (s0 s1 : Bs) (t : Nat) (im : Bs) : Prop :=
  t = 0 ∧ im = [] ∧ tO 0 s0 = 0 ∧ tO 1 s1 = 0 ∨ 1 ≤ t ∧ (t % 2 = 0 ∧ tO 0 s0 = t ∧ hI s0 = im ∧ tO 1 s1 < t ∨ t % 2 = 1 ∧ tO 1 s1 = t ∧ hI s1 = im ∧ tO 0 s0 < t)
theorem hol0 : Hol [] [] 0 [] := .inl ⟨rfl, rfl, rfl, rfl⟩
theorem hol_opn {D : Dk} {t : Nat} {im : Bs} (h : Hol D.s0 D.s1 t im) : opn D = ⟨t, im, D.st, false⟩ := by
  unfold opn
  rcases h with ⟨rfl, rfl, h0, h1⟩ | ⟨ht, ⟨_, h0, h1, h2⟩ | ⟨_, h0, h1, h2⟩⟩
  · have e0 : stp D 0 ⟨0, [], D.st, false⟩ = ⟨0, [], D.st, false⟩ := by
      unfold stp; rw [show D.sl 0 = D.s0 from rfl, h0, if_neg (by omega)]
    rw [e0]
    unfold stp; rw [show D.sl 1 = D.s1 from rfl, h1, if_neg (by omega)]
  · have e0 : stp D 0 ⟨0, [], D.st, false⟩ = ⟨t, im, D.st, false⟩ := by
      unfold stp; rw [show D.sl 0 = D.s0 from rfl, h0, h1, if_pos (by show 0 < t; omega)]
    rw [e0]
    unfold stp; rw [show D.sl 1 = D.s1 from rfl, if_neg (by show ¬ t < tO 1 D.s1; omega)]
  · by_cases hz : 0 < tO 0 D.s0
    · have e0 : stp D 0 ⟨0, [], D.st, false⟩ = ⟨tO 0 D.s0, hI D.s0, D.st, false⟩ := by
        unfold stp; rw [show D.sl 0 = D.s0 from rfl, if_pos hz]
      rw [e0]
      unfold stp; rw [show D.sl 1 = D.s1 from rfl, h0, h1, if_pos (by show tO 0 D.s0 < t; omega)]
    · have e0 : stp D 0 ⟨0, [], D.st, false⟩ = ⟨0, [], D.st, false⟩ := by
        unfold stp; rw [show D.sl 0 = D.s0 from rfl, if_neg hz]
      rw [e0]
      unfold stp; rw [show D.sl 1 = D.s1 from rfl, h0, h1, if_pos (by show 0 < t; omega)]
theorem tO_cod {l : Bs} {t : Nat} (h0 : l.length ≤ 65536) (h1 : 1 ≤ t) (h2 : t ≤ 2147483647) : tO (t % 2) (cod l t) = t := by
  unfold tO; rw [isH_cod h0 h1 h2, hT_cod l (by omega)]; rfl
theorem tO_of {i : Nat} {b : Bs} (h : isH i b = false) : tO i b = 0 := by unfold tO; rw [h]; rfl
/-- the next image is written -/
theorem hol_put {D : Dk} {t : Nat} {im l : Bs} (h : Hol D.s0 D.s1 t im) (h0 : l.length ≤ 65536) (h2 : t + 1 ≤ 2147483647) : Hol (D.put ((t + 1) % 2) (cod l (t + 1))).s0 (D.put ((t + 1) % 2) (cod l (t + 1))).s1 (t + 1) l := by
  have hc := tO_cod h0 (show 1 ≤ t + 1 by omega) h2
  refine .inr ⟨by omega, ?_⟩
  have hm : t % 2 = 0 ∨ t % 2 = 1 := by omega
  rcases hm with hm | hm
  · have e : (t + 1) % 2 = 1 := by omega
    rw [e] at hc ⊢
    refine .inr ⟨rfl, hc, hI_cod _ _, ?_⟩
    show tO 0 D.s0 < t + 1
    rcases h with ⟨rfl, _, h, _⟩ | ⟨_, ⟨_, h, _⟩ | ⟨h, _⟩⟩ <;> omega
  · have e : (t + 1) % 2 = 0 := by omega
    rw [e] at hc ⊢
    refine .inl ⟨rfl, hc, hI_cod _ _, ?_⟩
    show tO 1 D.s1 < t + 1
    rcases h with ⟨rfl, _, _, h⟩ | ⟨_, ⟨h, _⟩ | ⟨_, h, _⟩⟩ <;> omega
/-- a part of the next image is written -/
theorem hol_cut {D : Dk} {t m : Nat} {im l : Bs} (h : Hol D.s0 D.s1 t im) (h0 : l.length ≤ 65536) (hm : m < (cod l (t + 1)).length) : Hol (D.put ((t + 1) % 2) ((cod l (t + 1)).take m)).s0 (D.put ((t + 1) % 2) ((cod l (t + 1)).take m)).s1 t im := by
  have hm2 : t % 2 = 0 ∨ t % 2 = 1 := by omega
  rcases hm2 with hm2 | hm2
  · have e : (t + 1) % 2 = 1 := by omega
    have hc := tO_of (isH_cut 1 h0 hm)
    rw [e]
    rcases h with ⟨rfl, h1, h2, _⟩ | ⟨ht, ⟨_, h1, h2, _⟩ | ⟨h1, _⟩⟩
    · exact .inl ⟨rfl, h1, h2, hc⟩
    · exact .inr ⟨ht, .inl ⟨hm2, h1, h2, by show tO 1 ((cod l (t + 1)).take m) < t; omega⟩⟩
    · omega
  · have e : (t + 1) % 2 = 0 := by omega
    have hc := tO_of (isH_cut 0 h0 hm)
    rw [e]
    rcases h with ⟨rfl, h1, h2, _⟩ | ⟨ht, ⟨h1, _⟩ | ⟨_, h1, h2, _⟩⟩
    · exact absurd hm2 (by decide)
    · omega
    · exact .inr ⟨ht, .inr ⟨hm2, h1, h2, by show tO 0 ((cod l (t + 1)).take m) < t; omega⟩⟩
/-- a journal that goes with its disk -/
structure Goes (D : Dk) (J : Jn) : Prop where
  up : D.up = true
  fd : J.fd = false
  st : J.st = D.st
  hol : Hol D.s0 D.s1 J.t J.im
theorem Goes.ded {D : Dk} {J : Jn} (h : Goes D J) : ded D J = false := by unfold Pl.ded; rw [h.fd, h.st]; simp
theorem goes0 : Goes dk0 (opn dk0) := by
  rw [hol_opn (D := dk0) hol0]
  exact ⟨rfl, rfl, rfl, hol0⟩
theorem Goes.arm {D : Dk} {J : Jn} (h : Goes D J) (n k : Int) : Goes (armD D n k) J := ⟨h.up, h.fd, h.st, h.hol⟩
theorem nx_cases (J : Jn) : nxI J = ((J.t + 1) % 2 : Nat) ∧ (nxI J = 0 ∨ nxI J = 1) := by unfold nxI; refine ⟨rfl, ?_⟩; omega
theorem Goes.wrE {D : Dk} {J : Jn} (h : Goes D J) : wrE D (nxI J) = if D.fl = 1 then 91 else 0 := by
  have := (nx_cases J).2
  unfold Pl.wrE
  rw [h.up, if_neg (by decide), if_neg (by omega)]
theorem lim_no {J : Jn} {l : Bs} (h0 : l.length ≤ 65536) (h2 : J.t + 1 ≤ 2147483647) : lim J l = false := by
  unfold lim
  rw [Bool.or_eq_false_iff, decide_eq_false_iff_not, decide_eq_false_iff_not]
  omega
theorem Goes.svE {D : Dk} {J : Jn} (h : Goes D J) {l : Bs} (h0 : l.length ≤ 65536) (h2 : J.t + 1 ≤ 2147483647) : svE D J l = if D.fl = 1 then 91 else 0 := by
  unfold Pl.svE; rw [h.ded, lim_no h0 h2]; exact h.wrE
theorem nx_toNat (J : Jn) : (nxI J).toNat = (J.t + 1) % 2 := by unfold nxI; omega
/-- a Save that goes well -/
theorem Goes.ok {D : Dk} {J : Jn} (h : Goes D J) {l : Bs} (h0 : l.length ≤ 65536) (h2 : J.t + 1 ≤ 2147483647) (hf : D.fl ≠ 1) : Goes (svD D J l) (svJ D J l) ∧ (svJ D J l).t = J.t + 1 ∧ (svJ D J l).im = l ∧ (svD D J l).st = D.st := by
  have hw := (nx_cases J).2
  have e1 : svD D J l = { D.put ((J.t + 1) % 2) (cod l (J.t + 1)) with fl := D.fl - 1 } := by
    unfold svD; rw [h.ded, lim_no h0 h2]
    show wrD D (nxI J) (cod l (J.t + 1)) = _
    unfold wrD
    rw [h.up, if_neg (by decide), if_neg (by omega), if_neg hf, nx_toNat]
  have e2 : svJ D J l = { J with t := J.t + 1, im := l } := by
    unfold svJ; rw [h.ded, lim_no h0 h2, h.wrE, if_neg hf]; rfl
  rw [e1, e2]
  refine ⟨⟨?_, h.fd, ?_, hol_put h.hol h0 h2⟩, rfl, rfl, ?_⟩
  · show (D.put _ _).up = true
    unfold Dk.put; split <;> exact h.up
  · show J.st = (D.put _ _).st
    rw [h.st]; unfold Dk.put; split <;> rfl
  · show (D.put _ _).st = D.st
    unfold Dk.put; split <;> rfl
/-- a Save in which the power fails, and a restart -/
theorem Goes.lost {D : Dk} {J : Jn} (h : Goes D J) {l : Bs} (h0 : l.length ≤ 65536) (h2 : J.t + 1 ≤ 2147483647) (hf : D.fl = 1) :
    (svJ D J l).fd = true ∧ (svJ D J l).im = J.im ∧ (svJ D J l).t = J.t ∧ Goes (rsD (svD D J l)) (opn (rsD (svD D J l))) ∧ (rsD (svD D J l)).st = D.st + 1 ∧
      ((opn (rsD (svD D J l))).t = J.t ∧ (opn (rsD (svD D J l))).im = J.im ∨ (opn (rsD (svD D J l))).t = J.t + 1 ∧ (opn (rsD (svD D J l))).im = l) := by
  have hw := (nx_cases J).2
  have e1 : svD D J l = { D.put ((J.t + 1) % 2) ((cod l (J.t + 1)).take (kpN D.kp (cod l (J.t + 1)).length)) with up := false, fl := 0 } := by
    unfold svD; rw [h.ded, lim_no h0 h2]
    show wrD D (nxI J) (cod l (J.t + 1)) = _
    unfold wrD
    rw [h.up, if_neg (by decide), if_neg (by omega), if_pos hf, nx_toNat]
  have e2 : svJ D J l = { J with fd := true } := by
    unfold svJ; rw [h.ded, lim_no h0 h2, h.wrE, if_pos hf]; rfl
  rw [e1, e2]
  have hst : ∀ (i : Nat) (x : Bs), (D.put i x).st = D.st := fun i x => by unfold Dk.put; split <;> rfl
  generalize hm : kpN D.kp (cod l (J.t + 1)).length = m
  have hml : m ≤ (cod l (J.t + 1)).length := by rw [← hm]; exact kpN_le _ _
  generalize hD2 : rsD { D.put ((J.t + 1) % 2) ((cod l (J.t + 1)).take m) with up := false, fl := 0 } = D2
  have s0 : D2.s0 = (D.put ((J.t + 1) % 2) ((cod l (J.t + 1)).take m)).s0 := by rw [← hD2]; rfl
  have s1 : D2.s1 = (D.put ((J.t + 1) % 2) ((cod l (J.t + 1)).take m)).s1 := by rw [← hD2]; rfl
  have s2 : D2.st = D.st + 1 := by rw [← hD2]; show (D.put _ _).st + 1 = _; rw [hst]
  have s3 : D2.up = true := by rw [← hD2]; rfl
  refine ⟨rfl, rfl, rfl, ?_⟩
  by_cases hlt : m < (cod l (J.t + 1)).length
  · have hh := hol_cut h.hol h0 hlt
    rw [← s0, ← s1] at hh
    have ho := hol_opn hh
    rw [ho]
    exact ⟨⟨s3, rfl, rfl, hh⟩, s2, .inl ⟨rfl, rfl⟩⟩
  · have hh := hol_put h.hol h0 h2
    rw [List.take_of_length_le (by omega)] at s0 s1
    rw [← s0, ← s1] at hh
    have ho := hol_opn hh
    rw [ho]
    exact ⟨⟨s3, rfl, rfl, hh⟩, s2, .inr ⟨rfl, rfl⟩⟩
theorem ded_fd {D : Dk} {J : Jn} (h : J.fd = true) : ded D J = true := by unfold ded; rw [h]; rfl
end Go.Proofs.Ytalfffkcmddakab.Pl
