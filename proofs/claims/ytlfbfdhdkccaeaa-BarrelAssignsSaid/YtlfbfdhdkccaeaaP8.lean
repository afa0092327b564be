/- Plain: the hours of a run; in which stage a batch is. -/
import Derived.Test.YtlfbfdhdkccaeaaP5
import Derived.Test.YtlfbfdhdkccaeaaP7
namespace Go.Proofs.Ytlfbfdhdkccaeaa.Pl

/-- hours of cleaning -/
def hc (c : Bool) (cl : Int) : Int := if c = true then cl else 0
/-- a run ends when its hours are over -/
def er (E : Bt) (r : Rn) (cl : Int) : Bool := decide (r.f ≤ r.t) && decide (r.t - r.f = hc r.c cl + len E)
theorem er_true {E : Bt} {r : Rn} {cl : Int} : er E r cl = true ↔ r.f ≤ r.t ∧ r.t - r.f = hc r.c cl + len E := by unfold er; rw [Bool.and_eq_true, decide_eq_true_iff, decide_eq_true_iff]
theorem hc_bd {c : Bool} {cl : Int} (h0 : 0 ≤ cl) (h1 : cl ≤ 100) : 0 ≤ hc c cl ∧ hc c cl ≤ 100 := by unfold hc; split <;> omega
/-- the stage at so many hours behind the begin -/
def sg (E : Bt) (c p : Int) : Int :=
  if p < c then 0 else if p - c < E.h0 then 1 else if p - c - E.h0 < E.h1 then 2 else if p - c - E.h0 - E.h1 < E.h2 then 3 else if p - c - E.h0 - E.h1 - E.h2 < E.h3 then 4 else 5
/-- counted from the end -/
def sb (E : Bt) (q : Int) : Int :=
  if q ≤ E.h3 then 4 else if q - E.h3 ≤ E.h2 then 3 else if q - E.h3 - E.h2 ≤ E.h1 then 2 else if q - E.h3 - E.h2 - E.h1 ≤ E.h0 then 1 else 0
theorem sg_sb {E : Bt} (h : Vb E) {c p q : Int} (hq : 0 < q) (ht : p + q = c + len E) : sg E c p = sb E q := by
  obtain ⟨a0, _, a1, _, a2, _, a3, _⟩ := h
  unfold len at ht
  unfold sg sb
  repeat' split
  all_goals first | rfl | (exfalso; omega)
/-- the error of Stage -/
def stE (l : List Bt) (r : Rn) (cl : Int) : Int := if vs l = true then (if inB 0 cl 100 = true ∧ (0 ≤ r.b ∧ r.b < l.length) ∧ er (at' l r.b.toNat) r cl = true then 0 else 2) else 60
/-- Stage -/
def stV (l : List Bt) (r : Rn) (cl h : Int) : Int := if stE l r cl = 0 then (if h < r.f ∨ r.t ≤ h then 5 else sg (at' l r.b.toNat) (hc r.c cl) (h - r.f)) else 0
theorem stE_no {l : List Bt} {r : Rn} {cl : Int} (h : vs l = false) : stE l r cl = 60 := if_neg (by rw [h]; simp)
theorem stE_bad {l : List Bt} {r : Rn} {cl : Int} (h : vs l = true) (h2 : ¬ (inB 0 cl 100 = true ∧ (0 ≤ r.b ∧ r.b < l.length) ∧ er (at' l r.b.toNat) r cl = true)) : stE l r cl = 2 := by unfold stE; rw [if_pos h, if_neg h2]
theorem stE_ok {l : List Bt} {r : Rn} {cl : Int} (h : vs l = true) (h2 : inB 0 cl 100 = true ∧ (0 ≤ r.b ∧ r.b < l.length) ∧ er (at' l r.b.toNat) r cl = true) : stE l r cl = 0 := by unfold stE; rw [if_pos h, if_pos h2]
end Go.Proofs.Ytlfbfdhdkccaeaa.Pl
