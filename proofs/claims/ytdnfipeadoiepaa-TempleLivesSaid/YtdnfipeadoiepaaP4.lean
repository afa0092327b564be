/- Plain: what holds of openings and services: the first opening at which a hinge is too loose; more openings and a greater friction never need fewer services. -/
import Derived.Test.YtdnfipeadoiepaaP3
namespace Go.Proofs.Ytdnfipeadoiepaa.Pl

theorem lif_some {h : Hg} {least f : Int} {m : Nat} : ∀ {k n : Nat}, lif h least k n (opn h f n) = some m → n ≤ m ∧ m < n + k ∧ opn h f m < least ∧ ∀ j, n ≤ j → j < m → ¬ opn h f j < least
  | 0, _, e => by cases e
  | k + 1, n, e => by
    rw [lif] at e
    split at e
    · rename_i hl
      cases e
      exact ⟨Nat.le_refl _, by omega, hl, fun j h1 h2 => by omega⟩
    · rename_i hl
      obtain ⟨h1, h2, h3, h4⟩ := lif_some (k := k) (n := n + 1) e
      refine ⟨by omega, by omega, h3, fun j h5 h6 => ?_⟩
      by_cases e5 : j = n
      · subst e5; exact hl
      · exact h4 j (by omega) h6
theorem lif_none {h : Hg} {least f : Int} : ∀ {k n : Nat}, lif h least k n (opn h f n) = none → ∀ j, n ≤ j → j < n + k → ¬ opn h f j < least
  | 0, _, _, j, h1, h2 => by omega
  | k + 1, n, e, j, h1, h2 => by
    rw [lif] at e
    split at e
    · cases e
    · rename_i hl
      by_cases e5 : j = n
      · subst e5; exact hl
      · exact lif_none (k := k) (n := n + 1) e j (by omega) (by omega)

theorem tig_mono {h : Hg} {f g : Int} (hf : f ≤ g) : tig h f ≤ tig h g := by unfold tig; omega
theorem op1_tig {h : Hg} (hv : Vh h) {f : Int} (hf : 0 ≤ f) : op1 h (tig h f) ≤ tig h (op1 h f) := by
  have h1 := hv.t1
  have h2 := hv.s1
  have h3 := op1_add hv hf (t := h.tight) (by omega)
  have h4 := tig_bounds hv hf
  have h5 := op1_bounds hv h4.1
  have h6 : op1 h (tig h f) ≤ op1 h (f + h.tight) := op1_mono hv h4.1 (by unfold tig; omega)
  generalize op1 h (tig h f) = a at *
  generalize op1 h (f + h.tight) = b at *
  generalize op1 h f = c at *
  unfold tig at *
  omega
/-- k tightenings -/
def tk (h : Hg) : Nat → Int → Int
  | 0, f => f
  | k + 1, f => tig h (tk h k f)
theorem tk_mono {h : Hg} {f g : Int} (hf : f ≤ g) : ∀ k, tk h k f ≤ tk h k g
  | 0 => hf
  | k + 1 => tig_mono (tk_mono hf k)
theorem tk_pos {h : Hg} (hv : Vh h) {f : Int} (hf : 0 ≤ f) : ∀ k, 0 ≤ tk h k f
  | 0 => hf
  | k + 1 => (tig_bounds hv (tk_pos hv hf k)).1
theorem tk_tig {h : Hg} {f : Int} : ∀ k, tk h k (tig h f) = tig h (tk h k f)
  | 0 => rfl
  | k + 1 => by rw [tk, tk_tig k, tk]
theorem op1_tk {h : Hg} (hv : Vh h) {f : Int} (hf : 0 ≤ f) : ∀ k, op1 h (tk h k f) ≤ tk h k (op1 h f)
  | 0 => Int.le_refl _
  | k + 1 => Int.le_trans (op1_tig hv (tk_pos hv hf k)) (tig_mono (op1_tk hv hf k))

/-- a greater least friction never needs fewer services -/
theorem sv_least {h : Hg} (hv : Vh h) (a : Int) : ∀ (N k : Nat) (s f g s1 u1 : Int), 0 ≤ f → 0 ≤ g → g ≤ tk h k f → sv h a N s f = some s1 → sv h (a + 1) N (s + k) g = some u1 → s1 ≤ u1
  | 0, k, s, f, g, s1, u1, _, _, _, e1, e2 => by
    rw [sv] at e1 e2
    cases e1; cases e2
    omega
  | N + 1, k, s, f, g, s1, u1, hf, hg, hk, e1, e2 => by
    have mk : op1 h g ≤ op1 h (tk h k f) := op1_mono hv hg hk
    have tf := (tig_bounds hv hf).1
    have tg := (tig_bounds hv hg).1
    have of := (op1_bounds hv hf).1
    have og := (op1_bounds hv hg).1
    have otf := (op1_bounds hv tf).1
    have otg := (op1_bounds hv tg).1
    have mt : op1 h (tig h g) ≤ op1 h (tig h (tk h k f)) := op1_mono hv tg (tig_mono hk)
    rw [sv] at e1 e2
    by_cases h1 : op1 h f < a
    · rw [if_pos h1] at e1
      have e1' : sv h a N (s + 1) (op1 h (tig h f)) = some s1 := by
        split at e1
        · cases e1
        · exact e1
      by_cases h2 : op1 h g < a + 1
      · rw [if_pos h2] at e2
        have e2' : sv h (a + 1) N (s + k + 1) (op1 h (tig h g)) = some u1 := by
          split at e2
          · cases e2
          · exact e2
        refine sv_least hv a N k (s + 1) _ _ s1 u1 otf otg ?_ e1' (by rw [show s + 1 + (k : Int) = s + k + 1 from by omega]; exact e2')
        rw [← tk_tig] at mt
        exact Int.le_trans mt (op1_tk hv tf k)
      · rw [if_neg h2] at e2
        match k, mk, hk, e2 with
        | 0, mk, hk, _ =>
          have : op1 h g ≤ op1 h f := mk
          omega
        | j + 1, mk, hk, e2 =>
          refine sv_least hv a N j (s + 1) _ _ s1 u1 otf og ?_ e1' (by rw [show s + 1 + (j : Int) = s + ((j + 1 : Nat) : Int) from by omega]; exact e2)
          rw [tk, ← tk_tig] at mk
          exact Int.le_trans mk (op1_tk hv tf j)
    · rw [if_neg h1] at e1
      by_cases h2 : op1 h g < a + 1
      · rw [if_pos h2] at e2
        have e2' : sv h (a + 1) N (s + k + 1) (op1 h (tig h g)) = some u1 := by
          split at e2
          · cases e2
          · exact e2
        refine sv_least hv a N (k + 1) s _ _ s1 u1 of otg ?_ e1 (by rw [show s + ((k + 1 : Nat) : Int) = s + k + 1 from by omega]; exact e2')
        exact Int.le_trans mt (op1_tk hv hf (k + 1))
      · rw [if_neg h2] at e2
        exact sv_least hv a N k s _ _ s1 u1 of og (Int.le_trans mk (op1_tk hv hf k)) e1 e2
theorem sv_succ (h : Hg) (a : Int) (k : Nat) (s f : Int) : sv h a (k + 1) s f = if op1 h f < a then (if op1 h (tig h f) < a then none else sv h a k (s + 1) (op1 h (tig h f))) else sv h a k s (op1 h f) := by rw [sv]
/-- one more opening never needs fewer services -/
theorem sv_more {h : Hg} (a : Int) : ∀ (N : Nat) (s f : Int), (sv h a N s f = none → sv h a (N + 1) s f = none) ∧ (∀ s1, sv h a N s f = some s1 → sv h a (N + 1) s f = none ∨ ∃ t1, sv h a (N + 1) s f = some t1 ∧ s1 ≤ t1)
  | 0, s, f => by
    refine ⟨fun e => (by cases e), fun s1 e => ?_⟩
    rw [sv] at e
    cases e
    rw [sv]
    split
    · split
      · exact .inl rfl
      · exact .inr ⟨_, rfl, by omega⟩
    · exact .inr ⟨_, rfl, by omega⟩
  | N + 1, s, f => by
    rw [sv_succ h a N, sv_succ h a (N + 1)]
    by_cases h1 : op1 h f < a
    · rw [if_pos h1, if_pos h1]
      by_cases h2 : op1 h (tig h f) < a
      · rw [if_pos h2, if_pos h2]
        exact ⟨fun e => e, fun s1 e => by cases e⟩
      · rw [if_neg h2, if_neg h2]
        exact sv_more a N _ _
    · rw [if_neg h1, if_neg h1]
      exact sv_more a N _ _
end Go.Proofs.Ytdnfipeadoiepaa.Pl
