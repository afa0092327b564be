/- Plain: hinges: openings, tightenings, how long one lasts, how often it is tightened. -/
import Derived.Test.YtdnfipeadoiepaaP1
namespace Go.Proofs.Ytdnfipeadoiepaa.Pl

/-- one opening -/
def op1 (h : Hg) (f : Int) : Int := f - (f * h.wear + 1000 * h.b - 1).tdiv (1000 * h.b)
theorem mul_wear {h : Hg} (hv : Vh h) {f : Int} (hf : 0 ≤ f) : 0 ≤ f * h.wear ∧ f * h.wear ≤ 1000 * f := by
  have h1 := hv.w1
  have h2 := hv.w2
  refine ⟨Int.mul_nonneg hf h1, ?_⟩
  have := Int.mul_le_mul_of_nonneg_left h2 hf
  omega
theorem op1_div {h : Hg} (hv : Vh h) {f : Int} (hf : 0 ≤ f) : op1 h f = f - (f * h.wear + 1000 * h.b - 1) / (1000 * h.b) := by
  have h1 := mul_wear hv hf
  have hb := hv.b
  unfold op1
  rw [Int.tdiv_eq_ediv_of_nonneg (by omega)]
theorem op1_bounds {h : Hg} (hv : Vh h) {f : Int} (hf : 0 ≤ f) : 0 ≤ op1 h f ∧ op1 h f ≤ f := by
  rw [op1_div hv hf]
  have h1 := mul_wear hv hf
  generalize f * h.wear = p at *
  rcases hv.b with e | e | e <;> rw [e] <;> omega
theorem op1_mono {h : Hg} (hv : Vh h) {f g : Int} (hf : 0 ≤ f) (hg : f ≤ g) : op1 h f ≤ op1 h g := by
  rw [op1_div hv hf, op1_div hv (by omega)]
  have h1 := mul_wear hv hf
  have h2 := mul_wear hv (f := g - f) (by omega)
  have h3 : g * h.wear = f * h.wear + (g - f) * h.wear := by rw [← Int.add_mul]; congr 1; omega
  rw [h3]
  generalize f * h.wear = p at *
  generalize (g - f) * h.wear = q at *
  rcases hv.b with e | e | e <;> rw [e] <;> omega
theorem op1_add {h : Hg} (hv : Vh h) {f t : Int} (hf : 0 ≤ f) (ht : 0 ≤ t) : op1 h (f + t) ≤ op1 h f + t := by
  rw [op1_div hv hf, op1_div hv (by omega)]
  have h1 := mul_wear hv hf
  have h2 := mul_wear hv (f := t) ht
  rw [Int.add_mul]
  generalize f * h.wear = p at *
  generalize t * h.wear = q at *
  rcases hv.b with e | e | e <;> rw [e] <;> omega
/-- n openings -/
def opn (h : Hg) (f : Int) : Nat → Int
  | 0 => f
  | n + 1 => op1 h (opn h f n)
theorem opn_bounds {h : Hg} (hv : Vh h) {f : Int} (hf : 0 ≤ f) : ∀ n, 0 ≤ opn h f n ∧ opn h f n ≤ f
  | 0 => ⟨hf, Int.le_refl _⟩
  | n + 1 => by
    have h1 := opn_bounds hv hf n
    have h2 := op1_bounds hv h1.1
    exact ⟨h2.1, Int.le_trans h2.2 h1.2⟩
theorem opn_add (h : Hg) (f : Int) (m : Nat) : ∀ n, opn h f (m + n) = opn h (opn h f m) n
  | 0 => rfl
  | n + 1 => by show op1 h (opn h f (m + n)) = _; rw [opn_add h f m n]; rfl
theorem opn_mono {h : Hg} (hv : Vh h) {f g : Int} (hf : 0 ≤ f) (hg : f ≤ g) : ∀ n, opn h f n ≤ opn h g n
  | 0 => hg
  | n + 1 => op1_mono hv (opn_bounds hv hf n).1 (opn_mono hv hf hg n)
/-- a tightening -/
def tig (h : Hg) (f : Int) : Int := min (f + h.tight) h.start
theorem tig_bounds {h : Hg} (hv : Vh h) {f : Int} (hf : 0 ≤ f) : 0 ≤ tig h f ∧ tig h f ≤ h.start := by
  have h1 := hv.t1
  have h2 := hv.s1
  unfold tig; omega
/-- the error of a hinge, a friction, a number of openings and a least friction -/
def ckh (h : Hg) (f n least : Int) : Int := if vhg h = true then (if (inB 0 f h.start && (inB 0 n 100000 && inB 0 least h.start)) = true then 0 else 2) else 41
theorem ckh_ok {h : Hg} {f n least : Int} (e : ckh h f n least = 0) : Vh h ∧ (0 ≤ f ∧ f ≤ h.start) ∧ (0 ≤ n ∧ n ≤ 100000) ∧ 0 ≤ least ∧ least ≤ h.start := by
  unfold ckh at e
  split at e
  · rename_i h1
    split at e
    · rename_i h2
      rw [Bool.and_eq_true, Bool.and_eq_true, inB_true, inB_true, inB_true] at h2
      exact ⟨vhg_true.1 h1, h2.1, h2.2.1, h2.2.2⟩
    · cases e
  · cases e
theorem ckh_mk {h : Hg} {f n least : Int} (hv : Vh h) (h1 : 0 ≤ f ∧ f ≤ h.start) (h2 : 0 ≤ n ∧ n ≤ 100000) (h3 : 0 ≤ least ∧ least ≤ h.start) : ckh h f n least = 0 := by
  unfold ckh
  rw [if_pos (vhg_true.2 hv), if_pos]
  rw [Bool.and_eq_true, Bool.and_eq_true, inB_true, inB_true, inB_true]
  exact ⟨h1, h2, h3⟩
theorem ckh_three (h : Hg) (f n least : Int) : ckh h f n least = 0 ∨ ckh h f n least = 2 ∨ ckh h f n least = 41 := by
  unfold ckh
  split
  · split
    · exact .inl rfl
    · exact .inr (.inl rfl)
  · exact .inr (.inr rfl)
/-- Opened -/
def opV (h : Hg) (f n : Int) : Int := if ckh h f n 0 = 0 then opn h f n.toNat else 0
/-- Tightened -/
def tiV (h : Hg) (f : Int) : Int := if ckh h f 0 0 = 0 then tig h f else 0
/-- from opening n on, with the friction f, for as many openings: the first at which it is too loose -/
def lif (h : Hg) (least : Int) : Nat → Nat → Int → Option Nat
  | 0, _, _ => none
  | k + 1, n, f => if f < least then some n else lif h least k (n + 1) (op1 h f)
/-- Life -/
def liO (h : Hg) (f least : Int) : Option Nat := if ckh h f 0 least = 0 then lif h least 100001 0 f else none
def liN : Option Nat → Int
  | some n => n
  | none => 0
def liB : Option Nat → Bool
  | some _ => true
  | none => false
/-- as many openings with services -/
def sv (h : Hg) (least : Int) : Nat → Int → Int → Option Int
  | 0, s, _ => some s
  | k + 1, s, f =>
    if op1 h f < least then
      (if op1 h (tig h f) < least then none else sv h least k (s + 1) (op1 h (tig h f)))
    else sv h least k s (op1 h f)
/-- Services -/
def svO (h : Hg) (n least : Int) : Option Int := if ckh h 0 n least = 0 then sv h least n.toNat 0 h.start else some 0
def svN : Option Int → Int
  | some s => s
  | none => 0
def svE (e : Int) : Option Int → Int
  | some _ => e
  | none => 4
end Go.Proofs.Ytdnfipeadoiepaa.Pl
