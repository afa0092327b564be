/- Merged: Ar1 Ar2 T11 T12 T13 T14a T14. -/
import Derived.Test.YtlikmlhlfbdchaaBX
import Derived.Test.YtlikmlhlfbdchaaTY
import Derived.Test.YtlikmlhlfbdchaaBZ
import Derived.Deep.RegionLaw
/- Plain: triangles that are apart, within a board, have together at most its area. It imports nothing of the program. -/
namespace Go.Proofs.Ytlikmlhlfbdchaa.Ar
open Geo (XY Cross)
/-- the height of the line through two places in the middle of a strip -/
def yv (a b : XY) (k : Int) : Rat := (a.2 : Rat) + ((b.2 : Rat) - a.2) * ((k : Rat) - a.1 + (1/2 : Rat)) * ((b.1 : Rat) - a.1)⁻¹
theorem dx_inv {a b : XY} (h : a.1 < b.1) : ((b.1 : Rat) - a.1) * ((b.1 : Rat) - a.1)⁻¹ = 1 ∧ 0 < ((b.1 : Rat) - a.1)⁻¹ := by
  have h1 : (a.1 : Rat) < b.1 := Rat.intCast_lt_intCast.2 h
  have h2 : 0 < (b.1 : Rat) - a.1 := by grind
  exact ⟨Rat.mul_inv_cancel _ (by grind), Rat.inv_pos.2 h2⟩
/-- what a side sweeps in a strip -/
def g (a b : XY) (k : Int) : Rat := if a.1 ≤ k ∧ k < b.1 then -(2 * yv a b k) else if b.1 ≤ k ∧ k < a.1 then 2 * yv b a k else 0
theorem g_swap (a b : XY) (k : Int) : g b a k = - g a b k := by
  unfold g
  by_cases h1 : a.1 ≤ k ∧ k < b.1
  · rw [if_neg (by omega), if_pos h1, if_pos h1]; grind
  · by_cases h2 : b.1 ≤ k ∧ k < a.1
    · rw [if_pos h2, if_neg h1, if_pos h2]
    · rw [if_neg h2, if_neg h1, if_neg h1, if_neg h2]; grind
def sm (f : Int → Rat) : Nat → Rat
  | 0 => 0
  | n + 1 => sm f n + f (n : Int)
theorem sm_neg (f : Int → Rat) (n : Nat) : sm (fun k => - f k) n = - sm f n := by
  induction n with
  | zero => simp [sm]
  | succ n ih => simp only [sm]; rw [ih]; grind
theorem sm_add (f h : Int → Rat) (n : Nat) : sm (fun k => f k + h k) n = sm f n + sm h n := by
  induction n with
  | zero => simp only [sm]; grind
  | succ n ih => simp only [sm]; rw [ih]; grind
theorem sm_le (f : Int → Rat) (c : Rat) (n : Nat) (h : ∀ k, k < n → f (k : Int) ≤ c) : sm f n ≤ n * c := by
  induction n with
  | zero => simp [sm]
  | succ n ih => 
    have a := ih (fun k hk => h k (by omega))
    have b := h n (by omega)
    simp only [sm]
    have e : ((n + 1 : Nat) : Rat) = (n : Rat) + 1 := by grind
    rw [e]; grind
theorem sm_g0 {a b : XY} (h : a.1 < b.1) (n : Nat) (ha : 0 ≤ a.1) : 
    sm (g a b) n = if (n : Int) ≤ a.1 then 0 else if (n : Int) ≤ b.1 then -(2 * (a.2 : Rat) * ((n : Rat) - a.1) + ((b.2 : Rat) - a.2) * ((n : Rat) - a.1) * ((n : Rat) - a.1) * ((b.1 : Rat) - a.1)⁻¹) else -(((b.1 : Rat) - a.1) * ((a.2 : Rat) + b.2)) := by
  obtain ⟨d1, d2⟩ := dx_inv h
  induction n with
  | zero => rw [if_pos (by omega)]; rfl
  | succ n ih =>
    have e : ((n + 1 : Nat) : Rat) = (n : Rat) + 1 := by grind
    have e2 : (((n : Nat) : Int) : Rat) = (n : Rat) := Rat.intCast_natCast n
    rw [sm, ih]
    by_cases h1 : (n : Int) < a.1
    · rw [if_pos (by omega), if_pos (by omega)]; unfold g; rw [if_neg (by omega), if_neg (by omega)]; grind
    · by_cases h2 : (n : Int) < b.1
      · have hg : g a b (n : Int) = -(2 * yv a b n) := by unfold g; rw [if_pos (by omega)]
        rw [hg, if_neg (show ¬ ((n + 1 : Nat) : Int) ≤ a.1 by omega), if_pos (show ((n + 1 : Nat) : Int) ≤ b.1 by omega)]
        unfold yv
        rw [e, e2]
        by_cases h3 : (n : Int) = a.1
        · rw [if_pos (by omega)]
          have e3 : (a.1 : Rat) = (n : Rat) := by rw [← h3]; exact e2
          rw [e3]; grind
        · rw [if_neg (by omega), if_pos (by omega)]
          grind
      · have hg : g a b (n : Int) = 0 := by unfold g; rw [if_neg (by omega), if_neg (by omega)]
        rw [hg, if_neg (by omega), if_neg (show ¬ ((n + 1 : Nat) : Int) ≤ a.1 by omega), if_neg (show ¬ ((n + 1 : Nat) : Int) ≤ b.1 by omega)]
        by_cases h3 : (n : Int) = b.1
        · rw [if_pos (by omega)]
          have e3 : (b.1 : Rat) = (n : Rat) := by rw [← h3]; exact e2
          rw [← e3]; grind
        · rw [if_neg (by omega)]; grind
theorem sm_g (a b : XY) (n : Nat) (ha : 0 ≤ a.1 ∧ a.1 ≤ n) (hb : 0 ≤ b.1 ∧ b.1 ≤ n) : sm (g a b) n = (((a.1 - b.1) * (a.2 + b.2) : Int) : Rat) := by
  have e : (((a.1 - b.1) * (a.2 + b.2) : Int) : Rat) = ((a.1 : Rat) - b.1) * ((a.2 : Rat) + b.2) := by rw [Rat.intCast_mul, Rat.intCast_sub, Rat.intCast_add]
  have key : ∀ {a b : XY}, a.1 < b.1 → 0 ≤ a.1 → b.1 ≤ n → sm (g a b) n = ((a.1 : Rat) - b.1) * ((a.2 : Rat) + b.2) := by
    intro a b h ha hb
    obtain ⟨d1, d2⟩ := dx_inv h
    rw [sm_g0 h n ha, if_neg (by omega)]
    split
    · have e3 : (b.1 : Rat) = (n : Rat) := by rw [show b.1 = (n : Int) by omega]; exact Rat.intCast_natCast n
      rw [e3] at d1 ⊢; grind
    · grind
  rw [e]
  rcases Int.lt_trichotomy a.1 b.1 with h | h | h
  · exact key h ha.1 hb.2
  · have : ∀ m, sm (g a b) m = 0 := fun m => by
      induction m with
      | zero => rfl
      | succ m ih => rw [sm, ih]; unfold g; rw [if_neg (by omega), if_neg (by omega)]; grind
    rw [this]
    have : (a.1 : Rat) = b.1 := by rw [h]
    rw [this]; grind
  · have hs : g a b = fun k => - g b a k := funext fun k => g_swap b a k
    rw [hs, sm_neg, key h hb.1 ha.2]; grind
/-- a chord of a triangle: what it sweeps in a strip -/
def G (a b c : XY) (k : Int) : Rat := g a b k + g b c k + g c a k
theorem sm_G (a b c : XY) (n : Nat) (ha : 0 ≤ a.1 ∧ a.1 ≤ n) (hb : 0 ≤ b.1 ∧ b.1 ≤ n) (hc : 0 ≤ c.1 ∧ c.1 ≤ n) : sm (G a b c) n = (Cross a b c : Rat) := by
  have e1 : G a b c = fun k => (fun k => g a b k + g b c k) k + g c a k := rfl
  rw [e1, sm_add, sm_add, sm_g _ _ _ ha hb, sm_g _ _ _ hb hc, sm_g _ _ _ hc ha, ← Rat.intCast_add, ← Rat.intCast_add]
  congr 1
  unfold Cross; grind
/-- a place that lies in a triangle, by all directions -/
def InT (a b c : XY) (x y : Rat) : Prop := ∀ (d : XY) (m : Rat), (d.1 : Rat) * a.1 + d.2 * a.2 ≤ m → (d.1 : Rat) * b.1 + d.2 * b.2 ≤ m → (d.1 : Rat) * c.1 + d.2 * c.2 ≤ m → (d.1 : Rat) * x + d.2 * y ≤ m
theorem in_edge {a b : XY} {k : Int} (h : a.1 ≤ k ∧ k < b.1) (d : XY) (m : Rat) (h1 : (d.1 : Rat) * a.1 + d.2 * a.2 ≤ m) (h2 : (d.1 : Rat) * b.1 + d.2 * b.2 ≤ m) :
    (d.1 : Rat) * ((k : Rat) + 1/2) + d.2 * yv a b k ≤ m := by
  obtain ⟨d1, d2⟩ := dx_inv (show a.1 < b.1 by omega)
  have k1 : (a.1 : Rat) ≤ k := Rat.intCast_le_intCast.2 h.1
  have k2 : (k : Rat) + 1 ≤ b.1 := by
    have := Rat.intCast_le_intCast.2 (show k + 1 ≤ b.1 by omega)
    rw [Rat.intCast_add] at this; exact this
  have s0 : 0 ≤ ((k : Rat) - a.1 + (1/2 : Rat)) * ((b.1 : Rat) - a.1)⁻¹ := Rat.mul_nonneg (by grind) (by grind)
  have s1 : 0 ≤ ((b.1 : Rat) - k - (1/2 : Rat)) * ((b.1 : Rat) - a.1)⁻¹ := Rat.mul_nonneg (by grind) (by grind)
  have p1 := Rat.mul_nonneg s0 (show 0 ≤ m - ((d.1 : Rat) * b.1 + d.2 * b.2) by grind)
  have p2 := Rat.mul_nonneg s1 (show 0 ≤ m - ((d.1 : Rat) * a.1 + d.2 * a.2) by grind)
  unfold yv
  have e : m - ((d.1 : Rat) * ((k : Rat) + 1/2) + d.2 * ((a.2 : Rat) + ((b.2 : Rat) - a.2) * ((k : Rat) - a.1 + (1/2 : Rat)) * ((b.1 : Rat) - a.1)⁻¹)) = ((k : Rat) - a.1 + (1/2 : Rat)) * ((b.1 : Rat) - a.1)⁻¹ * (m - ((d.1 : Rat) * b.1 + d.2 * b.2)) + ((b.1 : Rat) - k - (1/2 : Rat)) * ((b.1 : Rat) - a.1)⁻¹ * (m - ((d.1 : Rat) * a.1 + d.2 * a.2)) := by grind
  grind

theorem yv_bd {a b : XY} {k : Int} (h : a.1 ≤ k ∧ k < b.1) (H : Int) (ha : 0 ≤ a.2 ∧ a.2 ≤ H) (hb : 0 ≤ b.2 ∧ b.2 ≤ H) : 0 ≤ yv a b k ∧ yv a b k ≤ H := by
  have a1 : (0 : Rat) ≤ a.2 := by have := Rat.intCast_le_intCast.2 ha.1; exact this
  have a2 : (a.2 : Rat) ≤ H := Rat.intCast_le_intCast.2 ha.2
  have b1 : (0 : Rat) ≤ b.2 := by have := Rat.intCast_le_intCast.2 hb.1; exact this
  have b2 : (b.2 : Rat) ≤ H := Rat.intCast_le_intCast.2 hb.2
  have p := in_edge h (0, 1) H (by simp; grind) (by simp; grind)
  have q := in_edge h (0, -1) 0 (by simp; grind) (by simp; grind)
  simp at p q
  exact ⟨by grind, by grind⟩
/-- the chord of a triangle in a strip: none, or from l up to u -/
def Chord (a b c : XY) (k : Int) (l u : Rat) : Prop := l ≤ u ∧ G a b c k = 2 * (u - l) ∧ InT a b c ((k : Rat) + 1/2) l ∧ InT a b c ((k : Rat) + 1/2) u ∧ (∃ p, (p = a ∨ p = b ∨ p = c) ∧ p.1 ≤ k) ∧ (∃ p, (p = a ∨ p = b ∨ p = c) ∧ k < p.1)
theorem Chord.rot {a b c : XY} {k : Int} {l u : Rat} (h : Chord a b c k l u) : Chord b c a k l u := by
  obtain ⟨h1, h2, h3, h4, ⟨p, h5, h6⟩, q, h7, h8⟩ := h
  refine ⟨h1, by rw [← h2]; unfold G; grind, fun d m x y z => h3 d m z x y, fun d m x y z => h4 d m z x y, ⟨p, ?_, h6⟩, q, ?_, h8⟩
  · rcases h5 with h | h | h <;> simp [h]
  · rcases h7 with h | h | h <;> simp [h]
theorem chord_low {a b c : XY} {k : Int} (hc : 0 ≤ Cross a b c) (ha : a.1 ≤ k) (hb : k < b.1) (hd : k < c.1) : Chord a b c k (yv a b k) (yv a c k) := by
  have k1 : (a.1 : Rat) ≤ k := Rat.intCast_le_intCast.2 ha
  refine ⟨?_, ?_, fun d m x y z => in_edge ⟨ha, hb⟩ d m x y, fun d m x y z => in_edge ⟨ha, hd⟩ d m x z, ⟨a, by simp, ha⟩, b, by simp, hb⟩
  · obtain ⟨d1, d2⟩ := dx_inv (show a.1 < b.1 by omega)
    obtain ⟨e1, e2⟩ := dx_inv (show a.1 < c.1 by omega)
    have hc' : (0 : Rat) ≤ (((b.1 - a.1) * (c.2 - a.2) - (b.2 - a.2) * (c.1 - a.1) : Int) : Rat) := by
      have := Rat.intCast_le_intCast.2 hc; exact this
    rw [Rat.intCast_sub, Rat.intCast_mul, Rat.intCast_mul, Rat.intCast_sub, Rat.intCast_sub, Rat.intCast_sub, Rat.intCast_sub] at hc'
    have p := Rat.mul_nonneg (Rat.mul_nonneg hc' (show 0 ≤ ((k : Rat) - a.1 + (1/2 : Rat)) by grind)) (Rat.mul_nonneg (show 0 ≤ ((b.1 : Rat) - a.1)⁻¹ by grind) (show 0 ≤ ((c.1 : Rat) - a.1)⁻¹ by grind))
    unfold yv
    generalize ((b.1 : Rat) - a.1)⁻¹ = D at *
    generalize ((c.1 : Rat) - a.1)⁻¹ = E at *
    have f : (((b.1 : Rat) - a.1) * (c.2 - a.2) - (b.2 - a.2) * (c.1 - a.1)) * ((k : Rat) - a.1 + (1/2 : Rat)) * (D * E) = (a.2 + (c.2 - a.2) * ((k : Rat) - a.1 + (1/2 : Rat)) * E) - (a.2 + (b.2 - a.2) * ((k : Rat) - a.1 + (1/2 : Rat)) * D) := by
      have f1 : (((b.1 : Rat) - a.1) * (c.2 - a.2) - (b.2 - a.2) * (c.1 - a.1)) * ((k : Rat) - a.1 + (1/2 : Rat)) * (D * E) = (c.2 - a.2) * ((k : Rat) - a.1 + (1/2 : Rat)) * E * ((b.1 - a.1) * D) - (b.2 - a.2) * ((k : Rat) - a.1 + (1/2 : Rat)) * D * ((c.1 - a.1) * E) := by grind
      rw [f1, d1, e1]; grind
    rw [f] at p
    grind
  · unfold G
    have g1 : g a b k = -(2 * yv a b k) := by unfold g; rw [if_pos ⟨ha, hb⟩]
    have g2 : g b c k = 0 := by unfold g; rw [if_neg (by omega), if_neg (by omega)]
    have g3 : g c a k = 2 * yv a c k := by unfold g; rw [if_neg (by omega), if_pos ⟨ha, hd⟩]
    rw [g1, g2, g3]; grind
theorem chord_high {a b c : XY} {k : Int} (hc : 0 ≤ Cross a b c) (ha : a.1 ≤ k) (hb : b.1 ≤ k) (hd : k < c.1) : Chord a b c k (yv b c k) (yv a c k) := by
  have k1 : (k : Rat) + 1 ≤ c.1 := by
    have := Rat.intCast_le_intCast.2 (show k + 1 ≤ c.1 by omega)
    rw [Rat.intCast_add] at this; exact this
  refine ⟨?_, ?_, fun d m x y z => in_edge ⟨hb, hd⟩ d m y z, fun d m x y z => in_edge ⟨ha, hd⟩ d m x z, ⟨a, by simp, ha⟩, c, by simp, hd⟩
  · obtain ⟨d1, d2⟩ := dx_inv (show b.1 < c.1 by omega)
    obtain ⟨e1, e2⟩ := dx_inv (show a.1 < c.1 by omega)
    have hc' : (0 : Rat) ≤ (((b.1 - a.1) * (c.2 - a.2) - (b.2 - a.2) * (c.1 - a.1) : Int) : Rat) := by
      have := Rat.intCast_le_intCast.2 hc; exact this
    rw [Rat.intCast_sub, Rat.intCast_mul, Rat.intCast_mul, Rat.intCast_sub, Rat.intCast_sub, Rat.intCast_sub, Rat.intCast_sub] at hc'
    have p := Rat.mul_nonneg (Rat.mul_nonneg hc' (show 0 ≤ ((c.1 : Rat) - k - (1/2 : Rat)) by grind)) (Rat.mul_nonneg (show 0 ≤ ((c.1 : Rat) - b.1)⁻¹ by grind) (show 0 ≤ ((c.1 : Rat) - a.1)⁻¹ by grind))
    unfold yv
    generalize ((c.1 : Rat) - b.1)⁻¹ = D at *
    generalize ((c.1 : Rat) - a.1)⁻¹ = E at *
    have f : (((b.1 : Rat) - a.1) * (c.2 - a.2) - (b.2 - a.2) * (c.1 - a.1)) * ((c.1 : Rat) - k - (1/2 : Rat)) * (D * E) = (a.2 + (c.2 - a.2) * ((k : Rat) - a.1 + (1/2 : Rat)) * E) - (b.2 + (c.2 - b.2) * ((k : Rat) - b.1 + (1/2 : Rat)) * D) := by
      have f1 : (a.2 + (c.2 - a.2) * ((k : Rat) - a.1 + (1/2 : Rat)) * E) = c.2 - (c.2 - a.2) * ((c.1 : Rat) - k - (1/2 : Rat)) * E := by
        have : ((k : Rat) - a.1 + (1/2 : Rat)) = (c.1 - a.1) - ((c.1 : Rat) - k - (1/2 : Rat)) := by grind
        rw [this]; grind
      have f2 : (b.2 + (c.2 - b.2) * ((k : Rat) - b.1 + (1/2 : Rat)) * D) = c.2 - (c.2 - b.2) * ((c.1 : Rat) - k - (1/2 : Rat)) * D := by
        have : ((k : Rat) - b.1 + (1/2 : Rat)) = (c.1 - b.1) - ((c.1 : Rat) - k - (1/2 : Rat)) := by grind
        rw [this]; grind
      rw [f1, f2]
      generalize ((c.1 : Rat) - k - (1/2 : Rat)) = t
      have f3 : (((b.1 : Rat) - a.1) * (c.2 - a.2) - (b.2 - a.2) * (c.1 - a.1)) * t * (D * E) = (c.2 - b.2) * t * D * ((c.1 - a.1) * E) - (c.2 - a.2) * t * E * ((c.1 - b.1) * D) := by grind
      rw [f3, d1, e1]; grind
    rw [f] at p
    grind
  · unfold G
    have g1 : g a b k = 0 := by unfold g; rw [if_neg (by omega), if_neg (by omega)]
    have g2 : g b c k = -(2 * yv b c k) := by unfold g; rw [if_pos ⟨hb, hd⟩]
    have g3 : g c a k = 2 * yv a c k := by unfold g; rw [if_neg (by omega), if_pos ⟨ha, hd⟩]
    rw [g1, g2, g3]; grind
theorem Cross_rot (a b c : XY) : Cross b c a = Cross a b c := by unfold Cross; grind
theorem chord_or {a b c : XY} (hc : 0 ≤ Cross a b c) (k : Int) : G a b c k = 0 ∨ ∃ l u, Chord a b c k l u := by
  have r1 := Cross_rot a b c
  have r2 := Cross_rot b c a
  rcases Int.lt_or_le k a.1 with ha | ha <;> rcases Int.lt_or_le k b.1 with hb | hb <;> rcases Int.lt_or_le k c.1 with hd | hd
  · left; unfold G g; rw [if_neg (by omega), if_neg (by omega), if_neg (by omega), if_neg (by omega), if_neg (by omega), if_neg (by omega)]; grind
  · exact .inr ⟨_, _, (chord_low (show 0 ≤ Cross c a b by omega) hd ha hb).rot⟩
  · exact .inr ⟨_, _, (chord_low (show 0 ≤ Cross b c a by omega) hb hd ha).rot.rot⟩
  · exact .inr ⟨_, _, (chord_high (show 0 ≤ Cross b c a by omega) hb hd ha).rot.rot⟩
  · exact .inr ⟨_, _, (chord_low (show 0 ≤ Cross a b c by omega) ha hb hd)⟩
  · exact .inr ⟨_, _, (chord_high (show 0 ≤ Cross c a b by omega) hd ha hb).rot⟩
  · exact .inr ⟨_, _, (chord_high (show 0 ≤ Cross a b c by omega) ha hb hd)⟩
  · left; unfold G g; rw [if_neg (by omega), if_neg (by omega), if_neg (by omega), if_neg (by omega), if_neg (by omega), if_neg (by omega)]; grind
/-- intervals that lie one beside the other -/
def tot : List (Rat × Rat) → Rat
  | [] => 0
  | p :: l => (p.2 - p.1) + tot l
theorem tot_part (l : List (Rat × Rat)) (f : Rat × Rat → Bool) : tot l = tot (l.filter f) + tot (l.filter fun p => !f p) := by
  induction l with
  | nil => simp only [List.filter_nil, tot]; grind
  | cons p l ih =>
    simp only [tot, List.filter_cons]
    cases f p <;> simp [tot] <;> grind
theorem pack : ∀ (n : Nat) (l : List (Rat × Rat)), l.length ≤ n → ∀ A B : Rat, A ≤ B → (∀ p ∈ l, A ≤ p.1 ∧ p.1 ≤ p.2 ∧ p.2 ≤ B) → l.Pairwise (fun p q => p.2 ≤ q.1 ∨ q.2 ≤ p.1) → tot l ≤ B - A := by
  intro n
  induction n with
  | zero => intro l hl A B hAB _ _; obtain rfl : l = [] := List.length_eq_zero_iff.1 (by omega); simp only [tot]; grind
  | succ n ih =>
    intro l hl A B hAB hb hp
    match l, hl, hb, hp with
    | [], _, _, _ => simp only [tot]; grind
    | p :: l, hl, hb, hp =>
      obtain ⟨h1, h2⟩ := List.pairwise_cons.1 hp
      have hl' : l.length ≤ n := by simp at hl; omega
      obtain ⟨a1, a2, a3⟩ := hb p (by simp)
      have lo := ih (l.filter fun q => decide (q.2 ≤ p.1)) (Nat.le_trans (List.length_filter_le ..) hl') A p.1 a1 (fun q hq => by
        simp only [List.mem_filter, decide_eq_true_eq] at hq
        obtain ⟨b1, b2, b3⟩ := hb q (by simp [hq.1])
        exact ⟨b1, b2, hq.2⟩) (h2.filter _)
      have hi := ih (l.filter fun q => !decide (q.2 ≤ p.1)) (Nat.le_trans (List.length_filter_le ..) hl') p.2 B a3 (fun q hq => by
        simp only [List.mem_filter, Bool.not_eq_true', decide_eq_false_iff_not] at hq
        obtain ⟨b1, b2, b3⟩ := hb q (by simp [hq.1])
        have := h1 q hq.1
        exact ⟨by rcases this with h | h; exact h; exact absurd h hq.2, b2, b3⟩) (h2.filter _)
      rw [tot, tot_part l (fun q => decide (q.2 ≤ p.1))]
      grind
structure Tri where
  a : XY
  b : XY
  c : XY
def Tri.has (t : Tri) (p : XY) : Prop := p = t.a ∨ p = t.b ∨ p = t.c
/-- two triangles are apart in a direction -/
def Sep (s t : Tri) : Prop := ∃ d : XY, d ≠ (0, 0) ∧ ∀ p q, s.has p → t.has q → d.1 * p.1 + d.2 * p.2 ≤ d.1 * q.1 + d.2 * q.2
theorem Sep.symm {s t : Tri} (h : Sep s t) : Sep t s := by
  obtain ⟨⟨x, y⟩, h0, h⟩ := h
  refine ⟨(-x, -y), fun e => h0 ?_, fun p q hp hq => ?_⟩
  · simp only [Prod.mk.injEq] at e ⊢; omega
  · have := h q p hq hp
    simp only at this ⊢
    rw [Int.neg_mul, Int.neg_mul, Int.neg_mul, Int.neg_mul]; omega
theorem sep_chords {s t : Tri} (h : Sep s t) {k : Int} {l u l' u' : Rat} (hs : Chord s.a s.b s.c k l u) (ht : Chord t.a t.b t.c k l' u') : u ≤ l' ∨ u' ≤ l := by
  obtain ⟨d, h0, h⟩ := h
  have hr : ∀ p q, s.has p → t.has q → (d.1 : Rat) * p.1 + d.2 * p.2 ≤ d.1 * q.1 + d.2 * q.2 := fun p q hp hq => by
    have := Rat.intCast_le_intCast.2 (h p q hp hq)
    rw [Rat.intCast_add, Rat.intCast_add, Rat.intCast_mul, Rat.intCast_mul, Rat.intCast_mul, Rat.intCast_mul] at this
    exact this
  obtain ⟨s1, s2, s3, s4, ⟨ps, hps, xs⟩, qs, hqs, ys⟩ := hs
  obtain ⟨t1, t2, t3, t4, ⟨pt, hpt, xt⟩, qt, hqt, yt⟩ := ht
  -- a place of s against a place of t
  have key : ∀ y y', InT s.a s.b s.c ((k : Rat) + 1/2) y → InT t.a t.b t.c ((k : Rat) + 1/2) y' → (d.2 : Rat) * y ≤ d.2 * y' := by
    intro y y' hy hy'
    have e1 : ((-d.1 : Int) : Rat) = -(d.1 : Rat) := Rat.intCast_neg _
    have e2 : ((-d.2 : Int) : Rat) = -(d.2 : Rat) := Rat.intCast_neg _
    have st : ∀ q, t.has q → (d.1 : Rat) * ((k : Rat) + 1/2) + d.2 * y ≤ d.1 * q.1 + d.2 * q.2 := fun q hq =>
      hy d _ (hr _ q (.inl rfl) hq) (hr _ q (.inr (.inl rfl)) hq) (hr _ q (.inr (.inr rfl)) hq)
    have := hy' (-d.1, -d.2) (-((d.1 : Rat) * ((k : Rat) + 1/2) + d.2 * y)) (by have := st t.a (.inl rfl); simp only [e1, e2]; grind) (by have := st t.b (.inr (.inl rfl)); simp only [e1, e2]; grind) (by have := st t.c (.inr (.inr rfl)); simp only [e1, e2]; grind)
    simp only [e1, e2] at this
    grind
  rcases Int.lt_trichotomy d.2 0 with g | g | g
  · right
    have g' : (d.2 : Rat) < 0 := Rat.intCast_lt_intCast.2 g
    have := key l u' s3 t4
    rcases (Rat.le_total : u' ≤ l ∨ l ≤ u') with h | h
    · exact h
    · by_cases e : u' = l
      · rw [e]; exact Rat.le_refl
      · have := Rat.mul_pos (show 0 < -(d.2 : Rat) by grind) (show 0 < u' - l by grind)
        grind
  · exfalso
    have g1 : d.1 ≠ 0 := fun e => h0 (Prod.ext e g)
    rcases Int.lt_trichotomy d.1 0 with f | f | f
    · have := h ps qt hps hqt
      rw [g] at this
      have := Int.mul_lt_mul_of_neg_left (show ps.1 < qt.1 by omega) f
      omega
    · exact g1 f
    · have := h qs pt hqs hpt
      rw [g] at this
      have := Int.mul_lt_mul_of_pos_left (show pt.1 < qs.1 by omega) f
      omega
  · left
    have g' : (0 : Rat) < d.2 := Rat.intCast_lt_intCast.2 g
    have := key u l' s4 t3
    rcases (Rat.le_total : u ≤ l' ∨ l' ≤ u) with h | h
    · exact h
    · by_cases e : u = l'
      · rw [e]; exact Rat.le_refl
      · have := Rat.mul_pos g' (show 0 < u - l' by grind)
        grind
theorem chord_bd {a b c : XY} {k : Int} {l u : Rat} (h : Chord a b c k l u) (H : Int) (ha : 0 ≤ a.2 ∧ a.2 ≤ H) (hb : 0 ≤ b.2 ∧ b.2 ≤ H) (hc : 0 ≤ c.2 ∧ c.2 ≤ H) : 0 ≤ l ∧ l ≤ u ∧ u ≤ H := by
  have cs : ∀ {x : Int}, 0 ≤ x ∧ x ≤ H → (0 : Rat) ≤ x ∧ (x : Rat) ≤ H := fun {x} hx => ⟨by have := Rat.intCast_le_intCast.2 hx.1; exact this, Rat.intCast_le_intCast.2 hx.2⟩
  have a' := cs ha
  have b' := cs hb
  have c' := cs hc
  obtain ⟨h1, _, h3, h4, _⟩ := h
  have p := h4 (0, 1) H (by simp; grind) (by simp; grind) (by simp; grind)
  have q := h3 (0, -1) 0 (by simp; grind) (by simp; grind) (by simp; grind)
  simp at p q
  exact ⟨by grind, h1, by grind⟩
def Gs (l : List Tri) (k : Int) : Rat := match l with
  | [] => 0
  | t :: l => G t.a t.b t.c k + Gs l k
theorem strip (l : List Tri) (H : Int) (hH : 0 ≤ H) (k : Int) (hc : ∀ t ∈ l, 0 ≤ Cross t.a t.b t.c) (hb : ∀ t ∈ l, ∀ p, t.has p → 0 ≤ p.2 ∧ p.2 ≤ H) (hp : l.Pairwise Sep) : Gs l k ≤ 2 * H := by
  suffices h : ∃ c : List (Rat × Rat), Gs l k = 2 * tot c ∧ (∀ q ∈ c, (0 ≤ q.1 ∧ q.1 ≤ q.2 ∧ q.2 ≤ H) ∧ ∃ t ∈ l, Chord t.a t.b t.c k q.1 q.2) ∧ c.Pairwise (fun p q => p.2 ≤ q.1 ∨ q.2 ≤ p.1) by
    obtain ⟨c, h1, h2, h3⟩ := h
    have := pack c.length c (Nat.le_refl _) 0 H (by have := Rat.intCast_le_intCast.2 hH; exact this) (fun q hq => (h2 q hq).1) h3
    rw [h1]; grind
  induction l with
  | nil => exact ⟨[], by simp only [Gs, tot]; grind, by simp, .nil⟩
  | cons t l ih =>
    obtain ⟨p1, p2⟩ := List.pairwise_cons.1 hp
    obtain ⟨c, h1, h2, h3⟩ := ih (fun t ht => hc t (by simp [ht])) (fun t ht => hb t (by simp [ht])) p2
    have up : ∀ q ∈ c, (0 ≤ q.1 ∧ q.1 ≤ q.2 ∧ q.2 ≤ H) ∧ ∃ s ∈ t :: l, Chord s.a s.b s.c k q.1 q.2 := fun q hq => by
      obtain ⟨x, s, y, z⟩ := h2 q hq
      exact ⟨x, s, by simp [y], z⟩
    rcases chord_or (hc t (by simp)) k with h0 | ⟨lo, hi, h0⟩
    · exact ⟨c, by simp only [Gs]; rw [h0, h1]; grind, up, h3⟩
    · refine ⟨(lo, hi) :: c, by simp only [Gs, tot]; rw [h0.2.1, h1]; grind, ?_, ?_⟩
      · intro q hq
        rcases List.mem_cons.1 hq with rfl | hq
        · exact ⟨chord_bd h0 H (hb t (by simp) _ (.inl rfl)) (hb t (by simp) _ (.inr (.inl rfl))) (hb t (by simp) _ (.inr (.inr rfl))), t, by simp, h0⟩
        · exact up q hq
      · refine List.pairwise_cons.2 ⟨fun q hq => ?_, h3⟩
        obtain ⟨_, s, hs, hch⟩ := h2 q hq
        exact sep_chords (p1 s hs) h0 hch
def ars : List Tri → Int
  | [] => 0
  | t :: l => Cross t.a t.b t.c + ars l
theorem ars_sm (l : List Tri) (n : Nat) (hb : ∀ t ∈ l, ∀ p, t.has p → 0 ≤ p.1 ∧ p.1 ≤ n) : sm (Gs l) n = (ars l : Rat) := by
  induction l with
  | nil =>
    have : ∀ m, sm (Gs []) m = 0 := fun m => by
      induction m with
      | zero => rfl
      | succ m ih => rw [sm, ih]; simp only [Gs]; grind
    rw [this]; rfl
  | cons t l ih =>
    have e : Gs (t :: l) = fun k => G t.a t.b t.c k + Gs l k := rfl
    have h := hb t (by simp)
    rw [e, sm_add, ih (fun s hs => hb s (by simp [hs])), sm_G _ _ _ _ (h _ (.inl rfl)) (h _ (.inr (.inl rfl))) (h _ (.inr (.inr rfl))), ← Rat.intCast_add]
    rfl
/-- TRIANGLES THAT ARE APART, WITHIN A BOARD, HAVE TOGETHER AT MOST ITS AREA -/
theorem tri_area (l : List Tri) (W : Nat) (H : Int) (hH : 0 ≤ H) (hc : ∀ t ∈ l, 0 ≤ Cross t.a t.b t.c) (hb : ∀ t ∈ l, ∀ p, t.has p → (0 ≤ p.1 ∧ p.1 ≤ W) ∧ 0 ≤ p.2 ∧ p.2 ≤ H) (hp : l.Pairwise Sep) : ars l ≤ 2 * W * H := by
  have h1 := ars_sm l W (fun t ht p hp => (hb t ht p hp).1)
  have h2 := sm_le (Gs l) (2 * H) W (fun k _ => strip l H hH k hc (fun t ht p hp => (hb t ht p hp).2) hp)
  rw [h1] at h2
  have e : (W : Rat) * (2 * H) = ((2 * W * H : Int) : Rat) := by
    rw [Rat.intCast_mul, Rat.intCast_mul, Rat.intCast_natCast]
    have : ((2 : Int) : Rat) = 2 := rfl
    rw [this]; grind
  rw [e] at h2
  exact Rat.intCast_le_intCast.1 h2
end Go.Proofs.Ytlikmlhlfbdchaa.Ar
/- Plain: outlines that are apart, within a board, have together at most its area. It imports nothing of the program. -/
namespace Go.Proofs.Ytlikmlhlfbdchaa.Ar
open Geo (XY Cross X At RGlob areaK fanK)
theorem ars_append (l m : List Tri) : ars (l ++ m) = ars l + ars m := by
  induction l with
  | nil => simp [ars]
  | cons t l ih => simp only [List.cons_append, ars, ih]; omega
def fan (o : List XY) (n : Nat) : List Tri := (List.range n).map fun j => ⟨X o 0, X o (j + 1), X o (j + 2)⟩
theorem ars_fan (o : List XY) (n : Nat) : ars (fan o n) = fanK o n := by
  induction n with
  | zero => rfl
  | succ n ih =>
    have e : fan o (n + 1) = fan o n ++ [⟨X o 0, X o (n + 1), X o (n + 2)⟩] := by unfold fan; rw [List.range_succ, List.map_append]; rfl
    rw [e, ars_append, ih]
    show fanK o n + (Cross (X o 0) (X o (n + 1)) (X o (n + 2)) + 0) = _
    rw [Int.add_zero]; rfl
theorem edge0 {o : List XY} (h3 : 3 ≤ o.length) (h : RGlob o) {j : Nat} (hj : j < o.length) (h2 : 2 ≤ j) : 0 < Cross (X o 0) (X o 1) (X o j) := by
  have := h 0 (by omega) j hj (by omega) (by rw [Nat.mod_eq_of_lt (by omega)]; omega)
  rw [Geo.At_lt o (i := 0) (by omega), Geo.At_lt o (i := 0 + 1) (by omega), Geo.At_lt o hj] at this
  exact this
theorem edge_0 {o : List XY} (h3 : 3 ≤ o.length) (h : RGlob o) {i : Nat} (h1 : 1 ≤ i) (hi : i + 1 < o.length) : 0 < Cross (X o 0) (X o i) (X o (i + 1)) := by
  have := h i (by omega) 0 (by omega) (by omega) (by rw [Nat.mod_eq_of_lt (by omega)]; omega)
  rw [Geo.At_lt o (i := i) (by omega), Geo.At_lt o (i := i + 1) (by omega), Geo.At_lt o (i := 0) (by omega)] at this
  have e : Cross (X o 0) (X o i) (X o (i + 1)) = Cross (X o i) (X o (i + 1)) (X o 0) := by unfold Cross; grind
  omega
theorem triple {o : List XY} (h3 : 3 ≤ o.length) (h : RGlob o) {m : Nat} (h1 : 1 ≤ m) : ∀ j, m < j → j < o.length → 0 < Cross (X o 0) (X o m) (X o j) := by
  intro j
  induction j with
  | zero => intro h; omega
  | succ j ih =>
    intro hmj hj
    by_cases e : m = j
    · subst e; exact edge_0 h3 h h1 hj
    · have a := ih (by omega) (by omega)
      have b := edge_0 h3 h (i := j) (by omega) hj
      have c := edge0 h3 h (j := j) (by omega) (by omega)
      have d := edge0 h3 h (j := j + 1) hj (by omega)
      have id : Cross (X o 0) (X o 1) (X o j) * Cross (X o 0) (X o m) (X o (j + 1)) = Cross (X o 0) (X o 1) (X o m) * Cross (X o 0) (X o j) (X o (j + 1)) + Cross (X o 0) (X o 1) (X o (j + 1)) * Cross (X o 0) (X o m) (X o j) := by unfold Cross; grind
      have e1 : 0 ≤ Cross (X o 0) (X o 1) (X o m) := by
        by_cases e : m = 1
        · subst e; unfold Cross; grind
        · exact Int.le_of_lt (edge0 h3 h (j := m) (by omega) (by omega))
      have p := Int.mul_nonneg e1 (Int.le_of_lt b)
      have q := Int.mul_pos d a
      have : 0 < Cross (X o 0) (X o 1) (X o j) * Cross (X o 0) (X o m) (X o (j + 1)) := by omega
      exact Int.pos_of_mul_pos_right this c
theorem cross_dir (a b p : XY) : Cross a b p = (-(b.2 - a.2) * p.1 + (b.1 - a.1) * p.2) - (-(b.2 - a.2) * a.1 + (b.1 - a.1) * a.2) := by unfold Cross; grind
theorem fan_sep {o : List XY} (h3 : 3 ≤ o.length) (h : RGlob o) : (fan o (o.length - 2)).Pairwise Sep := by
  unfold fan
  rw [List.pairwise_map]
  refine (List.pairwise_lt_range (n := o.length - 2)).imp_of_mem ?_
  intro i j hi hj hij
  rw [List.mem_range] at hi hj
  have hpos := triple h3 h (m := j + 1) (by omega) (j + 2) (by omega) (by omega)
  refine ⟨(-((X o (j + 1)).2 - (X o 0).2), (X o (j + 1)).1 - (X o 0).1), ?_, ?_⟩
  · intro e
    simp only [Prod.mk.injEq] at e
    unfold Cross at hpos
    rw [e.2, show (X o (j + 1)).2 - (X o 0).2 = 0 by omega] at hpos
    omega
  · intro p q hp hq
    have l : Cross (X o 0) (X o (j + 1)) p ≤ 0 := by
      have fl : ∀ m, 1 ≤ m → m ≤ j + 1 → Cross (X o 0) (X o (j + 1)) (X o m) ≤ 0 := fun m h1 h2 => by
        by_cases e : m = j + 1
        · subst e; unfold Cross; grind
        · have := triple h3 h h1 (j + 1) (by omega) (by omega)
          have e : Cross (X o 0) (X o (j + 1)) (X o m) = - Cross (X o 0) (X o m) (X o (j + 1)) := by unfold Cross; grind
          omega
      rcases hp with rfl | rfl | rfl
      · unfold Cross; grind
      · exact fl _ (by omega) (by omega)
      · exact fl _ (by omega) (by omega)
    have u : 0 ≤ Cross (X o 0) (X o (j + 1)) q := by
      rcases hq with rfl | rfl | rfl
      · unfold Cross; grind
      · unfold Cross; grind
      · exact Int.le_of_lt hpos
    rw [cross_dir] at l u
    simp only
    omega
/-- two outlines are apart in a direction -/
def SepO (o p : List XY) : Prop := ∃ d : XY, d ≠ (0, 0) ∧ ∀ i j, i < o.length → j < p.length → d.1 * (X o i).1 + d.2 * (X o i).2 ≤ d.1 * (X p j).1 + d.2 * (X p j).2
def sumA : List (List XY) → Int
  | [] => 0
  | o :: l => areaK o o.length + sumA l
theorem fan_mem {o : List XY} {n : Nat} {t : Tri} (h : t ∈ fan o n) {p : XY} (hp : t.has p) (hn : n + 2 ≤ o.length) : ∃ i, i < o.length ∧ p = X o i := by
  unfold fan at h
  rw [List.mem_map] at h
  obtain ⟨j, hj, rfl⟩ := h
  rw [List.mem_range] at hj
  rcases hp with rfl | rfl | rfl
  · exact ⟨0, by omega, rfl⟩
  · exact ⟨j + 1, by omega, rfl⟩
  · exact ⟨j + 2, by omega, rfl⟩
theorem sum_fan (os : List (List XY)) (h : ∀ o ∈ os, 3 ≤ o.length) : ars (os.flatMap fun o => fan o (o.length - 2)) = sumA os := by
  induction os with
  | nil => rfl
  | cons o os ih =>
    have h3 := h o (by simp)
    rw [List.flatMap_cons, ars_append, ih (fun p hp => h p (by simp [hp])), ars_fan, ← Geo.area_fan o (by omega)]; rfl
/-- OUTLINES THAT ARE APART, WITHIN A BOARD, HAVE TOGETHER AT MOST ITS AREA -/
theorem outlines_area (os : List (List XY)) (W : Nat) (H : Int) (hH : 0 ≤ H) (hv : ∀ o ∈ os, 3 ≤ o.length ∧ RGlob o) (hb : ∀ o ∈ os, ∀ i, i < o.length → (0 ≤ (X o i).1 ∧ (X o i).1 ≤ W) ∧ 0 ≤ (X o i).2 ∧ (X o i).2 ≤ H) (hp : os.Pairwise SepO) : sumA os ≤ 2 * W * H := by
  rw [← sum_fan os (fun o ho => (hv o ho).1)]
  refine tri_area _ W H hH ?_ ?_ ?_
  · intro t ht
    rw [List.mem_flatMap] at ht
    obtain ⟨o, ho, ht⟩ := ht
    obtain ⟨h3, hr⟩ := hv o ho
    unfold fan at ht
    rw [List.mem_map] at ht
    obtain ⟨j, hj, rfl⟩ := ht
    rw [List.mem_range] at hj
    exact Int.le_of_lt (edge_0 h3 hr (i := j + 1) (by omega) (by omega))
  · intro t ht p hp
    rw [List.mem_flatMap] at ht
    obtain ⟨o, ho, ht⟩ := ht
    have h3 := (hv o ho).1
    obtain ⟨i, hi, rfl⟩ := fan_mem ht hp (by omega)
    exact hb o ho i hi
  · rw [List.pairwise_flatMap]
    refine ⟨fun o ho => fan_sep (hv o ho).1 (hv o ho).2, hp.imp_of_mem ?_⟩
    rintro o p ho hp' ⟨d, h0, hd⟩ s hs t ht
    refine ⟨d, h0, fun x y hx hy => ?_⟩
    have h3 := (hv o ho).1
    have h4 := (hv p hp').1
    obtain ⟨i, hi, rfl⟩ := fan_mem hs hx (by omega)
    obtain ⟨j, hj, rfl⟩ := fan_mem ht hy (by omega)
    exact hd i j hi hj
end Go.Proofs.Ytlikmlhlfbdchaa.Ar
/- nest: right layouts, plain: in another order, with one more place, their areas; rows are right. -/
namespace Go.Proofs.Ytlikmlhlfbdchaa
open Go.RowKit Go.Shelf
set_option linter.unusedVariables false
namespace Ne
theorem fan_map {o : List Geo.XY} (d : Geo.XY) : ∀ k, k + 2 ≤ o.length → Geo.fanK (o.map (addXY d)) k = Geo.fanK o k
  | 0, _ => rfl
  | k + 1, h => by
    have ih := fan_map (o := o) d k (by omega)
    have e : ∀ l : List Geo.XY, Geo.fanK l (k + 1) = Geo.fanK l k + Geo.Cross (Geo.X l 0) (Geo.X l (k + 1)) (Geo.X l (k + 2)) := fun l => rfl
    rw [e, e, ih, Geo.X_map (o := o) (i := 0) _ (by omega), Geo.X_map (o := o) (i := k + 1) _ (by omega), Geo.X_map (o := o) (i := k + 2) _ (by omega)]
    congr 1
    unfold Geo.Cross addXY; simp only; grind
theorem area_shift {o : List Geo.XY} (h : 2 ≤ o.length) (d : Geo.XY) : Geo.areaK (o.map (addXY d)) (o.map (addXY d)).length = Geo.areaK o o.length := by
  rw [Geo.area_fan _ (by rw [List.length_map]; exact h), Geo.area_fan _ h, List.length_map, fan_map d _ (by omega)]
theorem rglob_shift {o : List Geo.XY} (h3 : 3 ≤ o.length) (h : Geo.RGlob o) (d : Geo.XY) : Geo.RGlob (o.map (addXY d)) := by
  intro i hi j hj h1 h2
  rw [List.length_map] at hi hj h2
  have := h i hi j hj h1 h2
  rw [Geo.At_map _ (by omega), Geo.At_map _ (by omega), Geo.At_map _ (by omega)]
  have e : Geo.Cross (addXY d (Geo.At o i)) (addXY d (Geo.At o (i + 1))) (addXY d (Geo.At o j)) = Geo.Cross (Geo.At o i) (Geo.At o (i + 1)) (Geo.At o j) := by unfold Geo.Cross addXY; simp only; grind
  rw [e]; exact this
theorem lyg_frm {ps : List Pa} {p : Pc} (hv : vPa ps = true) (h : lsB ps p = true) : ∃ F, Valid F ∧ lyg ps p = F.map (addXY (p.x, p.y)) ∧ Geo.areaK F F.length = arI ps p := by
  obtain ⟨_, _, i, ei, hi⟩ := lsB_ok h
  have hval := valid_of (vPa_at hv (q := i) hi)
  refine ⟨frm (ps.getD p.p.toNat za).o p.t, ?_, rfl, ?_⟩
  · rw [ei, Int.toNat_natCast]; exact frm_valid hval _
  · unfold frm arI
    split
    · rw [area_canon, area_neg]
    · rw [area_canon]
theorem sep_of {o p : List Geo.XY} (h0 : 0 < o.length) (k0 : 0 < p.length) {d : Geo.XY} (hd : ¬ (d.1 = 0 ∧ d.2 = 0)) (hb : 0 ≤ btw o p d) : Ar.SepO o p := by
  unfold btw at hb
  split at hb
  · refine ⟨d, fun e => hd (by rw [e]; exact ⟨rfl, rfl⟩), fun i j hi hj => ?_⟩
    have a := hi_max d hi
    have b := lo_min d hj
    unfold dt at a b
    omega
  · refine ⟨(-d.1, -d.2), fun e => hd (by simp only [Prod.mk.injEq] at e; omega), fun i j hi hj => ?_⟩
    have a := lo_min d hi
    have b := hi_max d hj
    unfold dt at a b
    simp only [Int.neg_mul]
    omega
theorem ap_sep {ps : List Pa} {p q : Pc} {g : Int} (hv : vPa ps = true) (hp : lsB ps p = true) (hq : lsB ps q = true) (h : apB (lyg ps p) (lyg ps q) g = true) : Ar.SepO (lyg ps p) (lyg ps q) := by
  obtain ⟨F, hF, eF, _⟩ := lyg_frm hv hp
  obtain ⟨F', hF', eF', _⟩ := lyg_frm hv hq
  have h3 := hF.1
  have h3' := hF'.1
  have l1 : (lyg ps p).length = F.length := by rw [eF, List.length_map]
  have l2 : (lyg ps q).length = F'.length := by rw [eF', List.length_map]
  have key : ∀ d, bes (lyg ps p) (lyg ps q) g d = true → 0 ≤ btw (lyg ps p) (lyg ps q) d := fun d e => by
    unfold bes farB at e
    simp only [decide_eq_true_eq] at e
    exact e.1
  have side : ∀ {F : List Geo.XY} {x : Geo.XY}, Valid F → ∀ d, Side (F.map (addXY x)) d → ¬ (d.1 = 0 ∧ d.2 = 0) := by
    rintro F x hF d ⟨k, hk, rfl⟩
    rw [List.length_map] at hk
    rw [sdir_map hk]
    exact side_ne hF ⟨k, hk, rfl⟩
  rcases ap_iff.1 h with e | e | ⟨d, s, e⟩ | ⟨d, s, e⟩
  · exact sep_of (by omega) (by omega) (by decide) (key _ e)
  · exact sep_of (by omega) (by omega) (by decide) (key _ e)
  · exact sep_of (by omega) (by omega) (side hF d (by rw [← eF]; exact s)) (key _ e)
  · exact sep_of (by omega) (by omega) (side hF' d (by rw [← eF']; exact s)) (key _ e)
/-- a right layout -/
structure RL (b : Bo) (ps : List Pa) (pl : List Pc) : Prop where
  va : vAll b ps = true
  len : pl.length ≤ 200
  rg : ∀ p ∈ pl, rgB ps p = true
  on : ∀ p ∈ pl, onBb b (lyg ps p) = true
  cl : ∀ p ∈ pl, clB b (lyg ps p) = true
  ap : pl.Pairwise fun p q => apB (lyg ps p) (lyg ps q) b.g = true
theorem fst_all {f : Nat → Bool} {n : Nat} (h : ∀ k, k < n → f k = true) : fst f n = n := by
  have : ∀ k, k ≤ n → fst f k = k := fun k => by
    induction k with
    | zero => intro _; rfl
    | succ k ih => intro hk; exact fst_step (ih (by omega)) (h k (by omega))
  exact this n (Nat.le_refl _)
theorem cfK_at {ps : List Pa} {pl : List Pc} {g : Int} {i n : Nat} (h : cfK ps pl g i n = true) {j : Nat} (hj : j < n) : apB (lyg ps (pl.getD i zc)) (lyg ps (pl.getD j zc)) g = true := by
  have := cfK_mono (show j + 1 ≤ n by omega) h
  unfold cfK at this
  simp only [Bool.and_eq_true] at this
  exact this.2
theorem cfK_all {ps : List Pa} {pl : List Pc} {g : Int} {i : Nat} : ∀ n, (∀ j, j < n → apB (lyg ps (pl.getD i zc)) (lyg ps (pl.getD j zc)) g = true) → cfK ps pl g i n = true
  | 0, _ => rfl
  | n + 1, h => by unfold cfK; rw [cfK_all n (fun j hj => h j (by omega)), h n (by omega)]; rfl
theorem frK_at {ps : List Pa} {p : Pc} {pl : List Pc} {g : Int} {n : Nat} (h : frK ps p pl g n = true) {j : Nat} (hj : j < n) : apB (lyg ps p) (lyg ps (pl.getD j zc)) g = true := by
  have := frK_mono (show j + 1 ≤ n by omega) h
  unfold frK at this
  simp only [Bool.and_eq_true] at this
  exact this.2
theorem frK_all {ps : List Pa} {p : Pc} {pl : List Pc} {g : Int} : ∀ n, (∀ j, j < n → apB (lyg ps p) (lyg ps (pl.getD j zc)) g = true) → frK ps p pl g n = true
  | 0, _ => rfl
  | n + 1, h => by unfold frK; rw [frK_all n (fun j hj => h j (by omega)), h n (by omega)]; rfl
theorem getD_lt {pl : List Pc} {j : Nat} (h : j < pl.length) : pl.getD j zc = pl[j] := by
  rw [List.getD_eq_getElem?_getD, List.getElem?_eq_getElem h]; rfl
theorem mem_getD {pl : List Pc} {p : Pc} (h : p ∈ pl) : ∃ j, j < pl.length ∧ pl.getD j zc = p := by
  obtain ⟨j, hj, e⟩ := List.getElem_of_mem h
  exact ⟨j, hj, by rw [getD_lt hj, e]⟩
theorem getD_mem {pl : List Pc} {j : Nat} (h : j < pl.length) : pl.getD j zc ∈ pl := by rw [getD_lt h]; exact List.getElem_mem h
theorem rl_of {b : Bo} {ps : List Pa} {pl : List Pc} (h : (ckA b ps pl).2 = 0) : RL b ps pl := by
  obtain ⟨h1, h2, h3, h4, h5, h6, _⟩ := ckA_ok h
  refine ⟨h1, h2, fun p hp => ?_, fun p hp => ?_, fun p hp => ?_, ?_⟩
  · obtain ⟨j, hj, rfl⟩ := mem_getD hp; exact h3 j hj
  · obtain ⟨j, hj, rfl⟩ := mem_getD hp; exact h4 j hj
  · obtain ⟨j, hj, rfl⟩ := mem_getD hp; exact h5 j hj
  · rw [List.pairwise_iff_getElem]
    intro i j hi hj hij
    have := h6 j hj
    unfold cfI at this
    have := cfK_at this hij
    rw [getD_lt hi, getD_lt hj, ap_comm] at this
    exact this
theorem rl_ck {b : Bo} {ps : List Pa} {pl : List Pc} (h : RL b ps pl) : ckA b ps pl = (0, 0) := by
  unfold ckA
  rw [if_pos h.va]
  refine ckB_ok rfl h.len (fst_all fun k hk => h.rg _ (getD_mem hk)) (fst_all fun k hk => h.on _ (getD_mem hk)) (fst_all fun k hk => h.cl _ (getD_mem hk)) (fst_all fun k hk => ?_)
  unfold cfI
  refine cfK_all k fun j hj => ?_
  have := (List.pairwise_iff_getElem.1 h.ap) j k (by omega) hk hj
  rw [getD_lt hk, getD_lt (by omega : j < pl.length), ap_comm]
  exact this
theorem fr_iff {b : Bo} {ps : List Pa} {pl : List Pc} {p : Pc} (h : RL b ps pl) : frB b ps pl p = true ↔ RL b ps (pl ++ [p]) := by
  unfold frB
  simp only [Bool.and_eq_true, decide_eq_true_eq]
  constructor
  · rintro ⟨h1, h2, h3, h4, h5⟩
    refine ⟨h.va, by rw [List.length_append]; simp; omega, ?_, ?_, ?_, ?_⟩
    · intro q hq; rcases List.mem_append.1 hq with hq | hq
      · exact h.rg q hq
      · rw [List.mem_singleton.1 hq]; exact h2
    · intro q hq; rcases List.mem_append.1 hq with hq | hq
      · exact h.on q hq
      · rw [List.mem_singleton.1 hq]; exact h3
    · intro q hq; rcases List.mem_append.1 hq with hq | hq
      · exact h.cl q hq
      · rw [List.mem_singleton.1 hq]; exact h4
    · rw [List.pairwise_append]
      refine ⟨h.ap, List.pairwise_singleton .., fun q hq r hr => ?_⟩
      rw [List.mem_singleton.1 hr, ap_comm]
      obtain ⟨j, hj, rfl⟩ := mem_getD hq
      exact frK_at h5 hj
  · intro k
    have hl := k.len
    rw [List.length_append] at hl
    simp at hl
    have hm : p ∈ pl ++ [p] := by simp
    refine ⟨by omega, k.rg p hm, k.on p hm, k.cl p hm, frK_all _ fun j hj => ?_⟩
    rw [ap_comm]
    exact (List.pairwise_append.1 k.ap).2.2 _ (getD_mem hj) p (by simp)
theorem fr_ck {b : Bo} {ps : List Pa} {pl : List Pc} {p : Pc} (h : (ckA b ps pl).2 = 0) : frB b ps pl p = decide ((ckA b ps (pl ++ [p])).2 = 0) := by
  rw [Bool.eq_iff_iff, decide_eq_true_eq, fr_iff (rl_of h)]
  exact ⟨fun k => by rw [rl_ck k], fun k => rl_of k⟩
/-- in another order -/
theorem RL.perm {b : Bo} {ps : List Pa} {pl pl' : List Pc} (h : RL b ps pl) (hp : pl.Perm pl') : RL b ps pl' :=
  ⟨h.va, by rw [← hp.length_eq]; exact h.len, fun p hq => h.rg p (hp.mem_iff.2 hq), fun p hq => h.on p (hp.mem_iff.2 hq), fun p hq => h.cl p (hp.mem_iff.2 hq), hp.pairwise h.ap (fun {x y} hxy => by rw [ap_comm]; exact hxy)⟩
/-- a layout without one of its places, turned, and that place -/
def lessL (pl : List Pc) (k : Nat) : List Pc := pl.drop (k + 1) ++ pl.take k
theorem less_perm {pl : List Pc} {k : Nat} (hk : k < pl.length) : pl.Perm (lessL pl k ++ [pl.getD k zc]) := by
  have e : pl = pl.take k ++ pl.getD k zc :: pl.drop (k + 1) := by
    rw [getD_lt hk, List.getElem_cons_drop, List.take_append_drop]
  unfold lessL
  conv => lhs; rw [e]
  refine (List.perm_append_comm).trans ?_
  rw [List.cons_append]
  exact (List.perm_append_singleton _ _).symm
theorem RL.pre {b : Bo} {ps : List Pa} {pl : List Pc} {p : Pc} (h : RL b ps (pl ++ [p])) : RL b ps pl := by
  have hl := h.len
  rw [List.length_append] at hl
  exact ⟨h.va, by omega, fun q hq => h.rg q (by simp [hq]), fun q hq => h.on q (by simp [hq]), fun q hq => h.cl q (by simp [hq]), (List.pairwise_append.1 h.ap).1⟩
theorem less_ok {b : Bo} {ps : List Pa} {pl : List Pc} (h : RL b ps pl) {k : Nat} (hk : k < pl.length) : ckA b ps (lessL pl k) = (0, 0) ∧ frB b ps (lessL pl k) (pl.getD k zc) = true := by
  have h1 := h.perm (less_perm hk)
  exact ⟨rl_ck h1.pre, (fr_iff h1.pre).2 h1⟩
/-- what the parts of a right layout cover is at most the board -/
theorem wsK_eq (b : Bo) (ps : List Pa) (pl : List Pc) : ∀ k, k ≤ pl.length → wsK b ps pl k = 2 * b.w * b.h - Ar.sumA ((pl.take k).map (lyg ps)) + (Ar.sumA ((pl.take k).map (lyg ps)) - ((pl.take k).map (arI ps)).sum)
  | 0, _ => by unfold wsK; simp
  | k + 1, h => by
    have ih := wsK_eq b ps pl k (by omega)
    unfold wsK
    rw [ih, List.take_add_one, List.getElem?_eq_getElem (by omega), getD_lt (by omega)]
    simp only [Option.toList_some, List.map_append, List.map_cons, List.map_nil, List.sum_append, List.sum_cons, List.sum_nil]
    omega
theorem sumA_eq {ps : List Pa} (hv : vPa ps = true) : ∀ pl : List Pc, (∀ p ∈ pl, lsB ps p = true) → Ar.sumA (pl.map (lyg ps)) = (pl.map (arI ps)).sum
  | [], _ => rfl
  | p :: pl, h => by
    have ih := sumA_eq hv pl (fun q hq => h q (by simp [hq]))
    obtain ⟨F, hF, eF, hA⟩ := lyg_frm hv (h p (by simp))
    have h3 := hF.1
    simp only [List.map_cons, Ar.sumA, List.sum_cons]
    rw [ih, eF, area_shift (by omega), hA]
theorem area_le {b : Bo} {ps : List Pa} {pl : List Pc} (h : RL b ps pl) : (pl.map (arI ps)).sum ≤ 2 * b.w * b.h := by
  obtain ⟨hvb, hvp⟩ := vAll_and h.va
  have hvi := vBo_in hvb
  have hls : ∀ p ∈ pl, lsB ps p = true := fun p hp => rg_ls (h.rg p hp)
  rw [← sumA_eq hvp pl hls]
  have hW : ((b.w.toNat : Nat) : Int) = b.w := by omega
  have := Ar.outlines_area (pl.map (lyg ps)) b.w.toNat b.h (by omega) (fun o ho => ?_) (fun o ho i hi => ?_) ?_
  · rw [hW] at this; exact this
  · rw [List.mem_map] at ho
    obtain ⟨p, hp, rfl⟩ := ho
    obtain ⟨F, hF, eF, _⟩ := lyg_frm hvp (hls p hp)
    have h3 := hF.1
    rw [eF]
    exact ⟨by rw [List.length_map]; exact h3, rglob_shift h3 hF.2.2.2 _⟩
  · rw [List.mem_map] at ho
    obtain ⟨p, hp, rfl⟩ := ho
    rw [hW]
    exact onBb_iff.1 (h.on p hp) i hi
  · rw [List.pairwise_map]
    refine h.ap.imp_of_mem fun {p q} hp hq hpq => ap_sep hvp (hls p hp) (hls q hq) hpq
theorem ws_nonneg {b : Bo} {ps : List Pa} {pl : List Pc} (h : RL b ps pl) : 0 ≤ wsK b ps pl pl.length := by
  have e := wsK_eq b ps pl pl.length (Nat.le_refl _)
  have := area_le h
  rw [List.take_length] at e
  omega
end Ne
end Go.Proofs.Ytlikmlhlfbdchaa
/- nest: rows are right; no part lies there more often than its bound, plain. -/
namespace Go.Proofs.Ytlikmlhlfbdchaa
open Go.RowKit Go.Shelf
set_option linter.unusedVariables false
namespace Ne
theorem ar_pos {ps : List Pa} (hv : vPa ps = true) {j : Nat} (hj : j < ps.length) : 0 < arP ps j := area_pos (valid_of (vPa_at hv hj))
theorem smC_one {ps : List Pa} {l : List Int} (hn : ∀ j, j < ps.length → 0 ≤ l.getD j 0 * arP ps j) {i : Nat} : ∀ j, j ≤ ps.length → 0 ≤ smC ps l j ∧ (i < j → l.getD i 0 * arP ps i ≤ smC ps l j)
  | 0, _ => ⟨Int.le_refl _, fun h => by omega⟩
  | j + 1, h => by
    have ih := smC_one hn (i := i) j (by omega)
    have a := hn j (by omega)
    unfold smC
    refine ⟨by omega, fun hi => ?_⟩
    by_cases e : i = j
    · subst e; omega
    · have := ih.2 (by omega); omega
theorem le_tdiv {c K M : Int} (hK : 0 < K) (hM : 0 ≤ M) (h : c * K ≤ M) : c ≤ M.tdiv K := by
  rw [Int.tdiv_eq_ediv_of_nonneg hM]
  exact Int.le_ediv_of_mul_le hK h
theorem cn_le {b : Bo} {ps : List Pa} {pl : List Pc} (h : RL b ps pl) {i : Nat} (hi : i < ps.length) : (cnL ps.length pl pl.length).getD i 0 ≤ bdV b ps i := by
  obtain ⟨hvb, hvp⟩ := vAll_and h.va
  have hvi := vBo_in hvb
  have e := wsK_sum b ps pl ps.length pl.length (fun j hj => by
    obtain ⟨_, _, q, eq, hq⟩ := lsB_ok (rg_ls (h.rg _ (getD_mem hj)))
    exact ⟨q, eq, hq⟩)
  have h0 := ws_nonneg h
  have h1 := (smC_one (ps := ps) (l := cnL ps.length pl pl.length) (fun j hj => Int.mul_nonneg (cnL_bd _ _ _ _).1 (Int.le_of_lt (ar_pos hvp hj))) (i := i) ps.length (Nat.le_refl _)).2 hi
  have hM : 0 ≤ 2 * b.w * b.h := Int.mul_nonneg (by omega) (by omega)
  have hc : cpE b ps i = 0 := by
    unfold cpE ix
    rw [if_pos h.va, if_pos (by simp only [decide_eq_true_eq]; omega)]
  unfold bdV
  rw [if_pos hc, Int.toNat_natCast]
  exact le_tdiv (ar_pos hvp hi) hM (by show _ * arP ps i ≤ _; omega)
/-- the places of rows, by their numbers -/
theorem rw_idx (b : Bo) (l : List Pa) (part : Int) (g : Gr) (ac : Nat) : ∀ i, ∃ ix : List Nat, rwK b l part g ac i = ix.map (gp part g ac) ∧ ix.Pairwise (· < ·) ∧ ∀ j ∈ ix, j < i ∧ clB b (lyg l (gp part g ac j)) = true
  | 0 => ⟨[], rfl, .nil, by simp⟩
  | i + 1 => by
    obtain ⟨ix, h1, h2, h3⟩ := rw_idx b l part g ac i
    rw [rwK_succ]
    split
    · exact ⟨ix, h1, h2, fun j hj => ⟨by have := (h3 j hj).1; omega, (h3 j hj).2⟩⟩
    · split
      · rename_i hc
        refine ⟨ix ++ [i], by rw [h1, List.map_append]; rfl, ?_, ?_⟩
        · rw [List.pairwise_append]
          refine ⟨h2, List.pairwise_singleton .., fun j hj k hk => ?_⟩
          rw [List.mem_singleton.1 hk]; exact (h3 j hj).1
        · intro j hj
          rcases List.mem_append.1 hj with hj | hj
          · exact ⟨by have := (h3 j hj).1; omega, (h3 j hj).2⟩
          · rw [List.mem_singleton.1 hj]; exact ⟨by omega, hc⟩
      · exact ⟨ix, h1, h2, fun j hj => ⟨by have := (h3 j hj).1; omega, (h3 j hj).2⟩⟩
theorem bes_of {o p : List Geo.XY} {g : Int} {d : Geo.XY} (hg : 0 ≤ g) (hd : d.1 * d.1 + d.2 * d.2 = 1) (h : hi1 d o + g ≤ lo1 d p) : bes o p g d = true := by
  have hb : g ≤ btw o p d := by unfold btw; split <;> omega
  unfold bes farB
  rw [decide_eq_true_eq, hd, Int.mul_one]
  exact ⟨by omega, Int.mul_le_mul hb hb hg (by omega)⟩
theorem lyg_span {l : List Pa} {q : Nat} {x y : Int} (h0 : 0 < (l.getD q za).o.length) :
    (lo1 (1, 0) (l.getD q za).o + x ≤ lo1 (1, 0) (lyg l ⟨q, x, y, false⟩) ∧ hi1 (1, 0) (lyg l ⟨q, x, y, false⟩) ≤ hi1 (1, 0) (l.getD q za).o + x) ∧ lo1 (0, 1) (l.getD q za).o + y ≤ lo1 (0, 1) (lyg l ⟨q, x, y, false⟩) ∧ hi1 (0, 1) (lyg l ⟨q, x, y, false⟩) ≤ hi1 (0, 1) (l.getD q za).o + y := by
  have hl := lyg_len l ⟨q, x, y, false⟩
  have e : (⟨q, x, y, false⟩ : Pc).p.toNat = q := by show ((q : Nat) : Int).toNat = q; simp
  rw [e] at hl
  have hX : ∀ k, k < (lyg l ⟨q, x, y, false⟩).length → ∃ j, j < (l.getD q za).o.length ∧ Geo.X (lyg l ⟨q, x, y, false⟩) k = ((Geo.X (l.getD q za).o j).1 + x, (Geo.X (l.getD q za).o j).2 + y) := fun k hk => by
    obtain ⟨j, hj, ej⟩ := lyg_X (p := ⟨q, x, y, false⟩) rfl hk
    rw [e] at hj ej
    exact ⟨j, hj, ej⟩
  obtain ⟨k1, h1, f1⟩ := lo_is (1, 0) (show 0 < (lyg l ⟨q, x, y, false⟩).length by omega)
  obtain ⟨k2, h2, f2⟩ := hi_is (1, 0) (show 0 < (lyg l ⟨q, x, y, false⟩).length by omega)
  obtain ⟨k3, h3, f3⟩ := lo_is (0, 1) (show 0 < (lyg l ⟨q, x, y, false⟩).length by omega)
  obtain ⟨k4, h4, f4⟩ := hi_is (0, 1) (show 0 < (lyg l ⟨q, x, y, false⟩).length by omega)
  obtain ⟨j1, i1, e1⟩ := hX k1 h1
  obtain ⟨j2, i2, e2⟩ := hX k2 h2
  obtain ⟨j3, i3, e3⟩ := hX k3 h3
  obtain ⟨j4, i4, e4⟩ := hX k4 h4
  have a1 := lo_min (1, 0) i1
  have a2 := hi_max (1, 0) i2
  have a3 := lo_min (0, 1) i3
  have a4 := hi_max (0, 1) i4
  rw [dt10] at a1 a2 f1 f2
  rw [dt01] at a3 a4 f3 f4
  rw [e1] at f1
  rw [e2] at f2
  rw [e3] at f3
  rw [e4] at f4
  simp only at f1 f2 f3 f4
  omega
theorem mul_step {k j : Nat} {s : Int} (h : k < j) (hs : 0 ≤ s) : (k : Int) * s + s ≤ (j : Int) * s := by
  have : ((k : Int) + 1) * s ≤ (j : Int) * s := Int.mul_le_mul_of_nonneg_right (by omega) hs
  rw [Int.add_mul, Int.one_mul] at this
  exact this
theorem gp_ap {b : Bo} {l : List Pa} {q ac up i j : Nat} (hg : 0 ≤ b.g) (hv : validB (l.getD q za).o = true) (hij : i < j) (hac : 0 < ac) :
    apB (lyg l (gp q (grd b (l.getD q za)) ac i)) (lyg l (gp q (grd b (l.getD q za)) ac j)) b.g = true := by
  have hval := valid_of hv
  obtain ⟨⟨x1, x2⟩, ⟨y1, y2⟩, ⟨w1, w2⟩, h1, h2⟩ := ard_bd hval
  have h3 := hval.1
  have ew : (ard (l.getD q za).o).w = hi1 (1, 0) (l.getD q za).o - lo1 (1, 0) (l.getD q za).o := by unfold ard; rw [if_neg (by omega)]
  have eh : (ard (l.getD q za).o).h = hi1 (0, 1) (l.getD q za).o - lo1 (0, 1) (l.getD q za).o := by unfold ard; rw [if_neg (by omega)]
  have si := lyg_span (l := l) (q := q) (x := (gp q (grd b (l.getD q za)) ac i).x) (y := (gp q (grd b (l.getD q za)) ac i).y) (by omega)
  have sj := lyg_span (l := l) (q := q) (x := (gp q (grd b (l.getD q za)) ac j).x) (y := (gp q (grd b (l.getD q za)) ac j).y) (by omega)
  have hxi : (gp q (grd b (l.getD q za)) ac i).x = -(ard (l.getD q za).o).x + ((i % ac : Nat) : Int) * ((ard (l.getD q za).o).w + b.g) := rfl
  have hyi : (gp q (grd b (l.getD q za)) ac i).y = -(ard (l.getD q za).o).y + ((i / ac : Nat) : Int) * ((ard (l.getD q za).o).h + b.g) := rfl
  have hxj : (gp q (grd b (l.getD q za)) ac j).x = -(ard (l.getD q za).o).x + ((j % ac : Nat) : Int) * ((ard (l.getD q za).o).w + b.g) := rfl
  have hyj : (gp q (grd b (l.getD q za)) ac j).y = -(ard (l.getD q za).o).y + ((j / ac : Nat) : Int) * ((ard (l.getD q za).o).h + b.g) := rfl
  have ei : gp q (grd b (l.getD q za)) ac i = ⟨q, (gp q (grd b (l.getD q za)) ac i).x, (gp q (grd b (l.getD q za)) ac i).y, false⟩ := rfl
  have ej : gp q (grd b (l.getD q za)) ac j = ⟨q, (gp q (grd b (l.getD q za)) ac j).x, (gp q (grd b (l.getD q za)) ac j).y, false⟩ := rfl
  have hle : i / ac ≤ j / ac := Nat.div_le_div_right (by omega)
  rw [ei, ej]
  rcases Nat.lt_or_eq_of_le hle with hlt | heq
  · refine ap_iff.2 (.inr (.inl (bes_of hg (by decide) ?_)))
    have := mul_step (s := (ard (l.getD q za).o).h + b.g) hlt (by omega)
    omega
  · refine ap_iff.2 (.inl (bes_of hg (by decide) ?_))
    have hm : i % ac < j % ac := by
      have a := Nat.div_add_mod i ac
      have b := Nat.div_add_mod j ac
      rw [heq] at a
      omega
    have := mul_step (s := (ard (l.getD q za).o).w + b.g) hm (by omega)
    omega
theorem rg_gp {l : List Pa} {q : Nat} {g : Gr} {ac j : Nat} (hq : q < l.length) (hx : -120000 ≤ (gp q g ac j).x ∧ (gp q g ac j).x ≤ 120000) (hy : -120000 ≤ (gp q g ac j).y ∧ (gp q g ac j).y ≤ 120000) : rgB l (gp q g ac j) = true := by
  have e1 : (gp q g ac j).p = (q : Int) := rfl
  have e2 : (gp q g ac j).t = false := rfl
  unfold rgB lsB ix
  rw [e1, e2]
  simp only [Bool.and_eq_true, decide_eq_true_eq, Bool.not_false, Bool.true_or, and_true]
  omega
theorem rows_rl {b : Bo} {l : List Pa} {q : Nat} (h : roE b l q = 0) : RL b l (roV b l q) ∧ (∀ p ∈ roV b l q, arI l p = arP l q) ∧ cpE b l q = 0 := by
  have hc : cpE b l q = 0 := by
    by_cases e : cpE b l q = 0
    · exact e
    · rw [(roE_bad e).1] at h; exact absurd h e
  obtain ⟨hvb, hvp, i, ei, hi⟩ := cpE_ok hc
  obtain rfl : i = q := by omega
  have hvi := vBo_in hvb
  have hv := vPa_at hvp hi
  have h1 : ¬ 10000 < acs b l i * ups b l i := by
    intro e; rw [roE_nat hc, if_pos e] at h; cases h
  have hac := ac_nat hvb hv
  rw [roV_nat hc, if_neg h1]
  obtain ⟨ix, e1, e2, e3⟩ := rw_idx b l i (grd b (l.getD i za)) (acs b l i) (acs b l i * ups b l i)
  have hlen := rwK_len b l i (grd b (l.getD i za)) (acs b l i) (acs b l i * ups b l i)
  rw [e1] at hlen ⊢
  have hgp : ∀ j ∈ ix, _ := fun j hj => gp_ok (b := b) (l := l) (q := i) (i := j) (by omega) (by omega) hvi.2.2.1.1 hv hac.1 hac.2.1 (e3 j hj).1
  have hls : ∀ j ∈ ix, rgB l (gp i (grd b (l.getD i za)) (acs b l i) j) = true := fun j hj => by
    have hh := (hgp j hj).2
    exact rg_gp hi (by omega) (by omega)
  have hm : ∀ p, p ∈ ix.map (gp i (grd b (l.getD i za)) (acs b l i)) → ∃ j ∈ ix, gp i (grd b (l.getD i za)) (acs b l i) j = p := fun p hp => List.mem_map.1 hp
  refine ⟨⟨by unfold vAll; rw [hvb, hvp]; rfl, hlen, ?_, ?_, ?_, ?_⟩, ?_, hc⟩
  · intro p hp; obtain ⟨j, hj, rfl⟩ := hm p hp; exact hls j hj
  · intro p hp; obtain ⟨j, hj, rfl⟩ := hm p hp; exact onBb_iff.2 (hgp j hj).1
  · intro p hp; obtain ⟨j, hj, rfl⟩ := hm p hp; exact (e3 j hj).2
  · rw [List.pairwise_map]
    refine e2.imp_of_mem fun {j k} hj hk hjk => gp_ap (up := ups b l i) hvi.2.2.1.1 hv hjk ?_
    have := (e3 j hj).1
    rcases Nat.eq_zero_or_pos (acs b l i) with e | e
    · rw [e] at this; simp at this
    · exact e
  · intro p hp; obtain ⟨j, hj, rfl⟩ := hm p hp
    unfold arI arP
    show Geo.areaK (l.getD ((i : Nat) : Int).toNat za).o (l.getD ((i : Nat) : Int).toNat za).o.length = _
    rw [Int.toNat_natCast]
theorem sum_const {l : List Pa} {c : Int} : ∀ pl : List Pc, (∀ p ∈ pl, arI l p = c) → (pl.map (arI l)).sum = pl.length * c
  | [], _ => by simp
  | p :: pl, h => by
    rw [List.map_cons, List.sum_cons, sum_const pl (fun q hq => h q (by simp [hq])), h p (by simp), List.length_cons]
    have : ((pl.length + 1 : Nat) : Int) = (pl.length : Int) + 1 := by omega
    rw [this, Int.add_mul]; omega
theorem rows_bound {b : Bo} {l : List Pa} {q : Nat} (h : roE b l q = 0) : ((roV b l q).length : Int) ≤ bdV b l q := by
  obtain ⟨hr, ha, hc⟩ := rows_rl h
  obtain ⟨hvb, hvp, i, ei, hi⟩ := cpE_ok hc
  obtain rfl : i = q := by omega
  have hvi := vBo_in hvb
  have h1 := area_le hr
  rw [sum_const _ ha] at h1
  unfold bdV
  rw [if_pos hc, Int.toNat_natCast]
  exact le_tdiv (ar_pos hvp hi) (Int.mul_nonneg (by omega) (by omega)) h1
end Ne
end Go.Proofs.Ytlikmlhlfbdchaa
/- nest: the law of right layouts. -/
namespace Go.Proofs.Ytlikmlhlfbdchaa
open Go.RowKit Go.Shelf
set_option linter.unusedVariables false
theorem step_append_own' {P : Program} {w : World} {ops : Array Oper} {o : Oper} {a : Act} {K : Act → World → Prop} {Q : Exit → Act → World → Prop} {E : Prop} (hg : o.guard = none) (s x : Operand) (t : TypeId)
    (ho : o.op = .call { callee := .builtin .append, args := #[s, x], argTypes := #[t, t] })
    (base : Nat) (e : TypeId) (i : TypeInfo) (z : Value) (size bytes : Nat) (ht : P.underlying t = some (.slice e)) (hi : P.info? e = some i) (hz : i.zero = some z)
    (hsize : i.size = size) (hby : i.bytes = bytes) (hzs : z.cells.size = size) (hsz : 0 < size)
    (v : Value) (n : Nat) (xs : List Value) (hs : a.eval s = v) (hown : w.ownsRow base e size v n xs)
    (ad : Addr) (m c : Nat) (news : List Value) (hx : a.eval x = .slice (some ad) m c) (hl : news.length = m * size) (hnews : ∀ j u, news[j]? = some u → w.cell? (ad.add j) = some u) (h1 : ∀ u ∈ news, u.oneCell' = true)
    (h63 : n + m ≤ maxLen) (hbytes : (n + m) * bytes ≤ 140737488355328) (hbase : base ≤ w.heap.size)
    (h : ∀ v' w', w'.ownsRow base e size v' (n + m) (xs ++ news) → w.grownBy w' v.ownBlock → K (a.put o.dst v') w') :
    if Region.wanted o (yielded ops a.tmps) = true then Oper.wp P o a w K Q else E := by
  have hw : Region.wanted o (yielded ops a.tmps) = true := by simp [Region.wanted, hg]
  rw [if_pos hw]
  exact wp_append_own_at s x t ho base e i z size bytes ht hi hz hsize hby hzs hsz v n xs hs hown ad m c news hx hl hnews h1 h63 hbytes hbase (fun v' w' h1 h2 _ => h v' w' h1 h2)
theorem own_emptyP (W : World) (B : Nat) (hB : B ≤ W.heap.size) : (W.alloc (.cells #[] 40)).ownsRow B 40 4 (.slice (some ⟨W.heap.size, 0, none⟩) 0 0) 0 [] :=
  ⟨rfl, .inr ⟨W.heap.size, 0, #[], rfl, hB, World.alloc_heap_new W _, Nat.le_refl _, Nat.zero_le _, rfl, rfl⟩⟩
namespace Ne
/-- the cells of a part of a row of places -/
theorem row_part {W : World} {b off : Nat} {l : List Pc} (hc : ∀ k, k < l.length → W.rangeAt b (off + k * 4) (pcL (l.getD k zc))) (i n : Nat) (hn : i + n ≤ l.length) :
    ∀ j u, (flt pcL ((l.drop i).take n))[j]? = some u → W.cell? ((⟨b, off + i * 4, none⟩ : Addr).add j) = some u := by
  intro j u hj
  have hlen : ((l.drop i).take n).length = n := by rw [List.length_take, List.length_drop]; omega
  have hfl : (flt pcL ((l.drop i).take n)).length = n * 4 := by rw [flt_len encPc, hlen]
  have hj4 : j < n * 4 := by
    rcases Nat.lt_or_ge j (n * 4) with h | h
    · exact h
    · rw [List.getElem?_eq_none (by omega)] at hj; cases hj
  have hget := flt_get encPc ((l.drop i).take n) (j / 4) (j % 4) (by omega) (by omega)
  rw [show j / 4 * 4 + j % 4 = j by omega] at hget
  rw [hget] at hj
  have hk := hc (i + j / 4) (by omega) (j % 4) u (by
    rw [← hj]
    congr 2
    simp only [List.getElem_take, List.getElem_drop]
    rw [getD_lt (by omega)])
  rw [Go.WideShapes.add_plain]
  rw [show off + i * 4 + j = off + (i + j / 4) * 4 + j % 4 by omega]
  exact hk
end Ne
set_option maxRecDepth 100000 in
set_option maxHeartbeats 4000000 in
theorem law_right (b : Ne.Bo) (ps : List Ne.Pa) (pl : List Ne.Pc) (fA : Option Addr) (f fC : Nat) (pA : Option Addr) (m pC : Nat) (lA : Option Addr) (n lC : Nat) (x : Int) (x0 : 0 ≤ x) (x255 : x ≤ 255) (hf : b.fs.length = f) (hm : ps.length = m) (hn : pl.length = n) (hfM : f ≤ 9223372036854775807) (hmM : m ≤ 9223372036854775807) (hnM : n ≤ 9223372036854775807) (hcap : n ≤ lC)
    (w : World) (hF : Rows Ne.rcL 4 w fA b.fs) (hP : Ne.PaM w pA ps) (hL : Rows Ne.pcL 4 w lA pl) :
    Calls Try.prog 10 #[.agg (dkA b fA f fC pA m pC lA n lC), .int .u8 x] w fun e w' => e = .returned (.bool true) ∧ Below w.heap.size w w' := by
  have hB := (Below.refl w.heap.size w).alloc (Nat.le_refl _) (.cells (dkA b fA f fC pA m pC lA n lC) 37)
  have bD := Blk.new w 37 (dkA b fA f fC pA m pC lA n lC)
  have hrD := bD.range
  have HFW := Lib.hid (fun W h h' => few_b b fA f fC pA m pC lA n lC ps pl hm hn hmM hnM W h h')
  have HP := Lib.hid (hP.below hB)
  have HL := Lib.hid (hL.below hB)
  have HF := Lib.hid (hF.below hB)
  obtain ⟨I, E, hE⟩ : ∃ I E, Ne.ckA b ps pl = (I, E) := ⟨_, _, rfl⟩
  have HK1 := Lib.hid (fun W h h' h'' => Check_b b fA pA lA ps pl f fC m pC n lC hf hm hn I E hE W h h' h'')
  by_cases h0 : E = 0
  case neg =>
    have hne : (E == 0) = false := by simp; exact h0
    clear hP hL hF hm hn hf hE hmM hfM hcap hnM
    go_enter Try.func10, Try.ntmps10
    go_wp2_with (refine ldm_dk hrD (by rfl) _ rfl rfl ?_)
    refine (HFW.out _ HP.out HL.out).mono ?_
    rintro e w1 ⟨⟨r0, rfl, _⟩, b1⟩
    have hB1 := hB.trans (b1.mono hB.size)
    have bD1 := bD.below b1 bD.lt
    have HP1 := Lib.hid (HP.out.below b1)
    have HF1 := Lib.hid (HF.out.below b1)
    have HL1 := Lib.hid (HL.out.below b1)
    clear bD HP HL HF hrD hB b1 HFW
    cases r0 with
    | false =>
      go_wp2_with fail
      refine (awake_any _).mono ?_
      rintro e wz ⟨rfl, bz⟩
      go_wp2
      go_ret
      exact ⟨rfl, hB1.trans (bz.mono hB1.size)⟩
    | true =>
      have hb1 := desk_board bD1.range
      have q4 := bD1.cell 4
      have q5 := bD1.cell 5
      simp only [List.getElem?_toArray, List.getElem?_cons_zero, List.getElem?_cons_succ] at q4 q5
      go_wp2_with (refine ldm_bo hb1 (by rfl) _ rfl rfl (Hid.out ?_))
      refine Lib.hid ?_
      go_wp2_with fail
      refine (HK1.out _ HF1.out HP1.out HL1.out).mono ?_
      rintro e w2 ⟨rfl, b2⟩
      have hB2 := hB1.trans (b2.mono hB1.size)
      have bD2 := bD1.below b2 bD1.lt
      have HP2 := Lib.hid (HP1.out.below b2)
      have HF2 := Lib.hid (HF1.out.below b2)
      have HL2 := Lib.hid (HL1.out.below b2)
      clear hb1 q4 q5 bD1 b2 HP1 HF1 HL1
      go_wp2_with fail
      refine (awake_any _).mono ?_
      rintro e wz ⟨rfl, bz⟩
      go_wp2
      go_ret
      exact ⟨rfl, hB2.trans (bz.mono hB2.size)⟩
  case pos =>
    subst h0
    have hrl := Ne.rl_of (b := b) (ps := ps) (pl := pl) (by rw [hE])
    obtain ⟨hvb, hvp⟩ := Ne.vAll_and hrl.va
    have h60 := Ne.vPa_len hvp
    have h200 := hrl.len
    rw [hm] at h60
    rw [hn] at h200
    have HLESS := Lib.hid (fun k (hk : k < pl.length) => Ne.less_ok hrl hk)
    obtain ⟨R, hR⟩ : ∃ R, Ne.wsK b ps pl pl.length = R := ⟨_, rfl⟩
    have hR0 : 0 ≤ R := by rw [← hR]; exact Ne.ws_nonneg hrl
    have hW : Ne.wsA b ps pl = (R, 0) := by unfold Ne.wsA; rw [hE, if_pos rfl, hR]
    obtain ⟨L, hLL⟩ : ∃ L, Ne.cnV b ps pl = L := ⟨_, rfl⟩
    have hLC : L = Ne.cnL m pl n := by rw [← hLL]; unfold Ne.cnV; rw [hE, if_pos rfl, hm, hn]
    have HLN : Hid (L.length = m) := Lib.hid (by rw [hLC, Ne.cnL_len])
    have HBD := Lib.hid (fun k (hk : k < m) => show L.getD k 0 ≤ Ne.bdV b ps k from by
      have := Ne.cn_le hrl (i := k) (by rw [hm]; exact hk)
      rw [hm, hn] at this
      rw [hLC]; exact this)
    have HCP : Hid (∀ k : Nat, k < m → Ne.cpE b ps k = 0) := Lib.hid (fun k hk => by unfold Ne.cpE Ne.ix; rw [if_pos hrl.va, if_pos (by simp only [decide_eq_true_eq]; omega)])
    have HC1 := Lib.hid (fun W h h' h'' => Count_of b fA pA lA ps pl f fC m pC n lC hm hn I 0 hE L hLL HK1 W h h' h'')
    have HW1 := Lib.hid (fun W h h' h'' => Waste_b b fA pA lA ps pl f fC m pC n lC hf hm hn R 0 hW W h h' h'')
    have HB1 := Lib.hid (fun (k : Nat) (hk : k < m) W h h' => Bound_b b fA pA ps f fC m pC (k : Int) hf hm 0 (HCP.out k hk) (Ne.bdV b ps k) rfl W h h')
    have HCL := Lib.hid (fun (l' : List Ne.Pc) (n' c' : Nat) (hn' : l'.length = n') (A' : Option Addr) (he : Ne.ckA b ps l' = (0, 0)) W h h' h'' => Check_b b fA pA A' ps l' f fC m pC n' c' hf hm hn' 0 0 he W h h' h'')
    have HFR := Lib.hid (fun (l' : List Ne.Pc) (n' c' : Nat) (hn' : l'.length = n') (A' : Option Addr) (he : Ne.ckA b ps l' = (0, 0)) (q : Ne.Pc) (hq : Ne.frB b ps l' q = true) W h h' h'' => Free_b b fA pA A' ps l' f fC m pC n' c' hf hm hn' 0 0 he q true (by rw [hq]; rfl) W h h' h'')
    have dR : decide (R < 0) = false := by simp; omega
    have HNN := Lib.hid hn
    have HCAP := Lib.hid hcap
    clear hP hL hF hm hn hf hE hmM hfM hcap hnM hvb hvp hrl hR hR0 hW hLL hLC
    go_enter Try.func10, Try.ntmps10
    go_wp2_with (refine ldm_dk hrD (by rfl) _ rfl rfl ?_)
    refine (HFW.out _ HP.out HL.out).mono ?_
    rintro e w1 ⟨⟨r0, rfl, _⟩, b1⟩
    have hB1 := hB.trans (b1.mono hB.size)
    have bD1 := bD.below b1 bD.lt
    have HP1 := Lib.hid (HP.out.below b1)
    have HF1 := Lib.hid (HF.out.below b1)
    have HL1 := Lib.hid (HL.out.below b1)
    clear bD HP HL HF hrD hB b1 HFW
    cases r0 with
    | false =>
      go_wp2_with fail
      refine (awake_any _).mono ?_
      rintro e wz ⟨rfl, bz⟩
      go_wp2
      go_ret
      exact ⟨rfl, hB1.trans (bz.mono hB1.size)⟩
    | true =>
      have hb1 := desk_board bD1.range
      have q4 := bD1.cell 4
      have q5 := bD1.cell 5
      simp only [List.getElem?_toArray, List.getElem?_cons_zero, List.getElem?_cons_succ] at q4 q5
      go_wp2_with (refine ldm_bo hb1 (by rfl) _ rfl rfl (Hid.out ?_))
      refine Lib.hid ?_
      go_wp2_with fail
      refine (HK1.out _ HF1.out HP1.out HL1.out).mono ?_
      rintro e w2 ⟨rfl, b2⟩
      have hB2 := hB1.trans (b2.mono hB1.size)
      have bD2 := bD1.below b2 bD1.lt
      have HP2 := Lib.hid (HP1.out.below b2)
      have HF2 := Lib.hid (HF1.out.below b2)
      have HL2 := Lib.hid (HL1.out.below b2)
      clear hb1 q4 q5 bD1 b2 HP1 HF1 HL1
      have hb1 := desk_board bD2.range
      have q4 := bD2.cell 4
      have q5 := bD2.cell 5
      simp only [List.getElem?_toArray, List.getElem?_cons_zero, List.getElem?_cons_succ] at q4 q5
      go_wp2_with (refine ldm_bo hb1 (by rfl) _ rfl rfl (Hid.out ?_))
      refine Lib.hid ?_
      go_wp2_with fail
      refine (HW1.out _ HF2.out HP2.out HL2.out).mono ?_
      rintro e w3 ⟨rfl, b3⟩
      have hB3 := hB2.trans (b3.mono hB2.size)
      have bD3 := bD2.below b3 bD2.lt
      have HP3 := Lib.hid (HP2.out.below b3)
      have HF3 := Lib.hid (HF2.out.below b3)
      have HL3 := Lib.hid (HL2.out.below b3)
      clear hb1 q4 q5 bD2 b3 HP2 HF2 HL2
      have hb1 := desk_board bD3.range
      have q4 := bD3.cell 4
      have q5 := bD3.cell 5
      simp only [List.getElem?_toArray, List.getElem?_cons_zero, List.getElem?_cons_succ] at q4 q5
      go_wp2_with (refine ldm_bo hb1 (by rfl) _ rfl rfl (Hid.out ?_))
      refine Lib.hid ?_
      go_wp2_with fail
      refine (HC1.out _ HF3.out HP3.out HL3.out).mono ?_
      rintro e w4 ⟨v1, rfl, hO1, b4⟩
      have hB4 := hB3.trans (b4.mono hB3.size)
      have bD4 := bD3.below b4 bD3.lt
      have HP4 := Lib.hid (HP3.out.below b4)
      have HF4 := Lib.hid (HF3.out.below b4)
      have HL4 := Lib.hid (HL3.out.below b4)
      rw [HLN.out] at hO1
      obtain ⟨A1, c1, rfl⟩ := own_slice hO1
      have HO := Lib.hid hO1
      clear hO1
      clear hb1 q4 q5 bD3 b4 HP3 HF3 HL3
      have q4 := bD4.cell 4
      simp only [List.getElem?_toArray, List.getElem?_cons_zero, List.getElem?_cons_succ] at q4
      have hmm : ((m : Int) == (m : Int)) = true := by simp
      go_wp2
      clear q4 hmm dR
      go_loopw [77] (fun i wr => ∃ k : Nat, k ≤ m ∧ i = .int .i64 k ∧ Below w4.heap.size w4 wr) (fun i _ => m - (intOf i).toNat)
      case atStart => exact ⟨0, Nat.zero_le _, rfl, Below.refl _ _⟩
      case round =>
        obtain ⟨k, hk, rfl, hb⟩ := hrel
        by_cases hlt : k < m
        · obtain ⟨g1, d1, e1⟩ := own_some HO.out (by omega)
          cases e1
          obtain ⟨y, hy⟩ : ∃ y, L.getD k 0 = y := ⟨_, rfl⟩
          have hget : (Ne.inL L)[k]? = some (.int .i64 y) := by
            unfold Ne.inL
            rw [List.getElem?_map, ← hy, List.getD_eq_getElem?_getD, List.getElem?_eq_getElem (by rw [HLN.out]; exact hlt)]; rfl
          have cc := ((own_keepE HO.out hb).cellAt k (by omega)).trans hget
          obtain ⟨bd, hbd⟩ : ∃ z, Ne.bdV b ps k = z := ⟨_, rfl⟩
          have hle := HBD.out k hlt
          have HBK := Lib.hid (HB1.out k hlt)
          rw [hbd] at hle HBK
          rw [hy] at hle
          have dd : decide (bd < y) = false := by simp; omega
          have bDk := bD4.below hb bD4.lt
          have hb1 := desk_board bDk.range
          have q4 := bDk.cell 4
          simp only [List.getElem?_toArray, List.getElem?_cons_zero, List.getElem?_cons_succ] at q4
          have hlm : (k : Int) < (m : Int) := by omega
          clear hget hy hbd hle
          go_wp2_with (refine ldm_bo hb1 (by rfl) _ rfl rfl (Hid.out ?_))
          refine Lib.hid ?_
          go_wp2_with fail
          refine (HBK.out _ (HF4.out.below hb) (HP4.out.below hb)).mono ?_
          rintro e w5 ⟨rfl, b5⟩
          go_wp2
          go_roundw
          case rel => exact ⟨k + 1, by omega, by go_num, hb.trans (b5.mono hb.size)⟩
          case measure => simp [intOf]; omega
        · obtain rfl : m = k := by omega
          have hB5 := hB4.trans (hb.mono hB4.size)
          have bD5 := bD4.below hb bD4.lt
          have HP5 := Lib.hid (HP4.out.below hb)
          have HF5 := Lib.hid (HF4.out.below hb)
          have HL5 := Lib.hid (HL4.out.below hb)
          have q5 := bD5.cell 5
          simp only [List.getElem?_toArray, List.getElem?_cons_zero, List.getElem?_cons_succ] at q5
          clear bD4 HP4 HF4 HL4
          rcases Nat.eq_zero_or_pos n with hn0 | hn0
          · have d5 : ((n : Int) == 0) = true := by simp; omega
            clear hn0
            go_wp2_with fail
            refine (awake_any _).mono ?_
            rintro e wz ⟨rfl, bz⟩
            go_wp2
            go_ret
            exact ⟨rfl, hB5.trans (bz.mono hB5.size)⟩
          · obtain ⟨kk, hkk⟩ : ∃ kk : Nat, kk = (x % (n : Int)).toNat := ⟨_, rfl⟩
            have hk0 : 0 ≤ x % (n : Int) := Int.emod_nonneg _ (by omega)
            have hk1 : x % (n : Int) < (n : Int) := Int.emod_lt_of_pos _ (by omega)
            have hkn : kk < n := by omega
            have HKK : Hid (x % (n : Int) = (kk : Int)) := Lib.hid (by omega)
            have d5 : ((n : Int) == 0) = false := by simp; omega
            clear hkk hk0 hk1
            go_wp2_with fail
            rw [HKK.out]
            obtain ⟨gq, oq, hCe, hg9, hc9⟩ := HL5.out.at (z := Ne.zc) (by rw [HNN.out]; omega)
            subst hCe
            obtain ⟨a1, ha1⟩ : ∃ a, a = kk + 1 := ⟨_, rfl⟩
            have hwk : IntKind.i64.wrap ((kk : Int) + 1) = (a1 : Int) := by rw [ha1]; exact (IntWalk.i64_in _ (by omega)).trans (by omega)
            have HA1 := Lib.hid ha1
            have g1 : a1 ≤ n := by omega
            have g2 : a1 ≤ lC := Nat.le_trans g1 HCAP.out
            have g4 : kk ≤ n := by omega
            have g5 : kk ≤ lC := by have := HCAP.out; omega
            clear ha1
            have HPT := Lib.hid (Ne.row_part (l := pl) hc9)
            obtain ⟨i0, hi, hz0, hz1, hz2⟩ := info_parts infoPc3
            have HCK := Lib.hid (hc9 kk (by rw [HNN.out]; exact hkn))
            clear hc9
            by_cases g3 : lC = a1
            · obtain rfl : a1 = lC := g3.symm
              have hnk : n = a1 := by have := HCAP.out; omega
              have HDR : Hid (∀ W, Below wr.heap.size wr W → ∀ j u, (flt Ne.pcL (pl.drop (a1)))[j]? = some u → W.cell? ((⟨gq, oq, none⟩ : Addr).add j) = some u) := Lib.hid (fun W hW j u hj => by rw [List.drop_eq_nil_of_le (by rw [HNN.out]; omega)] at hj; simp [flt] at hj)
              have g6 : kk ≤ a1 := by have := HA1.out; omega
              clear hnk
              have HTK : Hid (∀ W, Below wr.heap.size wr W → ∀ j u, (flt Ne.pcL (pl.take kk))[j]? = some u → W.cell? ((⟨gq, oq, none⟩ : Addr).add j) = some u) := Lib.hid (fun W hW j u hj => by
                have := HPT.out 0 kk (by rw [HNN.out]; omega) j u (by rw [List.drop_zero]; exact hj)
                rw [Go.WideShapes.add_plain] at this ⊢
                rw [show oq + 0 * 4 + j = oq + j by omega] at this
                exact (hW.cell (p := ⟨gq, oq + j, none⟩) hg9).trans this)
              have hlD := bD5.lt
              refine wp_region_noPanic ?_
              refine wp_region_held (S := fun V => Below wr.heap.size wr V) (by kernel_rfl) ?_
              change wpAnyH _ _ _ _ _ _ _ _ (World.drew _)
              have hS : (fun V => Below wr.heap.size wr V) wr.drew := (Below.refl _ _).drew
              generalize World.drew wr = V0 at *
              refine takeD (i := 1) (d := some 111) (v := ?_) rfl rfl (by kernel_rfl) (by decide +kernel) (by decide +kernel) (fun _ _ _ h => h) (Or.inl ⟨by first | kernel_rfl | rfl, ?_⟩) hS ?_
              rotate_left
              · intro w' hT; first | (go_simp; done) | (go_simp; with_reducible rfl)
              refine takeD (i := 2) (d := some 112) (v := ?_) rfl rfl (by kernel_rfl) (by decide +kernel) (by decide +kernel) (fun _ _ _ h => h) (Or.inl ⟨by first | kernel_rfl | rfl, ?_⟩) hS ?_
              rotate_left
              · intro w' hT; have t5 := (Below.cell hT (p := ⟨w.heap.size, 5, none⟩) hlD).trans q5; first | (go_simp; done) | (go_simp; with_reducible rfl)
              refine takeD (i := 3) (d := some 113) (v := ?_) rfl rfl (by kernel_rfl) (by decide +kernel) (by decide +kernel) (fun _ _ _ h => h) (Or.inl ⟨by first | kernel_rfl | rfl, ?_⟩) hS ?_
              rotate_left
              · intro w' hT; first | (go_simp; done) | (go_simp; with_reducible rfl)
              refine takeD (i := 4) (d := some 114) (v := ?_) rfl rfl (by kernel_rfl) (by decide +kernel) (by decide +kernel) (fun _ _ _ h => h) (Or.inl ⟨by first | kernel_rfl | rfl, ?_⟩) hS ?_
              rotate_left
              · intro w' hT; first | (go_simp; done) | (go_simp; with_reducible rfl)
              refine takeD (i := 5) (d := some 115) (v := ?_) rfl rfl (by kernel_rfl) (by decide +kernel) (by decide +kernel) (fun _ _ _ h => h) (Or.inl ⟨by first | kernel_rfl | rfl, ?_⟩) hS ?_
              rotate_left
              · intro w' hT; first | (go_simp; done) | (go_simp; with_reducible rfl)
              refine takeD (i := 7) (d := some 117) (v := ?_) rfl rfl (by kernel_rfl) (by decide +kernel) (by decide +kernel) (fun _ _ _ h => h) (Or.inl ⟨by first | kernel_rfl | rfl, ?_⟩) hS ?_
              rotate_left
              · intro w' hT; first | (go_simp; done) | (go_simp; with_reducible rfl)
              refine takeD (i := 8) (d := some 118) (v := ?_) rfl rfl (by kernel_rfl) (by decide +kernel) (by decide +kernel) (fun _ _ _ h => h) (Or.inl ⟨by first | kernel_rfl | rfl, ?_⟩) hS ?_
              rotate_left
              · intro w' hT; have t5 := (Below.cell hT (p := ⟨w.heap.size, 5, none⟩) hlD).trans q5; first | (go_simp; done) | (go_simp; with_reducible rfl)
              refine takeD (i := 9) (d := some 119) (v := ?_) rfl rfl (by kernel_rfl) (by decide +kernel) (by decide +kernel) (fun _ _ _ h => h) (Or.inl ⟨by first | kernel_rfl | rfl, ?_⟩) hS ?_
              rotate_left
              · intro w' hT; first | (go_simp; done) | (go_simp; with_reducible rfl)
              refine takeD (i := 10) (d := some 120) (v := ?_) rfl rfl (by kernel_rfl) (by decide +kernel) (by decide +kernel) (fun _ _ _ h => h) (Or.inl ⟨by first | kernel_rfl | rfl, ?_⟩) hS ?_
              rotate_left
              · intro w' hT; first | (go_simp; done) | (go_simp; with_reducible rfl)
              refine wpAnyH_oneE (i := 0) (by decide +kernel) rfl (by kernel_rfl) (fun K hK' => ?_)
              have hS1 := Below.alloc hS (Below.size hS) (.cells #[] 40)
              have hO0 : (V0.alloc (.cells #[] 40)).ownsRow wr.heap.size 40 4 (.slice (some ⟨V0.heap.size, 0, none⟩) 0 0) 0 [] := own_emptyP V0 wr.heap.size (Below.size hS)
              go_simp
              refine hK' _ _ ⟨hS1, ?_⟩
              clear hK' K
              generalize V0.alloc (.cells #[] 40) = V1 at *
              refine wpAnyH_oneE (i := 6) (by decide +kernel) rfl (by kernel_rfl) (fun K hK' => ?_)
              refine wp_append_own_at _ _ 35 rfl wr.heap.size 40 i0 _ 4 32 Try.underlying35 hi hz0 hz1 hz2 rfl (by decide) _ 0 [] (by rfl) hO0 ⟨gq, oq, none⟩ (n - a1) 0 (flt Ne.pcL (pl.drop a1)) (by rfl) (by rw [flt_len Ne.encPc, List.length_drop, HNN.out]) (HDR.out _ hS1) (flt_one' Ne.encPc _) (by unfold maxLen; omega) (by omega) (Below.size hS1) ?_
              intro v6 w6 hO6 hgrow _
              have hS2 := Below.grown hS1 hgrow (Below.size hS1) (fun s e => (hO0.lt s e).1)
              refine hK' _ _ ⟨hS2, ?_⟩
              clear hK' K hO0 hgrow
              refine wpAnyH_oneE (i := 11) (by decide +kernel) rfl (by kernel_rfl) (fun K hK' => ?_)
              refine wp_append_own_at _ _ 35 rfl wr.heap.size 40 i0 _ 4 32 Try.underlying35 hi hz0 hz1 hz2 rfl (by decide) v6 _ _ (by rfl) hO6 ⟨gq, oq, none⟩ kk a1 (flt Ne.pcL (pl.take kk)) (by rfl) (by rw [flt_len Ne.encPc, List.length_take, HNN.out]; congr 1; omega) (HTK.out _ hS2) (flt_one' Ne.encPc _) (by unfold maxLen; omega) (by omega) (Below.size hS2) ?_
              intro v7 w7 hO7 hgrow _
              have hS3 := Below.grown hS2 hgrow (Below.size hS2) (fun s e => (hO6.lt s e).1)
              refine hK' _ _ ⟨hS3, ?_⟩
              clear hK' K hO6 hgrow
              refine takeD (i := 12) (d := some 16) (v := v7) rfl rfl (by kernel_rfl) (by decide +kernel) (by decide +kernel) (fun _ _ _ h => h) (Or.inl ⟨by first | kernel_rfl | rfl, ?_⟩) hS3 ?_
              · intro w' hT; first | (go_simp; done) | (go_simp; with_reducible rfl)
              refine wpAnyH_done (by decide +kernel) ?_ _
              refine NoPanic.normal ?_
              have hll : (Ne.lessL pl kk).length = 0 + (n - a1) + kk := by unfold Ne.lessL; rw [List.length_append, List.length_drop, List.length_take, HNN.out, ← HA1.out]; omega
              have hO8 : w7.ownsRow wr.heap.size 40 4 v7 (Ne.lessL pl kk).length (flt Ne.pcL (Ne.lessL pl kk)) := by
                rw [hll]; unfold Ne.lessL; rw [flt_append, ← HA1.out]; exact hO7
              obtain ⟨A7, c7, rfl, hr7, _, _⟩ := rows_of_owns Ne.encPc hO8
              have HLL := Lib.hid hll
              have HR7 := Lib.hid hr7
              have hB7 := hB5.trans (Below.mono hS3 hB5.size)
              have bD7 := bD5.below hS3 bD5.lt
              have HP7 := Lib.hid (HP5.out.below hS3)
              have HF7 := Lib.hid (HF5.out.below hS3)
              have HL7 := Lib.hid (HL5.out.below hS3)
              have HS37 := Lib.hid hS3
              have HLO := Lib.hid (HLESS.out kk (by rw [HNN.out]; exact hkn))
              obtain ⟨nl, hnl⟩ : ∃ k, (Ne.lessL pl kk).length = k := ⟨_, rfl⟩
              rw [hnl]
              have HNL := Lib.hid hnl
              clear hll hO7 hO8 hr7 hS hS1 hS2 hS3 hlD bD5 HP5 HF5 HL5 q5 hnl
              have hb1 := desk_board bD7.range
              have q4 := bD7.cell 4
              simp only [List.getElem?_toArray, List.getElem?_cons_zero, List.getElem?_cons_succ] at q4
              go_wp2_with (refine ldm_bo hb1 (by rfl) _ rfl rfl (Hid.out ?_))
              refine Lib.hid ?_
              go_wp2_with fail
              refine (HCL.out (Ne.lessL pl kk) nl c7 HNL.out A7 HLO.out.1 _ HF7.out HP7.out HR7.out).mono ?_
              rintro e w8 ⟨rfl, b8⟩
              have hB8 := hB7.trans (b8.mono hB7.size)
              have bD8 := bD7.below b8 bD7.lt
              have HP8 := Lib.hid (HP7.out.below b8)
              have HF8 := Lib.hid (HF7.out.below b8)
              have HR8 := Lib.hid (HR7.out.below b8)
              have hck := rangeAt_below HCK.out hg9 (HS37.out.trans (b8.mono (Below.size HS37.out)))
              obtain ⟨q, hq⟩ : ∃ q, pl.getD kk Ne.zc = q := ⟨_, rfl⟩
              have HQF : Hid (Ne.frB b ps (Ne.lessL pl kk) q = true) := Lib.hid (by rw [← hq]; exact HLO.out.2)
              rw [hq] at hck
              have HFX := Lib.hid (fun s : Ext w8 => HFR.out (Ne.lessL pl kk) nl c7 HNL.out A7 HLO.out.1 q HQF.out s.w (HF8.out.below s.h) (HP8.out.below s.h) (HR8.out.below s.h))
              have p0 : ∀ s : Ext w8, s.w.cell? ⟨w.heap.size, 0, none⟩ = some (.int .i64 b.w) := fun s => s.cell (bD8.cell 0)
              have p1 : ∀ s : Ext w8, s.w.cell? ⟨w.heap.size, 1, none⟩ = some (.int .i64 b.h) := fun s => s.cell (bD8.cell 1)
              have p2 : ∀ s : Ext w8, s.w.cell? ⟨w.heap.size, 2, none⟩ = some (.int .i64 b.g) := fun s => s.cell (bD8.cell 2)
              have p3 : ∀ s : Ext w8, s.w.cell? ⟨w.heap.size, 3, none⟩ = some (.slice fA f fC) := fun s => s.cell (bD8.cell 3)
              have p4 : ∀ s : Ext w8, s.w.cell? ⟨w.heap.size, 4, none⟩ = some (.slice pA m pC) := fun s => s.cell (bD8.cell 4)
              have p5 : ∀ s : Ext w8, s.w.cell? ⟨w.heap.size, 5, none⟩ = some (.slice (some ⟨gq, oq, none⟩) n a1) := fun s => s.cell (bD8.cell 5)
              have p6 : ∀ s : Ext w8, s.w.cell? ⟨gq, oq + kk * 4, none⟩ = some (.int .i64 q.p) := fun s => s.cell (hck 0 _ rfl)
              have p7 : ∀ s : Ext w8, s.w.cell? ⟨gq, oq + kk * 4 + 1, none⟩ = some (.int .i64 q.x) := fun s => s.cell (hck 1 _ rfl)
              have p8 : ∀ s : Ext w8, s.w.cell? ⟨gq, oq + kk * 4 + 2, none⟩ = some (.int .i64 q.y) := fun s => s.cell (hck 2 _ rfl)
              have p9 : ∀ s : Ext w8, s.w.cell? ⟨gq, oq + kk * 4 + 3, none⟩ = some (.bool q.t) := fun s => s.cell (hck 3 _ rfl)
              have hlm : (kk : Int) < (n : Int) := by omega
              clear hb1 q4 hck hq bD7 bD8 HP7 HF7 HR7 b8
              go_wp2
              refine wp_region_ext (by kernel_rfl) (by kernel_rfl) ?_
              repeat (go_big_quiet_step ((go_at_call 38; refine calls_ext (HFX.out _))))
              refine wpQuiet_nil ?_
              rintro _ ⟨s, rfl⟩
              have hB9 := hB8.trans (s.h.mono hB8.size)
              clear p0 p1 p2 p3 p4 p5 p6 p7 p8 p9
              go_wp2_with fail
              refine (awake_any _).mono ?_
              rintro e wz ⟨rfl, bz⟩
              go_wp2
              go_ret
              exact ⟨rfl, hB9.trans (bz.mono hB9.size)⟩
            · have HDR : Hid (∀ W, Below wr.heap.size wr W → ∀ j u, (flt Ne.pcL (pl.drop (a1)))[j]? = some u → W.cell? ((⟨gq, oq + (a1) * 4, none⟩ : Addr).add j) = some u) := Lib.hid (fun W hW j u hj => by
                have e : (pl.drop (a1)).take (n - (a1)) = pl.drop (a1) := List.take_of_length_le (by rw [List.length_drop, HNN.out]; omega)
                rw [← e] at hj
                have := HPT.out (a1) (n - (a1)) (by rw [HNN.out]; omega) j u hj
                rw [Go.WideShapes.add_plain] at this ⊢
                exact (hW.cell (p := ⟨gq, oq + (a1) * 4 + j, none⟩) hg9).trans this)
              have HTK : Hid (∀ W, Below wr.heap.size wr W → ∀ j u, (flt Ne.pcL (pl.take kk))[j]? = some u → W.cell? ((⟨gq, oq, none⟩ : Addr).add j) = some u) := Lib.hid (fun W hW j u hj => by
                have := HPT.out 0 kk (by rw [HNN.out]; omega) j u (by rw [List.drop_zero]; exact hj)
                rw [Go.WideShapes.add_plain] at this ⊢
                rw [show oq + 0 * 4 + j = oq + j by omega] at this
                exact (hW.cell (p := ⟨gq, oq + j, none⟩) hg9).trans this)
              have hlD := bD5.lt
              refine wp_region_noPanic ?_
              refine wp_region_held (S := fun V => Below wr.heap.size wr V) (by kernel_rfl) ?_
              change wpAnyH _ _ _ _ _ _ _ _ (World.drew _)
              have hS : (fun V => Below wr.heap.size wr V) wr.drew := (Below.refl _ _).drew
              generalize World.drew wr = V0 at *
              refine takeD (i := 1) (d := some 111) (v := ?_) rfl rfl (by kernel_rfl) (by decide +kernel) (by decide +kernel) (fun _ _ _ h => h) (Or.inl ⟨by first | kernel_rfl | rfl, ?_⟩) hS ?_
              rotate_left
              · intro w' hT; first | (go_simp; done) | (go_simp; with_reducible rfl)
              refine takeD (i := 2) (d := some 112) (v := ?_) rfl rfl (by kernel_rfl) (by decide +kernel) (by decide +kernel) (fun _ _ _ h => h) (Or.inl ⟨by first | kernel_rfl | rfl, ?_⟩) hS ?_
              rotate_left
              · intro w' hT; have t5 := (Below.cell hT (p := ⟨w.heap.size, 5, none⟩) hlD).trans q5; first | (go_simp; done) | (go_simp; with_reducible rfl)
              refine takeD (i := 3) (d := some 113) (v := ?_) rfl rfl (by kernel_rfl) (by decide +kernel) (by decide +kernel) (fun _ _ _ h => h) (Or.inl ⟨by first | kernel_rfl | rfl, ?_⟩) hS ?_
              rotate_left
              · intro w' hT; first | (go_simp; done) | (go_simp; with_reducible rfl)
              refine takeD (i := 4) (d := some 114) (v := ?_) rfl rfl (by kernel_rfl) (by decide +kernel) (by decide +kernel) (fun _ _ _ h => h) (Or.inl ⟨by first | kernel_rfl | rfl, ?_⟩) hS ?_
              rotate_left
              · intro w' hT; first | (go_simp; done) | (go_simp; with_reducible rfl)
              refine takeD (i := 5) (d := some 115) (v := ?_) rfl rfl (by kernel_rfl) (by decide +kernel) (by decide +kernel) (fun _ _ _ h => h) (Or.inl ⟨by first | kernel_rfl | rfl, ?_⟩) hS ?_
              rotate_left
              · intro w' hT; first | (go_simp; done) | (go_simp; with_reducible rfl)
              refine takeD (i := 7) (d := some 117) (v := ?_) rfl rfl (by kernel_rfl) (by decide +kernel) (by decide +kernel) (fun _ _ _ h => h) (Or.inl ⟨by first | kernel_rfl | rfl, ?_⟩) hS ?_
              rotate_left
              · intro w' hT; first | (go_simp; done) | (go_simp; with_reducible rfl)
              refine takeD (i := 8) (d := some 118) (v := ?_) rfl rfl (by kernel_rfl) (by decide +kernel) (by decide +kernel) (fun _ _ _ h => h) (Or.inl ⟨by first | kernel_rfl | rfl, ?_⟩) hS ?_
              rotate_left
              · intro w' hT; have t5 := (Below.cell hT (p := ⟨w.heap.size, 5, none⟩) hlD).trans q5; first | (go_simp; done) | (go_simp; with_reducible rfl)
              refine takeD (i := 9) (d := some 119) (v := ?_) rfl rfl (by kernel_rfl) (by decide +kernel) (by decide +kernel) (fun _ _ _ h => h) (Or.inl ⟨by first | kernel_rfl | rfl, ?_⟩) hS ?_
              rotate_left
              · intro w' hT; first | (go_simp; done) | (go_simp; with_reducible rfl)
              refine takeD (i := 10) (d := some 120) (v := ?_) rfl rfl (by kernel_rfl) (by decide +kernel) (by decide +kernel) (fun _ _ _ h => h) (Or.inl ⟨by first | kernel_rfl | rfl, ?_⟩) hS ?_
              rotate_left
              · intro w' hT; first | (go_simp; done) | (go_simp; with_reducible rfl)
              refine wpAnyH_oneE (i := 0) (by decide +kernel) rfl (by kernel_rfl) (fun K hK' => ?_)
              have hS1 := Below.alloc hS (Below.size hS) (.cells #[] 40)
              have hO0 : (V0.alloc (.cells #[] 40)).ownsRow wr.heap.size 40 4 (.slice (some ⟨V0.heap.size, 0, none⟩) 0 0) 0 [] := own_emptyP V0 wr.heap.size (Below.size hS)
              go_simp
              refine hK' _ _ ⟨hS1, ?_⟩
              clear hK' K
              generalize V0.alloc (.cells #[] 40) = V1 at *
              refine wpAnyH_oneE (i := 6) (by decide +kernel) rfl (by kernel_rfl) (fun K hK' => ?_)
              refine wp_append_own_at _ _ 35 rfl wr.heap.size 40 i0 _ 4 32 Try.underlying35 hi hz0 hz1 hz2 rfl (by decide) _ 0 [] (by rfl) hO0 ⟨gq, oq + (a1) * 4, none⟩ (n - a1) (lC - (a1)) (flt Ne.pcL (pl.drop a1)) (by rfl) (by rw [flt_len Ne.encPc, List.length_drop, HNN.out]) (HDR.out _ hS1) (flt_one' Ne.encPc _) (by unfold maxLen; omega) (by omega) (Below.size hS1) ?_
              intro v6 w6 hO6 hgrow _
              have hS2 := Below.grown hS1 hgrow (Below.size hS1) (fun s e => (hO0.lt s e).1)
              refine hK' _ _ ⟨hS2, ?_⟩
              clear hK' K hO0 hgrow
              refine wpAnyH_oneE (i := 11) (by decide +kernel) rfl (by kernel_rfl) (fun K hK' => ?_)
              refine wp_append_own_at _ _ 35 rfl wr.heap.size 40 i0 _ 4 32 Try.underlying35 hi hz0 hz1 hz2 rfl (by decide) v6 _ _ (by rfl) hO6 ⟨gq, oq, none⟩ kk lC (flt Ne.pcL (pl.take kk)) (by rfl) (by rw [flt_len Ne.encPc, List.length_take, HNN.out]; congr 1; omega) (HTK.out _ hS2) (flt_one' Ne.encPc _) (by unfold maxLen; omega) (by omega) (Below.size hS2) ?_
              intro v7 w7 hO7 hgrow _
              have hS3 := Below.grown hS2 hgrow (Below.size hS2) (fun s e => (hO6.lt s e).1)
              refine hK' _ _ ⟨hS3, ?_⟩
              clear hK' K hO6 hgrow
              refine takeD (i := 12) (d := some 16) (v := v7) rfl rfl (by kernel_rfl) (by decide +kernel) (by decide +kernel) (fun _ _ _ h => h) (Or.inl ⟨by first | kernel_rfl | rfl, ?_⟩) hS3 ?_
              · intro w' hT; first | (go_simp; done) | (go_simp; with_reducible rfl)
              refine wpAnyH_done (by decide +kernel) ?_ _
              refine NoPanic.normal ?_
              have hll : (Ne.lessL pl kk).length = 0 + (n - a1) + kk := by unfold Ne.lessL; rw [List.length_append, List.length_drop, List.length_take, HNN.out, ← HA1.out]; omega
              have hO8 : w7.ownsRow wr.heap.size 40 4 v7 (Ne.lessL pl kk).length (flt Ne.pcL (Ne.lessL pl kk)) := by
                rw [hll]; unfold Ne.lessL; rw [flt_append, ← HA1.out]; exact hO7
              obtain ⟨A7, c7, rfl, hr7, _, _⟩ := rows_of_owns Ne.encPc hO8
              have HLL := Lib.hid hll
              have HR7 := Lib.hid hr7
              have hB7 := hB5.trans (Below.mono hS3 hB5.size)
              have bD7 := bD5.below hS3 bD5.lt
              have HP7 := Lib.hid (HP5.out.below hS3)
              have HF7 := Lib.hid (HF5.out.below hS3)
              have HL7 := Lib.hid (HL5.out.below hS3)
              have HS37 := Lib.hid hS3
              have HLO := Lib.hid (HLESS.out kk (by rw [HNN.out]; exact hkn))
              obtain ⟨nl, hnl⟩ : ∃ k, (Ne.lessL pl kk).length = k := ⟨_, rfl⟩
              rw [hnl]
              have HNL := Lib.hid hnl
              clear hll hO7 hO8 hr7 hS hS1 hS2 hS3 hlD bD5 HP5 HF5 HL5 q5 hnl
              have hb1 := desk_board bD7.range
              have q4 := bD7.cell 4
              simp only [List.getElem?_toArray, List.getElem?_cons_zero, List.getElem?_cons_succ] at q4
              go_wp2_with (refine ldm_bo hb1 (by rfl) _ rfl rfl (Hid.out ?_))
              refine Lib.hid ?_
              go_wp2_with fail
              refine (HCL.out (Ne.lessL pl kk) nl c7 HNL.out A7 HLO.out.1 _ HF7.out HP7.out HR7.out).mono ?_
              rintro e w8 ⟨rfl, b8⟩
              have hB8 := hB7.trans (b8.mono hB7.size)
              have bD8 := bD7.below b8 bD7.lt
              have HP8 := Lib.hid (HP7.out.below b8)
              have HF8 := Lib.hid (HF7.out.below b8)
              have HR8 := Lib.hid (HR7.out.below b8)
              have hck := rangeAt_below HCK.out hg9 (HS37.out.trans (b8.mono (Below.size HS37.out)))
              obtain ⟨q, hq⟩ : ∃ q, pl.getD kk Ne.zc = q := ⟨_, rfl⟩
              have HQF : Hid (Ne.frB b ps (Ne.lessL pl kk) q = true) := Lib.hid (by rw [← hq]; exact HLO.out.2)
              rw [hq] at hck
              have HFX := Lib.hid (fun s : Ext w8 => HFR.out (Ne.lessL pl kk) nl c7 HNL.out A7 HLO.out.1 q HQF.out s.w (HF8.out.below s.h) (HP8.out.below s.h) (HR8.out.below s.h))
              have p0 : ∀ s : Ext w8, s.w.cell? ⟨w.heap.size, 0, none⟩ = some (.int .i64 b.w) := fun s => s.cell (bD8.cell 0)
              have p1 : ∀ s : Ext w8, s.w.cell? ⟨w.heap.size, 1, none⟩ = some (.int .i64 b.h) := fun s => s.cell (bD8.cell 1)
              have p2 : ∀ s : Ext w8, s.w.cell? ⟨w.heap.size, 2, none⟩ = some (.int .i64 b.g) := fun s => s.cell (bD8.cell 2)
              have p3 : ∀ s : Ext w8, s.w.cell? ⟨w.heap.size, 3, none⟩ = some (.slice fA f fC) := fun s => s.cell (bD8.cell 3)
              have p4 : ∀ s : Ext w8, s.w.cell? ⟨w.heap.size, 4, none⟩ = some (.slice pA m pC) := fun s => s.cell (bD8.cell 4)
              have p5 : ∀ s : Ext w8, s.w.cell? ⟨w.heap.size, 5, none⟩ = some (.slice (some ⟨gq, oq, none⟩) n lC) := fun s => s.cell (bD8.cell 5)
              have p6 : ∀ s : Ext w8, s.w.cell? ⟨gq, oq + kk * 4, none⟩ = some (.int .i64 q.p) := fun s => s.cell (hck 0 _ rfl)
              have p7 : ∀ s : Ext w8, s.w.cell? ⟨gq, oq + kk * 4 + 1, none⟩ = some (.int .i64 q.x) := fun s => s.cell (hck 1 _ rfl)
              have p8 : ∀ s : Ext w8, s.w.cell? ⟨gq, oq + kk * 4 + 2, none⟩ = some (.int .i64 q.y) := fun s => s.cell (hck 2 _ rfl)
              have p9 : ∀ s : Ext w8, s.w.cell? ⟨gq, oq + kk * 4 + 3, none⟩ = some (.bool q.t) := fun s => s.cell (hck 3 _ rfl)
              have hlm : (kk : Int) < (n : Int) := by omega
              clear hb1 q4 hck hq bD7 bD8 HP7 HF7 HR7 b8
              go_wp2
              refine wp_region_ext (by kernel_rfl) (by kernel_rfl) ?_
              repeat (go_big_quiet_step ((go_at_call 38; refine calls_ext (HFX.out _))))
              refine wpQuiet_nil ?_
              rintro _ ⟨s, rfl⟩
              have hB9 := hB8.trans (s.h.mono hB8.size)
              clear p0 p1 p2 p3 p4 p5 p6 p7 p8 p9
              go_wp2_with fail
              refine (awake_any _).mono ?_
              rintro e wz ⟨rfl, bz⟩
              go_wp2
              go_ret
              exact ⟨rfl, hB9.trans (bz.mono hB9.size)⟩
end Go.Proofs.Ytlikmlhlfbdchaa
/- nest: a layout appended to an empty one; one more place appended. -/
namespace Go.Proofs.Ytlikmlhlfbdchaa
open Go.RowKit Go.Shelf
set_option linter.unusedVariables false
/-- append of a row of places that came in, or of none, to an empty one -/
theorem wp_append_pl {w : World} {o : Oper} {a : Act} {K : Act → World → Prop} {Q : Exit → Act → World → Prop} (s x : Operand)
    (ho : o.op = .call { callee := .builtin .append, args := #[s, x], argTypes := #[35, 35] })
    (base g : Nat) (hs : a.eval s = .slice (some ⟨g, 0, none⟩) 0 0) (hown : w.ownsRow base 40 4 (.slice (some ⟨g, 0, none⟩) 0 0) 0 [])
    (lA : Option Addr) (n lC : Nat) (pl : List Ne.Pc) (hx : a.eval x = .slice lA n lC) (hn : pl.length = n) (hn2 : n ≤ 200) (hnl : lA = none → lC = 0) (hL : Rows Ne.pcL 4 w lA pl) (hbase : base ≤ w.heap.size)
    (h : ∀ v' w', w'.ownsRow base 40 4 v' n (flt Ne.pcL pl) → Below base w w' → (∀ g' t cs, g' ≠ g → Blk w g' t cs → Blk w' g' t cs) → K (a.put o.dst v') w') : o.wp Try.prog a w K Q := by
  obtain ⟨i0, hi, hz0, hz1, hz2⟩ := info_parts infoPc3
  subst hn
  cases lA with
  | none =>
    obtain rfl := hnl rfl
    obtain rfl : pl = [] := by
      rcases hL with h | ⟨b, off, h, _⟩
      · exact h
      · cases h
    have hrun := run_append_owned_none (P := Try.prog) (w := w) base 35 o.type 40 i0 4 Try.underlying35 hi _ 0 [] hown
    unfold Oper.wp
    simp only [execOp, ho, resolve, invoke, builtin, Sem.run_bind, Sem.run_pure, Result.andThen_ok, List.map_toArray, List.map_cons, List.map_nil, hs, hx]
    have hx0 : (List.length ([] : List Ne.Pc)) = 0 := rfl
    rw [hx0, hrun]
    exact h _ _ hown (Below.refl _ _) (fun _ _ _ _ h => h)
  | some ad =>
    obtain ⟨b, off, sp⟩ := ad
    have hcell : ∀ j u, (flt Ne.pcL pl)[j]? = some u → w.cell? ((⟨b, off, sp⟩ : Addr).add j) = some u := fun j u hj => by
      rcases Nat.eq_zero_or_pos pl.length with h0 | h0
      · rw [List.length_eq_zero_iff.1 h0] at hj; simp [flt] at hj
      · obtain ⟨b', off', e, hg, hc⟩ := hL.at (z := Ne.zc) h0
        cases e
        have := Ne.row_part (l := pl) hc 0 pl.length (by omega) j u (by rw [List.drop_zero, List.take_length]; exact hj)
        rw [Go.WideShapes.add_plain] at this ⊢
        rw [show off + 0 * 4 + j = off + j by omega] at this
        exact this
    refine wp_append_own_at s x 35 ho base 40 i0 _ 4 32 Try.underlying35 hi hz0 hz1 hz2 rfl (by decide) _ 0 [] hs hown ⟨b, off, sp⟩ pl.length lC (flt Ne.pcL pl) hx (flt_len Ne.encPc pl) hcell (flt_one' Ne.encPc _) (by unfold maxLen; omega) (by omega) hbase ?_
    intro v' w' h1 h2 _
    rw [Nat.zero_add, List.nil_append] at h1
    exact h v' w' h1 ((Below.refl _ w).grown h2 hbase (fun s e => (hown.lt s e).1)) (fun g' t cs hne hb => by
      have hlt := Blk.lt hb
      obtain ⟨_, _, _, _, g5⟩ := h2
      have := g5 g' hlt (fun e => hne (by simp [Value.ownBlock] at e; exact e))
      unfold Blk at hb ⊢; rw [this]; exact hb)
/-- one more place appended to a row of one's own -/
theorem wp_append_p {w : World} {o : Oper} {a : Act} {K : Act → World → Prop} {Q : Exit → Act → World → Prop} (s x : Operand)
    (ho : o.op = .call { callee := .builtin .append, args := #[s, x], argTypes := #[35, 35] })
    (base g n : Nat) (v : Value) (pl : List Ne.Pc) (p : Ne.Pc) (hn : pl.length = n) (hn2 : n ≤ 200) (hs : a.eval s = v) (hown : w.ownsRow base 40 4 v n (flt Ne.pcL pl))
    (hx : a.eval x = .slice (some ⟨g, 0, none⟩) 1 1) (bN : Blk w g 40 (Ne.pcL p).toArray) (hbase : base ≤ w.heap.size)
    (h : ∀ v' w', w'.ownsRow base 40 4 v' (n + 1) (flt Ne.pcL (pl ++ [p])) → Below base w w' → K (a.put o.dst v') w') : o.wp Try.prog a w K Q := by
  obtain ⟨i0, hi, hz0, hz1, hz2⟩ := info_parts infoPc3
  have hcell : ∀ j u, (Ne.pcL p)[j]? = some u → w.cell? ((⟨g, 0, none⟩ : Addr).add j) = some u := fun j u hj => by
    rw [Go.WideShapes.add_plain]
    have := bN.cell (0 + j)
    rw [this, Nat.zero_add]
    simpa using hj
  refine wp_append_own_at s x 35 ho base 40 i0 _ 4 32 Try.underlying35 hi hz0 hz1 hz2 rfl (by decide) v n _ hs hown ⟨g, 0, none⟩ 1 1 (Ne.pcL p) hx rfl hcell (Ne.encPc.one _) (by unfold maxLen; omega) (by omega) hbase ?_
  intro v' w' h1 h2 _
  exact h v' w' (by rw [flt_append, flt_one]; exact h1) ((Below.refl _ w).grown h2 hbase (fun s e => (hown.lt s e).1))
end Go.Proofs.Ytlikmlhlfbdchaa
/- nest: the law of what is laid. -/
namespace Go.Proofs.Ytlikmlhlfbdchaa
open Go.RowKit Go.Shelf
set_option linter.unusedVariables false
set_option maxRecDepth 100000 in
set_option maxHeartbeats 4000000 in
theorem law_laid (b : Ne.Bo) (ps : List Ne.Pa) (pl : List Ne.Pc) (fA : Option Addr) (f fC : Nat) (pA : Option Addr) (m pC : Nat) (lA : Option Addr) (n lC : Nat) (x : Int) (p : Ne.Pc) (hf : b.fs.length = f) (hm : ps.length = m) (hn : pl.length = n) (hfM : f ≤ 9223372036854775807) (hmM : m ≤ 9223372036854775807) (hnM : n ≤ 9223372036854775807) (hcap : n ≤ lC) (hnl : lA = none → lC = 0)
    (w : World) (hF : Rows Ne.rcL 4 w fA b.fs) (hP : Ne.PaM w pA ps) (hL : Rows Ne.pcL 4 w lA pl) :
    Calls Try.prog 11 #[.agg (dkA b fA f fC pA m pC lA n lC), .int .i64 x, .agg (Ne.pcL p).toArray] w fun e w' => e = .returned (.bool true) ∧ Below w.heap.size w w' := by
  have hB0 := (Below.refl w.heap.size w).alloc (Nat.le_refl _) (.cells (dkA b fA f fC pA m pC lA n lC) 37)
  have hB := hB0.alloc hB0.size (.cells (Ne.pcL p).toArray 40)
  have bD := (Blk.new w 37 (dkA b fA f fC pA m pC lA n lC)).alloc (.cells (Ne.pcL p).toArray 40)
  have bX := Blk.new (w.alloc (.cells (dkA b fA f fC pA m pC lA n lC) 37)) 40 (Ne.pcL p).toArray
  rw [World.size_alloc] at bX
  have hrD := bD.range
  have HFW := Lib.hid (fun W h h' => few_b b fA f fC pA m pC lA n lC ps pl hm hn hmM hnM W h h')
  have HP := Lib.hid (hP.below hB)
  have HL := Lib.hid (hL.below hB)
  have HF := Lib.hid (hF.below hB)
  obtain ⟨I, E, hE⟩ : ∃ I E, Ne.ckA b ps pl = (I, E) := ⟨_, _, rfl⟩
  obtain ⟨r, hr⟩ : ∃ r, (decide (E = 0) && Ne.frB b ps pl p) = r := ⟨_, rfl⟩
  obtain ⟨E2, hE2⟩ : ∃ z, Ne.roE b ps x = z := ⟨_, rfl⟩
  obtain ⟨R, hR⟩ : ∃ z, Ne.roV b ps x = z := ⟨_, rfl⟩
  obtain ⟨E3, hE3⟩ : ∃ z, Ne.cpE b ps x = z := ⟨_, rfl⟩
  obtain ⟨M, hM⟩ : ∃ z, Ne.bdV b ps x = z := ⟨_, rfl⟩
  have HRO := Lib.hid (fun W h h' => Rows_b b fA pA ps f fC m pC x hf hm E2 hE2 R hR W h h')
  have HBO := Lib.hid (fun W h h' => Bound_b b fA pA ps f fC m pC x hf hm E3 hE3 M hM W h h')
  have HCL := Lib.hid (fun (l' : List Ne.Pc) (n' c' : Nat) (hn' : l'.length = n') (A' : Option Addr) (I' E' : Int) (he : Ne.ckA b ps l' = (I', E')) W h h' h'' => Check_b b fA pA A' ps l' f fC m pC n' c' hf hm hn' I' E' he W h h' h'')
  have HFR := Lib.hid (fun W h h' h'' => Free_b b fA pA lA ps pl f fC m pC n lC hf hm hn I E hE p r hr W h h' h'')
  have HBOUND : Hid (E2 = 0 → E3 = 0 ∧ (R.length : Int) ≤ M ∧ Ne.ckA b ps R = (0, 0)) := Lib.hid (fun h => by
    rw [← hE2] at h
    have hc : Ne.cpE b ps x = 0 := by
      by_cases e : Ne.cpE b ps x = 0
      · exact e
      · rw [(Ne.roE_bad e).1] at h; exact absurd h e
    obtain ⟨_, _, q, rfl, _⟩ := Ne.cpE_ok hc
    rw [← hE3, ← hM, ← hR]
    exact ⟨hc, Ne.rows_bound h, Ne.rl_ck (Ne.rows_rl h).1⟩)
  have HR200 : Hid (R.length ≤ 200) := Lib.hid (by rw [← hR]; exact Ne.roV_len _ _ _)
  have HEND : Hid (E = 0 → n ≤ 200 ∧ ∃ I' E', Ne.ckA b ps (pl ++ [p]) = (I', E') ∧ r = decide (E' = 0)) := Lib.hid (fun h => by
    have h' : (Ne.ckA b ps pl).2 = 0 := by rw [hE]; exact h
    refine ⟨by rw [← hn]; exact (Ne.rl_of h').len, _, _, rfl, ?_⟩
    rw [← hr, decide_eq_true h, Ne.fr_ck h']; rfl)
  have HRF : Hid (E ≠ 0 → r = false) := Lib.hid (fun h => by rw [← hr, decide_eq_false h]; rfl)
  have HNN := Lib.hid hn
  have HNL := Lib.hid hnl
  obtain ⟨rl, hrl⟩ : ∃ k, R.length = k := ⟨_, rfl⟩
  have HRL := Lib.hid hrl
  have hrl200 : rl ≤ 200 := by rw [← hrl]; exact HR200.out
  clear hP hL hF hm hn hf hE hr hE2 hR hE3 hM hmM hfM hnM hrl hcap hnl
  go_enter Try.func11, Try.ntmps11
  go_wp2_with (refine ldm_dk hrD (by rfl) _ rfl rfl ?_)
  refine (HFW.out _ HP.out HL.out).mono ?_
  rintro e w1 ⟨⟨r0, rfl, _⟩, b1⟩
  have hB1 := hB.trans (b1.mono hB.size)
  have bD1 := bD.below b1 bD.lt
  have bX1 := bX.below b1 bX.lt
  have HP1 := Lib.hid (HP.out.below b1)
  have HF1 := Lib.hid (HF.out.below b1)
  have HL1 := Lib.hid (HL.out.below b1)
  clear bD bX HP HL HF hrD hB b1 HFW
  cases r0 with
  | false =>
    go_wp2_with fail
    refine (awake_any _).mono ?_
    rintro e wz ⟨rfl, bz⟩
    go_wp2
    go_ret
    exact ⟨rfl, hB1.trans (bz.mono hB1.size)⟩
  | true =>
    have hb1 := desk_board bD1.range
    have q4 := bD1.cell 4
    have q5 := bD1.cell 5
    simp only [List.getElem?_toArray, List.getElem?_cons_zero, List.getElem?_cons_succ] at q4 q5
    go_wp2_with (refine ldm_bo hb1 (by rfl) _ rfl rfl (Hid.out ?_))
    refine Lib.hid ?_
    go_wp2_with fail
    refine (HRO.out _ HF1.out HP1.out).mono ?_
    rintro e w2 ⟨v1, rfl, hO1, b2⟩
    have hB2 := hB1.trans (b2.mono hB1.size)
    have bD2 := bD1.below b2 bD1.lt
    have bX2 := bX1.below b2 bX1.lt
    have HP2 := Lib.hid (HP1.out.below b2)
    have HF2 := Lib.hid (HF1.out.below b2)
    have HL2 := Lib.hid (HL1.out.below b2)
    obtain ⟨A1, c1, rfl, hr1, _, _⟩ := rows_of_owns Ne.encPc hO1
    rw [HRL.out]
    have HR2 := Lib.hid hr1
    clear hO1 hr1
    clear hb1 q4 q5 bD1 bX1 b2 HP1 HF1 HL1
    have hb1 := desk_board bD2.range
    have q4 := bD2.cell 4
    have q5 := bD2.cell 5
    simp only [List.getElem?_toArray, List.getElem?_cons_zero, List.getElem?_cons_succ] at q4 q5
    go_wp2_with (refine ldm_bo hb1 (by rfl) _ rfl rfl (Hid.out ?_))
    refine Lib.hid ?_
    go_wp2_with fail
    refine (HBO.out _ HF2.out HP2.out).mono ?_
    rintro e w3 ⟨rfl, b3⟩
    have hB3 := hB2.trans (b3.mono hB2.size)
    have bD3 := bD2.below b3 bD2.lt
    have bX3 := bX2.below b3 bX2.lt
    have HP3 := Lib.hid (HP2.out.below b3)
    have HF3 := Lib.hid (HF2.out.below b3)
    have HL3 := Lib.hid (HL2.out.below b3)
    have HR3 := Lib.hid (HR2.out.below b3)
    clear hb1 q4 q5 bD2 bX2 b3 HP2 HF2 HL2
    refine (show ∀ (hgo : True), _ from fun _ => ?_) trivial
    by_cases h2 : E2 = 0
    · subst h2
      obtain ⟨h3, hle, hck⟩ := HBOUND.out rfl
      subst h3
      rw [HRL.out] at hle
      have d1 : decide (M < (rl : Int)) = false := by simp; omega
      have HCK := Lib.hid hck
      clear hle hck
      by_cases h12 : rl ≤ 12
      · have d2 : decide ((rl : Int) ≤ 12) = true := by simp; omega
        have hb1 := desk_board bD3.range
        have q4 := bD3.cell 4
        simp only [List.getElem?_toArray, List.getElem?_cons_zero, List.getElem?_cons_succ] at q4
        go_wp2_with (refine ldm_bo hb1 (by rfl) _ rfl rfl (Hid.out ?_))
        refine Lib.hid ?_
        go_wp2_with fail
        refine (HCL.out R rl c1 HRL.out A1 0 0 HCK.out _ HF3.out HP3.out HR3.out).mono ?_
        rintro e w4 ⟨rfl, b4⟩
        have hB4 := hB3.trans (b4.mono hB3.size)
        have bD4 := bD3.below b4 bD3.lt
        have bX4 := bX3.below b4 bX3.lt
        have HP4 := Lib.hid (HP3.out.below b4)
        have HF4 := Lib.hid (HF3.out.below b4)
        have HL4 := Lib.hid (HL3.out.below b4)
        clear hb1 q4 bD3 bX3 b4 HP3 HF3 HL3 HR3
        have hb1 := desk_board bD4.range
        have rX1 := bX4.range
        have q4 := bD4.cell 4
        have q5 := bD4.cell 5
        simp only [List.getElem?_toArray, List.getElem?_cons_zero, List.getElem?_cons_succ] at q4 q5
        go_wp2_with (first | refine ldm_bo hb1 (by rfl) _ rfl rfl ?_ | refine ldm_pc rX1 (by rfl) _ rfl rfl (Hid.out ?_))
        refine Lib.hid ?_
        go_wp2_with fail
        refine (HFR.out _ HF4.out HP4.out HL4.out).mono ?_
        rintro e w5 ⟨rfl, b5⟩
        have hB5 := hB4.trans (b5.mono hB4.size)
        have bD5 := bD4.below b5 bD4.lt
        have bX5 := bX4.below b5 bX4.lt
        have HP5 := Lib.hid (HP4.out.below b5)
        have HF5 := Lib.hid (HF4.out.below b5)
        have HL5 := Lib.hid (HL4.out.below b5)
        clear hb1 rX1 q4 q5 bD4 bX4 b5 HP4 HF4 HL4
        by_cases hE0 : E = 0
        case neg =>
          have hne : (E == 0) = false := by simp; exact hE0
          obtain rfl := HRF.out hE0
          go_wp2_with fail
          refine (awake_any _).mono ?_
          rintro e wz ⟨rfl, bz⟩
          go_wp2
          go_ret
          exact ⟨rfl, hB5.trans (bz.mono hB5.size)⟩
        case pos =>
          subst hE0
          obtain ⟨hn200, I', E', hck2, hrE⟩ := HEND.out rfl
          have HCK2 := Lib.hid hck2
          have hee : (r == (E' == 0)) = true := by rw [hrE]; by_cases h : E' = 0 <;> simp [h]
          clear hck2 hrE
          go_wp2
          refine wp_region_noPanic ?_
          refine wp_region_held (S := fun V => Below w5.heap.size w5 V) (by kernel_rfl) ?_
          change wpAnyH _ _ _ _ _ _ _ _ (World.drew _)
          have hS0 : (fun V => Below w5.heap.size w5 V) w5.drew := (Below.refl _ _).drew
          have q0 := bD5.cell 0
          have q1 := bD5.cell 1
          have q2 := bD5.cell 2
          have q3 := bD5.cell 3
          have q4 := bD5.cell 4
          have q5 := bD5.cell 5
          have x0 := bX5.cell 0
          have x1 := bX5.cell 1
          have x2 := bX5.cell 2
          have x3 := bX5.cell 3
          have hlD := bD5.lt
          have hlX := bX5.lt
          simp only [List.getElem?_toArray, List.getElem?_cons_zero, List.getElem?_cons_succ] at q0 q1 q2 q3 q4 q5 x0 x1 x2 x3
          generalize World.drew w5 = V0 at *
          refine takeD (i := 0) (d := some 85) (v := ?_) rfl rfl (by kernel_rfl) (by decide +kernel) (by decide +kernel) (fun _ _ _ h => h) (Or.inl ⟨by first | kernel_rfl | rfl, ?_⟩) hS0 ?_
          rotate_left
          · intro w' hT; first | (go_simp; done) | (go_simp; with_reducible rfl)
          refine takeD (i := 1) (d := some 86) (v := ?_) rfl rfl (by kernel_rfl) (by decide +kernel) (by decide +kernel) (fun _ _ _ h => h) (Or.inl ⟨by first | kernel_rfl | rfl, ?_⟩) hS0 ?_
          rotate_left
          · intro w' hT; have t0 := (Below.cell hT (p := ⟨w.heap.size, 0, none⟩) hlD).trans q0; have t1 := (Below.cell hT (p := ⟨w.heap.size, 1, none⟩) hlD).trans q1; have t2 := (Below.cell hT (p := ⟨w.heap.size, 2, none⟩) hlD).trans q2; have t3 := (Below.cell hT (p := ⟨w.heap.size, 3, none⟩) hlD).trans q3; first | (go_simp; done) | (go_simp; with_reducible rfl)
          refine takeD (i := 2) (d := some 87) (v := ?_) rfl rfl (by kernel_rfl) (by decide +kernel) (by decide +kernel) (fun _ _ _ h => h) (Or.inl ⟨by first | kernel_rfl | rfl, ?_⟩) hS0 ?_
          rotate_left
          · intro w' hT; first | (go_simp; done) | (go_simp; with_reducible rfl)
          refine takeD (i := 3) (d := some 88) (v := ?_) rfl rfl (by kernel_rfl) (by decide +kernel) (by decide +kernel) (fun _ _ _ h => h) (Or.inl ⟨by first | kernel_rfl | rfl, ?_⟩) hS0 ?_
          rotate_left
          · intro w' hT; have t4 := (Below.cell hT (p := ⟨w.heap.size, 4, none⟩) hlD).trans q4; first | (go_simp; done) | (go_simp; with_reducible rfl)
          refine takeD (i := 5) (d := some 90) (v := ?_) rfl rfl (by kernel_rfl) (by decide +kernel) (by decide +kernel) (fun _ _ _ h => h) (Or.inl ⟨by first | kernel_rfl | rfl, ?_⟩) hS0 ?_
          rotate_left
          · intro w' hT; first | (go_simp; done) | (go_simp; with_reducible rfl)
          refine takeD (i := 6) (d := some 91) (v := ?_) rfl rfl (by kernel_rfl) (by decide +kernel) (by decide +kernel) (fun _ _ _ h => h) (Or.inl ⟨by first | kernel_rfl | rfl, ?_⟩) hS0 ?_
          rotate_left
          · intro w' hT; have t5 := (Below.cell hT (p := ⟨w.heap.size, 5, none⟩) hlD).trans q5; first | (go_simp; done) | (go_simp; with_reducible rfl)
          refine takeD (i := 8) (d := some 93) (v := ?_) rfl rfl (by kernel_rfl) (by decide +kernel) (by decide +kernel) (fun _ _ _ h => h) (Or.inl ⟨by first | kernel_rfl | rfl, ?_⟩) hS0 ?_
          rotate_left
          · intro w' hT; have t0 := (Below.cell hT (p := ⟨w.heap.size + 1, 0, none⟩) hlX).trans x0; have t1 := (Below.cell hT (p := ⟨w.heap.size + 1, 1, none⟩) hlX).trans x1; have t2 := (Below.cell hT (p := ⟨w.heap.size + 1, 2, none⟩) hlX).trans x2; have t3 := (Below.cell hT (p := ⟨w.heap.size + 1, 3, none⟩) hlX).trans x3; first | (go_simp; done) | (go_simp; with_reducible rfl)
          clear q0 q1 q2 q3 q4 q5 x0 x1 x2 x3 hlD hlX
          refine wpAnyH_all (rs := [4, 9]) (by decide +kernel) (by simp) ?_
          intro i0 hi0
          simp only [List.mem_cons, List.not_mem_nil, or_false] at hi0
          rcases hi0 with rfl | rfl
          case' inl =>
            refine wpOp_goE rfl (by kernel_rfl) (fun K hK' => ?_)
            have hS1 := Below.alloc hS0 (Below.size hS0) (.cells #[] 40)
            have hO0 : (V0.alloc (.cells #[] 40)).ownsRow w5.heap.size 40 4 (.slice (some ⟨V0.heap.size, 0, none⟩) 0 0) 0 [] := own_emptyP V0 w5.heap.size (Below.size hS0)
            go_simp
            refine hK' _ _ ⟨hS1, ?_⟩
            clear hK' K
            generalize V0.alloc (.cells #[] 40) = V1 at *
            generalize V0.heap.size = ge at *
            refine wpAnyH_all (rs := [7, 9]) (by decide +kernel) (by simp) ?_
            intro i0 hi0
            simp only [List.mem_cons, List.not_mem_nil, or_false] at hi0
            rcases hi0 with rfl | rfl
            case' inl =>
              refine wpOp_goE rfl (by kernel_rfl) (fun K hK' => ?_)
              refine wp_append_pl _ _ rfl w5.heap.size ge (by rfl) hO0 lA n lC pl (by rfl) HNN.out hn200 HNL.out ((HL5.out.below (Below.mono hS1 (Nat.le_refl _)))) (Below.size hS1) ?_
              intro v6 V2 hO6 hb6 hkeep
              have hS2 := Below.trans hS1 hb6
              refine hK' _ _ ⟨hS2, ?_⟩
              clear hK' K hO0
              refine wpAnyH_oneE (i := 9) (by decide +kernel) rfl (by kernel_rfl) (fun K hK' => ?_)
              have hS3 := Below.alloc hS2 (Below.size hS2) (.cells (Ne.pcL p).toArray 40)
              have bN := Blk.new V2 40 (Ne.pcL p).toArray
              have hO6 := hO6.alloc (.cells (Ne.pcL p).toArray 40)
              go_simp
              refine hK' _ _ ⟨hS3, ?_⟩
              clear hK' K
              generalize V2.alloc (.cells (Ne.pcL p).toArray 40) = V3 at *
              generalize V2.heap.size = gn at *
              refine wpAnyH_oneE (i := 10) (by decide +kernel) rfl (by kernel_rfl) (fun K hK' => ?_)
              refine wp_append_p _ _ rfl w5.heap.size gn n v6 pl p HNN.out hn200 (by rfl) hO6 (by rfl) bN (Below.size hS3) ?_
              intro v7 V4 hO7 hb7
              have hS4 := Below.trans hS3 hb7
              refine hK' _ _ ⟨hS4, ?_⟩
              clear hK' K hO6 bN
              have hlen : (pl ++ [p]).length = n + 1 := by rw [List.length_append, HNN.out]; rfl
              rw [← hlen] at hO7
              obtain ⟨A7, c7, rfl, hr7, _, _⟩ := rows_of_owns Ne.encPc hO7
              rw [hlen]
              have HR7 := Lib.hid hr7
              have HLN7 := Lib.hid hlen
              clear hO7 hr7 hlen
              refine wpAnyH_oneE (i := 11) (by decide +kernel) rfl (by kernel_rfl) (fun K hK' => ?_)
              go_simp
              refine (HCL.out (pl ++ [p]) (n + 1) c7 HLN7.out A7 I' E' HCK2.out V4 (HF5.out.below (Below.mono hS4 (Nat.le_refl _))) (HP5.out.below (Below.mono hS4 (Nat.le_refl _))) HR7.out).mono ?_
              rintro e V5 ⟨rfl, hb8⟩
              have hS5 := Below.trans hS4 (hb8.mono (Below.size hS4))
              refine hK' _ _ ⟨hS5, ?_⟩
              clear hK' K
              refine takeD (i := 12) (d := some 84) (v := ?_) rfl rfl (by kernel_rfl) (by decide +kernel) (by decide +kernel) (fun _ _ _ h => h) (Or.inl ⟨by first | kernel_rfl | rfl, ?_⟩) hS5 ?_
              rotate_left
              · intro w' hT; first | (go_simp; done) | (go_simp; with_reducible rfl)
              refine takeD (i := 13) (d := some 97) (v := ?_) rfl rfl (by kernel_rfl) (by decide +kernel) (by decide +kernel) (fun _ _ _ h => h) (Or.inl ⟨by first | kernel_rfl | rfl, ?_⟩) hS5 ?_
              rotate_left
              · intro w' hT; first | (go_simp; done) | (go_simp; with_reducible rfl)
              refine takeD (i := 14) (d := some 98) (v := ?_) rfl rfl (by kernel_rfl) (by decide +kernel) (by decide +kernel) (fun _ _ _ h => h) (Or.inl ⟨by first | kernel_rfl | rfl, ?_⟩) hS5 ?_
              rotate_left
              · intro w' hT; first | (go_simp; done) | (go_simp; with_reducible rfl)
              refine takeD (i := 15) (d := some 10) (v := ?_) rfl rfl (by kernel_rfl) (by decide +kernel) (by decide +kernel) (fun _ _ _ h => h) (Or.inl ⟨by first | kernel_rfl | rfl, ?_⟩) hS5 ?_
              rotate_left
              · intro w' hT; first | (go_simp; done) | (go_simp; with_reducible rfl)
              refine wpAnyH_done (by decide +kernel) ?_ _
              refine NoPanic.normal ?_
              have hBF := hB5.trans (Below.mono hS5 hB5.size)
              go_wp2_with fail
              refine (awake_any _).mono ?_
              rintro e wz ⟨rfl, bz⟩
              go_wp2
              go_ret
              exact ⟨rfl, hBF.trans (bz.mono hBF.size)⟩
            case' inr =>
              refine wpOp_goE rfl (by kernel_rfl) (fun K hK' => ?_)
              have hS2 := Below.alloc hS1 (Below.size hS1) (.cells (Ne.pcL p).toArray 40)
              have bN := Blk.new V1 40 (Ne.pcL p).toArray
              have hne : V1.heap.size ≠ ge := fun e => by have := (hO0.lt ge rfl).2; omega
              have hO0 := hO0.alloc (.cells (Ne.pcL p).toArray 40)
              go_simp
              refine hK' _ _ ⟨hS2, ?_⟩
              clear hK' K
              generalize V1.alloc (.cells (Ne.pcL p).toArray 40) = V2 at *
              generalize V1.heap.size = gn at *
              refine wpAnyH_oneE (i := 7) (by decide +kernel) rfl (by kernel_rfl) (fun K hK' => ?_)
              refine wp_append_pl _ _ rfl w5.heap.size ge (by rfl) hO0 lA n lC pl (by rfl) HNN.out hn200 HNL.out ((HL5.out.below (Below.mono hS2 (Nat.le_refl _)))) (Below.size hS2) ?_
              intro v6 V3 hO6 hb6 hkeep
              have bN := hkeep gn _ _ hne bN
              have hS3 := Below.trans hS2 hb6
              refine hK' _ _ ⟨hS3, ?_⟩
              clear hK' K hO0
              refine wpAnyH_oneE (i := 10) (by decide +kernel) rfl (by kernel_rfl) (fun K hK' => ?_)
              refine wp_append_p _ _ rfl w5.heap.size gn n v6 pl p HNN.out hn200 (by rfl) hO6 (by rfl) bN (Below.size hS3) ?_
              intro v7 V4 hO7 hb7
              have hS4 := Below.trans hS3 hb7
              refine hK' _ _ ⟨hS4, ?_⟩
              clear hK' K hO6 bN
              have hlen : (pl ++ [p]).length = n + 1 := by rw [List.length_append, HNN.out]; rfl
              rw [← hlen] at hO7
              obtain ⟨A7, c7, rfl, hr7, _, _⟩ := rows_of_owns Ne.encPc hO7
              rw [hlen]
              have HR7 := Lib.hid hr7
              have HLN7 := Lib.hid hlen
              clear hO7 hr7 hlen
              refine wpAnyH_oneE (i := 11) (by decide +kernel) rfl (by kernel_rfl) (fun K hK' => ?_)
              go_simp
              refine (HCL.out (pl ++ [p]) (n + 1) c7 HLN7.out A7 I' E' HCK2.out V4 (HF5.out.below (Below.mono hS4 (Nat.le_refl _))) (HP5.out.below (Below.mono hS4 (Nat.le_refl _))) HR7.out).mono ?_
              rintro e V5 ⟨rfl, hb8⟩
              have hS5 := Below.trans hS4 (hb8.mono (Below.size hS4))
              refine hK' _ _ ⟨hS5, ?_⟩
              clear hK' K
              refine takeD (i := 12) (d := some 84) (v := ?_) rfl rfl (by kernel_rfl) (by decide +kernel) (by decide +kernel) (fun _ _ _ h => h) (Or.inl ⟨by first | kernel_rfl | rfl, ?_⟩) hS5 ?_
              rotate_left
              · intro w' hT; first | (go_simp; done) | (go_simp; with_reducible rfl)
              refine takeD (i := 13) (d := some 97) (v := ?_) rfl rfl (by kernel_rfl) (by decide +kernel) (by decide +kernel) (fun _ _ _ h => h) (Or.inl ⟨by first | kernel_rfl | rfl, ?_⟩) hS5 ?_
              rotate_left
              · intro w' hT; first | (go_simp; done) | (go_simp; with_reducible rfl)
              refine takeD (i := 14) (d := some 98) (v := ?_) rfl rfl (by kernel_rfl) (by decide +kernel) (by decide +kernel) (fun _ _ _ h => h) (Or.inl ⟨by first | kernel_rfl | rfl, ?_⟩) hS5 ?_
              rotate_left
              · intro w' hT; first | (go_simp; done) | (go_simp; with_reducible rfl)
              refine takeD (i := 15) (d := some 10) (v := ?_) rfl rfl (by kernel_rfl) (by decide +kernel) (by decide +kernel) (fun _ _ _ h => h) (Or.inl ⟨by first | kernel_rfl | rfl, ?_⟩) hS5 ?_
              rotate_left
              · intro w' hT; first | (go_simp; done) | (go_simp; with_reducible rfl)
              refine wpAnyH_done (by decide +kernel) ?_ _
              refine NoPanic.normal ?_
              have hBF := hB5.trans (Below.mono hS5 hB5.size)
              go_wp2_with fail
              refine (awake_any _).mono ?_
              rintro e wz ⟨rfl, bz⟩
              go_wp2
              go_ret
              exact ⟨rfl, hBF.trans (bz.mono hBF.size)⟩
          case' inr =>
            refine wpOp_goE rfl (by kernel_rfl) (fun K hK' => ?_)
            have hS1 := Below.alloc hS0 (Below.size hS0) (.cells (Ne.pcL p).toArray 40)
            have bN := Blk.new V0 40 (Ne.pcL p).toArray
            go_simp
            refine hK' _ _ ⟨hS1, ?_⟩
            clear hK' K
            generalize V0.alloc (.cells (Ne.pcL p).toArray 40) = V1 at *
            generalize V0.heap.size = gn at *
            refine wpAnyH_oneE (i := 4) (by decide +kernel) rfl (by kernel_rfl) (fun K hK' => ?_)
            have hS2 := Below.alloc hS1 (Below.size hS1) (.cells #[] 40)
            have hO0 : (V1.alloc (.cells #[] 40)).ownsRow w5.heap.size 40 4 (.slice (some ⟨V1.heap.size, 0, none⟩) 0 0) 0 [] := own_emptyP V1 w5.heap.size (Below.size hS1)
            have hne : gn ≠ V1.heap.size := fun e => by have := bN.lt; omega
            have bN := bN.alloc (.cells #[] 40)
            go_simp
            refine hK' _ _ ⟨hS2, ?_⟩
            clear hK' K
            generalize V1.alloc (.cells #[] 40) = V2 at *
            generalize V1.heap.size = ge at *
            refine wpAnyH_oneE (i := 7) (by decide +kernel) rfl (by kernel_rfl) (fun K hK' => ?_)
            refine wp_append_pl _ _ rfl w5.heap.size ge (by rfl) hO0 lA n lC pl (by rfl) HNN.out hn200 HNL.out ((HL5.out.below (Below.mono hS2 (Nat.le_refl _)))) (Below.size hS2) ?_
            intro v6 V3 hO6 hb6 hkeep
            have bN := hkeep gn _ _ hne bN
            have hS3 := Below.trans hS2 hb6
            refine hK' _ _ ⟨hS3, ?_⟩
            clear hK' K hO0
            refine wpAnyH_oneE (i := 10) (by decide +kernel) rfl (by kernel_rfl) (fun K hK' => ?_)
            refine wp_append_p _ _ rfl w5.heap.size gn n v6 pl p HNN.out hn200 (by rfl) hO6 (by rfl) bN (Below.size hS3) ?_
            intro v7 V4 hO7 hb7
            have hS4 := Below.trans hS3 hb7
            refine hK' _ _ ⟨hS4, ?_⟩
            clear hK' K hO6 bN
            have hlen : (pl ++ [p]).length = n + 1 := by rw [List.length_append, HNN.out]; rfl
            rw [← hlen] at hO7
            obtain ⟨A7, c7, rfl, hr7, _, _⟩ := rows_of_owns Ne.encPc hO7
            rw [hlen]
            have HR7 := Lib.hid hr7
            have HLN7 := Lib.hid hlen
            clear hO7 hr7 hlen
            refine wpAnyH_oneE (i := 11) (by decide +kernel) rfl (by kernel_rfl) (fun K hK' => ?_)
            go_simp
            refine (HCL.out (pl ++ [p]) (n + 1) c7 HLN7.out A7 I' E' HCK2.out V4 (HF5.out.below (Below.mono hS4 (Nat.le_refl _))) (HP5.out.below (Below.mono hS4 (Nat.le_refl _))) HR7.out).mono ?_
            rintro e V5 ⟨rfl, hb8⟩
            have hS5 := Below.trans hS4 (hb8.mono (Below.size hS4))
            refine hK' _ _ ⟨hS5, ?_⟩
            clear hK' K
            refine takeD (i := 12) (d := some 84) (v := ?_) rfl rfl (by kernel_rfl) (by decide +kernel) (by decide +kernel) (fun _ _ _ h => h) (Or.inl ⟨by first | kernel_rfl | rfl, ?_⟩) hS5 ?_
            rotate_left
            · intro w' hT; first | (go_simp; done) | (go_simp; with_reducible rfl)
            refine takeD (i := 13) (d := some 97) (v := ?_) rfl rfl (by kernel_rfl) (by decide +kernel) (by decide +kernel) (fun _ _ _ h => h) (Or.inl ⟨by first | kernel_rfl | rfl, ?_⟩) hS5 ?_
            rotate_left
            · intro w' hT; first | (go_simp; done) | (go_simp; with_reducible rfl)
            refine takeD (i := 14) (d := some 98) (v := ?_) rfl rfl (by kernel_rfl) (by decide +kernel) (by decide +kernel) (fun _ _ _ h => h) (Or.inl ⟨by first | kernel_rfl | rfl, ?_⟩) hS5 ?_
            rotate_left
            · intro w' hT; first | (go_simp; done) | (go_simp; with_reducible rfl)
            refine takeD (i := 15) (d := some 10) (v := ?_) rfl rfl (by kernel_rfl) (by decide +kernel) (by decide +kernel) (fun _ _ _ h => h) (Or.inl ⟨by first | kernel_rfl | rfl, ?_⟩) hS5 ?_
            rotate_left
            · intro w' hT; first | (go_simp; done) | (go_simp; with_reducible rfl)
            refine wpAnyH_done (by decide +kernel) ?_ _
            refine NoPanic.normal ?_
            have hBF := hB5.trans (Below.mono hS5 hB5.size)
            go_wp2_with fail
            refine (awake_any _).mono ?_
            rintro e wz ⟨rfl, bz⟩
            go_wp2
            go_ret
            exact ⟨rfl, hBF.trans (bz.mono hBF.size)⟩
      · have d2 : decide ((rl : Int) ≤ 12) = false := by simp; omega
        have hb1 := desk_board bD3.range
        have rX1 := bX3.range
        have q4 := bD3.cell 4
        have q5 := bD3.cell 5
        simp only [List.getElem?_toArray, List.getElem?_cons_zero, List.getElem?_cons_succ] at q4 q5
        go_wp2_with (first | refine ldm_bo hb1 (by rfl) _ rfl rfl ?_ | refine ldm_pc rX1 (by rfl) _ rfl rfl (Hid.out ?_))
        refine Lib.hid ?_
        go_wp2_with fail
        refine (HFR.out _ HF3.out HP3.out HL3.out).mono ?_
        rintro e w4 ⟨rfl, b4⟩
        have hB4 := hB3.trans (b4.mono hB3.size)
        have bD4 := bD3.below b4 bD3.lt
        have bX4 := bX3.below b4 bX3.lt
        have HP4 := Lib.hid (HP3.out.below b4)
        have HF4 := Lib.hid (HF3.out.below b4)
        have HL4 := Lib.hid (HL3.out.below b4)
        clear hb1 rX1 q4 q5 bD3 bX3 b4 HP3 HF3 HL3
        by_cases hE0 : E = 0
        case neg =>
          have hne : (E == 0) = false := by simp; exact hE0
          obtain rfl := HRF.out hE0
          go_wp2_with fail
          refine (awake_any _).mono ?_
          rintro e wz ⟨rfl, bz⟩
          go_wp2
          go_ret
          exact ⟨rfl, hB4.trans (bz.mono hB4.size)⟩
        case pos =>
          subst hE0
          obtain ⟨hn200, I', E', hck2, hrE⟩ := HEND.out rfl
          have HCK2 := Lib.hid hck2
          have hee : (r == (E' == 0)) = true := by rw [hrE]; by_cases h : E' = 0 <;> simp [h]
          clear hck2 hrE
          go_wp2
          refine wp_region_noPanic ?_
          refine wp_region_held (S := fun V => Below w4.heap.size w4 V) (by kernel_rfl) ?_
          change wpAnyH _ _ _ _ _ _ _ _ (World.drew _)
          have hS0 : (fun V => Below w4.heap.size w4 V) w4.drew := (Below.refl _ _).drew
          have q0 := bD4.cell 0
          have q1 := bD4.cell 1
          have q2 := bD4.cell 2
          have q3 := bD4.cell 3
          have q4 := bD4.cell 4
          have q5 := bD4.cell 5
          have x0 := bX4.cell 0
          have x1 := bX4.cell 1
          have x2 := bX4.cell 2
          have x3 := bX4.cell 3
          have hlD := bD4.lt
          have hlX := bX4.lt
          simp only [List.getElem?_toArray, List.getElem?_cons_zero, List.getElem?_cons_succ] at q0 q1 q2 q3 q4 q5 x0 x1 x2 x3
          generalize World.drew w4 = V0 at *
          refine takeD (i := 0) (d := some 85) (v := ?_) rfl rfl (by kernel_rfl) (by decide +kernel) (by decide +kernel) (fun _ _ _ h => h) (Or.inl ⟨by first | kernel_rfl | rfl, ?_⟩) hS0 ?_
          rotate_left
          · intro w' hT; first | (go_simp; done) | (go_simp; with_reducible rfl)
          refine takeD (i := 1) (d := some 86) (v := ?_) rfl rfl (by kernel_rfl) (by decide +kernel) (by decide +kernel) (fun _ _ _ h => h) (Or.inl ⟨by first | kernel_rfl | rfl, ?_⟩) hS0 ?_
          rotate_left
          · intro w' hT; have t0 := (Below.cell hT (p := ⟨w.heap.size, 0, none⟩) hlD).trans q0; have t1 := (Below.cell hT (p := ⟨w.heap.size, 1, none⟩) hlD).trans q1; have t2 := (Below.cell hT (p := ⟨w.heap.size, 2, none⟩) hlD).trans q2; have t3 := (Below.cell hT (p := ⟨w.heap.size, 3, none⟩) hlD).trans q3; first | (go_simp; done) | (go_simp; with_reducible rfl)
          refine takeD (i := 2) (d := some 87) (v := ?_) rfl rfl (by kernel_rfl) (by decide +kernel) (by decide +kernel) (fun _ _ _ h => h) (Or.inl ⟨by first | kernel_rfl | rfl, ?_⟩) hS0 ?_
          rotate_left
          · intro w' hT; first | (go_simp; done) | (go_simp; with_reducible rfl)
          refine takeD (i := 3) (d := some 88) (v := ?_) rfl rfl (by kernel_rfl) (by decide +kernel) (by decide +kernel) (fun _ _ _ h => h) (Or.inl ⟨by first | kernel_rfl | rfl, ?_⟩) hS0 ?_
          rotate_left
          · intro w' hT; have t4 := (Below.cell hT (p := ⟨w.heap.size, 4, none⟩) hlD).trans q4; first | (go_simp; done) | (go_simp; with_reducible rfl)
          refine takeD (i := 5) (d := some 90) (v := ?_) rfl rfl (by kernel_rfl) (by decide +kernel) (by decide +kernel) (fun _ _ _ h => h) (Or.inl ⟨by first | kernel_rfl | rfl, ?_⟩) hS0 ?_
          rotate_left
          · intro w' hT; first | (go_simp; done) | (go_simp; with_reducible rfl)
          refine takeD (i := 6) (d := some 91) (v := ?_) rfl rfl (by kernel_rfl) (by decide +kernel) (by decide +kernel) (fun _ _ _ h => h) (Or.inl ⟨by first | kernel_rfl | rfl, ?_⟩) hS0 ?_
          rotate_left
          · intro w' hT; have t5 := (Below.cell hT (p := ⟨w.heap.size, 5, none⟩) hlD).trans q5; first | (go_simp; done) | (go_simp; with_reducible rfl)
          refine takeD (i := 8) (d := some 93) (v := ?_) rfl rfl (by kernel_rfl) (by decide +kernel) (by decide +kernel) (fun _ _ _ h => h) (Or.inl ⟨by first | kernel_rfl | rfl, ?_⟩) hS0 ?_
          rotate_left
          · intro w' hT; have t0 := (Below.cell hT (p := ⟨w.heap.size + 1, 0, none⟩) hlX).trans x0; have t1 := (Below.cell hT (p := ⟨w.heap.size + 1, 1, none⟩) hlX).trans x1; have t2 := (Below.cell hT (p := ⟨w.heap.size + 1, 2, none⟩) hlX).trans x2; have t3 := (Below.cell hT (p := ⟨w.heap.size + 1, 3, none⟩) hlX).trans x3; first | (go_simp; done) | (go_simp; with_reducible rfl)
          clear q0 q1 q2 q3 q4 q5 x0 x1 x2 x3 hlD hlX
          refine wpAnyH_all (rs := [4, 9]) (by decide +kernel) (by simp) ?_
          intro i0 hi0
          simp only [List.mem_cons, List.not_mem_nil, or_false] at hi0
          rcases hi0 with rfl | rfl
          case' inl =>
            refine wpOp_goE rfl (by kernel_rfl) (fun K hK' => ?_)
            have hS1 := Below.alloc hS0 (Below.size hS0) (.cells #[] 40)
            have hO0 : (V0.alloc (.cells #[] 40)).ownsRow w4.heap.size 40 4 (.slice (some ⟨V0.heap.size, 0, none⟩) 0 0) 0 [] := own_emptyP V0 w4.heap.size (Below.size hS0)
            go_simp
            refine hK' _ _ ⟨hS1, ?_⟩
            clear hK' K
            generalize V0.alloc (.cells #[] 40) = V1 at *
            generalize V0.heap.size = ge at *
            refine wpAnyH_all (rs := [7, 9]) (by decide +kernel) (by simp) ?_
            intro i0 hi0
            simp only [List.mem_cons, List.not_mem_nil, or_false] at hi0
            rcases hi0 with rfl | rfl
            case' inl =>
              refine wpOp_goE rfl (by kernel_rfl) (fun K hK' => ?_)
              refine wp_append_pl _ _ rfl w4.heap.size ge (by rfl) hO0 lA n lC pl (by rfl) HNN.out hn200 HNL.out ((HL4.out.below (Below.mono hS1 (Nat.le_refl _)))) (Below.size hS1) ?_
              intro v6 V2 hO6 hb6 hkeep
              have hS2 := Below.trans hS1 hb6
              refine hK' _ _ ⟨hS2, ?_⟩
              clear hK' K hO0
              refine wpAnyH_oneE (i := 9) (by decide +kernel) rfl (by kernel_rfl) (fun K hK' => ?_)
              have hS3 := Below.alloc hS2 (Below.size hS2) (.cells (Ne.pcL p).toArray 40)
              have bN := Blk.new V2 40 (Ne.pcL p).toArray
              have hO6 := hO6.alloc (.cells (Ne.pcL p).toArray 40)
              go_simp
              refine hK' _ _ ⟨hS3, ?_⟩
              clear hK' K
              generalize V2.alloc (.cells (Ne.pcL p).toArray 40) = V3 at *
              generalize V2.heap.size = gn at *
              refine wpAnyH_oneE (i := 10) (by decide +kernel) rfl (by kernel_rfl) (fun K hK' => ?_)
              refine wp_append_p _ _ rfl w4.heap.size gn n v6 pl p HNN.out hn200 (by rfl) hO6 (by rfl) bN (Below.size hS3) ?_
              intro v7 V4 hO7 hb7
              have hS4 := Below.trans hS3 hb7
              refine hK' _ _ ⟨hS4, ?_⟩
              clear hK' K hO6 bN
              have hlen : (pl ++ [p]).length = n + 1 := by rw [List.length_append, HNN.out]; rfl
              rw [← hlen] at hO7
              obtain ⟨A7, c7, rfl, hr7, _, _⟩ := rows_of_owns Ne.encPc hO7
              rw [hlen]
              have HR7 := Lib.hid hr7
              have HLN7 := Lib.hid hlen
              clear hO7 hr7 hlen
              refine wpAnyH_oneE (i := 11) (by decide +kernel) rfl (by kernel_rfl) (fun K hK' => ?_)
              go_simp
              refine (HCL.out (pl ++ [p]) (n + 1) c7 HLN7.out A7 I' E' HCK2.out V4 (HF4.out.below (Below.mono hS4 (Nat.le_refl _))) (HP4.out.below (Below.mono hS4 (Nat.le_refl _))) HR7.out).mono ?_
              rintro e V5 ⟨rfl, hb8⟩
              have hS5 := Below.trans hS4 (hb8.mono (Below.size hS4))
              refine hK' _ _ ⟨hS5, ?_⟩
              clear hK' K
              refine takeD (i := 12) (d := some 84) (v := ?_) rfl rfl (by kernel_rfl) (by decide +kernel) (by decide +kernel) (fun _ _ _ h => h) (Or.inl ⟨by first | kernel_rfl | rfl, ?_⟩) hS5 ?_
              rotate_left
              · intro w' hT; first | (go_simp; done) | (go_simp; with_reducible rfl)
              refine takeD (i := 13) (d := some 97) (v := ?_) rfl rfl (by kernel_rfl) (by decide +kernel) (by decide +kernel) (fun _ _ _ h => h) (Or.inl ⟨by first | kernel_rfl | rfl, ?_⟩) hS5 ?_
              rotate_left
              · intro w' hT; first | (go_simp; done) | (go_simp; with_reducible rfl)
              refine takeD (i := 14) (d := some 98) (v := ?_) rfl rfl (by kernel_rfl) (by decide +kernel) (by decide +kernel) (fun _ _ _ h => h) (Or.inl ⟨by first | kernel_rfl | rfl, ?_⟩) hS5 ?_
              rotate_left
              · intro w' hT; first | (go_simp; done) | (go_simp; with_reducible rfl)
              refine takeD (i := 15) (d := some 10) (v := ?_) rfl rfl (by kernel_rfl) (by decide +kernel) (by decide +kernel) (fun _ _ _ h => h) (Or.inl ⟨by first | kernel_rfl | rfl, ?_⟩) hS5 ?_
              rotate_left
              · intro w' hT; first | (go_simp; done) | (go_simp; with_reducible rfl)
              refine wpAnyH_done (by decide +kernel) ?_ _
              refine NoPanic.normal ?_
              have hBF := hB4.trans (Below.mono hS5 hB4.size)
              go_wp2_with fail
              refine (awake_any _).mono ?_
              rintro e wz ⟨rfl, bz⟩
              go_wp2
              go_ret
              exact ⟨rfl, hBF.trans (bz.mono hBF.size)⟩
            case' inr =>
              refine wpOp_goE rfl (by kernel_rfl) (fun K hK' => ?_)
              have hS2 := Below.alloc hS1 (Below.size hS1) (.cells (Ne.pcL p).toArray 40)
              have bN := Blk.new V1 40 (Ne.pcL p).toArray
              have hne : V1.heap.size ≠ ge := fun e => by have := (hO0.lt ge rfl).2; omega
              have hO0 := hO0.alloc (.cells (Ne.pcL p).toArray 40)
              go_simp
              refine hK' _ _ ⟨hS2, ?_⟩
              clear hK' K
              generalize V1.alloc (.cells (Ne.pcL p).toArray 40) = V2 at *
              generalize V1.heap.size = gn at *
              refine wpAnyH_oneE (i := 7) (by decide +kernel) rfl (by kernel_rfl) (fun K hK' => ?_)
              refine wp_append_pl _ _ rfl w4.heap.size ge (by rfl) hO0 lA n lC pl (by rfl) HNN.out hn200 HNL.out ((HL4.out.below (Below.mono hS2 (Nat.le_refl _)))) (Below.size hS2) ?_
              intro v6 V3 hO6 hb6 hkeep
              have bN := hkeep gn _ _ hne bN
              have hS3 := Below.trans hS2 hb6
              refine hK' _ _ ⟨hS3, ?_⟩
              clear hK' K hO0
              refine wpAnyH_oneE (i := 10) (by decide +kernel) rfl (by kernel_rfl) (fun K hK' => ?_)
              refine wp_append_p _ _ rfl w4.heap.size gn n v6 pl p HNN.out hn200 (by rfl) hO6 (by rfl) bN (Below.size hS3) ?_
              intro v7 V4 hO7 hb7
              have hS4 := Below.trans hS3 hb7
              refine hK' _ _ ⟨hS4, ?_⟩
              clear hK' K hO6 bN
              have hlen : (pl ++ [p]).length = n + 1 := by rw [List.length_append, HNN.out]; rfl
              rw [← hlen] at hO7
              obtain ⟨A7, c7, rfl, hr7, _, _⟩ := rows_of_owns Ne.encPc hO7
              rw [hlen]
              have HR7 := Lib.hid hr7
              have HLN7 := Lib.hid hlen
              clear hO7 hr7 hlen
              refine wpAnyH_oneE (i := 11) (by decide +kernel) rfl (by kernel_rfl) (fun K hK' => ?_)
              go_simp
              refine (HCL.out (pl ++ [p]) (n + 1) c7 HLN7.out A7 I' E' HCK2.out V4 (HF4.out.below (Below.mono hS4 (Nat.le_refl _))) (HP4.out.below (Below.mono hS4 (Nat.le_refl _))) HR7.out).mono ?_
              rintro e V5 ⟨rfl, hb8⟩
              have hS5 := Below.trans hS4 (hb8.mono (Below.size hS4))
              refine hK' _ _ ⟨hS5, ?_⟩
              clear hK' K
              refine takeD (i := 12) (d := some 84) (v := ?_) rfl rfl (by kernel_rfl) (by decide +kernel) (by decide +kernel) (fun _ _ _ h => h) (Or.inl ⟨by first | kernel_rfl | rfl, ?_⟩) hS5 ?_
              rotate_left
              · intro w' hT; first | (go_simp; done) | (go_simp; with_reducible rfl)
              refine takeD (i := 13) (d := some 97) (v := ?_) rfl rfl (by kernel_rfl) (by decide +kernel) (by decide +kernel) (fun _ _ _ h => h) (Or.inl ⟨by first | kernel_rfl | rfl, ?_⟩) hS5 ?_
              rotate_left
              · intro w' hT; first | (go_simp; done) | (go_simp; with_reducible rfl)
              refine takeD (i := 14) (d := some 98) (v := ?_) rfl rfl (by kernel_rfl) (by decide +kernel) (by decide +kernel) (fun _ _ _ h => h) (Or.inl ⟨by first | kernel_rfl | rfl, ?_⟩) hS5 ?_
              rotate_left
              · intro w' hT; first | (go_simp; done) | (go_simp; with_reducible rfl)
              refine takeD (i := 15) (d := some 10) (v := ?_) rfl rfl (by kernel_rfl) (by decide +kernel) (by decide +kernel) (fun _ _ _ h => h) (Or.inl ⟨by first | kernel_rfl | rfl, ?_⟩) hS5 ?_
              rotate_left
              · intro w' hT; first | (go_simp; done) | (go_simp; with_reducible rfl)
              refine wpAnyH_done (by decide +kernel) ?_ _
              refine NoPanic.normal ?_
              have hBF := hB4.trans (Below.mono hS5 hB4.size)
              go_wp2_with fail
              refine (awake_any _).mono ?_
              rintro e wz ⟨rfl, bz⟩
              go_wp2
              go_ret
              exact ⟨rfl, hBF.trans (bz.mono hBF.size)⟩
          case' inr =>
            refine wpOp_goE rfl (by kernel_rfl) (fun K hK' => ?_)
            have hS1 := Below.alloc hS0 (Below.size hS0) (.cells (Ne.pcL p).toArray 40)
            have bN := Blk.new V0 40 (Ne.pcL p).toArray
            go_simp
            refine hK' _ _ ⟨hS1, ?_⟩
            clear hK' K
            generalize V0.alloc (.cells (Ne.pcL p).toArray 40) = V1 at *
            generalize V0.heap.size = gn at *
            refine wpAnyH_oneE (i := 4) (by decide +kernel) rfl (by kernel_rfl) (fun K hK' => ?_)
            have hS2 := Below.alloc hS1 (Below.size hS1) (.cells #[] 40)
            have hO0 : (V1.alloc (.cells #[] 40)).ownsRow w4.heap.size 40 4 (.slice (some ⟨V1.heap.size, 0, none⟩) 0 0) 0 [] := own_emptyP V1 w4.heap.size (Below.size hS1)
            have hne : gn ≠ V1.heap.size := fun e => by have := bN.lt; omega
            have bN := bN.alloc (.cells #[] 40)
            go_simp
            refine hK' _ _ ⟨hS2, ?_⟩
            clear hK' K
            generalize V1.alloc (.cells #[] 40) = V2 at *
            generalize V1.heap.size = ge at *
            refine wpAnyH_oneE (i := 7) (by decide +kernel) rfl (by kernel_rfl) (fun K hK' => ?_)
            refine wp_append_pl _ _ rfl w4.heap.size ge (by rfl) hO0 lA n lC pl (by rfl) HNN.out hn200 HNL.out ((HL4.out.below (Below.mono hS2 (Nat.le_refl _)))) (Below.size hS2) ?_
            intro v6 V3 hO6 hb6 hkeep
            have bN := hkeep gn _ _ hne bN
            have hS3 := Below.trans hS2 hb6
            refine hK' _ _ ⟨hS3, ?_⟩
            clear hK' K hO0
            refine wpAnyH_oneE (i := 10) (by decide +kernel) rfl (by kernel_rfl) (fun K hK' => ?_)
            refine wp_append_p _ _ rfl w4.heap.size gn n v6 pl p HNN.out hn200 (by rfl) hO6 (by rfl) bN (Below.size hS3) ?_
            intro v7 V4 hO7 hb7
            have hS4 := Below.trans hS3 hb7
            refine hK' _ _ ⟨hS4, ?_⟩
            clear hK' K hO6 bN
            have hlen : (pl ++ [p]).length = n + 1 := by rw [List.length_append, HNN.out]; rfl
            rw [← hlen] at hO7
            obtain ⟨A7, c7, rfl, hr7, _, _⟩ := rows_of_owns Ne.encPc hO7
            rw [hlen]
            have HR7 := Lib.hid hr7
            have HLN7 := Lib.hid hlen
            clear hO7 hr7 hlen
            refine wpAnyH_oneE (i := 11) (by decide +kernel) rfl (by kernel_rfl) (fun K hK' => ?_)
            go_simp
            refine (HCL.out (pl ++ [p]) (n + 1) c7 HLN7.out A7 I' E' HCK2.out V4 (HF4.out.below (Below.mono hS4 (Nat.le_refl _))) (HP4.out.below (Below.mono hS4 (Nat.le_refl _))) HR7.out).mono ?_
            rintro e V5 ⟨rfl, hb8⟩
            have hS5 := Below.trans hS4 (hb8.mono (Below.size hS4))
            refine hK' _ _ ⟨hS5, ?_⟩
            clear hK' K
            refine takeD (i := 12) (d := some 84) (v := ?_) rfl rfl (by kernel_rfl) (by decide +kernel) (by decide +kernel) (fun _ _ _ h => h) (Or.inl ⟨by first | kernel_rfl | rfl, ?_⟩) hS5 ?_
            rotate_left
            · intro w' hT; first | (go_simp; done) | (go_simp; with_reducible rfl)
            refine takeD (i := 13) (d := some 97) (v := ?_) rfl rfl (by kernel_rfl) (by decide +kernel) (by decide +kernel) (fun _ _ _ h => h) (Or.inl ⟨by first | kernel_rfl | rfl, ?_⟩) hS5 ?_
            rotate_left
            · intro w' hT; first | (go_simp; done) | (go_simp; with_reducible rfl)
            refine takeD (i := 14) (d := some 98) (v := ?_) rfl rfl (by kernel_rfl) (by decide +kernel) (by decide +kernel) (fun _ _ _ h => h) (Or.inl ⟨by first | kernel_rfl | rfl, ?_⟩) hS5 ?_
            rotate_left
            · intro w' hT; first | (go_simp; done) | (go_simp; with_reducible rfl)
            refine takeD (i := 15) (d := some 10) (v := ?_) rfl rfl (by kernel_rfl) (by decide +kernel) (by decide +kernel) (fun _ _ _ h => h) (Or.inl ⟨by first | kernel_rfl | rfl, ?_⟩) hS5 ?_
            rotate_left
            · intro w' hT; first | (go_simp; done) | (go_simp; with_reducible rfl)
            refine wpAnyH_done (by decide +kernel) ?_ _
            refine NoPanic.normal ?_
            have hBF := hB4.trans (Below.mono hS5 hB4.size)
            go_wp2_with fail
            refine (awake_any _).mono ?_
            rintro e wz ⟨rfl, bz⟩
            go_wp2
            go_ret
            exact ⟨rfl, hBF.trans (bz.mono hBF.size)⟩
    · have d0 : (E2 == 0) = false := by simp; exact h2
      have hb1 := desk_board bD3.range
      have rX1 := bX3.range
      have q4 := bD3.cell 4
      have q5 := bD3.cell 5
      simp only [List.getElem?_toArray, List.getElem?_cons_zero, List.getElem?_cons_succ] at q4 q5
      go_wp2_with (first | refine ldm_bo hb1 (by rfl) _ rfl rfl ?_ | refine ldm_pc rX1 (by rfl) _ rfl rfl (Hid.out ?_))
      refine Lib.hid ?_
      go_wp2_with fail
      refine (HFR.out _ HF3.out HP3.out HL3.out).mono ?_
      rintro e w4 ⟨rfl, b4⟩
      have hB4 := hB3.trans (b4.mono hB3.size)
      have bD4 := bD3.below b4 bD3.lt
      have bX4 := bX3.below b4 bX3.lt
      have HP4 := Lib.hid (HP3.out.below b4)
      have HF4 := Lib.hid (HF3.out.below b4)
      have HL4 := Lib.hid (HL3.out.below b4)
      clear hb1 rX1 q4 q5 bD3 bX3 b4 HP3 HF3 HL3
      by_cases hE0 : E = 0
      case neg =>
        have hne : (E == 0) = false := by simp; exact hE0
        obtain rfl := HRF.out hE0
        go_wp2_with fail
        refine (awake_any _).mono ?_
        rintro e wz ⟨rfl, bz⟩
        go_wp2
        go_ret
        exact ⟨rfl, hB4.trans (bz.mono hB4.size)⟩
      case pos =>
        subst hE0
        obtain ⟨hn200, I', E', hck2, hrE⟩ := HEND.out rfl
        have HCK2 := Lib.hid hck2
        have hee : (r == (E' == 0)) = true := by rw [hrE]; by_cases h : E' = 0 <;> simp [h]
        clear hck2 hrE
        go_wp2
        refine wp_region_noPanic ?_
        refine wp_region_held (S := fun V => Below w4.heap.size w4 V) (by kernel_rfl) ?_
        change wpAnyH _ _ _ _ _ _ _ _ (World.drew _)
        have hS0 : (fun V => Below w4.heap.size w4 V) w4.drew := (Below.refl _ _).drew
        have q0 := bD4.cell 0
        have q1 := bD4.cell 1
        have q2 := bD4.cell 2
        have q3 := bD4.cell 3
        have q4 := bD4.cell 4
        have q5 := bD4.cell 5
        have x0 := bX4.cell 0
        have x1 := bX4.cell 1
        have x2 := bX4.cell 2
        have x3 := bX4.cell 3
        have hlD := bD4.lt
        have hlX := bX4.lt
        simp only [List.getElem?_toArray, List.getElem?_cons_zero, List.getElem?_cons_succ] at q0 q1 q2 q3 q4 q5 x0 x1 x2 x3
        generalize World.drew w4 = V0 at *
        refine takeD (i := 0) (d := some 85) (v := ?_) rfl rfl (by kernel_rfl) (by decide +kernel) (by decide +kernel) (fun _ _ _ h => h) (Or.inl ⟨by first | kernel_rfl | rfl, ?_⟩) hS0 ?_
        rotate_left
        · intro w' hT; first | (go_simp; done) | (go_simp; with_reducible rfl)
        refine takeD (i := 1) (d := some 86) (v := ?_) rfl rfl (by kernel_rfl) (by decide +kernel) (by decide +kernel) (fun _ _ _ h => h) (Or.inl ⟨by first | kernel_rfl | rfl, ?_⟩) hS0 ?_
        rotate_left
        · intro w' hT; have t0 := (Below.cell hT (p := ⟨w.heap.size, 0, none⟩) hlD).trans q0; have t1 := (Below.cell hT (p := ⟨w.heap.size, 1, none⟩) hlD).trans q1; have t2 := (Below.cell hT (p := ⟨w.heap.size, 2, none⟩) hlD).trans q2; have t3 := (Below.cell hT (p := ⟨w.heap.size, 3, none⟩) hlD).trans q3; first | (go_simp; done) | (go_simp; with_reducible rfl)
        refine takeD (i := 2) (d := some 87) (v := ?_) rfl rfl (by kernel_rfl) (by decide +kernel) (by decide +kernel) (fun _ _ _ h => h) (Or.inl ⟨by first | kernel_rfl | rfl, ?_⟩) hS0 ?_
        rotate_left
        · intro w' hT; first | (go_simp; done) | (go_simp; with_reducible rfl)
        refine takeD (i := 3) (d := some 88) (v := ?_) rfl rfl (by kernel_rfl) (by decide +kernel) (by decide +kernel) (fun _ _ _ h => h) (Or.inl ⟨by first | kernel_rfl | rfl, ?_⟩) hS0 ?_
        rotate_left
        · intro w' hT; have t4 := (Below.cell hT (p := ⟨w.heap.size, 4, none⟩) hlD).trans q4; first | (go_simp; done) | (go_simp; with_reducible rfl)
        refine takeD (i := 5) (d := some 90) (v := ?_) rfl rfl (by kernel_rfl) (by decide +kernel) (by decide +kernel) (fun _ _ _ h => h) (Or.inl ⟨by first | kernel_rfl | rfl, ?_⟩) hS0 ?_
        rotate_left
        · intro w' hT; first | (go_simp; done) | (go_simp; with_reducible rfl)
        refine takeD (i := 6) (d := some 91) (v := ?_) rfl rfl (by kernel_rfl) (by decide +kernel) (by decide +kernel) (fun _ _ _ h => h) (Or.inl ⟨by first | kernel_rfl | rfl, ?_⟩) hS0 ?_
        rotate_left
        · intro w' hT; have t5 := (Below.cell hT (p := ⟨w.heap.size, 5, none⟩) hlD).trans q5; first | (go_simp; done) | (go_simp; with_reducible rfl)
        refine takeD (i := 8) (d := some 93) (v := ?_) rfl rfl (by kernel_rfl) (by decide +kernel) (by decide +kernel) (fun _ _ _ h => h) (Or.inl ⟨by first | kernel_rfl | rfl, ?_⟩) hS0 ?_
        rotate_left
        · intro w' hT; have t0 := (Below.cell hT (p := ⟨w.heap.size + 1, 0, none⟩) hlX).trans x0; have t1 := (Below.cell hT (p := ⟨w.heap.size + 1, 1, none⟩) hlX).trans x1; have t2 := (Below.cell hT (p := ⟨w.heap.size + 1, 2, none⟩) hlX).trans x2; have t3 := (Below.cell hT (p := ⟨w.heap.size + 1, 3, none⟩) hlX).trans x3; first | (go_simp; done) | (go_simp; with_reducible rfl)
        clear q0 q1 q2 q3 q4 q5 x0 x1 x2 x3 hlD hlX
        refine wpAnyH_all (rs := [4, 9]) (by decide +kernel) (by simp) ?_
        intro i0 hi0
        simp only [List.mem_cons, List.not_mem_nil, or_false] at hi0
        rcases hi0 with rfl | rfl
        case' inl =>
          refine wpOp_goE rfl (by kernel_rfl) (fun K hK' => ?_)
          have hS1 := Below.alloc hS0 (Below.size hS0) (.cells #[] 40)
          have hO0 : (V0.alloc (.cells #[] 40)).ownsRow w4.heap.size 40 4 (.slice (some ⟨V0.heap.size, 0, none⟩) 0 0) 0 [] := own_emptyP V0 w4.heap.size (Below.size hS0)
          go_simp
          refine hK' _ _ ⟨hS1, ?_⟩
          clear hK' K
          generalize V0.alloc (.cells #[] 40) = V1 at *
          generalize V0.heap.size = ge at *
          refine wpAnyH_all (rs := [7, 9]) (by decide +kernel) (by simp) ?_
          intro i0 hi0
          simp only [List.mem_cons, List.not_mem_nil, or_false] at hi0
          rcases hi0 with rfl | rfl
          case' inl =>
            refine wpOp_goE rfl (by kernel_rfl) (fun K hK' => ?_)
            refine wp_append_pl _ _ rfl w4.heap.size ge (by rfl) hO0 lA n lC pl (by rfl) HNN.out hn200 HNL.out ((HL4.out.below (Below.mono hS1 (Nat.le_refl _)))) (Below.size hS1) ?_
            intro v6 V2 hO6 hb6 hkeep
            have hS2 := Below.trans hS1 hb6
            refine hK' _ _ ⟨hS2, ?_⟩
            clear hK' K hO0
            refine wpAnyH_oneE (i := 9) (by decide +kernel) rfl (by kernel_rfl) (fun K hK' => ?_)
            have hS3 := Below.alloc hS2 (Below.size hS2) (.cells (Ne.pcL p).toArray 40)
            have bN := Blk.new V2 40 (Ne.pcL p).toArray
            have hO6 := hO6.alloc (.cells (Ne.pcL p).toArray 40)
            go_simp
            refine hK' _ _ ⟨hS3, ?_⟩
            clear hK' K
            generalize V2.alloc (.cells (Ne.pcL p).toArray 40) = V3 at *
            generalize V2.heap.size = gn at *
            refine wpAnyH_oneE (i := 10) (by decide +kernel) rfl (by kernel_rfl) (fun K hK' => ?_)
            refine wp_append_p _ _ rfl w4.heap.size gn n v6 pl p HNN.out hn200 (by rfl) hO6 (by rfl) bN (Below.size hS3) ?_
            intro v7 V4 hO7 hb7
            have hS4 := Below.trans hS3 hb7
            refine hK' _ _ ⟨hS4, ?_⟩
            clear hK' K hO6 bN
            have hlen : (pl ++ [p]).length = n + 1 := by rw [List.length_append, HNN.out]; rfl
            rw [← hlen] at hO7
            obtain ⟨A7, c7, rfl, hr7, _, _⟩ := rows_of_owns Ne.encPc hO7
            rw [hlen]
            have HR7 := Lib.hid hr7
            have HLN7 := Lib.hid hlen
            clear hO7 hr7 hlen
            refine wpAnyH_oneE (i := 11) (by decide +kernel) rfl (by kernel_rfl) (fun K hK' => ?_)
            go_simp
            refine (HCL.out (pl ++ [p]) (n + 1) c7 HLN7.out A7 I' E' HCK2.out V4 (HF4.out.below (Below.mono hS4 (Nat.le_refl _))) (HP4.out.below (Below.mono hS4 (Nat.le_refl _))) HR7.out).mono ?_
            rintro e V5 ⟨rfl, hb8⟩
            have hS5 := Below.trans hS4 (hb8.mono (Below.size hS4))
            refine hK' _ _ ⟨hS5, ?_⟩
            clear hK' K
            refine takeD (i := 12) (d := some 84) (v := ?_) rfl rfl (by kernel_rfl) (by decide +kernel) (by decide +kernel) (fun _ _ _ h => h) (Or.inl ⟨by first | kernel_rfl | rfl, ?_⟩) hS5 ?_
            rotate_left
            · intro w' hT; first | (go_simp; done) | (go_simp; with_reducible rfl)
            refine takeD (i := 13) (d := some 97) (v := ?_) rfl rfl (by kernel_rfl) (by decide +kernel) (by decide +kernel) (fun _ _ _ h => h) (Or.inl ⟨by first | kernel_rfl | rfl, ?_⟩) hS5 ?_
            rotate_left
            · intro w' hT; first | (go_simp; done) | (go_simp; with_reducible rfl)
            refine takeD (i := 14) (d := some 98) (v := ?_) rfl rfl (by kernel_rfl) (by decide +kernel) (by decide +kernel) (fun _ _ _ h => h) (Or.inl ⟨by first | kernel_rfl | rfl, ?_⟩) hS5 ?_
            rotate_left
            · intro w' hT; first | (go_simp; done) | (go_simp; with_reducible rfl)
            refine takeD (i := 15) (d := some 10) (v := ?_) rfl rfl (by kernel_rfl) (by decide +kernel) (by decide +kernel) (fun _ _ _ h => h) (Or.inl ⟨by first | kernel_rfl | rfl, ?_⟩) hS5 ?_
            rotate_left
            · intro w' hT; first | (go_simp; done) | (go_simp; with_reducible rfl)
            refine wpAnyH_done (by decide +kernel) ?_ _
            refine NoPanic.normal ?_
            have hBF := hB4.trans (Below.mono hS5 hB4.size)
            go_wp2_with fail
            refine (awake_any _).mono ?_
            rintro e wz ⟨rfl, bz⟩
            go_wp2
            go_ret
            exact ⟨rfl, hBF.trans (bz.mono hBF.size)⟩
          case' inr =>
            refine wpOp_goE rfl (by kernel_rfl) (fun K hK' => ?_)
            have hS2 := Below.alloc hS1 (Below.size hS1) (.cells (Ne.pcL p).toArray 40)
            have bN := Blk.new V1 40 (Ne.pcL p).toArray
            have hne : V1.heap.size ≠ ge := fun e => by have := (hO0.lt ge rfl).2; omega
            have hO0 := hO0.alloc (.cells (Ne.pcL p).toArray 40)
            go_simp
            refine hK' _ _ ⟨hS2, ?_⟩
            clear hK' K
            generalize V1.alloc (.cells (Ne.pcL p).toArray 40) = V2 at *
            generalize V1.heap.size = gn at *
            refine wpAnyH_oneE (i := 7) (by decide +kernel) rfl (by kernel_rfl) (fun K hK' => ?_)
            refine wp_append_pl _ _ rfl w4.heap.size ge (by rfl) hO0 lA n lC pl (by rfl) HNN.out hn200 HNL.out ((HL4.out.below (Below.mono hS2 (Nat.le_refl _)))) (Below.size hS2) ?_
            intro v6 V3 hO6 hb6 hkeep
            have bN := hkeep gn _ _ hne bN
            have hS3 := Below.trans hS2 hb6
            refine hK' _ _ ⟨hS3, ?_⟩
            clear hK' K hO0
            refine wpAnyH_oneE (i := 10) (by decide +kernel) rfl (by kernel_rfl) (fun K hK' => ?_)
            refine wp_append_p _ _ rfl w4.heap.size gn n v6 pl p HNN.out hn200 (by rfl) hO6 (by rfl) bN (Below.size hS3) ?_
            intro v7 V4 hO7 hb7
            have hS4 := Below.trans hS3 hb7
            refine hK' _ _ ⟨hS4, ?_⟩
            clear hK' K hO6 bN
            have hlen : (pl ++ [p]).length = n + 1 := by rw [List.length_append, HNN.out]; rfl
            rw [← hlen] at hO7
            obtain ⟨A7, c7, rfl, hr7, _, _⟩ := rows_of_owns Ne.encPc hO7
            rw [hlen]
            have HR7 := Lib.hid hr7
            have HLN7 := Lib.hid hlen
            clear hO7 hr7 hlen
            refine wpAnyH_oneE (i := 11) (by decide +kernel) rfl (by kernel_rfl) (fun K hK' => ?_)
            go_simp
            refine (HCL.out (pl ++ [p]) (n + 1) c7 HLN7.out A7 I' E' HCK2.out V4 (HF4.out.below (Below.mono hS4 (Nat.le_refl _))) (HP4.out.below (Below.mono hS4 (Nat.le_refl _))) HR7.out).mono ?_
            rintro e V5 ⟨rfl, hb8⟩
            have hS5 := Below.trans hS4 (hb8.mono (Below.size hS4))
            refine hK' _ _ ⟨hS5, ?_⟩
            clear hK' K
            refine takeD (i := 12) (d := some 84) (v := ?_) rfl rfl (by kernel_rfl) (by decide +kernel) (by decide +kernel) (fun _ _ _ h => h) (Or.inl ⟨by first | kernel_rfl | rfl, ?_⟩) hS5 ?_
            rotate_left
            · intro w' hT; first | (go_simp; done) | (go_simp; with_reducible rfl)
            refine takeD (i := 13) (d := some 97) (v := ?_) rfl rfl (by kernel_rfl) (by decide +kernel) (by decide +kernel) (fun _ _ _ h => h) (Or.inl ⟨by first | kernel_rfl | rfl, ?_⟩) hS5 ?_
            rotate_left
            · intro w' hT; first | (go_simp; done) | (go_simp; with_reducible rfl)
            refine takeD (i := 14) (d := some 98) (v := ?_) rfl rfl (by kernel_rfl) (by decide +kernel) (by decide +kernel) (fun _ _ _ h => h) (Or.inl ⟨by first | kernel_rfl | rfl, ?_⟩) hS5 ?_
            rotate_left
            · intro w' hT; first | (go_simp; done) | (go_simp; with_reducible rfl)
            refine takeD (i := 15) (d := some 10) (v := ?_) rfl rfl (by kernel_rfl) (by decide +kernel) (by decide +kernel) (fun _ _ _ h => h) (Or.inl ⟨by first | kernel_rfl | rfl, ?_⟩) hS5 ?_
            rotate_left
            · intro w' hT; first | (go_simp; done) | (go_simp; with_reducible rfl)
            refine wpAnyH_done (by decide +kernel) ?_ _
            refine NoPanic.normal ?_
            have hBF := hB4.trans (Below.mono hS5 hB4.size)
            go_wp2_with fail
            refine (awake_any _).mono ?_
            rintro e wz ⟨rfl, bz⟩
            go_wp2
            go_ret
            exact ⟨rfl, hBF.trans (bz.mono hBF.size)⟩
        case' inr =>
          refine wpOp_goE rfl (by kernel_rfl) (fun K hK' => ?_)
          have hS1 := Below.alloc hS0 (Below.size hS0) (.cells (Ne.pcL p).toArray 40)
          have bN := Blk.new V0 40 (Ne.pcL p).toArray
          go_simp
          refine hK' _ _ ⟨hS1, ?_⟩
          clear hK' K
          generalize V0.alloc (.cells (Ne.pcL p).toArray 40) = V1 at *
          generalize V0.heap.size = gn at *
          refine wpAnyH_oneE (i := 4) (by decide +kernel) rfl (by kernel_rfl) (fun K hK' => ?_)
          have hS2 := Below.alloc hS1 (Below.size hS1) (.cells #[] 40)
          have hO0 : (V1.alloc (.cells #[] 40)).ownsRow w4.heap.size 40 4 (.slice (some ⟨V1.heap.size, 0, none⟩) 0 0) 0 [] := own_emptyP V1 w4.heap.size (Below.size hS1)
          have hne : gn ≠ V1.heap.size := fun e => by have := bN.lt; omega
          have bN := bN.alloc (.cells #[] 40)
          go_simp
          refine hK' _ _ ⟨hS2, ?_⟩
          clear hK' K
          generalize V1.alloc (.cells #[] 40) = V2 at *
          generalize V1.heap.size = ge at *
          refine wpAnyH_oneE (i := 7) (by decide +kernel) rfl (by kernel_rfl) (fun K hK' => ?_)
          refine wp_append_pl _ _ rfl w4.heap.size ge (by rfl) hO0 lA n lC pl (by rfl) HNN.out hn200 HNL.out ((HL4.out.below (Below.mono hS2 (Nat.le_refl _)))) (Below.size hS2) ?_
          intro v6 V3 hO6 hb6 hkeep
          have bN := hkeep gn _ _ hne bN
          have hS3 := Below.trans hS2 hb6
          refine hK' _ _ ⟨hS3, ?_⟩
          clear hK' K hO0
          refine wpAnyH_oneE (i := 10) (by decide +kernel) rfl (by kernel_rfl) (fun K hK' => ?_)
          refine wp_append_p _ _ rfl w4.heap.size gn n v6 pl p HNN.out hn200 (by rfl) hO6 (by rfl) bN (Below.size hS3) ?_
          intro v7 V4 hO7 hb7
          have hS4 := Below.trans hS3 hb7
          refine hK' _ _ ⟨hS4, ?_⟩
          clear hK' K hO6 bN
          have hlen : (pl ++ [p]).length = n + 1 := by rw [List.length_append, HNN.out]; rfl
          rw [← hlen] at hO7
          obtain ⟨A7, c7, rfl, hr7, _, _⟩ := rows_of_owns Ne.encPc hO7
          rw [hlen]
          have HR7 := Lib.hid hr7
          have HLN7 := Lib.hid hlen
          clear hO7 hr7 hlen
          refine wpAnyH_oneE (i := 11) (by decide +kernel) rfl (by kernel_rfl) (fun K hK' => ?_)
          go_simp
          refine (HCL.out (pl ++ [p]) (n + 1) c7 HLN7.out A7 I' E' HCK2.out V4 (HF4.out.below (Below.mono hS4 (Nat.le_refl _))) (HP4.out.below (Below.mono hS4 (Nat.le_refl _))) HR7.out).mono ?_
          rintro e V5 ⟨rfl, hb8⟩
          have hS5 := Below.trans hS4 (hb8.mono (Below.size hS4))
          refine hK' _ _ ⟨hS5, ?_⟩
          clear hK' K
          refine takeD (i := 12) (d := some 84) (v := ?_) rfl rfl (by kernel_rfl) (by decide +kernel) (by decide +kernel) (fun _ _ _ h => h) (Or.inl ⟨by first | kernel_rfl | rfl, ?_⟩) hS5 ?_
          rotate_left
          · intro w' hT; first | (go_simp; done) | (go_simp; with_reducible rfl)
          refine takeD (i := 13) (d := some 97) (v := ?_) rfl rfl (by kernel_rfl) (by decide +kernel) (by decide +kernel) (fun _ _ _ h => h) (Or.inl ⟨by first | kernel_rfl | rfl, ?_⟩) hS5 ?_
          rotate_left
          · intro w' hT; first | (go_simp; done) | (go_simp; with_reducible rfl)
          refine takeD (i := 14) (d := some 98) (v := ?_) rfl rfl (by kernel_rfl) (by decide +kernel) (by decide +kernel) (fun _ _ _ h => h) (Or.inl ⟨by first | kernel_rfl | rfl, ?_⟩) hS5 ?_
          rotate_left
          · intro w' hT; first | (go_simp; done) | (go_simp; with_reducible rfl)
          refine takeD (i := 15) (d := some 10) (v := ?_) rfl rfl (by kernel_rfl) (by decide +kernel) (by decide +kernel) (fun _ _ _ h => h) (Or.inl ⟨by first | kernel_rfl | rfl, ?_⟩) hS5 ?_
          rotate_left
          · intro w' hT; first | (go_simp; done) | (go_simp; with_reducible rfl)
          refine wpAnyH_done (by decide +kernel) ?_ _
          refine NoPanic.normal ?_
          have hBF := hB4.trans (Below.mono hS5 hB4.size)
          go_wp2_with fail
          refine (awake_any _).mono ?_
          rintro e wz ⟨rfl, bz⟩
          go_wp2
          go_ret
          exact ⟨rfl, hBF.trans (bz.mono hBF.size)⟩
end Go.Proofs.Ytlikmlhlfbdchaa
