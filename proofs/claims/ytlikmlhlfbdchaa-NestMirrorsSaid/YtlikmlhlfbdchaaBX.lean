/- Merged: A1 Geo A2 A3 A4 B1 B2 B3 B4 B5 M1 M2. -/
import Derived.Test.YtlikmlhlfbdchaaProg
import Derived.WalkKit
import Derived.WalkSpells
import Derived.WalkLawsBesides
import Derived.Outline
import Derived.BigQuiet
import Derived.Deep.QuietTactic
import Derived.Lib.Hide
import Derived.StillTailTactics
import Derived.RangeFuncNested
import Derived.RangeFuncBound
import Derived.RangeFuncCalls
import Derived.RangeFuncLeaves
import Derived.Shelf.Abstract
import Derived.Shelf.RegionOpen
import Derived.OwnWalkIn
import Derived.TacticsInMore
import Derived.LoopNIn
import Derived.LoopIn
import Derived.Deep.RegionHeld3
namespace Go.Proofs.Ytlikmlhlfbdchaa
open Go.RowKit

/-- a world in which all that lay in w0 lies as it lay -/
structure Ext (w0 : World) where
  w : World
  h : Below w0.heap.size w0 w

instance (w0 : World) : Nonempty (Ext w0) := ⟨⟨w0, Below.refl _ _⟩⟩

theorem Ext.cell {w0 : World} (s : Ext w0) {p : Addr} {v : Value} (hp : w0.cell? p = some v) : s.w.cell? p = some v := by
  have hlt : p.block < w0.heap.size := by
    rcases Nat.lt_or_ge p.block w0.heap.size with h | h
    · exact h
    · unfold World.cell? at hp; rw [Array.getElem?_eq_none h] at hp; cases hp
  rw [s.h.cell hlt]; exact hp

theorem wp_region_ext {P : Program} {id : Nat} {Q : Exit → Act → World → Prop} {a : Act} {w : World} {l : List Oper} (hm : P.follows .mixedOrders = true) (hB : Region.lexB .any l.toArray = true)
    (h : wpQuiet P l.toArray (fun w' => ∃ s : Ext w, w' = s.w) (fun a' => ∀ w', (∃ s : Ext w, w' = s.w) → Q .normal a' w') l a) : (Code.region id l.toArray true).wp P Q a w :=
  wp_region_quiet (C := fun w' => ∃ s : Ext w, w' = s.w) hm hB ⟨⟨w.drew, (Below.refl _ w).drew⟩, rfl⟩ (by simpa using h)

theorem calls_ext {P : Program} {f : FuncId} {args : Array Value} {w0 : World} {s : Ext w0} {v : Value}
    (h : Calls P f args s.w fun e w' => e = .returned v ∧ Below s.w.heap.size s.w w') : Calls P f args s.w fun e w'' => e = .returned v ∧ ∃ s' : Ext w0, w'' = s'.w :=
  h.mono fun _ w' ⟨he, hb⟩ => ⟨he, ⟨w', s.h.trans (hb.mono s.h.size)⟩, rfl⟩

theorem mul_bd {a b A B : Int} (ha : -A ≤ a) (ha' : a ≤ A) (hb : -B ≤ b) (hb' : b ≤ B) : -(A * B) ≤ a * b ∧ a * b ≤ A * B := by
  have h1 : a.natAbs ≤ A.natAbs := by omega
  have h2 : b.natAbs ≤ B.natAbs := by omega
  have h3 := Nat.mul_le_mul h1 h2
  rw [← Int.natAbs_mul, ← Int.natAbs_mul] at h3
  have hA : 0 ≤ A := by omega
  have hB : 0 ≤ B := by omega
  have := Int.mul_nonneg hA hB
  omega

set_option maxHeartbeats 400000 in
theorem in_any (x y : Int) (w : World) :
    Calls Try.prog 55 #[.agg #[.int .i64 x, .int .i64 y]] w fun e w' => e = .returned (.bool (decide (-5000 ≤ x) && (decide (x ≤ 5000) && (decide (-5000 ≤ y) && decide (y ≤ 5000))))) ∧ Below w.heap.size w w' := by
  go_enter Try.func55, Try.ntmps55
  go_wp2
  all_goals (go_ret; exact ⟨by simp [*]; try omega, (Below.refl _ _).alloc (Nat.le_refl _) _⟩)

set_option maxHeartbeats 400000 in
theorem cross_any (ax ay bx bY cx cy : Int) (h1 : -1000000 ≤ ax) (h2 : ax ≤ 1000000) (h3 : -1000000 ≤ ay) (h4 : ay ≤ 1000000) (h5 : -1000000 ≤ bx) (h6 : bx ≤ 1000000) (h7 : -1000000 ≤ bY) (h8 : bY ≤ 1000000)
    (h9 : -1000000 ≤ cx) (h10 : cx ≤ 1000000) (h11 : -1000000 ≤ cy) (h12 : cy ≤ 1000000) (w : World) :
    Calls Try.prog 84 #[.agg #[.int .i64 ax, .int .i64 ay], .agg #[.int .i64 bx, .int .i64 bY], .agg #[.int .i64 cx, .int .i64 cy]] w fun e w' =>
      e = .returned (.int .i64 ((bx - ax) * (cy - ay) - (bY - ay) * (cx - ax))) ∧ Below w.heap.size w w' := by
  obtain ⟨m1, m2⟩ := mul_bd (a := bx - ax) (b := cy - ay) (A := 2000000) (B := 2000000) (by omega) (by omega) (by omega) (by omega)
  obtain ⟨m3, m4⟩ := mul_bd (a := bY - ay) (b := cx - ax) (A := 2000000) (B := 2000000) (by omega) (by omega) (by omega) (by omega)
  go_enter Try.func84, Try.ntmps84
  go_wp2
  go_ret
  exact ⟨rfl, (((Below.refl _ _).alloc (Nat.le_refl _) _).alloc (by simp) _).alloc (by simp; omega) _⟩

set_option maxHeartbeats 400000 in
theorem minus_any (ax ay bx bY : Int) (h1 : -10000000 ≤ ax) (h2 : ax ≤ 10000000) (h3 : -10000000 ≤ ay) (h4 : ay ≤ 10000000) (h5 : -10000000 ≤ bx) (h6 : bx ≤ 10000000) (h7 : -10000000 ≤ bY) (h8 : bY ≤ 10000000) (w : World) :
    Calls Try.prog 126 #[.agg #[.int .i64 ax, .int .i64 ay], .agg #[.int .i64 bx, .int .i64 bY]] w fun e w' =>
      e = .returned (.agg #[.int .i64 (ax - bx), .int .i64 (ay - bY)]) ∧ Below w.heap.size w w' := by
  go_enter Try.func126, Try.ntmps126
  go_wp2
  refine bodyPost_ret (v := .agg #[.int .i64 (ax - bx), .int .i64 (ay - bY)]) (by simp [results, Try.results126, go_sem]) rfl ⟨rfl, ?_⟩
  exact (((Below.refl _ _).alloc (Nat.le_refl _) _).alloc (by simp) _).alloc (by simp; omega) _

set_option maxHeartbeats 400000 in
theorem cross72_any (ax ay bx bY : Int) (h1 : -20000000 ≤ ax) (h2 : ax ≤ 20000000) (h3 : -20000000 ≤ ay) (h4 : ay ≤ 20000000) (h5 : -20000000 ≤ bx) (h6 : bx ≤ 20000000) (h7 : -20000000 ≤ bY) (h8 : bY ≤ 20000000) (w : World) :
    Calls Try.prog 121 #[.agg #[.int .i64 ax, .int .i64 ay], .agg #[.int .i64 bx, .int .i64 bY]] w fun e w' =>
      e = .returned (.int .i64 (ax * bY - ay * bx)) ∧ Below w.heap.size w w' := by
  obtain ⟨m1, m2⟩ := mul_bd (a := ax) (b := bY) (A := 20000000) (B := 20000000) (by omega) (by omega) (by omega) (by omega)
  obtain ⟨m3, m4⟩ := mul_bd (a := ay) (b := bx) (A := 20000000) (B := 20000000) (by omega) (by omega) (by omega) (by omega)
  go_enter Try.func121, Try.ntmps121
  go_wp2
  go_ret
  exact ⟨rfl, ((Below.refl _ _).alloc (Nat.le_refl _) _).alloc (by simp) _⟩

/-- a place, boxed -/
def xyo (x y : Int) : Obj := .cells #[.int .i64 x, .int .i64 y] 76

set_option maxHeartbeats 400000 in
theorem turn_any (ax ay bx bY cx cy : Int) (h1 : -1000000 ≤ ax) (h2 : ax ≤ 1000000) (h3 : -1000000 ≤ ay) (h4 : ay ≤ 1000000) (h5 : -1000000 ≤ bx) (h6 : bx ≤ 1000000) (h7 : -1000000 ≤ bY) (h8 : bY ≤ 1000000)
    (h9 : -1000000 ≤ cx) (h10 : cx ≤ 1000000) (h11 : -1000000 ≤ cy) (h12 : cy ≤ 1000000) (w : World) :
    Calls Try.prog 111 #[.agg #[.int .i64 ax, .int .i64 ay], .agg #[.int .i64 bx, .int .i64 bY], .agg #[.int .i64 cx, .int .i64 cy]] w fun e w' =>
      e = .returned (.int .i64 ((bx - ax) * (cy - bY) - (bY - ay) * (cx - bx))) ∧ Below w.heap.size w w' := by
  go_enter Try.func111, Try.ntmps111
  go_wp2
  obtain ⟨W, hW⟩ : ∃ W, W = (((w.alloc (.cells #[.int .i64 ax, .int .i64 ay] 76)).alloc (.cells #[.int .i64 bx, .int .i64 bY] 76)).alloc (.cells #[.int .i64 cx, .int .i64 cy] 76)) := ⟨_, rfl⟩
  have hb : Below w.heap.size w W := by rw [hW]; exact (((Below.refl _ _).alloc (Nat.le_refl _) _).alloc (by simp) _).alloc (by simp; omega) _
  have f1 : ∀ s : Ext W, s.w.cell? ⟨w.heap.size, 0, none⟩ = some (.int .i64 ax) := fun s => s.cell (by rw [hW]; go_simp)
  have f2 : ∀ s : Ext W, s.w.cell? ⟨w.heap.size, 1, none⟩ = some (.int .i64 ay) := fun s => s.cell (by rw [hW]; go_simp)
  have f3 : ∀ s : Ext W, s.w.cell? ⟨w.heap.size + 1, 0, none⟩ = some (.int .i64 bx) := fun s => s.cell (by rw [hW]; go_simp)
  have f4 : ∀ s : Ext W, s.w.cell? ⟨w.heap.size + 1, 1, none⟩ = some (.int .i64 bY) := fun s => s.cell (by rw [hW]; go_simp)
  have f5 : ∀ s : Ext W, s.w.cell? ⟨w.heap.size + 1 + 1, 0, none⟩ = some (.int .i64 cx) := fun s => s.cell (by rw [hW]; go_simp)
  have f6 : ∀ s : Ext W, s.w.cell? ⟨w.heap.size + 1 + 1, 1, none⟩ = some (.int .i64 cy) := fun s => s.cell (by rw [hW]; go_simp)
  rw [← hW]
  clear hW
  refine wp_region_ext (by kernel_rfl) (by kernel_rfl) ?_
  repeat (quiet_step ((first | (go_at_call 126; refine calls_ext (minus_any _ _ _ _ (by omega) (by omega) (by omega) (by omega) (by omega) (by omega) (by omega) (by omega) _)) | (go_at_call 121; refine calls_ext (cross72_any _ _ _ _ (by omega) (by omega) (by omega) (by omega) (by omega) (by omega) (by omega) (by omega) _)))))
  refine wpQuiet_nil ?_
  rintro _ ⟨s, rfl⟩
  go_wp2
  go_ret
  exact ⟨rfl, hb.trans (s.h.mono hb.size)⟩

end Go.Proofs.Ytlikmlhlfbdchaa
/- Plain geometry: which lists of corners are outlines, canonical forms, areas, roots. It imports nothing of the program. -/
namespace Go.Proofs.Ytlikmlhlfbdchaa.Geo
abbrev XY := Int × Int
def cr (a b : XY) : Int := a.1 * b.2 - a.2 * b.1
def sub (a b : XY) : XY := (a.1 - b.1, a.2 - b.2)
def turn (a b c : XY) : Int := cr (sub b a) (sub c b)
def Cross (a b c : XY) : Int := (b.1 - a.1) * (c.2 - a.2) - (b.2 - a.2) * (c.1 - a.1)
def up (e : XY) : Prop := e.2 > 0 ∨ (e.2 = 0 ∧ e.1 > 0)
instance (e : XY) : Decidable (up e) := by unfold up; infer_instance

theorem turn_eq (a b c : XY) : turn a b c = Cross a b c := by
  unfold turn cr sub Cross; grind

theorem Cross_cr (a b c : XY) : Cross a b c = cr (sub b a) (sub c a) := by
  unfold cr sub Cross; grind

theorem hp {a b c : XY} (ha : up a) (hb : up b) (hc : up c) (h1 : 0 ≤ cr a b) (h2 : 0 < cr b c) : 0 < cr a c := by
  obtain ⟨a1, a2⟩ := a
  obtain ⟨b1, b2⟩ := b
  obtain ⟨c1, c2⟩ := c
  unfold up at *
  unfold cr at *
  simp only at *
  have id : (a1 * c2 - a2 * c1) * b2 = (b1 * c2 - b2 * c1) * a2 + (a1 * b2 - a2 * b1) * c2 := by grind
  have ha2 : 0 ≤ a2 := by omega
  have hb2 : 0 ≤ b2 := by omega
  have hc2 : 0 ≤ c2 := by omega
  rcases Int.lt_or_eq_of_le hb2 with hb0 | hb0
  · have k1 : 0 ≤ (a1 * b2 - a2 * b1) * c2 := Int.mul_nonneg h1 hc2
    rcases Int.lt_or_eq_of_le ha2 with ha0 | ha0
    · have k2 : 0 < (b1 * c2 - b2 * c1) * a2 := Int.mul_pos h2 ha0
      have k3 : 0 < (a1 * c2 - a2 * c1) * b2 := by omega
      exact Int.pos_of_mul_pos_left k3 hb0 
    · subst ha0
      have ha1 : 0 < a1 := by omega
      rcases Int.lt_or_eq_of_le hc2 with hc0 | hc0
      · simp; exact Int.mul_pos ha1 hc0
      · subst hc0
        have hc1 : 0 < c1 := by omega
        have := Int.mul_pos hb0 hc1
        simp at h2; omega
  · subst hb0
    have hb1 : 0 < b1 := by omega
    simp at h1 h2
    have : a2 = 0 := by
      rcases Int.lt_or_eq_of_le ha2 with ha0 | ha0
      · have := Int.mul_pos ha0 hb1
        omega
      · exact ha0.symm
    subst this
    have hc0 : 0 < c2 := Int.pos_of_mul_pos_right h2 hb1
    simp
    exact Int.mul_pos (by omega) hc0
theorem cr_ne {a b : XY} (h : 0 < cr a b) : a ≠ (0, 0) ∧ b ≠ (0, 0) := by
  constructor <;> (rintro rfl; simp [cr] at h)
theorem up_or {e : XY} (h : e ≠ (0, 0)) (hn : ¬ up e) : up (-e.1, -e.2) := by
  obtain ⟨a, b⟩ := e
  unfold up at *
  simp only at *
  by_cases hb : b = 0
  · have : a ≠ 0 := fun ha => h (by rw [ha, hb])
    omega
  · omega
theorem up_not_neg {e : XY} (h : up e) : ¬ up (-e.1, -e.2) := by
  unfold up at *; simp only; omega

/-- the half-plane of a direction as a sign -/
theorem hp_same {a b c : XY} (na : a ≠ (0,0)) (nb : b ≠ (0,0)) (nc : c ≠ (0,0)) (hab : up a ↔ up b) (hbc : up b ↔ up c) (h1 : 0 ≤ cr a b) (h2 : 0 < cr b c) : 0 < cr a c := by
  by_cases ha : up a
  · exact hp ha (hab.1 ha) (hbc.1 (hab.1 ha)) h1 h2
  · have hb := fun h => ha (hab.2 h)
    have hc := fun h => hb (hbc.2 h)
    have := hp (up_or na ha) (up_or nb hb) (up_or nc hc) (by unfold cr at *; simp only at *; grind) (by unfold cr at *; simp only at *; grind)
    unfold cr at *; simp only at *; grind
theorem cr_flip (a b : XY) : cr a b = - cr b a := by unfold cr; grind
theorem hp_opp {a b c : XY} (na : a ≠ (0,0)) (nb : b ≠ (0,0)) (nc : c ≠ (0,0)) (hab : up a ↔ ¬ up b) (hbc : up b ↔ up c) (h1 : cr a b ≤ 0) (h2 : 0 < cr b c) : cr a c < 0 := by
  have e1 : cr (-a.1, -a.2) b = - cr a b := by unfold cr; grind
  have e2 : cr (-a.1, -a.2) c = - cr a c := by unfold cr; grind
  have hna : ((-a.1, -a.2) : XY) ≠ (0,0) := by
    intro h; apply na; obtain ⟨x, y⟩ := a; simp at h; simp; omega
  have hup : up (-a.1, -a.2) ↔ up b := by
    by_cases ha : up a
    · have h1 := up_not_neg ha
      have h2 := hab.1 ha
      exact ⟨fun h => absurd h h1, fun h => absurd h h2⟩
    · have h1 := up_or na ha
      have h2 : up b := Decidable.byContradiction fun h => ha (hab.2 h)
      exact ⟨fun _ => h2, fun _ => h1⟩
  have := hp_same hna nb nc hup hbc (by omega) h2
  omega

section
variable (P : Nat → XY) (n : Nat)
def edge (i : Nat) : XY := sub (P (i + 1)) (P i)
/-- how many of the corners 1 .. k are those at which the way begins to rise -/
def R : Nat → Nat
  | 0 => 0
  | k + 1 => R k + (if up (edge P (k + 1)) ∧ ¬ up (edge P k) then 1 else 0)
def Hh (k : Nat) : Nat := 2 * R P k + (if up (edge P k) then 0 else 1)
theorem H_succ (k : Nat) : Hh P (k + 1) = Hh P k + (if up (edge P k) ↔ up (edge P (k + 1)) then 0 else 1) := by
  unfold Hh
  by_cases h1 : up (edge P k) <;> by_cases h2 : up (edge P (k + 1)) <;> simp [R, h1, h2] <;> omega
theorem H_par (i k : Nat) (h : (Hh P i) % 2 = (Hh P k) % 2) : up (edge P i) ↔ up (edge P k) := by
  unfold Hh at h
  by_cases h1 : up (edge P i) <;> by_cases h2 : up (edge P k) <;> simp [h1, h2] at * <;> omega
theorem H_le (i k : Nat) : Hh P i ≤ Hh P (i + k) := by
  induction k with
  | zero => simp
  | succ k ih =>
    have := H_succ P (i + k)
    have e : i + (k + 1) = i + k + 1 := by omega
    rw [e]; omega
variable {P n}
theorem edge_per (hper : ∀ i, P (i + n) = P i) (i : Nat) : edge P (i + n) = edge P i := by
  unfold edge
  have e : i + n + 1 = (i + 1) + n := by omega
  rw [e, hper, hper]
theorem R_per (hper : ∀ i, P (i + n) = P i) (i : Nat) : R P (i + n) = R P i + R P n := by
  induction i with
  | zero => simp [R]
  | succ i ih =>
    have e : i + 1 + n = (i + n) + 1 := by omega
    rw [e, R, ih, R]
    have e1 : edge P (i + n + 1) = edge P (i + 1) := by
      have := edge_per hper (i + 1); rw [← this]; congr 1; omega
    rw [e1, edge_per hper]
    omega
theorem H_per (hper : ∀ i, P (i + n) = P i) (hR : R P n = 1) (i : Nat) : Hh P (i + n) = Hh P i + 2 := by
  unfold Hh
  rw [R_per hper, edge_per hper, hR]; omega

/-- along one half-turn the directions turn on -/
theorem chain_cr (hl : ∀ i, 0 < cr (edge P i) (edge P (i + 1))) (i k : Nat) (h : Hh P i = Hh P (i + (k + 1))) : 0 < cr (edge P i) (edge P (i + (k + 1))) := by
  have hne : ∀ j, edge P j ≠ (0, 0) := fun j => (cr_ne (hl j)).1
  induction k with
  | zero => exact hl i
  | succ k ih =>
    have h1 := H_le P i (k + 1)
    have h2 := H_succ P (i + (k + 1))
    have e : i + (k + 1) + 1 = i + (k + 1 + 1) := by omega
    rw [e] at h2
    have h3 : Hh P i = Hh P (i + (k + 1)) := by omega
    have := hl (i + (k + 1))
    rw [e] at this
    exact hp_same (hne _) (hne _) (hne _) (H_par P _ _ (by rw [h3])) (H_par P _ _ (by omega)) (Int.le_of_lt (ih h3)) this

/-- the sign along the list: once not above 0, below 0 from then on -/
theorem sign_step (hper : ∀ i, P (i + n) = P i) (hl : ∀ i, 0 < cr (edge P i) (edge P (i + 1))) (hR : R P n = 1) (i k : Nat) (hk : k + 2 < n) (hs : cr (edge P i) (edge P (i + (k + 1))) ≤ 0) :
    cr (edge P i) (edge P (i + (k + 2))) < 0 := by
  have hne : ∀ j, edge P j ≠ (0, 0) := fun j => (cr_ne (hl j)).1
  have hH := H_per hper hR i
  have h1 := H_le P i (k + 1)
  have e : i + (k + 1) + 1 = i + (k + 2) := by omega
  have h2 := H_succ P (i + (k + 1))
  rw [e] at h2
  have h3 := H_le P (i + (k + 2)) (n - (k + 2))
  have e3 : i + (k + 2) + (n - (k + 2)) = i + n := by omega
  rw [e3] at h3
  have hend : Hh P (i + (k + 2)) = Hh P i + 2 → cr (edge P i) (edge P (i + (k + 2))) < 0 := by
    intro h
    have e4 : i + (k + 2) + (n - (k + 2) - 1 + 1) = i + n := by omega
    have := chain_cr hl (i + (k + 2)) (n - (k + 2) - 1) (by rw [e4]; omega)
    rw [e4, edge_per hper] at this
    rw [cr_flip]; omega
  by_cases c0 : Hh P i = Hh P (i + (k + 1))
  · have := chain_cr hl i k c0
    omega
  · by_cases c2 : Hh P (i + (k + 2)) = Hh P i + 2
    · exact hend c2
    · have c1 : Hh P (i + (k + 1)) = Hh P i + 1 := by omega
      have c1' : Hh P (i + (k + 2)) = Hh P i + 1 := by omega
      have hl2 := hl (i + (k + 1))
      rw [e] at hl2
      refine hp_opp (hne _) (hne _) (hne _) ?_ (H_par P _ _ (by rw [c1, c1'])) hs hl2
      have := H_par P (i + (k+1)) i
      unfold Hh at c1
      by_cases u1 : up (edge P i) <;> by_cases u2 : up (edge P (i + (k + 1))) <;> simp [u1, u2] at c1 ⊢ <;> omega

theorem cr_add (d a b c : XY) : cr d (sub c a) = cr d (sub b a) + cr d (sub c b) := by
  unfold cr sub; grind
theorem cr_self (a : XY) : cr a a = 0 := by unfold cr; grind

/-- the local test is enough: every other corner lies strictly to the left of each side -/
theorem local_global (hper : ∀ i, P (i + n) = P i) (hl : ∀ i, 0 < cr (edge P i) (edge P (i + 1))) (hR : R P n = 1) (i k : Nat) (h2 : 2 ≤ k) (hk : k < n) :
    0 < cr (edge P i) (sub (P (i + k)) (P i)) := by
  have hstep : ∀ j, cr (edge P i) (sub (P (i + (j + 1))) (P i)) = cr (edge P i) (sub (P (i + j)) (P i)) + cr (edge P i) (edge P (i + j)) := fun j => cr_add _ _ _ _
  have hneg : ∀ m j, 1 ≤ j → j + m < n → cr (edge P i) (edge P (i + j)) < 0 → cr (edge P i) (edge P (i + (j + m))) < 0 := by
    intro m
    induction m with
    | zero => intro j _ _ h; exact h
    | succ m ih =>
      intro j h1 h2 h
      have := ih j h1 (by omega) h
      have e : j + m = (j + m - 1) + 1 := by omega
      rw [e] at this
      have := sign_step hper hl hR i (j + m - 1) (by omega) (Int.le_of_lt this)
      have e2 : i + (j + m - 1 + 2) = i + (j + (m + 1)) := by omega
      rw [e2] at this
      exact this
  have hF1 : cr (edge P i) (sub (P (i + 1)) (P i)) = 0 := cr_self _
  have hFn : cr (edge P i) (sub (P (i + n)) (P i)) = 0 := by rw [hper]; unfold cr sub; grind
  have hdec : ∀ m j, 1 ≤ j → j + m ≤ n → cr (edge P i) (edge P (i + j)) < 0 → cr (edge P i) (sub (P (i + (j + m))) (P i)) ≤ cr (edge P i) (sub (P (i + j)) (P i)) - m := by
    intro m
    induction m with
    | zero => intro j _ _ _; simp
    | succ m ih =>
      intro j h1 h2 h
      have a := ih j h1 (by omega) h
      have b := hneg m j h1 (by omega) h
      have c := hstep (j + m)
      have e : j + m + 1 = j + (m + 1) := by omega
      rw [e] at c
      omega
  have hmain : ∀ m, 2 + m < n → 0 < cr (edge P i) (sub (P (i + (2 + m))) (P i)) := by
    intro m
    induction m with
    | zero =>
      intro h
      have := hstep 1
      have := hl i
      simp only [Nat.add_zero, Nat.reduceAdd] at *
      omega
    | succ m ih =>
      intro h
      have a := ih (by omega)
      have c := hstep (2 + m)
      have e : 2 + m + 1 = 2 + (m + 1) := by omega
      rw [e] at c
      by_cases hlt : cr (edge P i) (edge P (i + (2 + m))) < 0
      · -- it goes down from there to 0 at n
        have hlast : cr (edge P i) (edge P (i + (2 + (m + 1)))) < 0 := hneg 1 (2 + m) (by omega) (by omega) hlt
        have d := hdec (n - (2 + (m + 1))) (2 + (m + 1)) (by omega) (by omega) hlast
        have e : i + (2 + (m + 1) + (n - (2 + (m + 1)))) = i + n := by omega
        rw [e, hFn] at d
        omega
      · omega
  have e : k = 2 + (k - 2) := by omega
  rw [e]
  exact hmain (k - 2) (by omega)
end
section
variable {P : Nat → XY} {n : Nat}
def ind (P : Nat → XY) (n i : Nat) : Nat := if up (edge P i) ∧ ¬ up (edge P (i + n - 1)) then 1 else 0
def rds (P : Nat → XY) (n : Nat) : Nat → Nat
  | 0 => 0
  | k + 1 => rds P n k + ind P n k
theorem rds_R (hper : ∀ i, P (i + n) = P i) (k : Nat) : rds P n (k + 1) = ind P n 0 + R P k := by
  induction k with
  | zero => simp [rds, R]
  | succ k ih =>
    rw [rds, ih, R]
    have e : k + 1 + n - 1 = k + n := by omega
    unfold ind
    rw [e, edge_per hper]
    omega
theorem rds_n (hper : ∀ i, P (i + n) = P i) (hn : 0 < n) : rds P n n = R P n := by
  obtain ⟨m, rfl⟩ : ∃ m, n = m + 1 := ⟨n - 1, by omega⟩
  rw [rds_R hper, R]
  have e : edge P (m + 1) = edge P 0 := by have := edge_per hper 0; rw [← this]; congr 1; omega
  unfold ind
  rw [e]
  simp only [Nat.zero_add, Nat.add_sub_cancel]
  omega

/-- lexicographic order by height -/
def low (p q : XY) : Prop := p.2 < q.2 ∨ (p.2 = q.2 ∧ p.1 < q.1)
theorem low_up (p q : XY) : low p q ↔ up (sub q p) := by
  unfold low up sub; simp only; omega
theorem low_trans {p q r : XY} (h : low p q) (k : low q r) : low p r := by unfold low at *; omega
theorem low_irrefl (p : XY) : ¬ low p p := by unfold low; omega
theorem low_total (p q : XY) : low p q ∨ p = q ∨ low q p := by
  obtain ⟨a, b⟩ := p; obtain ⟨c, d⟩ := q
  unfold low; simp only [Prod.mk.injEq]; omega

/-- a corner at which the way begins to rise is the least of all -/
theorem rise_least {a b c q : XY} (h1 : 0 < Cross a b q) (h2 : 0 < Cross b c q) (h3 : 0 < Cross a b c) (u2 : up (sub c b)) (u1 : ¬ up (sub b a)) : low b q := by
  rw [low_up]
  rw [Cross_cr] at h1 h2 h3
  -- d1 = b - a falls, d2 = c - b rises, v = q - b
  have k1 : 0 < cr (sub b a) (sub q b) := by
    have : cr (sub b a) (sub q b) = cr (sub b a) (sub q a) := by unfold cr sub; grind
    omega
  have k3 : 0 < cr (sub b a) (sub c b) := by
    have : cr (sub b a) (sub c b) = cr (sub b a) (sub c a) := by unfold cr sub; grind
    omega
  have n1 := (cr_ne k1).1
  have nv := (cr_ne k1).2
  have w := up_or n1 u1
  refine Decidable.byContradiction fun hv => ?_
  have w2 := up_or nv hv
  -- e1 = -d1 , w = -v : e1 < w < d2 < e1
  have m1 : 0 < cr (-(sub b a).1, -(sub b a).2) (-(sub q b).1, -(sub q b).2) := by
    have : cr (-(sub b a).1, -(sub b a).2) (-(sub q b).1, -(sub q b).2) = cr (sub b a) (sub q b) := by unfold cr sub; grind
    omega
  have m2 : 0 < cr (-(sub q b).1, -(sub q b).2) (sub c b) := by
    have : cr (-(sub q b).1, -(sub q b).2) (sub c b) = cr (sub c b) (sub q b) := by unfold cr sub; grind
    omega
  have m3 := hp w w2 u2 (Int.le_of_lt m1) m2
  have : cr (-(sub b a).1, -(sub b a).2) (sub c b) = - cr (sub b a) (sub c b) := by unfold cr sub; grind
  omega

/-- of finitely many corners one is the least -/
theorem exists_low (P : Nat → XY) (n : Nat) (hn : 0 < n) : ∃ m, m < n ∧ ∀ j, j < n → ¬ low (P j) (P m) := by
  induction n with
  | zero => omega
  | succ n ih =>
    by_cases h0 : n = 0
    · subst h0
      exact ⟨0, by omega, fun j hj => by have : j = 0 := by omega
                                         subst this; exact low_irrefl _⟩
    · obtain ⟨m, hm, h⟩ := ih (by omega)
      by_cases hl : low (P n) (P m)
      · refine ⟨n, by omega, fun j hj hh => ?_⟩
        by_cases hjn : j = n
        · subst hjn; exact low_irrefl _ hh
        · exact h j (by omega) (low_trans hh hl)
      · refine ⟨m, by omega, fun j hj hh => ?_⟩
        by_cases hjn : j = n
        · subst hjn; exact hl hh
        · exact h j (by omega) hh

theorem rds_ge (k i : Nat) (hi : i < k) (h : ind P n i = 1) : 1 ≤ rds P n k := by
  induction k with
  | zero => omega
  | succ k ih =>
    rw [rds]
    by_cases e : i = k
    · subst e; omega
    · have := ih (by omega); omega
theorem rds_le (k : Nat) (h : ∀ i j, i < k → j < k → ind P n i = 1 → ind P n j = 1 → i = j) : rds P n k ≤ 1 := by
  induction k with
  | zero => simp [rds]
  | succ k ih =>
    rw [rds]
    have a := ih (fun i j hi hj => h i j (by omega) (by omega))
    by_cases e : ind P n k = 1
    · have : rds P n k = 0 := by
        have hz : ∀ m, m ≤ k → rds P n m = 0 := by
          intro m
          induction m with
          | zero => intro _; rfl
          | succ m ih2 =>
            intro hm
            rw [rds, ih2 (by omega)]
            have : ind P n m ≠ 1 := fun hh => by have := h m k (by omega) (by omega) hh e; omega
            have : ind P n m ≤ 1 := by unfold ind; split <;> omega
            omega
        exact hz k (Nat.le_refl _)
      omega
    · have : ind P n k ≤ 1 := by unfold ind; split <;> omega
      omega

/-- the global test has the local ones, and one round -/
theorem global_local (hper : ∀ i, P (i + n) = P i) (hn : 3 ≤ n) (hg : ∀ i k, 2 ≤ k → k < n → 0 < cr (edge P i) (sub (P (i + k)) (P i))) :
    (∀ i, 0 < cr (edge P i) (edge P (i + 1))) ∧ rds P n n = 1 := by
  have hl : ∀ i, 0 < cr (edge P i) (edge P (i + 1)) := fun i => by
    have := hg i 2 (Nat.le_refl _) (by omega)
    rw [cr_add _ _ (P (i + 1))] at this
    have z : cr (edge P i) (sub (P (i + 1)) (P i)) = 0 := cr_self _
    have z2 : cr (edge P i) (edge P (i + 1)) = cr (edge P i) (sub (P (i + 2)) (P (i + 1))) := rfl
    omega
  refine ⟨hl, ?_⟩
  -- a corner j steps behind i is another one
  have hmod : ∀ i m, P (i + m * n) = P i := by
    intro i m
    induction m with
    | zero => simp
    | succ m ih => rw [show i + (m + 1) * n = (i + m * n) + n by rw [Nat.add_mul]; omega, hper, ih]
  -- the least is unique
  have key : ∀ i, i < n → ind P n i = 1 → ∀ k, 1 ≤ k → k < n → low (P i) (P (i + k)) := by
    intro i hi h k h1 h2
    unfold ind at h
    have h : up (edge P i) ∧ ¬ up (edge P (i + n - 1)) := Decidable.byContradiction fun hh => by rw [if_neg hh] at h; omega
    have ea : P (i + n - 1 + 1) = P i := by rw [show i + n - 1 + 1 = i + n by omega, hper]
    have c3 : 0 < Cross (P (i + n - 1)) (P i) (P (i + 1)) := by
      have := hl (i + n - 1)
      have e2 : P (i + n - 1 + 1 + 1) = P (i + 1) := by rw [show i + n - 1 + 1 + 1 = i + 1 + n by omega, hper]
      unfold edge at this
      rw [ea, e2] at this
      rw [← turn_eq]
      exact this
    have eu : edge P (i + n - 1) = sub (P i) (P (i + n - 1)) := by unfold edge; rw [ea]
    by_cases k1 : k = 1
    · subst k1; rw [low_up]; exact h.1
    · by_cases kl : k = n - 1
      · subst kl
        rw [low_up, show i + (n - 1) = i + n - 1 by omega]
        have hne := (cr_ne (hl (i + n - 1))).1
        rw [eu] at hne
        have := up_or hne (by rw [← eu]; exact h.2)
        have e : (-(sub (P i) (P (i + n - 1))).1, -(sub (P i) (P (i + n - 1))).2) = sub (P (i + n - 1)) (P i) := by
          unfold sub; simp only [Prod.mk.injEq]; omega
        rwa [e] at this
      · have a2 : 0 < Cross (P i) (P (i + 1)) (P (i + k)) := by rw [Cross_cr]; exact hg i k (by omega) h2
        have a1 : 0 < Cross (P (i + n - 1)) (P i) (P (i + k)) := by
          rw [Cross_cr]
          have := hg (i + n - 1) (k + 1) (by omega) (by omega)
          have e3 : P (i + n - 1 + (k + 1)) = P (i + k) := by rw [show i + n - 1 + (k + 1) = i + k + n by omega, hper]
          unfold edge at this
          rw [e3, ea] at this
          exact this
        exact rise_least a1 a2 c3 h.1 (by rw [← eu]; exact h.2)
  have hle : rds P n n ≤ 1 := by
    apply rds_le
    have aux : ∀ i j, i < j → j < n → ind P n i = 1 → ind P n j = 1 → False := by
      intro i j hij hj h1 h2
      have a := key i (by omega) h1 (j - i) (by omega) (by omega)
      have b := key j hj h2 (n - (j - i)) (by omega) (by omega)
      rw [show i + (j - i) = j by omega] at a
      rw [show j + (n - (j - i)) = i + n by omega, hper] at b
      exact low_irrefl _ (low_trans a b)
    intro i j hi hj h1 h2
    rcases Nat.lt_trichotomy i j with h | h | h
    · exact (aux i j h hj h1 h2).elim
    · exact h
    · exact (aux j i h hi h2 h1).elim
  obtain ⟨m, hm, hmin⟩ := exists_low P n (by omega)
  have hper' : ∀ i, P (i % n) = P i := by
    intro i
    have := hmod (i % n) (i / n)
    rw [← this]
    congr 1
    have := Nat.mod_add_div i n
    rw [Nat.mul_comm] at this
    exact this
  have hmin' : ∀ j, ¬ low (P j) (P m) := fun j hj => hmin (j % n) (Nat.mod_lt _ (by omega)) (by rw [hper']; exact hj)
  have i1 : ind P n m = 1 := by
    unfold ind
    rw [if_pos]
    have ea : P (m + n - 1 + 1) = P m := by rw [show m + n - 1 + 1 = m + n by omega, hper]
    refine ⟨?_, ?_⟩
    · have hne := (cr_ne (hl m)).1
      refine Decidable.byContradiction fun hh => ?_
      have := up_or hne hh
      apply hmin' (m + 1)
      rw [low_up]
      have e : (-(edge P m).1, -(edge P m).2) = sub (P m) (P (m + 1)) := by
        unfold edge sub; simp only [Prod.mk.injEq]; omega
      rwa [e] at this
    · intro hh
      apply hmin' (m + n - 1)
      rw [low_up]
      unfold edge at hh
      rwa [ea] at hh
  have := rds_ge n m hm i1
  omega
end

/-- the corner of a list, its number taken round -/
def At (o : List XY) (i : Nat) : XY := o.getD (i % o.length) (0, 0)
theorem At_per (o : List XY) (i : Nat) : At o (i + o.length) = At o i := by
  unfold At; rw [Nat.add_mod_right]
def In (p : XY) : Prop := -5000 ≤ p.1 ∧ p.1 ≤ 5000 ∧ -5000 ≤ p.2 ∧ p.2 ≤ 5000
instance (p : XY) : Decidable (In p) := by unfold In; infer_instance
/-- the program's test -/
def DLoc (o : List XY) : Prop := (∀ i, i < o.length → 0 < turn (At o (i + o.length - 1)) (At o i) (At o (i + 1))) ∧ rds (At o) o.length o.length = 1
/-- the document's test -/
def RGlob (o : List XY) : Prop := ∀ i, i < o.length → ∀ j, j < o.length → j ≠ i → j ≠ (i + 1) % o.length → 0 < Cross (At o i) (At o (i + 1)) (At o j)
theorem At_mod (o : List XY) (i : Nat) : At o (i % o.length) = At o i := by
  unfold At; rw [Nat.mod_mod]
theorem valid_iff (o : List XY) (hn : 3 ≤ o.length) : DLoc o ↔ RGlob o := by
  have hmod1 : ∀ i k, i < o.length → k < o.length → (i + k) % o.length = if i + k < o.length then i + k else i + k - o.length := by
    intro i k h1 h2
    split
    · exact Nat.mod_eq_of_lt (by assumption)
    · rw [Nat.mod_eq_sub_mod (by omega)]; exact Nat.mod_eq_of_lt (by omega)
  constructor
  · rintro ⟨h, hr⟩ i hi j hj h1 h2
    have hl : ∀ i, 0 < cr (edge (At o) i) (edge (At o) (i + 1)) := by
      intro i
      have := h ((i + 1) % o.length) (Nat.mod_lt _ (by omega))
      have e1 : At o ((i + 1) % o.length + o.length - 1) = At o i := by
        rw [← At_mod o i, ← At_mod o ((i + 1) % o.length + o.length - 1)]
        congr 1
        by_cases c : i % o.length + 1 = o.length
        · have : (i + 1) % o.length = 0 := by rw [Nat.add_mod, Nat.mod_eq_of_lt (show 1 < o.length by omega), c, Nat.mod_self]
          rw [this, Nat.mod_eq_of_lt (by omega)]; omega
        · have hlt := Nat.mod_lt i (show 0 < o.length by omega)
          have : (i + 1) % o.length = i % o.length + 1 := by rw [Nat.add_mod, Nat.mod_eq_of_lt (show 1 < o.length by omega)]; exact Nat.mod_eq_of_lt (by omega)
          rw [this, show i % o.length + 1 + o.length - 1 = i % o.length + o.length by omega, Nat.add_mod_right, Nat.mod_mod]
      have e2 : At o ((i + 1) % o.length + 1) = At o (i + 1 + 1) := by
        rw [← At_mod o (i + 1 + 1), ← At_mod o ((i + 1) % o.length + 1)]
        congr 1
        rw [Nat.mod_add_mod]
      rw [e1, e2, At_mod] at this
      exact this
    have hR := rds_n (At_per o) (by omega)
    rw [hr] at hR
    rw [Cross_cr]
    have hg := local_global (At_per o) hl hR.symm i
    by_cases c : i < j
    · have := hg (j - i) (by
        have := hmod1 i 1 hi (by omega)
        by_cases c2 : j = i + 1
        · rw [if_pos (by omega)] at this; omega
        · omega) (by omega)
      rwa [show i + (j - i) = j by omega] at this
    · have := hg (j + o.length - i) (by
        have := hmod1 i 1 hi (by omega)
        by_cases c2 : i + 1 < o.length
        · omega
        · rw [if_neg c2] at this; omega) (by omega)
      rwa [show i + (j + o.length - i) = j + o.length by omega, At_per] at this
  · intro h
    have hg : ∀ i k, 2 ≤ k → k < o.length → 0 < cr (edge (At o) i) (sub (At o (i + k)) (At o i)) := by
      intro i k h2 hk
      have hi := Nat.mod_lt i (show 0 < o.length by omega)
      have e1 : At o (i % o.length + 1) = At o (i + 1) := by
        rw [← At_mod o (i + 1), ← At_mod o (i % o.length + 1)]; congr 1; rw [Nat.mod_add_mod]
      have e2 : At o ((i % o.length + k) % o.length) = At o (i + k) := by
        rw [← At_mod o (i + k)]; congr 1; rw [Nat.mod_add_mod]
      have m1 := hmod1 (i % o.length) 1 hi (by omega)
      have mk := hmod1 (i % o.length) k hi hk
      have := h (i % o.length) hi ((i % o.length + k) % o.length) (Nat.mod_lt _ (by omega))
        (by rw [mk]; split <;> omega) (by rw [mk, m1]; split <;> split <;> omega)
      rw [e1, e2, At_mod, Cross_cr] at this
      exact this
    have := global_local (At_per o) hn hg
    refine ⟨fun i hi => ?_, this.2⟩
    have := this.1 (i + o.length - 1)
    unfold edge at this
    rw [show i + o.length - 1 + 1 = i + o.length by omega, At_per, show i + o.length + 1 = i + 1 + o.length by omega, At_per] at this
    exact this
end Go.Proofs.Ytlikmlhlfbdchaa.Geo
namespace Go.Proofs.Ytlikmlhlfbdchaa.Geo
def X (o : List XY) (j : Nat) : XY := o[j]?.getD (0, 0)
theorem At_lt (o : List XY) {i : Nat} (h : i < o.length) : At o i = X o i := by
  unfold At X; rw [Nat.mod_eq_of_lt h]; simp
theorem At_last (o : List XY) {i : Nat} (h : i + 1 = o.length) : At o (i + 1) = X o 0 := by
  unfold At X; rw [h, Nat.mod_self]; simp
instance (p q : XY) : Decidable (low p q) := by unfold low; infer_instance
def lowIdx (o : List XY) : Nat → Nat
  | 0 => 0
  | k + 1 => if low (X o k) (X o (lowIdx o k)) then k else lowIdx o k
theorem lowIdx_lt (o : List XY) (k : Nat) (h : 0 < k) : lowIdx o k < k := by
  induction k with
  | zero => omega
  | succ k ih =>
    rw [lowIdx]
    split
    · omega
    · by_cases h0 : k = 0
      · subst h0; simp [lowIdx]
      · have := ih (by omega); omega
theorem lowIdx_least (o : List XY) (k : Nat) : ∀ j, j < k → ¬ low (X o j) (X o (lowIdx o k)) := by
  induction k with
  | zero => intro j hj; omega
  | succ k ih =>
    intro j hj
    rw [lowIdx]
    by_cases h : low (X o k) (X o (lowIdx o k))
    · rw [if_pos h]
      by_cases e : j = k
      · subst e; exact low_irrefl _
      · exact fun hh => ih j (by omega) (low_trans hh h)
    · rw [if_neg h]
      by_cases e : j = k
      · subst e; exact h
      · exact ih j (by omega)
/-- the canonical form -/
def canon (o : List XY) : List XY := o.drop (lowIdx o o.length) ++ o.take (lowIdx o o.length)
theorem canon_length (o : List XY) : (canon o).length = o.length := by
  unfold canon; simp
  have : lowIdx o o.length ≤ o.length := by
    by_cases h : o.length = 0
    · rw [h]; simp [lowIdx]
    · have := lowIdx_lt o o.length (by omega); omega
  omega
theorem canon_get (o : List XY) (i : Nat) (h : i < o.length) : X (canon o) i = At o (lowIdx o o.length + i) := by
  have hk := lowIdx_lt o o.length (by omega)
  unfold X canon At
  rw [List.getElem?_append]
  simp only [List.length_drop]
  by_cases c : i < o.length - lowIdx o o.length
  · rw [if_pos c, List.getElem?_drop, Nat.mod_eq_of_lt (by omega)]; simp
  · rw [if_neg c, List.getElem?_take, if_pos (by omega)]
    have : (lowIdx o o.length + i) % o.length = i - (o.length - lowIdx o o.length) := by
      rw [Nat.mod_eq_sub_mod (by omega), Nat.mod_eq_of_lt (by omega)]; omega
    rw [this]; simp

def areaK (o : List XY) : Nat → Int
  | 0 => 0
  | k + 1 => areaK o k + cr (At o k) (At o (k + 1))
/-- the fan: the triangles ahead of corner k + 2 -/
def fanK (o : List XY) : Nat → Int
  | 0 => 0
  | k + 1 => fanK o k + Cross (X o 0) (X o (k + 1)) (X o (k + 2))
theorem fan_area (o : List XY) (k : Nat) (h : k + 2 ≤ o.length) : fanK o k = areaK o (k + 1) - cr (X o 0) (X o (k + 1)) := by
  induction k with
  | zero =>
    simp only [fanK, areaK]
    rw [At_lt o (by omega), At_lt o (by omega)]; omega
  | succ k ih =>
    have e1 : areaK o (k + 1 + 1) = areaK o (k + 1) + cr (At o (k + 1)) (At o (k + 1 + 1)) := rfl
    rw [fanK, ih (by omega), e1, At_lt o (i := k + 1) (by omega), At_lt o (i := k + 1 + 1) (by omega)]
    have : Cross (X o 0) (X o (k + 1)) (X o (k + 2)) = cr (X o (k + 1)) (X o (k + 2)) + cr (X o 0) (X o (k + 1)) - cr (X o 0) (X o (k + 2)) := by
      unfold Cross cr; grind
    rw [this]
    have e : k + 1 + 1 = k + 2 := rfl
    rw [e]; omega
theorem area_fan (o : List XY) (h : 2 ≤ o.length) : areaK o o.length = fanK o (o.length - 2) := by
  have hf := fan_area o (o.length - 2) (by omega)
  rw [hf]
  obtain ⟨m, hm⟩ : ∃ m, o.length = m + 1 := ⟨o.length - 1, by omega⟩
  rw [show o.length - 2 + 1 = m by omega, hm, areaK, At_lt o (i := m) (by omega), At_last o (by omega)]
  have : cr (X o m) (X o 0) = - cr (X o 0) (X o m) := cr_flip _ _
  omega
end Go.Proofs.Ytlikmlhlfbdchaa.Geo
namespace Go.Proofs.Ytlikmlhlfbdchaa.Geo
/-- the root of n, rounded down -/
def fsq : Nat → Nat
  | 0 => 0
  | n + 1 => if (fsq n + 1) * (fsq n + 1) ≤ n + 1 then fsq n + 1 else fsq n
theorem fsq_spec (n : Nat) : fsq n * fsq n ≤ n ∧ n < (fsq n + 1) * (fsq n + 1) := by
  induction n with
  | zero => simp [fsq]
  | succ n ih =>
    rw [fsq]
    by_cases h : (fsq n + 1) * (fsq n + 1) ≤ n + 1
    · rw [if_pos h]
      refine ⟨h, ?_⟩
      have : (fsq n + 1 + 1) * (fsq n + 1 + 1) = (fsq n + 1) * (fsq n + 1) + 2 * fsq n + 3 := by grind
      omega
    · rw [if_neg h]; omega
theorem sq_mono {a b : Nat} (h : a ≤ b) : a * a ≤ b * b := Nat.mul_le_mul h h
theorem fsq_unique {n r : Nat} (h1 : r * r ≤ n) (h2 : n < (r + 1) * (r + 1)) : r = fsq n := by
  have := fsq_spec n
  rcases Nat.lt_trichotomy r (fsq n) with h | h | h
  · have := sq_mono (show r + 1 ≤ fsq n from h); omega
  · exact h
  · have := sq_mono (show fsq n + 1 ≤ r from h); omega
/-- the root of n, rounded up -/
def csq (n : Nat) : Nat := if fsq n * fsq n = n then fsq n else fsq n + 1
theorem csq_spec (n : Nat) : n ≤ csq n * csq n ∧ ∀ d, n ≤ d * d → csq n ≤ d := by
  have h := fsq_spec n
  unfold csq
  by_cases e : fsq n * fsq n = n
  · rw [if_pos e]
    refine ⟨by omega, fun d hd => ?_⟩
    refine Decidable.byContradiction fun hc => ?_
    have := sq_mono (show d + 1 ≤ fsq n by omega)
    have e2 : (d + 1) * (d + 1) = d * d + 2 * d + 1 := by grind
    omega
  · rw [if_neg e]
    refine ⟨by omega, fun d hd => ?_⟩
    refine Decidable.byContradiction fun hc => ?_
    have := sq_mono (show d ≤ fsq n by omega)
    omega
theorem csq_unique {n d : Nat} (h1 : n ≤ d * d) (h2 : ∀ e, e < d → e * e < n) : d = csq n := by
  have := csq_spec n
  have a := this.2 d h1
  by_cases h : csq n < d
  · have := h2 _ h; omega
  · omega
theorem csq_mono {a b : Nat} (h : a ≤ b) : csq a ≤ csq b := (csq_spec a).2 _ (Nat.le_trans h (csq_spec b).1)
theorem fsq_of_csq (n : Nat) : fsq n = if csq n * csq n = n then csq n else csq n - 1 := by
  have h := fsq_spec n
  unfold csq
  by_cases e : fsq n * fsq n = n
  · rw [if_pos e, if_pos e]
  · rw [if_neg e, if_neg (by omega)]; omega
theorem fsq_le (n k : Nat) (h : n < (k + 1) * (k + 1)) : fsq n ≤ k := by
  have := fsq_spec n
  refine Decidable.byContradiction fun hc => ?_
  have := sq_mono (show k + 1 ≤ fsq n by omega)
  omega
theorem csq_le (n k : Nat) (h : n ≤ k * k) : csq n ≤ k := (csq_spec n).2 _ h
theorem csq_zero : csq 0 = 0 := by simp [csq, fsq]
theorem csq_pos (n : Nat) (h : 0 < n) : 0 < csq n := by
  have := (csq_spec n).1
  refine Decidable.byContradiction fun hc => ?_
  have e : csq n = 0 := by omega
  rw [e] at this
  omega
theorem csq_self (n : Nat) : csq n ≤ n := (csq_spec n).2 _ (by
  by_cases h : n = 0
  · subst h; simp
  · exact Nat.le_mul_of_pos_right _ (by omega))

/-- the reference's root: bit by bit -/
def rootK (n : Nat) : Nat → Nat → Nat
  | 0, r => r
  | b + 1, r => rootK n b (if (r + 2 ^ b) * (r + 2 ^ b) ≤ n then r + 2 ^ b else r)
theorem rootK_spec (n b r : Nat) (h1 : r * r ≤ n) (h2 : n < (r + 2 ^ b) * (r + 2 ^ b)) : rootK n b r = fsq n := by
  induction b generalizing r with
  | zero =>
    rw [rootK]
    exact fsq_unique h1 (by simpa using h2)
  | succ b ih =>
    rw [rootK]
    split
    · next h => exact ih _ h (by rw [Nat.add_assoc, ← Nat.two_mul, ← Nat.pow_succ']; exact h2)
    · next h => exact ih _ h1 (by omega)
end Go.Proofs.Ytlikmlhlfbdchaa.Geo
namespace Go.Proofs.Ytlikmlhlfbdchaa
open Go.RowKit

/-- the slice at A holds the places l -/
def Pts (w : World) (A : Option Addr) (l : List Geo.XY) : Prop :=
  l = [] ∨ ∃ b off, A = some ⟨b, off, none⟩ ∧ b < w.heap.size ∧ ∀ k, k < l.length → w.cell? ⟨b, off + k * 2, none⟩ = some (.int .i64 (Geo.X l k).1) ∧ w.cell? ⟨b, off + k * 2 + 1, none⟩ = some (.int .i64 (Geo.X l k).2)
theorem Pts.below {w w' : World} {A : Option Addr} {l : List Geo.XY} (h : Pts w A l) (hb : Below w.heap.size w w') : Pts w' A l := by
  rcases h with h | ⟨b, off, h1, h2, h3⟩
  · exact .inl h
  · exact .inr ⟨b, off, h1, Nat.lt_of_lt_of_le h2 hb.size, fun k hk => ⟨(hb.cell (p := ⟨b, off + k * 2, none⟩) h2).trans (h3 k hk).1, (hb.cell (p := ⟨b, off + k * 2 + 1, none⟩) h2).trans (h3 k hk).2⟩⟩

/-- the document's test of a list of corners -/
def Valid (l : List Geo.XY) : Prop := 3 ≤ l.length ∧ l.length ≤ 64 ∧ (∀ k, k < l.length → Geo.In (Geo.X l k)) ∧ Geo.RGlob l
noncomputable def validB (l : List Geo.XY) : Bool := @decide (Valid l) (Classical.propDecidable _)
theorem validB_true {l : List Geo.XY} (h : Valid l) : validB l = true := by unfold validB; simpa using h
theorem validB_false {l : List Geo.XY} (h : ¬ Valid l) : validB l = false := by unfold validB; simpa using h
theorem ret_false {l : List Geo.XY} (h : ¬ Valid l) : Ending.returned (.bool false) = .returned (.bool (validB l)) := by rw [validB_false h]
theorem ret_true {l : List Geo.XY} (h : Valid l) : Ending.returned (.bool true) = .returned (.bool (validB l)) := by rw [validB_true h]
def InF (p : Geo.XY) : Bool := decide (-5000 ≤ p.1) && (decide (p.1 ≤ 5000) && (decide (-5000 ≤ p.2) && decide (p.2 ≤ 5000)))
theorem InF_iff (p : Geo.XY) : InF p = true ↔ Geo.In p := by unfold InF Geo.In; simp

set_option maxHeartbeats 400000 in
theorem in_yes (x y : Int) (h : InF (x, y) = true) (w : World) :
    Calls Try.prog 55 #[.agg #[.int .i64 x, .int .i64 y]] w fun e w' => e = .returned (.bool true) ∧ Below w.heap.size w w' :=
  (in_any x y w).mono fun e w' ⟨he, hb⟩ => ⟨by rw [he]; unfold InF at h; rw [h], hb⟩
theorem in_no (x y : Int) (h : InF (x, y) = false) (w : World) :
    Calls Try.prog 55 #[.agg #[.int .i64 x, .int .i64 y]] w fun e w' => e = .returned (.bool false) ∧ Below w.heap.size w w' :=
  (in_any x y w).mono fun e w' ⟨he, hb⟩ => ⟨by rw [he]; unfold InF at h; rw [h], hb⟩

set_option maxHeartbeats 400000 in
theorem rvalid_short (A : Option Addr) (l : List Geo.XY) (c : Nat) (w : World) (h : l.length < 3 ∨ 64 < l.length) :
    Calls Try.prog 51 #[.slice A l.length c] w fun e w' => e = .returned (.bool (validB l)) ∧ Below w.heap.size w w' := by
  have hf : ¬ Valid l := fun hv => by have := hv.1; have := hv.2.1; omega
  have hfin := ret_false hf
  clear hf
  have H := Lib.hid hfin
  clear hfin
  rcases h with h | h
  · go_enter Try.func51, Try.ntmps51
    go_wp2
    go_ret
    exact ⟨H.out, Below.refl _ _⟩
  · have h' : ¬ l.length < 3 := by omega
    go_enter Try.func51, Try.ntmps51
    go_wp2
    go_ret
    exact ⟨H.out, Below.refl _ _⟩

/-- the first m sides have all other corners to their left -/
def Upto (l : List Geo.XY) (m : Nat) : Prop := ∀ i, i < m → ∀ j, j < l.length → j ≠ i → j ≠ (i + 1) % l.length → 0 < Geo.Cross (Geo.X l i) (Geo.X l ((i + 1) % l.length)) (Geo.X l j)

set_option maxHeartbeats 1000000 in
theorem rvalid_long (b off : Nat) (l : List Geo.XY) (c : Nat) (w : World) (hb : b < w.heap.size) (hc : ∀ k, k < l.length → w.cell? ⟨b, off + k * 2, none⟩ = some (.int .i64 (Geo.X l k).1) ∧ w.cell? ⟨b, off + k * 2 + 1, none⟩ = some (.int .i64 (Geo.X l k).2))
    (h3 : 3 ≤ l.length) (h64 : l.length ≤ 64) :
    Calls Try.prog 51 #[.slice (some ⟨b, off, none⟩) l.length c] w fun e w' => e = .returned (.bool (validB l)) ∧ Below w.heap.size w w' := by
  have HC := Lib.hid hc
  clear hc
  go_enter Try.func51, Try.ntmps51
  go_wp2
  go_loopw [19] (fun i wr => ∃ k : Nat, k ≤ l.length ∧ i = .int .i64 k ∧ (∀ j, j < k → Geo.In (Geo.X l j)) ∧ Below w.heap.size w wr) (fun i _ => l.length - (intOf i).toNat)
  case atStart => exact ⟨0, Nat.zero_le _, rfl, fun j hj => absurd hj (by omega), Below.refl _ _⟩
  case round =>
    obtain ⟨k, hk, rfl, hin, hB⟩ := hrel
    have HIN := Lib.hid hin
    clear hin
    by_cases hlt : k < l.length
    · have c1 : wr.cell? ⟨b, off + k * 2, none⟩ = some (.int .i64 (Geo.X l k).1) := (hB.cell (p := ⟨b, off + k * 2, none⟩) hb).trans (HC.out k hlt).1
      have c2 : wr.cell? ⟨b, off + k * 2 + 1, none⟩ = some (.int .i64 (Geo.X l k).2) := (hB.cell (p := ⟨b, off + k * 2 + 1, none⟩) hb).trans (HC.out k hlt).2
      cases hI : InF (Geo.X l k) with
      | false =>
        have hv : ¬ Valid l := fun hv => by have := (InF_iff _).2 (hv.2.2.1 k hlt); rw [hI] at this; cases this
        have H := Lib.hid (ret_false hv)
        have HI := Lib.hid hI
        clear hI hv
        go_wp2_with (go_at_call 55; refine (in_no _ _ HI.out _).mono ?_; rintro e w' ⟨rfl, hb'⟩)
        go_ret
        exact ⟨H.out, ((hB.alloc hB.size _)).trans (hb'.mono (by simp; have := hB.size; omega))⟩
      | true =>
        have HI := Lib.hid hI
        clear hI
        go_wp2_with (go_at_call 55; refine (in_yes _ _ HI.out _).mono ?_; rintro e w' ⟨rfl, hb'⟩)
        go_roundw
        case rel => exact ⟨k + 1, by omega, by go_num, fun j hj => by
          by_cases e : j = k
          · subst e; exact (InF_iff _).1 HI.out
          · exact HIN.out j (by omega), (hB.alloc hB.size _).trans (hb'.mono (by simp; have := hB.size; omega))⟩
        case measure => simp [intOf]; omega
    · obtain rfl : k = l.length := by omega
      go_wp2
      have HV := HIN
      go_loopw [29] (fun i wr => ∃ m : Nat, m ≤ l.length ∧ i = .int .i64 m ∧ Upto l m ∧ Below w.heap.size w wr) (fun i _ => l.length - (intOf i).toNat)
      case atStart => exact ⟨0, Nat.zero_le _, rfl, fun j hj => absurd hj (by omega), hB⟩
      case round =>
        clear hB
        obtain ⟨i, hi, rfl, hU, hB⟩ := hrel
        by_cases hlt : i < l.length
        · obtain ⟨k, hk⟩ : ∃ k, k = (i + 1) % l.length := ⟨_, rfl⟩
          have hkl : k < l.length := by rw [hk]; exact Nat.mod_lt _ (by omega)
          have HK := Lib.hid hk
          have hmod : ((i : Int) + 1) % (l.length : Int) = (k : Int) := by rw [hk]; simp
          clear hk
          have HM := Lib.hid hmod
          clear hmod
          go_wp2
          rw [HM.out]
          go_loopw [39] (fun j wr => ∃ m : Nat, m ≤ l.length ∧ j = .int .i64 m ∧ (∀ j, j < m → j ≠ i → j ≠ k → 0 < Geo.Cross (Geo.X l i) (Geo.X l k) (Geo.X l j)) ∧ Below w.heap.size w wr) (fun i _ => l.length - (intOf i).toNat)
          case atStart => exact ⟨0, Nat.zero_le _, rfl, fun j hj => absurd hj (by omega), hB⟩
          case round =>
            clear hB
            obtain ⟨j, hj, rfl, hJ, hB⟩ := hrel
            have HJ := Lib.hid hJ
            clear hJ
            by_cases hjlt : j < l.length
            · have c1 : wr.cell? ⟨b, off + j * 2, none⟩ = some (.int .i64 (Geo.X l j).1) := (hB.cell (p := ⟨b, off + j * 2, none⟩) hb).trans (HC.out j hjlt).1
              have c2 : wr.cell? ⟨b, off + j * 2 + 1, none⟩ = some (.int .i64 (Geo.X l j).2) := (hB.cell (p := ⟨b, off + j * 2 + 1, none⟩) hb).trans (HC.out j hjlt).2
              go_wp2
              obtain ⟨W, hW⟩ : ∃ W, W = wr.alloc (.cells #[.int .i64 (Geo.X l j).1, .int .i64 (Geo.X l j).2] 76) := ⟨_, rfl⟩
              have hb2 : Below w.heap.size w W := by rw [hW]; exact hB.alloc hB.size _
              have f5 : ∀ s : Ext W, s.w.cell? ⟨wr.heap.size, 0, none⟩ = some (.int .i64 (Geo.X l j).1) := fun s => s.cell (by rw [hW]; go_simp)
              have f6 : ∀ s : Ext W, s.w.cell? ⟨wr.heap.size, 1, none⟩ = some (.int .i64 (Geo.X l j).2) := fun s => s.cell (by rw [hW]; go_simp)
              rw [← hW]
              clear hW c1 c2
              have f1 : ∀ s : Ext W, s.w.cell? ⟨b, off + i * 2, none⟩ = some (.int .i64 (Geo.X l i).1) := fun s => s.cell ((hb2.cell (p := ⟨b, off + i * 2, none⟩) hb).trans (HC.out i hlt).1)
              have f2 : ∀ s : Ext W, s.w.cell? ⟨b, off + i * 2 + 1, none⟩ = some (.int .i64 (Geo.X l i).2) := fun s => s.cell ((hb2.cell (p := ⟨b, off + i * 2 + 1, none⟩) hb).trans (HC.out i hlt).2)
              have f3 : ∀ s : Ext W, s.w.cell? ⟨b, off + k * 2, none⟩ = some (.int .i64 (Geo.X l k).1) := fun s => s.cell ((hb2.cell (p := ⟨b, off + k * 2, none⟩) hb).trans (HC.out k hkl).1)
              have f4 : ∀ s : Ext W, s.w.cell? ⟨b, off + k * 2 + 1, none⟩ = some (.int .i64 (Geo.X l k).2) := fun s => s.cell ((hb2.cell (p := ⟨b, off + k * 2 + 1, none⟩) hb).trans (HC.out k hkl).2)
              by_cases e1 : j = i
              · have g1 : ((j : Int) != (i : Int)) = false := by simp [e1]
                have E1 := Lib.hid e1
                clear e1
                refine wp_region_ext (by kernel_rfl) (by kernel_rfl) ?_
                repeat (go_big_quiet_step (fail))
                refine wpQuiet_nil ?_
                rintro _ ⟨s, rfl⟩
                go_wp2
                go_roundw
                case rel => exact ⟨j + 1, by omega, by go_num, fun q hq h1 h2 => HJ.out q (by have := E1.out; omega) h1 h2, hb2.trans (s.h.mono hb2.size)⟩
                case measure => simp [intOf]; omega
              · have g1 : ((j : Int) != (i : Int)) = true := by simp; omega
                have E1 := Lib.hid e1
                clear e1
                by_cases e2 : j = k
                · have g2 : ((j : Int) != (k : Int)) = false := by simp [e2]
                  have E2 := Lib.hid e2
                  clear e2
                  refine wp_region_ext (by kernel_rfl) (by kernel_rfl) ?_
                  repeat (go_big_quiet_step (fail))
                  refine wpQuiet_nil ?_
                  rintro _ ⟨s, rfl⟩
                  go_wp2
                  go_roundw
                  case rel => exact ⟨j + 1, by omega, by go_num, fun q hq h1 h2 => HJ.out q (by have := E2.out; omega) h1 h2, hb2.trans (s.h.mono hb2.size)⟩
                  case measure => simp [intOf]; omega
                · have g2 : ((j : Int) != (k : Int)) = true := by simp; omega
                  have E2 := Lib.hid e2
                  clear e2
                  obtain ⟨a1, a2, a3, a4⟩ := HV.out i hlt
                  obtain ⟨a5, a6, a7, a8⟩ := HV.out k hkl
                  obtain ⟨a9, a10, a11, a12⟩ := HV.out j hjlt
                  by_cases hcr : ((Geo.X l k).1 - (Geo.X l i).1) * ((Geo.X l j).2 - (Geo.X l i).2) - ((Geo.X l k).2 - (Geo.X l i).2) * ((Geo.X l j).1 - (Geo.X l i).1) ≤ 0
                  · have hv : ¬ Valid l := fun hv => by
                      have := hv.2.2.2 i hlt j hjlt E1.out (by rw [← HK.out]; exact E2.out)
                      rw [Geo.At_lt l hlt, Geo.At_lt l hjlt, ← Geo.At_mod, ← HK.out, Geo.At_lt l hkl] at this
                      unfold Geo.Cross at this
                      omega
                    have H := Lib.hid (ret_false hv)
                    clear hv
                    refine wp_region_ext (by kernel_rfl) (by kernel_rfl) ?_
                    repeat (go_big_quiet_step ((go_at_call 84; refine calls_ext (cross_any _ _ _ _ _ _ (by omega) (by omega) (by omega) (by omega) (by omega) (by omega) (by omega) (by omega) (by omega) (by omega) (by omega) (by omega) _))))
                    refine wpQuiet_nil ?_
                    rintro _ ⟨s, rfl⟩
                    go_wp2
                    go_ret
                    exact ⟨H.out, hb2.trans (s.h.mono hb2.size)⟩
                  · have H := Lib.hid hcr
                    refine wp_region_ext (by kernel_rfl) (by kernel_rfl) ?_
                    repeat (go_big_quiet_step ((go_at_call 84; refine calls_ext (cross_any _ _ _ _ _ _ (by omega) (by omega) (by omega) (by omega) (by omega) (by omega) (by omega) (by omega) (by omega) (by omega) (by omega) (by omega) _))))
                    refine wpQuiet_nil ?_
                    rintro _ ⟨s, rfl⟩
                    go_wp2
                    go_roundw
                    case rel => exact ⟨j + 1, by omega, by go_num, fun q hq h1 h2 => by
                      by_cases e : q = j
                      · subst e; unfold Geo.Cross; have := H.out; omega
                      · exact HJ.out q (by omega) h1 h2, hb2.trans (s.h.mono hb2.size)⟩
                    case measure => simp [intOf]; omega
            · obtain rfl : j = l.length := by omega
              go_wp2
              go_roundw
              case rel => exact ⟨i + 1, by omega, by go_num, fun p hp q hq h1 h2 => by
                by_cases e : p = i
                · subst e
                  rw [← HK.out] at h2 ⊢
                  exact HJ.out q hq h1 h2
                · exact hU p (by omega) q hq h1 h2, hB⟩
              case measure => simp [intOf]; omega
        · obtain rfl : i = l.length := by omega
          have hv : Valid l := ⟨h3, h64, HV.out, fun i hi j hj h1 h2 => by
            have := hU i hi j hj h1 h2
            rw [Geo.At_lt l hi, Geo.At_lt l hj, ← Geo.At_mod l (i + 1), Geo.At_lt l (Nat.mod_lt _ (by omega))]
            exact this⟩
          have H := Lib.hid (ret_true hv)
          clear hv
          go_wp2
          go_ret
          exact ⟨H.out, hB⟩

theorem rvalid_any (A : Option Addr) (l : List Geo.XY) (c : Nat) (w : World) (h : Pts w A l) :
    Calls Try.prog 51 #[.slice A l.length c] w fun e w' => e = .returned (.bool (validB l)) ∧ Below w.heap.size w w' := by
  by_cases h3 : l.length < 3 ∨ 64 < l.length
  · exact rvalid_short A l c w h3
  · rcases h with h | ⟨b, off, rfl, hb, hc⟩
    · subst h; simp at h3
    · exact rvalid_long b off l c w hb hc (by omega) (by omega)
end Go.Proofs.Ytlikmlhlfbdchaa
namespace Go.Proofs.Ytlikmlhlfbdchaa
open Go.RowKit

set_option maxHeartbeats 400000 in
theorem inrange_any (x y m : Int) (hm : 0 ≤ m) (hm' : m ≤ 1000000) (w : World) :
    Calls Try.prog 109 #[.agg #[.int .i64 x, .int .i64 y], .int .i64 m] w fun e w' => e = .returned (.bool (decide (-m ≤ x) && (decide (x ≤ m) && (decide (-m ≤ y) && decide (y ≤ m))))) ∧ Below w.heap.size w w' := by
  go_enter Try.func109, Try.ntmps109
  go_wp2
  all_goals (go_ret; exact ⟨by simp [*]; try omega, (Below.refl _ _).alloc (Nat.le_refl _) _⟩)

theorem inr_yes (x y : Int) (h : InF (x, y) = true) (w : World) :
    Calls Try.prog 109 #[.agg #[.int .i64 x, .int .i64 y], .int .i64 5000] w fun e w' => e = .returned (.bool true) ∧ Below w.heap.size w w' :=
  (inrange_any x y 5000 (by omega) (by omega) w).mono fun e w' ⟨he, hb⟩ => ⟨by rw [he]; unfold InF at h; rw [h], hb⟩
theorem inr_no (x y : Int) (h : InF (x, y) = false) (w : World) :
    Calls Try.prog 109 #[.agg #[.int .i64 x, .int .i64 y], .int .i64 5000] w fun e w' => e = .returned (.bool false) ∧ Below w.heap.size w w' :=
  (inrange_any x y 5000 (by omega) (by omega) w).mono fun e w' ⟨he, hb⟩ => ⟨by rw [he]; unfold InF at h; rw [h], hb⟩

def AllIn (l : List Geo.XY) : Prop := ∀ j, j < l.length → Geo.In (Geo.X l j)
instance (l : List Geo.XY) : Decidable (AllIn l) := by unfold AllIn; infer_instance
def allInB (l : List Geo.XY) : Bool := decide (AllIn l)

set_option maxHeartbeats 1000000 in
theorem allin_any (A : Option Addr) (l : List Geo.XY) (c : Nat) (w : World) (hr : Pts w A l) (hl : l.length ≤ 140737488355328) :
    Calls Try.prog 85 #[.slice A l.length c] w fun e w' => e = .returned (.bool (allInB l)) ∧ Below w.heap.size w w' := by
  have HR := Lib.hid hr
  clear hr
  go_enter Try.func85, Try.ntmps85
  go_wp2
  go_loopw [7] (fun i wr => ∃ k : Nat, k ≤ l.length ∧ i = .int .i64 k ∧ (∀ j, j < k → Geo.In (Geo.X l j)) ∧ Below w.heap.size w wr) (fun i _ => l.length - (intOf i).toNat)
  case atStart => exact ⟨0, Nat.zero_le _, rfl, fun j hj => absurd hj (by omega), Below.refl _ _⟩
  case round =>
    obtain ⟨k, hk, rfl, hin, hB⟩ := hrel
    have HIN := Lib.hid hin
    clear hin
    by_cases hlt : k < l.length
    · rcases HR.out with h0 | ⟨b, off, rfl, hb, hc⟩
      · rw [h0] at hlt; simp at hlt
      have c1 : wr.cell? ⟨b, off + k * 2, none⟩ = some (.int .i64 (Geo.X l k).1) := (hB.cell (p := ⟨b, off + k * 2, none⟩) hb).trans (hc k hlt).1
      have c2 : wr.cell? ⟨b, off + k * 2 + 1, none⟩ = some (.int .i64 (Geo.X l k).2) := (hB.cell (p := ⟨b, off + k * 2 + 1, none⟩) hb).trans (hc k hlt).2
      clear hc
      cases hI : InF (Geo.X l k) with
      | false =>
        have hv : ¬ AllIn l := fun hv => by have := (InF_iff _).2 (hv k hlt); rw [hI] at this; cases this
        have hfin : Ending.returned (.bool false) = .returned (.bool (allInB l)) := by unfold allInB; rw [decide_eq_false hv]
        have H := Lib.hid hfin
        have HI := Lib.hid hI
        clear hI hv hfin
        go_wp2_with (go_at_call 109; refine (inr_no _ _ HI.out _).mono ?_; rintro e w' ⟨rfl, hb'⟩)
        go_ret
        exact ⟨H.out, ((hB.alloc hB.size _)).trans (hb'.mono (by simp; have := hB.size; omega))⟩
      | true =>
        have HI := Lib.hid hI
        clear hI
        go_wp2_with (go_at_call 109; refine (inr_yes _ _ HI.out _).mono ?_; rintro e w' ⟨rfl, hb'⟩)
        go_roundw
        case rel => exact ⟨k + 1, by omega, by go_num, fun j hj => by
          by_cases e : j = k
          · subst e; exact (InF_iff _).1 HI.out
          · exact HIN.out j (by omega), (hB.alloc hB.size _).trans (hb'.mono (by simp; have := hB.size; omega))⟩
        case measure => simp [intOf]; omega
    · obtain rfl : k = l.length := by omega
      have hfin : Ending.returned (.bool true) = .returned (.bool (allInB l)) := by unfold allInB; rw [decide_eq_true (show AllIn l from HIN.out)]
      have H := Lib.hid hfin
      clear hfin
      go_wp2
      go_ret
      exact ⟨H.out, hB⟩
end Go.Proofs.Ytlikmlhlfbdchaa
namespace Go.Proofs.Ytlikmlhlfbdchaa
open Go.RowKit

def cmpI (a b : Int) : Int := if a < b then -1 else if b < a then 1 else 0
theorem cmpI_lt {a b : Int} (h : a < b) : cmpI a b = -1 := if_pos h
theorem cmpI_gt {a b : Int} (h : b < a) : cmpI a b = 1 := by unfold cmpI; rw [if_neg (by omega), if_pos h]
theorem cmpI_eq {a b : Int} (h : a = b) : cmpI a b = 0 := by unfold cmpI; rw [if_neg (by omega), if_neg (by omega)]

set_option maxHeartbeats 400000 in
theorem cmp_any (a b : Int) (w : World) : Calls Try.prog 132 #[.int .i64 a, .int .i64 b] w fun e w' => e = .returned (.int .i64 (cmpI a b)) ∧ w' = w := by
  rcases Int.lt_trichotomy a b with h | h | h
  · have H := Lib.hid (cmpI_lt h)
    go_enter Try.func132, Try.ntmps132
    go_wp2
    go_ret
    exact ⟨by rw [H.out]; rfl, rfl⟩
  · have H := Lib.hid (cmpI_eq h)
    have h1 : ¬ a < b := by omega
    have h2 : ¬ b < a := by omega
    clear h
    go_enter Try.func132, Try.ntmps132
    go_wp2
    go_ret
    exact ⟨by rw [H.out]; rfl, rfl⟩
  · have H := Lib.hid (cmpI_gt h)
    have h1 : ¬ a < b := by omega
    go_enter Try.func132, Try.ntmps132
    go_wp2
    go_ret
    exact ⟨by rw [H.out]; rfl, rfl⟩

def orI (a b : Int) : Int := if a = 0 then b else a
set_option maxHeartbeats 400000 in
theorem or_any (g : Nat) (a b : Int) (w : World) (h0 : w.cell? ⟨g, 0, none⟩ = some (.int .i64 a)) (h1 : w.cell? ⟨g, 1, none⟩ = some (.int .i64 b)) :
    Calls Try.prog 131 #[.slice (some ⟨g, 0, none⟩) 2 2] w fun e w' => e = .returned (.int .i64 (orI a b)) ∧ w' = w := by
  go_enter Try.func131, Try.ntmps131
  go_wp2
  go_loop [8] (fun i => ∃ k : Nat, k ≤ 2 ∧ i = .int .i64 k ∧ (1 ≤ k → a = 0) ∧ (2 ≤ k → b = 0)) (fun i => 2 - (intOf i).toNat)
  case atStart => exact ⟨0, by omega, rfl, fun h => absurd h (by omega), fun h => absurd h (by omega)⟩
  case round =>
    obtain ⟨k, hk, rfl, ha, hb⟩ := hrel
    have HA := Lib.hid ha
    have HB := Lib.hid hb
    clear ha hb
    have hk3 : k = 0 ∨ k = 1 ∨ k = 2 := by omega
    rcases hk3 with rfl | rfl | rfl
    · by_cases hz : a = 0
      · have hz1 : (a != 0) = false := by simp [hz]
        have HZ := Lib.hid hz
        clear hz
        go_wp2
        go_round
        case rel => exact ⟨1, by omega, by simp, fun _ => HZ.out, fun h => absurd h (by omega)⟩
        case measure => simp [intOf]
      · have hz1 : (a != 0) = true := by simp [hz]
        have HZ := Lib.hid hz
        clear hz
        go_wp2
        go_ret
        exact ⟨by unfold orI; rw [if_neg HZ.out]; rfl, rfl⟩
    · by_cases hz : b = 0
      · have hz1 : (b != 0) = false := by simp [hz]
        have HZ := Lib.hid hz
        clear hz
        go_wp2
        go_round
        case rel => exact ⟨2, by omega, by simp, fun _ => HA.out (by omega), fun _ => HZ.out⟩
        case measure => simp [intOf]
      · have hz1 : (b != 0) = true := by simp [hz]
        have HZ := Lib.hid hz
        clear hz
        go_wp2
        go_ret
        exact ⟨by unfold orI; rw [if_pos (HA.out (by omega))]; rfl, rfl⟩
    · go_wp2
      go_ret
      exact ⟨by unfold orI; rw [if_pos (HA.out (by omega)), HB.out (by omega)]; rfl, rfl⟩

theorem wp_region_tail {P : Program} {id : Nat} {Q : Exit → Act → World → Prop} {a : Act} {w : World} {l : List Oper} (n : Nat) (hm : P.follows .mixedOrders = true) (hB : Region.lexTailB .any l.toArray n = true)
    (h : ∀ W : World, W = w.drew → wpStill P l.toArray W (fun a' => wpList P l.toArray Q (l.drop n) a' W) (l.take n) a) : (Code.region id l.toArray true).wp P Q a w :=
  wp_region_still_tail n hm hB (h _ rfl)

/-- fromBelow -/
def fbI (p q : Geo.XY) : Int := orI (cmpI p.2 q.2) (cmpI p.1 q.1)
theorem fbI_low (p q : Geo.XY) : fbI p q < 0 ↔ Geo.low p q := by
  unfold fbI orI cmpI Geo.low
  rcases Int.lt_trichotomy p.2 q.2 with h | h | h <;> rcases Int.lt_trichotomy p.1 q.1 with h' | h' | h' <;> simp [*] <;> omega

set_option maxRecDepth 100000 in
set_option maxHeartbeats 400000 in
theorem fb_any (ax ay bx bY : Int) (w : World) : Calls Try.prog 127 #[.agg #[.int .i64 ax, .int .i64 ay], .agg #[.int .i64 bx, .int .i64 bY]] w fun e w' =>
    e = .returned (.int .i64 (fbI (ax, ay) (bx, bY))) ∧ Below w.heap.size w w' := by
  go_enter Try.func127, Try.ntmps127
  go_wp2
  refine wp_region_tail 10 (by kernel_rfl) (by kernel_rfl) fun W hW => ?_
  have f1 : W.cell? ⟨w.heap.size, 0, none⟩ = some (.int .i64 ax) := by rw [hW]; go_simp
  have f2 : W.cell? ⟨w.heap.size, 1, none⟩ = some (.int .i64 ay) := by rw [hW]; go_simp
  have f3 : W.cell? ⟨w.heap.size + 1, 0, none⟩ = some (.int .i64 bx) := by rw [hW]; go_simp
  have f4 : W.cell? ⟨w.heap.size + 1, 1, none⟩ = some (.int .i64 bY) := by rw [hW]; go_simp
  have hb : Below w.heap.size w W := by rw [hW]; exact (((Below.refl _ _).alloc (Nat.le_refl _) _).alloc (by simp) _).drew
  clear hW
  simp only [List.take_succ_cons, List.take_zero, List.drop_succ_cons, List.drop_zero]
  iterate 4 still_step
  still_call (cmp_any _ _ _)
  iterate 4 still_step
  still_call (cmp_any _ _ _)
  refine wpStill_nil ?_
  go_wp2_with fail
  refine (or_any W.heap.size (cmpI ay bY) (cmpI ax bx) _ (by go_simp) (by go_simp)).mono ?_
  rintro e w' ⟨rfl, rfl⟩
  go_wp2
  go_ret
  exact ⟨rfl, hb.alloc hb.size _⟩
end Go.Proofs.Ytlikmlhlfbdchaa
namespace Go.Proofs.Ytlikmlhlfbdchaa
open Go.RowKit Go.Shelf
attribute [local go_sem] Oper.semAt_some

/-- side k of a list of corners: its two ends -/
def sideEnc (l : List Geo.XY) (k : Nat) : Array Value := #[.agg #[.int .i64 (Geo.X l k).1, .int .i64 (Geo.X l k).2], .agg #[.int .i64 (Geo.X l ((k + 1) % l.length)).1, .int .i64 (Geo.X l ((k + 1) % l.length)).2]]

/-- what a round keeps: all that lay below n₀, and block Bs -/
def KeepsO (n₀ Bs : Nat) (W W' : World) : Prop := Below n₀ W W' ∧ W'.heap[Bs]? = W.heap[Bs]?
theorem KeepsO.trans {n₀ Bs : Nat} {A B C : World} (h : KeepsO n₀ Bs A B) (k : KeepsO n₀ Bs B C) : KeepsO n₀ Bs A C := ⟨h.1.trans k.1, k.2.trans h.2⟩
theorem KeepsO.refl (n₀ Bs : Nat) (A : World) : KeepsO n₀ Bs A A := ⟨Below.refl _ _, rfl⟩
theorem KeepsO.drew {n₀ Bs : Nat} {A B : World} (h : KeepsO n₀ Bs A B) : KeepsO n₀ Bs A B.drew := ⟨h.1.drew, h.2⟩
theorem KeepsO.alloc {n₀ Bs : Nat} {A B : World} (h : KeepsO n₀ Bs A B) (h1 : n₀ ≤ B.heap.size) (h2 : Bs < B.heap.size) (o : Obj) : KeepsO n₀ Bs A (B.alloc o) := ⟨h.1.alloc h1 o, (Below.heap_alloc B o Bs h2).trans h.2⟩

/-- how a round is left: on, or for good -/
def Went (J Jx : List Nat → World → Prop) (pre : List Nat) (n₀ Bs : Nat) (W : World) (bb : Bool) (W' : World) : Prop :=
  (bb = true ∧ J pre W' ∧ KeepsO n₀ Bs W W') ∨ (bb = false ∧ Jx pre W')

set_option maxRecDepth 100000 in
set_option maxHeartbeats 1000000 in
theorem sides1_in (n : Nat) (l Bs n₀ b off cap : Nat) (zs : List Geo.XY) (hz : 0 < zs.length) (hreach : zs.length ≤ 64) (hb : b < n₀)  (J Jx : List Nat → World → Prop)
    (hY : ∀ pre x W, J pre W → pre.length < zs.length → YieldAt Fence.wide (n - 1) Try.prog l (sideEnc zs x) W fun e W' =>
      (e = .returned (.bool true) ∧ J (pre ++ [x]) W' ∧ KeepsO n₀ Bs W W') ∨ (e = .returned (.bool false) ∧ Jx (pre ++ [x]) W'))
    (hJ : ∀ pre W o, J pre W → J pre (W.alloc o)) (hJd : ∀ pre W, J pre W → J pre W.drew)
    (W : World) (hn₀ : n₀ ≤ W.heap.size) (hBl : Bs < W.heap.size) (hBs : W.cell? ⟨Bs, 0, none⟩ = some (.slice (some ⟨b, off, none⟩) zs.length cap))
    (hc : ∀ k, k < zs.length → W.cell? ⟨b, off + k * 2, none⟩ = some (.int .i64 (Geo.X zs k).1) ∧ W.cell? ⟨b, off + k * 2 + 1, none⟩ = some (.int .i64 (Geo.X zs k).2)) (h0 : J [] W) :
    CallsIn Fence.wide n Try.prog 125 #[.func (.yield l) #[] #[], .pointer (some ⟨Bs, 0, none⟩)] W fun e W' => (∃ v, e = .returned v) ∧
      ((∃ ys, ys = List.range zs.length ∧ J ys W') ∨ (∃ pre, (∃ k, k ≤ zs.length ∧ pre = List.range k) ∧ Jx pre W')) := by
  have HC := Lib.hid hc
  clear hc
  refine callsIn_of_wp Try.func125 rfl trivial ?_ rfl
  simp only [Try.ntmps125, List.size_toArray, List.length_cons, List.length_nil, Nat.reduceAdd, Nat.reduceSub, Array.replicate_succ, Array.replicate_zero, List.push_toArray, List.append_toArray, List.nil_append, List.cons_append]
  gi_wp2
  gi_loopw [7] (fun i wr => ∃ k : Nat, k ≤ zs.length ∧ i = .int .i64 k ∧ J (List.range k) wr ∧ KeepsO n₀ Bs W wr)
    (fun i _ => zs.length - (intOf i).toNat)
  case atStart => exact ⟨0, Nat.zero_le _, rfl, h0, KeepsO.refl _ _ _⟩
  case round =>
    obtain ⟨k, hk, rfl, hJs, hnx⟩ := hrel
    by_cases hlt : k < zs.length
    · have c1 : wr.cell? ⟨b, off + k * 2, none⟩ = some (.int .i64 (Geo.X zs k).1) := (hnx.1.cell (p := ⟨b, off + k * 2, none⟩) hb).trans (HC.out k hlt).1
      have c2 : wr.cell? ⟨b, off + k * 2 + 1, none⟩ = some (.int .i64 (Geo.X zs k).2) := (hnx.1.cell (p := ⟨b, off + k * 2 + 1, none⟩) hb).trans (HC.out k hlt).2
      have c3 : wr.cell? ⟨Bs, 0, none⟩ = some (.slice (some ⟨b, off, none⟩) zs.length cap) := (World.cell?_of_block (w := W) (a := ⟨Bs, 0, none⟩) hnx.2).trans hBs
      obtain ⟨m, hm⟩ : ∃ m, m = (k + 1) % zs.length := ⟨_, rfl⟩
      have hml : m < zs.length := by rw [hm]; exact Nat.mod_lt _ hz
      have HM := Lib.hid hm
      have e3 : ((k : Int) + 1) % (zs.length : Int) = (m : Int) := by rw [hm]; simp
      have e2 : ((k : Int) + 1).tmod (zs.length : Int) = (m : Int) := by rw [Int.tmod_eq_emod_of_nonneg (show (0 : Int) ≤ (k : Int) + 1 by omega)]; exact e3
      have e1 : IntKind.i64.wrap ((k : Int) + 1) = (k : Int) + 1 := IntWalk.i64_in _ (by omega)
      have e4 : ¬ (zs.length : Int) = 0 := by omega
      have e4 : ¬ (zs.length : Int) = 0 := by clear e1 e2 e3; omega
      have e6 : ¬ zs.length = 0 := by omega
      have e7 : ¬ zs = [] := by intro h; rw [h] at hz; simp at hz
      clear hm
      gi_wp2
      obtain ⟨W2, hW2⟩ : ∃ W2, W2 = wr.alloc (.cells #[.int .i64 (Geo.X zs k).1, .int .i64 (Geo.X zs k).2] 76) := ⟨_, rfl⟩
      have hb2 : KeepsO n₀ Bs W W2 := by rw [hW2]; exact hnx.alloc (Nat.le_trans hn₀ hnx.1.size) (Nat.lt_of_lt_of_le hBl hnx.1.size) _
      have hJ2 : J (List.range k) W2 := by rw [hW2]; exact hJ _ _ _ hJs
      have f5 : W2.cell? ⟨wr.heap.size, 0, none⟩ = some (.int .i64 (Geo.X zs k).1) := by rw [hW2]; go_simp
      have f6 : W2.cell? ⟨wr.heap.size, 1, none⟩ = some (.int .i64 (Geo.X zs k).2) := by rw [hW2]; go_simp
      rw [← hW2]
      clear hW2 c1 c2 c3
      have c1 : W2.cell? ⟨b, off + m * 2, none⟩ = some (.int .i64 (Geo.X zs m).1) := (hb2.1.cell (p := ⟨b, off + m * 2, none⟩) hb).trans (HC.out m hml).1
      have c2 : W2.cell? ⟨b, off + m * 2 + 1, none⟩ = some (.int .i64 (Geo.X zs m).2) := (hb2.1.cell (p := ⟨b, off + m * 2 + 1, none⟩) hb).trans (HC.out m hml).2
      have c3 : W2.cell? ⟨Bs, 0, none⟩ = some (.slice (some ⟨b, off, none⟩) zs.length cap) := (World.cell?_of_block (w := W) (a := ⟨Bs, 0, none⟩) hb2.2).trans hBs
      obtain ⟨fn, tmps, assign, body, hy, hR⟩ := hY _ k W2.drew (hJd _ _ hJ2) (by rw [List.length_range]; exact hlt)
      dsimp only [sideEnc] at hy
      rw [← HM.out] at hy
      have hR' := hR.mono (R' := fun e W' => ∃ bb : Bool, e = .returned (.bool bb) ∧ Went J Jx (List.range k ++ [k]) n₀ Bs W2 bb W') (by
        rintro e W' (⟨h1, h2, h3⟩ | ⟨h1, h2⟩)
        · exact ⟨true, h1, .inl ⟨rfl, h2, ((KeepsO.refl n₀ Bs W2).drew).trans h3⟩⟩
        · exact ⟨false, h1, .inr ⟨rfl, h2⟩⟩)
      have HR := Lib.hid hR'
      clear hR' hR
      have hmix : Try.prog.follows .mixedOrders = true := by kernel_rfl
      gi_region_with_o ((refine ⟨fun h => (by cases h), ?_⟩; refine HR.out.mono ?_; rintro e W3 ⟨bb, rfl, hG⟩))
      all_goals
        rcases hG with ⟨rfl, hJ3, hk3⟩ | ⟨rfl, hJx3⟩
        · gi_wp2
          go_roundw
          case rel => exact ⟨k + 1, by omega, by simp, by rw [List.range_succ]; exact hJ3, hb2.trans hk3⟩
          case measure => simp [intOf]; omega
        · gi_wp2
          refine bodyPost_ret (results_none rfl _ _ _) rfl ?_
          exact ⟨⟨_, rfl⟩, .inr ⟨_, ⟨k + 1, by omega, List.range_succ.symm⟩, hJx3⟩⟩
    · obtain rfl : k = zs.length := by omega
      gi_wp2
      go_end0
      exact ⟨⟨_, rfl⟩, .inl ⟨_, rfl, hJs⟩⟩
end Go.Proofs.Ytlikmlhlfbdchaa
namespace Go.Proofs.Ytlikmlhlfbdchaa
open Go.RowKit Go.Shelf
attribute [local go_sem] Oper.semAt_some

/-- block g is just the cells cs -/
def Blk (w : World) (g : Nat) (t : TypeId) (cs : Array Value) : Prop := w.heap[g]? = some (.cells cs t (0, 0))
section
variable {w w' : World} {g : Nat} {t : TypeId} {cs : Array Value}
theorem Blk.lt (h : Blk w g t cs) : g < w.heap.size := by
  rcases Nat.lt_or_ge g w.heap.size with hlt | hge
  · exact hlt
  · unfold Blk at h; rw [Array.getElem?_eq_none hge] at h; cases h
theorem Blk.cell (h : Blk w g t cs) (i : Nat) : w.cell? ⟨g, i, none⟩ = cs[i]? := cell_of_row w g i cs t (0, 0) h
theorem Blk.frozen (h : Blk w g t cs) (i : Nat) : w.frozen? ⟨g, i, none⟩ = false := by
  unfold Blk at h
  simp [World.frozen?, h]
theorem Blk.new (w : World) (t : TypeId) (cs : Array Value) : Blk (w.alloc (.cells cs t)) w.heap.size t cs := World.alloc_heap_new w _
theorem Blk.drew (h : Blk w g t cs) : Blk w.drew g t cs := h
theorem Blk.alloc (h : Blk w g t cs) (o : Obj) : Blk (w.alloc o) g t cs := (Below.heap_alloc w o g h.lt).trans h
theorem Blk.set_ (h : Blk w g t cs) (i : Nat) (u : Value) : Blk (w.setCell ⟨g, i, none⟩ u) g t (cs.setIfInBounds i u) := by
  unfold Blk at h ⊢
  simp [World.setCell, Array.getElem?_modify, h]
theorem Blk.far (h : Blk w g t cs) {p : Addr} (hp : g ≠ p.block) (u : Value) : Blk (w.setCell p u) g t cs := (Below.heap_setCell w p u g hp).trans h
theorem Blk.below {B : Nat} (h : Blk w g t cs) (hb : Below B w w') (hg : g < B) : Blk w' g t cs := (hb.block g hg).trans h
theorem blk_own {β : Type} (B : Nat) (t : TypeId) (f : β → Array Value) : Own (fun s W => Blk W B t (f s)) := fun s X Y row hs hg hrow =>
  (hg.block B hs.lt (fun e' => by obtain ⟨_, ho, hc⟩ := hrow B e'.symm; rw [show X.heap[B]? = _ from hs] at ho; cases ho; cases hc)).trans hs
end
theorem keepsFrom_below {B : Nat} {W W' : World} (h : Below W.heap.size W W') : KeepsFrom B W W' :=
  ⟨h.size, fun k _ _ hk _ => (h.block k (Array.getElem?_eq_some_iff.1 hk).1).trans hk⟩

def xyA (p : Geo.XY) : Array Value := #[.int .i64 p.1, .int .i64 p.2]

set_option maxHeartbeats 400000 in
theorem rises_any (ax ay bx bY : Int) (w : World) : Calls Try.prog 112 #[.agg #[.int .i64 ax, .int .i64 ay], .agg #[.int .i64 bx, .int .i64 bY]] w fun e w' =>
    e = .returned (.bool (decide (Geo.low (ax, ay) (bx, bY)))) ∧ Below w.heap.size w w' := by
  go_enter Try.func112, Try.ntmps112
  go_wp2_with fail
  refine (fb_any _ _ _ _ _).mono ?_
  rintro e w' ⟨rfl, hb⟩
  go_wp2
  go_ret
  refine ⟨?_, (((Below.refl _ _).alloc (Nat.le_refl _) _).alloc (by simp) _).trans (hb.mono (by simp; omega))⟩
  have : decide (fbI (ax, ay) (bx, bY) < 0) = decide (Geo.low (ax, ay) (bx, bY)) := by
    simp only [fbI_low]
  exact congrArg (fun b => Ending.returned (.bool b)) this

set_option maxHeartbeats 400000 in
theorem sides_any (n : Nat) (a : Option Addr) (len cap : Nat) (w : World) :
    CallsIn Fence.wide n Try.prog 110 #[.slice a len cap] w fun e w' => e = .returned (.func (.func 125) #[] #[.pointer (some ⟨w.heap.size, 0, none⟩)]) ∧ w' = w.alloc (.cells #[.slice a len cap] 22) := by
  refine callsIn_of_wp Try.func110 rfl trivial ?_ rfl
  simp only [Try.ntmps110, List.size_toArray, List.length_cons, List.length_nil, Nat.reduceAdd, Nat.reduceSub, Array.replicate_succ, Array.replicate_zero, List.push_toArray, List.append_toArray, List.nil_append, List.cons_append]
  gi_wp2
  go_ret
  exact ⟨rfl, rfl⟩

theorem keepsO_b {n₀ Bs : Nat} {w : World} (hn : n₀ ≤ w.heap.size) (hBs : Bs < w.heap.size) (W : World) (l : Nat) (o o' : Obj) (hl : w.heap.size ≤ l) (h : W.heap[l]? = some o) (h1 : o.isCells = false) (h2 : o.isWalk = false) : KeepsO n₀ Bs W (W.putObj l o') :=
  ⟨belowK_b hn W l o o' hl h h1 h2, World.putObj_heap_other (by omega)⟩

theorem sides_stops (n : Nat) (Bs n₀ b off cap : Nat) (zs : List Geo.XY) (hz : 0 < zs.length) (hreach : zs.length ≤ 64) (w : World) (hBs : Bs < w.heap.size) (hn₀ : n₀ ≤ w.heap.size) (hb : b < n₀)
    (hc : w.cell? ⟨Bs, 0, none⟩ = some (.slice (some ⟨b, off, none⟩) zs.length cap))
    (hI : ∀ k, k < zs.length → w.cell? ⟨b, off + k * 2, none⟩ = some (.int .i64 (Geo.X zs k).1) ∧ w.cell? ⟨b, off + k * 2 + 1, none⟩ = some (.int .i64 (Geo.X zs k).2)) :
    SeqStopsK Fence.wide n Try.prog 125 #[.pointer (some ⟨Bs, 0, none⟩)] (sideEnc zs) (KeepsO n₀ Bs) (fun ys => ys = List.range zs.length) (fun pre => ∃ k, k ≤ zs.length ∧ pre = List.range k) zs.length w := fun l J Jx W hW hJ _ hY h0 => by
  refine sides1_in n l Bs n₀ b off cap zs hz hreach hb J Jx hY (fun pre W' o h => ?_) (fun pre W' h => ?_) W (Nat.le_trans hn₀ hW.size) (Nat.lt_of_lt_of_le hBs hW.size) ((hW.cell (p := ⟨Bs, 0, none⟩) hBs).trans hc) (fun k hk => ⟨(hW.cell (p := ⟨b, off + k * 2, none⟩) (by show b < _; omega)).trans (hI k hk).1, (hW.cell (p := ⟨b, off + k * 2 + 1, none⟩) (by show b < _; omega)).trans (hI k hk).2⟩) h0
  · exact hJ _ _ _ none h (World.grownBy_alloc W' o none) (fun r e => by cases e)
  · exact hJ _ _ _ none h ⟨rfl, rfl, rfl, Nat.le_refl _, fun _ _ _ => rfl⟩ (fun r e => by cases e)
end Go.Proofs.Ytlikmlhlfbdchaa
namespace Go.Proofs.Ytlikmlhlfbdchaa
open Go.RowKit Go.Shelf
attribute [local go_sem] Oper.semAt_some

/-- the state of turnsLeft when these sides have come: the corner before; whether all turns were left -/
def tlSt (l : List Geo.XY) (pre : List Nat) : Geo.XY × Bool :=
  pre.foldl (fun s k => (Geo.X l k, s.2 && decide (0 < Geo.turn s.1 (Geo.X l k) (Geo.X l ((k + 1) % l.length))))) (Geo.X l (l.length - 1), true)
theorem tlSt_snoc (l : List Geo.XY) (pre : List Nat) (k : Nat) : tlSt l (pre ++ [k]) = (Geo.X l k, (tlSt l pre).2 && decide (0 < Geo.turn (tlSt l pre).1 (Geo.X l k) (Geo.X l ((k + 1) % l.length)))) := by
  unfold tlSt
  rw [List.foldl_append]
  rfl
theorem tlSt_fst (l : List Geo.XY) (k : Nat) (hn : 0 < l.length) (hk : k ≤ l.length) : (tlSt l (List.range k)).1 = Geo.At l (k + l.length - 1) := by
  cases k with
  | zero => simp [tlSt]; rw [Geo.At_lt l (by omega)]
  | succ k => rw [List.range_succ, tlSt_snoc, show k + 1 + l.length - 1 = k + l.length by omega, Geo.At_per, Geo.At_lt l (by omega)]
theorem tlSt_snd (l : List Geo.XY) (k : Nat) (hk : k ≤ l.length) : (tlSt l (List.range k)).2 = true ↔ ∀ i, i < k → 0 < Geo.turn (Geo.At l (i + l.length - 1)) (Geo.At l i) (Geo.At l (i + 1)) := by
  induction k with
  | zero => simp [tlSt]
  | succ k ih =>
    have hn : 0 < l.length := by omega
    rw [List.range_succ, tlSt_snoc, tlSt_fst l k hn (by omega)]
    simp only [Bool.and_eq_true, decide_eq_true_eq]
    rw [ih (by omega)]
    have e1 : Geo.At l k = Geo.X l k := Geo.At_lt l (by omega)
    have e2 : Geo.At l (k + 1) = Geo.X l ((k + 1) % l.length) := by rw [← Geo.At_mod, Geo.At_lt l (Nat.mod_lt _ hn)]
    constructor
    · rintro ⟨h1, h2⟩ i hi
      by_cases e : i = k
      · subst e; rw [e1, e2]; exact h2
      · exact h1 i (by omega)
    · intro h
      refine ⟨fun i hi => h i (by omega), ?_⟩
      have := h k (by omega)
      rw [e1, e2] at this
      exact this
theorem tlSt_stop (l : List Geo.XY) (k : Nat) (hk : k ≤ l.length) (h : (tlSt l (List.range k)).2 = false) : (tlSt l (List.range l.length)).2 = false := by
  cases hh : (tlSt l (List.range l.length)).2 with
  | false => rfl
  | true =>
    have h1 := (tlSt_snd l l.length (Nat.le_refl _)).1 hh
    have h2 := (tlSt_snd l k hk).2 (fun i hi => h1 i (by omega))
    rw [h] at h2
    cases h2

/-- In of whatever index -/
theorem in_all {l : List Geo.XY} (h : AllIn l) (k : Nat) : Geo.In (Geo.X l k) := by
  by_cases hk : k < l.length
  · exact h k hk
  · unfold Geo.X Geo.In; rw [List.getElem?_eq_none (by omega)]; simp

set_option maxRecDepth 100000 in
set_option maxHeartbeats 2000000 in
theorem turnsleft_in (b off cap : Nat) (l : List Geo.XY) (h3 : 3 ≤ l.length) (h64 : l.length ≤ 64) (hin : AllIn l) (w : World) (hb : b < w.heap.size)
    (hc : ∀ k, k < l.length → w.cell? ⟨b, off + k * 2, none⟩ = some (.int .i64 (Geo.X l k).1) ∧ w.cell? ⟨b, off + k * 2 + 1, none⟩ = some (.int .i64 (Geo.X l k).2)) :
    CallsIn Fence.wide 5 Try.prog 86 #[.slice (some ⟨b, off, none⟩) l.length cap] w fun e W' => e = .returned (.bool (tlSt l (List.range l.length)).2) ∧ Below w.heap.size w W' := by
  have HC := Lib.hid hc
  have HIN := Lib.hid hin
  clear hc hin
  have c1 : w.cell? ⟨b, off + (l.length - 1) * 2, none⟩ = some (.int .i64 (Geo.X l (l.length - 1)).1) := (HC.out _ (by omega)).1
  have c2 : w.cell? ⟨b, off + (l.length - 1) * 2 + 1, none⟩ = some (.int .i64 (Geo.X l (l.length - 1)).2) := (HC.out _ (by omega)).2
  refine callsIn_of_wp_marks Try.func86 rfl trivial ?_ rfl
  simp only [Try.ntmps86, List.size_toArray, List.length_cons, List.length_nil, Nat.reduceAdd, Nat.reduceSub, Array.replicate_succ, Array.replicate_zero, List.push_toArray, List.append_toArray, List.nil_append, List.cons_append]
  gi_wp2_with (refine ⟨trivial, ?_⟩; gi_at_call 110; refine (sides_any _ _ _ _ _).mono ?_; rintro e w' ⟨rfl, rfl⟩)
  clear c1 c2
  have bR := ((Blk.new w 4 #[.bool false]).alloc (.cells (xyA (Geo.X l (l.length - 1))) 76)).alloc (.cells #[.slice (some ⟨b, off, none⟩) l.length cap] 22)
  have bB := (Blk.new (w.alloc (.cells #[.bool false] 4)) 76 (xyA (Geo.X l (l.length - 1)))).alloc (.cells #[.slice (some ⟨b, off, none⟩) l.length cap] 22)
  have bO := Blk.new ((w.alloc (.cells #[.bool false] 4)).alloc (.cells (xyA (Geo.X l (l.length - 1))) 76)) 22 #[.slice (some ⟨b, off, none⟩) l.length cap]
  have hB0 : Below w.heap.size w (((w.alloc (.cells #[.bool false] 4)).alloc (.cells (xyA (Geo.X l (l.length - 1))) 76)).alloc (.cells #[.slice (some ⟨b, off, none⟩) l.length cap] 22)) := (((Below.refl _ w).alloc (Nat.le_refl _) _).alloc (by simp) _).alloc (by simp; omega) _
  have hsz : (((w.alloc (.cells #[.bool false] 4)).alloc (.cells (xyA (Geo.X l (l.length - 1))) 76)).alloc (.cells #[.slice (some ⟨b, off, none⟩) l.length cap] 22)).heap.size = w.heap.size + 3 := by simp
  simp only [World.size_alloc] at bR bB bO
  unfold xyA at bB bO bR hB0 hsz
  obtain ⟨W0, hW0⟩ : ∃ W0, ((w.alloc (.cells #[.bool false] 4)).alloc (.cells #[.int .i64 (Geo.X l (l.length - 1)).1, .int .i64 (Geo.X l (l.length - 1)).2] 76)).alloc (.cells #[.slice (some ⟨b, off, none⟩) l.length cap] 22) = W0 := ⟨_, rfl⟩
  rw [hW0] at bR bB bO hB0 hsz ⊢
  clear hW0
  refine wpIn_rangeFunc_ownH rfl (by omega) (gf := 125) (lb := #[.pointer (some ⟨w.heap.size + 1 + 1, 0, none⟩)]) rfl trivial (enters_of Try.func125 (by kernel_rfl) rfl)
    (sides_stops (5 - 1) (w.heap.size + 1 + 1) w.heap.size b off cap l (by omega) h64 W0 (by omega) (by omega) hb (bO.cell 0) (fun k hk => ⟨(hB0.cell (p := ⟨b, off + k * 2, none⟩) hb).trans (HC.out k hk).1, (hB0.cell (p := ⟨b, off + k * 2 + 1, none⟩) hb).trans (HC.out k hk).2⟩))
    KeepsO.trans (keepsO_b (by omega) (by omega)) (Below.refl _ _) (fun _ => rfl)
    (fun pre W => (((Blk W (w.heap.size + 1) 76 (xyA (tlSt l pre).1) ∧ Blk W w.heap.size 4 #[.bool false]) ∧ Blk W (w.heap.size + 1 + 1) 22 #[.slice (some ⟨b, off, none⟩) l.length cap]) ∧ (tlSt l pre).2 = true) ∧ Below w.heap.size w W)
    (fun c pre W => ((fun (_ : List Nat) W => Blk W w.heap.size 4 #[.bool false]) pre W ∧ (c = .ret ∧ (tlSt l pre).2 = false)) ∧ Below w.heap.size w W)
    (OwnFrom.and (OwnFrom.and (OwnFrom.and (OwnFrom.and (Own.from (blk_own _ _ _) _) (Own.from (blk_own _ _ _) _)) (Own.from (blk_own _ _ _) _)) (fun _ _ _ _ hs _ _ => hs)) (ownFrom_below (Nat.le_refl _) (by omega)))
    (fun c => OwnFrom.and (OwnFrom.and (Own.from (blk_own _ _ _) _) (fun _ _ _ _ hs _ _ => hs)) (ownFrom_below (Nat.le_refl _) (by omega)))
    ⟨⟨⟨⟨bB, bR⟩, bO⟩, rfl⟩, hB0⟩
    (fun x a' W => ∃ Ba, (Blk W Ba 76 (xyA (Geo.X l x)) ∧ Blk W (Ba + 1) 76 (xyA (Geo.X l ((x + 1) % l.length)))) ∧ w.heap.size + 1 + 1 < Ba ∧ a' = { tmps := #[.slice (some ⟨b, off, none⟩) l.length cap, undef, .pointer (some ⟨w.heap.size, 0, none⟩), .pointer (some ⟨w.heap.size + 1, 0, none⟩), .pointer (some ⟨Ba, 0, none⟩), .pointer (some ⟨Ba + 1, 0, none⟩), .slice (some ⟨b, off, none⟩) l.length cap, .slice (some ⟨b, off, none⟩) l.length cap, .int .i64 l.length, .int .i64 ((l.length : Int) - 1), .pointer (some ⟨b, off + (l.length - 1) * 2, none⟩), .agg #[.int .i64 (Geo.X l (l.length - 1)).1, .int .i64 (Geo.X l (l.length - 1)).2], .slice (some ⟨b, off, none⟩) l.length cap, .func (.func 125) #[] #[.pointer (some ⟨w.heap.size + 1 + 1, 0, none⟩)], .agg #[.int .i64 (Geo.X l x).1, .int .i64 (Geo.X l x).2], .agg #[.int .i64 (Geo.X l ((x + 1) % l.length)).1, .int .i64 (Geo.X l ((x + 1) % l.length)).2], undef, undef, undef, undef, undef, undef], defers := [] })
    (fun x a' _ X Y row hs hg hr => by obtain ⟨Ba, ⟨h1, h2⟩, h4⟩ := hs; exact ⟨Ba, ⟨blk_own Ba 76 (fun (_ : Unit) => xyA (Geo.X l x)) () X Y row h1 hg (fun r e => (hr r e).2), blk_own (Ba + 1) 76 (fun (_ : Unit) => xyA (Geo.X l ((x + 1) % l.length))) () X Y row h2 hg (fun r e => (hr r e).2)⟩, h4⟩)
    ?assign ?body ?done ?stop
  case assign =>
    rintro lp pre x W K ⟨⟨⟨⟨b1, b2⟩, b0⟩, ht⟩, hB1⟩ hK
    have HT := Lib.hid ht
    clear ht
    have hsW := hB1.size
    have hl1 := b0.lt
    dsimp only [sideEnc]
    gi_wp2
    refine hK _ _ (((KeepsOthers.alloc _ _).trans (KeepsOthers.alloc _ _)).from _) (((KeepsO.refl _ _ W).alloc hsW (by omega) _).alloc (by simp; omega) (by simp; omega) _) ⟨⟨⟨⟨(b1.alloc _).alloc _, (b2.alloc _).alloc _⟩, (b0.alloc _).alloc _⟩, HT.out⟩, (hB1.alloc hsW _).alloc (by simp; omega) _⟩ ⟨W.heap.size, ⟨(Blk.new W 76 _).alloc _, ?_⟩, ?_, rfl⟩
    · have := Blk.new (W.alloc (.cells #[.int .i64 (Geo.X l x).1, .int .i64 (Geo.X l x).2] 76)) 76 (xyA (Geo.X l ((x + 1) % l.length)))
      rwa [World.size_alloc] at this
    · exact hl1
  case body =>
    rintro lp pre x a' W hlp ⟨r, hr⟩ ⟨⟨⟨⟨b1, b2⟩, b0⟩, ht⟩, hB1⟩ ⟨Ba, ⟨b3, b4⟩, hBa, rfl⟩ hlt
    have HT := Lib.hid ht
    clear ht
    obtain ⟨a1, a2, a3, a4⟩ := in_all HIN.out x
    obtain ⟨a5, a6, a7, a8⟩ := in_all HIN.out ((x + 1) % l.length)
    obtain ⟨a9, a10, a11, a12⟩ : Geo.In (tlSt l pre).1 := by
      rcases List.eq_nil_or_concat pre with h | ⟨p, k, h⟩
      · rw [h]; exact in_all HIN.out _
      · rw [h, List.concat_eq_append, tlSt_snoc]; exact in_all HIN.out _
    have hsn := tlSt_snoc l pre x
    have HS := Lib.hid hsn
    clear hsn
    have d1 := b1.cell 0
    have d2 := b1.cell 1
    have d3 := b3.cell 0
    have d4 := b3.cell 1
    have d5 := b4.cell 0
    have d6 := b4.cell 1
    simp only [xyA, List.getElem?_toArray, List.getElem?_cons_zero, List.getElem?_cons_succ] at d1 d2 d3 d4 d5 d6
    generalize hS1 : (tlSt l pre).1 = s1 at *
    generalize hX1 : Geo.X l x = x1 at *
    generalize hX2 : Geo.X l ((x + 1) % l.length) = x2 at *
    clear hS1 hX1 hX2
    have hl1 := b1.lt
    have hl2 := b2.lt
    have hl3 := b3.lt
    have hl4 := b4.lt
    have hl0 := b0.lt
    gi_wp2_with (refine ⟨trivial, ?_⟩; gi_at_call 111; refine (CallsIn.inRound lp (callsIn_wide.2 (turn_any _ _ _ _ _ _ (by omega) (by omega) (by omega) (by omega) (by omega) (by omega) (by omega) (by omega) (by omega) (by omega) (by omega) (by omega) _))).mono ?_; rintro e w' ⟨rfl, hb'⟩; have q1 := (b2.below hb' hl2).cell 0; have q2 := (b2.below hb' hl2).frozen 0; have q3 := (b3.below hb' hl3).cell 0; have q4 := (b3.below hb' hl3).cell 1; have q5 := (b1.below hb' hl1).cell 0; have q6 := (b1.below hb' hl1).cell 1; have q7 := (b1.below hb' hl1).frozen 0; have q8 := (b1.below hb' hl1).frozen 1; simp only [xyA, List.getElem?_toArray, List.getElem?_cons_zero, List.getElem?_cons_succ] at q1 q3 q4 q5 q6)
    · have hle : (x1.1 - s1.1) * (x2.2 - x1.2) - (x1.2 - s1.2) * (x2.1 - x1.1) ≤ 0 := by assumption
      refine ⟨(keepsFrom_below hb').trans ((KeepsOthers.setCell _ _ _).from _), ⟨(b2.below hb' hl2).set_ 0 _, rfl, ?_⟩, (hB1.trans (hb'.mono hB1.size)).setCell (p := ⟨w.heap.size, 0, none⟩) (Nat.le_refl _) _⟩
      rw [HS.out, HT.out]
      simp only [Bool.true_and, decide_eq_false_iff_not]
      unfold Geo.turn Geo.cr Geo.sub
      simp only
      omega
    · have hgt : ¬ (x1.1 - s1.1) * (x2.2 - x1.2) - (x1.2 - s1.2) * (x2.1 - x1.1) ≤ 0 := by omega
      have hst : tlSt l (pre ++ [x]) = (x1, true) := by
        rw [HS.out, HT.out]
        simp only [Bool.true_and, Prod.mk.injEq, true_and, decide_eq_true_eq]
        unfold Geo.turn Geo.cr Geo.sub
        simp only
        omega
      refine ⟨?_, ?_, ⟨⟨⟨?_, ?_⟩, ?_⟩, ?_⟩, ?_⟩
      · exact (keepsFrom_below hb').trans (((KeepsOthers.setCell _ _ _).trans (KeepsOthers.setCell _ _ _)).from _)
      · refine ⟨((hb'.mono hB1.size).setCell (p := ⟨w.heap.size + 1, 0, none⟩) (by simp) _).setCell (p := ⟨w.heap.size + 1, 1, none⟩) (by simp) _, ?_⟩
        exact (((b0.below hb' hl0).far (p := ⟨w.heap.size + 1, 0, none⟩) (by simp) _).far (p := ⟨w.heap.size + 1, 1, none⟩) (by simp) _).trans b0.symm
      · rw [hst]
        exact ((b1.below hb' hl1).set_ 0 _).set_ 1 _
      · exact ((b2.below hb' hl2).far (p := ⟨w.heap.size + 1, 0, none⟩) (by simp) _).far (p := ⟨w.heap.size + 1, 1, none⟩) (by simp) _
      · exact ((b0.below hb' hl0).far (p := ⟨w.heap.size + 1, 0, none⟩) (by simp) _).far (p := ⟨w.heap.size + 1, 1, none⟩) (by simp) _
      · rw [hst]
      · exact ((hB1.trans (hb'.mono hB1.size)).setCell (p := ⟨w.heap.size + 1, 0, none⟩) (by simp) _).setCell (p := ⟨w.heap.size + 1, 1, none⟩) (by simp) _
  case done =>
    rintro D ys W hD rfl ⟨⟨⟨⟨b1, b2⟩, b0⟩, ht⟩, hB1⟩ hK
    have HT := Lib.hid ht
    clear ht
    have q1 := b2.cell 0
    have q2 := b2.frozen 0
    simp only [List.getElem?_toArray, List.getElem?_cons_zero] at q1
    gi_wp2
    have hK' := (KeepsOthers.setCell W ⟨w.heap.size, 0, none⟩ (.bool true)).same D _ hK rfl
    refine ⟨by simp, .inl ⟨_, _, rfl, run_takeDeferred hK', ?_⟩⟩
    have hc5 := cell_kept (World.cell?_setCell_same' W ⟨w.heap.size, 0, none⟩ (.bool true) (by rw [q1]; rfl)) (grownBy_putObj' _ D (.deferred none)) (fun r e => by cases e; exact ⟨_, hK', rfl⟩)
    refine ⟨.bool true, ?_, by rw [HT.out], (hB1.setCell (p := ⟨w.heap.size, 0, none⟩) (Nat.le_refl _) _).trans (belowK_b (w := w) (Nat.le_refl _) _ D _ _ (by omega) hK' rfl rfl)⟩
    simp [results, Try.f86, go_sem, hc5]
  case stop =>
    rintro D c pre W hD ⟨k, hk, rfl⟩ ⟨⟨b2, rfl, ht⟩, hB1⟩ hK
    have HT := Lib.hid (tlSt_stop l k hk ht)
    clear ht
    have q1 := b2.cell 0
    simp only [List.getElem?_toArray, List.getElem?_cons_zero] at q1
    gi_wp2
    refine ⟨by simp, .inl ⟨_, _, rfl, run_takeDeferred hK, ?_⟩⟩
    have hc5 := cell_kept q1 (grownBy_putObj' _ D (.deferred none)) (fun r e => by cases e; exact ⟨_, hK, rfl⟩)
    refine ⟨.bool false, ?_, by rw [HT.out], hB1.trans (belowK_b (w := w) (Nat.le_refl _) _ D _ _ (by omega) hK rfl rfl)⟩
    simp [results, Try.f86, go_sem, hc5]
end Go.Proofs.Ytlikmlhlfbdchaa
namespace Go.Proofs.Ytlikmlhlfbdchaa
open Go.RowKit Go.Shelf
attribute [local go_sem] Oper.semAt_some

/-- the state of rounds: how often the way began to rise; whether it rose -/
def rdSt (l : List Geo.XY) (pre : List Nat) : Nat × Bool :=
  pre.foldl (fun s k => (s.1 + (if decide (Geo.low (Geo.X l k) (Geo.X l ((k + 1) % l.length))) && !s.2 then 1 else 0), decide (Geo.low (Geo.X l k) (Geo.X l ((k + 1) % l.length))))) (0, decide (Geo.low (Geo.X l (l.length - 1)) (Geo.X l 0)))

theorem cell_ext {w w' : World} (h : Below w.heap.size w w') {p : Addr} {v : Value} (hp : w.cell? p = some v) : w'.cell? p = some v := Ext.cell ⟨w', h⟩ hp

theorem rdSt_snoc (l : List Geo.XY) (pre : List Nat) (k : Nat) : rdSt l (pre ++ [k]) = ((rdSt l pre).1 + (if decide (Geo.low (Geo.X l k) (Geo.X l ((k + 1) % l.length))) && !(rdSt l pre).2 then 1 else 0), decide (Geo.low (Geo.X l k) (Geo.X l ((k + 1) % l.length)))) := by
  unfold rdSt
  rw [List.foldl_append]
  rfl
theorem rdSt_le (l : List Geo.XY) (pre : List Nat) (k : Nat) (h : (rdSt l pre).1 ≤ pre.length) : (rdSt l (pre ++ [k])).1 ≤ (pre ++ [k]).length := by
  rw [rdSt_snoc]
  simp only [List.length_append, List.length_singleton]
  split <;> omega
theorem rises_b (ax ay bx bY : Int) (bb : Bool) (h : decide (Geo.low (ax, ay) (bx, bY)) = bb) (w : World) : Calls Try.prog 112 #[.agg #[.int .i64 ax, .int .i64 ay], .agg #[.int .i64 bx, .int .i64 bY]] w fun e w' =>
    e = .returned (.bool bb) ∧ Below w.heap.size w w' :=
  (rises_any ax ay bx bY w).mono fun e w' ⟨he, hb⟩ => ⟨by rw [he, h], hb⟩

/-- behind 'rose := ..': a new box holds it -/
def Mid (W : World) (g : Nat) (r : Bool) (w' : World) : Prop := Below W.heap.size W w' ∧ Blk w' g 4 #[.bool r] ∧ W.heap.size ≤ g

set_option maxRecDepth 100000 in
set_option maxHeartbeats 2000000 in
theorem rounds_in (b off cap : Nat) (l : List Geo.XY) (h3 : 3 ≤ l.length) (h64 : l.length ≤ 64) (w : World) (hb : b < w.heap.size)
    (hc : ∀ k, k < l.length → w.cell? ⟨b, off + k * 2, none⟩ = some (.int .i64 (Geo.X l k).1) ∧ w.cell? ⟨b, off + k * 2 + 1, none⟩ = some (.int .i64 (Geo.X l k).2)) :
    CallsIn Fence.wide 5 Try.prog 87 #[.slice (some ⟨b, off, none⟩) l.length cap] w fun e W' => e = .returned (.int .i64 (rdSt l (List.range l.length)).1) ∧ Below w.heap.size w W' := by
  have HC := Lib.hid hc
  clear hc
  have c1 : w.cell? ⟨b, off + (l.length - 1) * 2, none⟩ = some (.int .i64 (Geo.X l (l.length - 1)).1) := (HC.out _ (by omega)).1
  have c2 : w.cell? ⟨b, off + (l.length - 1) * 2 + 1, none⟩ = some (.int .i64 (Geo.X l (l.length - 1)).2) := (HC.out _ (by omega)).2
  have c3 : w.cell? ⟨b, off, none⟩ = some (.int .i64 (Geo.X l 0).1) := by have := (HC.out 0 (by omega)).1; rwa [Nat.zero_mul, Nat.add_zero] at this
  have c4 : w.cell? ⟨b, off + 1, none⟩ = some (.int .i64 (Geo.X l 0).2) := by have := (HC.out 0 (by omega)).2; rwa [Nat.zero_mul, Nat.add_zero] at this
  refine callsIn_of_wp_marks Try.func87 rfl trivial ?_ rfl
  simp only [Try.ntmps87, List.size_toArray, List.length_cons, List.length_nil, Nat.reduceAdd, Nat.reduceSub, Array.replicate_succ, Array.replicate_zero, List.push_toArray, List.append_toArray, List.nil_append, List.cons_append]
  gi_wp2
  obtain ⟨W, hW⟩ : ∃ W, w.alloc (.cells #[.int .i64 0] 3) = W := ⟨_, rfl⟩
  have bN : Blk W w.heap.size 3 #[.int .i64 0] := by rw [← hW]; exact Blk.new _ _ _
  have hB : Below w.heap.size w W := by rw [← hW]; exact (Below.refl _ _).alloc (Nat.le_refl _) _
  have hsz : W.heap.size = w.heap.size + 1 := by rw [← hW]; simp
  rw [hW]
  clear hW
  replace c1 := cell_ext hB c1
  replace c2 := cell_ext hB c2
  replace c3 := cell_ext hB c3
  replace c4 := cell_ext hB c4
  have hne : ¬ b = W.heap.size := by omega
  have hne' : ¬ W.heap.size = b := by omega
  have hS := Lib.hid hsz
  clear hsz
  have g1 : (0 : Int) ≤ (l.length : Int) - 1 := by omega
  have g2 : (l.length : Int) - 1 < (l.length : Int) := by omega
  have g3 : IntKind.i64.wrap ((l.length : Int) - 1) = (l.length : Int) - 1 := IntWalk.i64_in _ (by omega)
  have g4 : ((l.length : Int) - 1).toNat = l.length - 1 := by omega
  have g5 : (0 : Int) < (l.length : Int) := by omega
  have g6 : (1 : Int) ≤ (l.length : Int) := by omega
  have g7 : 0 < l.length := by omega
  have g8 : ¬ l = [] := by intro h; rw [h] at g7; simp at g7
  have g9 : 1 ≤ l.length := by omega
  refine wpIn_wide.2 ?_
  refine Code.wp_mono (Q := fun e a' w' => e = .normal ∧ ∃ g, Mid W g (decide (Geo.low (Geo.X l (l.length - 1)) (Geo.X l 0))) w' ∧ a' = { tmps := #[.slice (some ⟨b, off, none⟩) l.length cap, undef, .int .i64 0, .pointer (some ⟨w.heap.size, 0, none⟩), .pointer (some ⟨g, 0, none⟩), undef, undef, undef, .slice (some ⟨b, off, none⟩) l.length cap, .slice (some ⟨b, off, none⟩) l.length cap, .int .i64 l.length, .int .i64 ((l.length : Int) - 1), .pointer (some ⟨b, off + (l.length - 1) * 2, none⟩), .agg #[.int .i64 (Geo.X l (l.length - 1)).1, .int .i64 (Geo.X l (l.length - 1)).2], .slice (some ⟨b, off, none⟩) l.length cap, .pointer (some ⟨b, off, none⟩), .agg #[.int .i64 (Geo.X l 0).1, .int .i64 (Geo.X l 0).2], .bool (decide (Geo.low (Geo.X l (l.length - 1)) (Geo.X l 0))), undef, undef, undef, undef, undef, undef, undef, undef, undef, undef, undef, undef, undef, undef, undef, undef], defers := [] }) ?goon ?region
  case region =>
   go_region_held3 (fun w' => w'.cell? ⟨b, off + (l.length - 1) * 2, none⟩ = some (.int .i64 (Geo.X l (l.length - 1)).1) ∧ w'.cell? ⟨b, off + (l.length - 1) * 2 + 1, none⟩ = some (.int .i64 (Geo.X l (l.length - 1)).2) ∧ w'.cell? ⟨b, off, none⟩ = some (.int .i64 (Geo.X l 0).1) ∧ w'.cell? ⟨b, off + 1, none⟩ = some (.int .i64 (Geo.X l 0).2)) (go_keep)
     (first | (go_at_call 112; refine (rises_any _ _ _ _ _).mono ?_; rintro e w' ⟨rfl, hb'⟩; have z1 : w'.cell? ⟨b, off + (l.length - 1) * 2, none⟩ = some (.int .i64 (Geo.X l (l.length - 1)).1) := cell_ext hb' (by go_keep); have z2 : w'.cell? ⟨b, off + (l.length - 1) * 2 + 1, none⟩ = some (.int .i64 (Geo.X l (l.length - 1)).2) := cell_ext hb' (by go_keep); have z3 : w'.cell? ⟨b, off, none⟩ = some (.int .i64 (Geo.X l 0).1) := cell_ext hb' (by go_keep); have z4 : w'.cell? ⟨b, off + 1, none⟩ = some (.int .i64 (Geo.X l 0).2) := cell_ext hb' (by go_keep); have z5 := fun h => hb'.cell (p := ⟨W.heap.size, 0, none⟩) h; have z6 := fun h => hb'.frozen (p := ⟨W.heap.size, 0, none⟩) h))
   · refine ⟨rfl, w'.heap.size, ⟨?_, ?_, ?_⟩, rfl⟩
     · exact ((Below.refl _ W).drew.trans hb').alloc hb'.size _
     · exact Blk.new _ _ _
     · exact hb'.size
   · refine ⟨rfl, W.heap.size, ⟨?_, ?_, ?_⟩, rfl⟩
     · exact ((((Below.refl _ W).alloc (Nat.le_refl _) _).drew).trans (hb'.mono (by simp))).setCell (p := ⟨W.heap.size, 0, none⟩) (Nat.le_refl _) _
     · exact (((Blk.new W 4 #[.bool false]).drew.below hb' (by simp)).set_ 0 _)
     · exact Nat.le_refl _
  case goon =>
    rintro _ _ w2 ⟨rfl, g, ⟨hBM, bG, hg⟩, rfl⟩
    clear c1 c2 c3 c4 g1 g2 g3 g4 g8
    gi_wp2_with (refine ⟨trivial, ?_⟩; gi_at_call 110; refine (sides_any _ _ _ _ _).mono ?_; rintro e w' ⟨rfl, rfl⟩)
    have hS1 := hS.out
    have bN2 := (bN.below hBM (by omega)).alloc (.cells #[.slice (some ⟨b, off, none⟩) l.length cap] 22)
    have bG2 := bG.alloc (.cells #[.slice (some ⟨b, off, none⟩) l.length cap] 22)
    have bO := Blk.new w2 22 #[.slice (some ⟨b, off, none⟩) l.length cap]
    have hB2 : Below w.heap.size w (w2.alloc (.cells #[.slice (some ⟨b, off, none⟩) l.length cap] 22)) := (hB.trans (hBM.mono (by omega))).alloc (by have := hBM.size; omega) _
    have hg2 := bG.lt
    have hsz : (w2.alloc (.cells #[.slice (some ⟨b, off, none⟩) l.length cap] 22)).heap.size = w2.heap.size + 1 := by simp
    have hgw : w.heap.size < g := by omega
    have hw2 : w.heap.size + 1 ≤ w2.heap.size := by have := hBM.size; omega
    obtain ⟨W0, hW0⟩ : ∃ W0, w2.alloc (.cells #[.slice (some ⟨b, off, none⟩) l.length cap] 22) = W0 := ⟨_, rfl⟩
    rw [hW0] at bN2 bG2 bO hB2 hsz ⊢
    clear hW0 hS1 bN bG
    obtain ⟨S, hSS⟩ : ∃ S, S = w2.heap.size := ⟨_, rfl⟩
    rw [← hSS] at bO hg2 hsz hw2 ⊢
    clear hSS hBM
    refine wpIn_rangeFunc_ownH rfl (by omega) (gf := 125) (lb := #[.pointer (some ⟨S, 0, none⟩)]) rfl trivial (enters_of Try.func125 (by kernel_rfl) rfl)
      (sides_stops (5 - 1) S w.heap.size b off cap l (by omega) h64 W0 (by omega) (by omega) hb (bO.cell 0) (fun k hk => ⟨(hB2.cell (p := ⟨b, off + k * 2, none⟩) hb).trans (HC.out k hk).1, (hB2.cell (p := ⟨b, off + k * 2 + 1, none⟩) hb).trans (HC.out k hk).2⟩))
      KeepsO.trans (keepsO_b (by omega) (by omega)) (Below.refl _ _) (fun _ => rfl)
      (fun pre W => (((Blk W w.heap.size 3 #[.int .i64 (rdSt l pre).1] ∧ Blk W g 4 #[.bool (rdSt l pre).2]) ∧ Blk W S 22 #[.slice (some ⟨b, off, none⟩) l.length cap]) ∧ (rdSt l pre).1 ≤ pre.length) ∧ Below w.heap.size w W)
      (fun _ _ _ => False)
      (OwnFrom.and (OwnFrom.and (OwnFrom.and (OwnFrom.and (Own.from (blk_own _ _ _) _) (Own.from (blk_own _ _ _) _)) (Own.from (blk_own _ _ _) _)) (fun _ _ _ _ hs _ _ => hs)) (ownFrom_below (Nat.le_refl _) (by omega)))
      (fun _ _ _ _ _ hs _ _ => hs)
      ⟨⟨⟨⟨bN2, bG2⟩, bO⟩, Nat.zero_le _⟩, hB2⟩
      (fun x a' W => ∃ Ba, (Blk W Ba 76 (xyA (Geo.X l x)) ∧ Blk W (Ba + 1) 76 (xyA (Geo.X l ((x + 1) % l.length)))) ∧ S < Ba ∧ a' = { tmps := #[.slice (some ⟨b, off, none⟩) l.length cap, undef, .int .i64 0, .pointer (some ⟨w.heap.size, 0, none⟩), .pointer (some ⟨g, 0, none⟩), .pointer (some ⟨Ba, 0, none⟩), .pointer (some ⟨Ba + 1, 0, none⟩), undef, .slice (some ⟨b, off, none⟩) l.length cap, .slice (some ⟨b, off, none⟩) l.length cap, .int .i64 l.length, .int .i64 ((l.length : Int) - 1), .pointer (some ⟨b, off + (l.length - 1) * 2, none⟩), .agg #[.int .i64 (Geo.X l (l.length - 1)).1, .int .i64 (Geo.X l (l.length - 1)).2], .slice (some ⟨b, off, none⟩) l.length cap, .pointer (some ⟨b, off, none⟩), .agg #[.int .i64 (Geo.X l 0).1, .int .i64 (Geo.X l 0).2], .bool (decide (Geo.low (Geo.X l (l.length - 1)) (Geo.X l 0))), .slice (some ⟨b, off, none⟩) l.length cap, .func (.func 125) #[] #[.pointer (some ⟨S, 0, none⟩)], .agg #[.int .i64 (Geo.X l x).1, .int .i64 (Geo.X l x).2], .agg #[.int .i64 (Geo.X l ((x + 1) % l.length)).1, .int .i64 (Geo.X l ((x + 1) % l.length)).2], undef, undef, undef, undef, undef, undef, undef, undef, undef, undef, undef, undef], defers := [] })
      (fun x a' _ X Y row hs hg hr => by obtain ⟨Ba, ⟨h1, h2⟩, h4⟩ := hs; exact ⟨Ba, ⟨blk_own Ba 76 (fun (_ : Unit) => xyA (Geo.X l x)) () X Y row h1 hg (fun r e => (hr r e).2), blk_own (Ba + 1) 76 (fun (_ : Unit) => xyA (Geo.X l ((x + 1) % l.length))) () X Y row h2 hg (fun r e => (hr r e).2)⟩, h4⟩)
      ?assign ?body ?done ?stop
    case assign =>
      rintro lp pre x W K ⟨⟨⟨⟨b1, b2⟩, b0⟩, ht⟩, hB1⟩ hK
      have hsW := hB1.size
      have hl1 := b0.lt
      dsimp only [sideEnc]
      gi_wp2
      refine hK _ _ (((KeepsOthers.alloc _ _).trans (KeepsOthers.alloc _ _)).from _) (((KeepsO.refl _ _ W).alloc hsW (by omega) _).alloc (by simp; omega) (by simp; omega) _) ⟨⟨⟨⟨(b1.alloc _).alloc _, (b2.alloc _).alloc _⟩, (b0.alloc _).alloc _⟩, ht⟩, (hB1.alloc hsW _).alloc (by simp; omega) _⟩ ⟨W.heap.size, ⟨(Blk.new W 76 _).alloc _, ?_⟩, ?_, rfl⟩
      · have := Blk.new (W.alloc (.cells #[.int .i64 (Geo.X l x).1, .int .i64 (Geo.X l x).2] 76)) 76 (xyA (Geo.X l ((x + 1) % l.length)))
        rwa [World.size_alloc] at this
      · exact hl1
    case body =>
      rintro lp pre x a' W hlp ⟨r, hr⟩ ⟨⟨⟨⟨b1, b2⟩, b0⟩, ht⟩, hB1⟩ ⟨Ba, ⟨b3, b4⟩, hBa, rfl⟩ hlt
      have hle := rdSt_le l pre x ht
      have hsn := rdSt_snoc l pre x
      have HLE := Lib.hid hle
      have HS := Lib.hid hsn
      clear hsn hle
      have d1 := b1.cell 0
      have d1f := b1.frozen 0
      have d2 := b2.cell 0
      have d3 := b3.cell 0
      have d4 := b3.cell 1
      have d5 := b4.cell 0
      have d6 := b4.cell 1
      simp only [xyA, List.getElem?_toArray, List.getElem?_cons_zero, List.getElem?_cons_succ] at d1 d2 d3 d4 d5 d6
      have hl1 := b1.lt
      have hl2 := b2.lt
      have hl3 := b3.lt
      have hl4 := b4.lt
      have hl0 := b0.lt
      generalize hS1 : (rdSt l pre).1 = cnt at *
      generalize hX1 : Geo.X l x = x1 at *
      generalize hX2 : Geo.X l ((x + 1) % l.length) = x2 at *
      clear hS1 hX1 hX2
      cases hnow : decide (Geo.low x1 x2) with
      | false =>
        have HN := Lib.hid hnow
        clear hnow
        gi_wp2_with (refine ⟨trivial, ?_⟩; gi_at_call 112; refine (CallsIn.inRound lp (callsIn_wide.2 (rises_b _ _ _ _ false HN.out _))).mono ?_; rintro e w' ⟨rfl, hb'⟩; have q1 := (b2.below hb' hl2).cell 0; have q2 := (b2.below hb' hl2).frozen 0; simp only [List.getElem?_toArray, List.getElem?_cons_zero] at q1)
        have hst : rdSt l (pre ++ [x]) = (cnt, false) := by rw [HS.out, HN.out]; rfl
        refine ⟨?_, ?_, ⟨⟨⟨?_, ?_⟩, ?_⟩, HLE.out⟩, ?_⟩
        · exact (keepsFrom_below hb').trans ((KeepsOthers.setCell _ _ _).from _)
        · exact ⟨(hb'.mono hB1.size).setCell (p := ⟨g, 0, none⟩) (by simp; omega) _, ((b0.below hb' hl0).far (p := ⟨g, 0, none⟩) (by simp; omega) _).trans b0.symm⟩
        · rw [hst]; exact (b1.below hb' hl1).far (p := ⟨g, 0, none⟩) (by simp; omega) _
        · rw [hst]; exact (b2.below hb' hl2).set_ 0 _
        · exact (b0.below hb' hl0).far (p := ⟨g, 0, none⟩) (by simp; omega) _
        · exact (hB1.trans (hb'.mono hB1.size)).setCell (p := ⟨g, 0, none⟩) (by simp; omega) _
      | true =>
        have HN := Lib.hid hnow
        clear hnow
        cases hrose : (rdSt l pre).2 with
        | true =>
          rw [hrose] at b2 d2
          have HR := Lib.hid hrose
          clear hrose
          gi_wp2_with (refine ⟨trivial, ?_⟩; gi_at_call 112; refine (CallsIn.inRound lp (callsIn_wide.2 (rises_b _ _ _ _ true HN.out _))).mono ?_; rintro e w' ⟨rfl, hb'⟩; have q1 := (b2.below hb' hl2).cell 0; have q2 := (b2.below hb' hl2).frozen 0; simp only [List.getElem?_toArray, List.getElem?_cons_zero] at q1)
          have hst : rdSt l (pre ++ [x]) = (cnt, true) := by rw [HS.out, HN.out, HR.out]; rfl
          refine ⟨?_, ?_, ⟨⟨⟨?_, ?_⟩, ?_⟩, HLE.out⟩, ?_⟩
          · exact (keepsFrom_below hb').trans ((KeepsOthers.setCell _ _ _).from _)
          · exact ⟨(hb'.mono hB1.size).setCell (p := ⟨g, 0, none⟩) (by simp; omega) _, ((b0.below hb' hl0).far (p := ⟨g, 0, none⟩) (by simp; omega) _).trans b0.symm⟩
          · rw [hst]; exact (b1.below hb' hl1).far (p := ⟨g, 0, none⟩) (by simp; omega) _
          · rw [hst]; exact (b2.below hb' hl2).set_ 0 _
          · exact (b0.below hb' hl0).far (p := ⟨g, 0, none⟩) (by simp; omega) _
          · exact (hB1.trans (hb'.mono hB1.size)).setCell (p := ⟨g, 0, none⟩) (by simp; omega) _
        | false =>
          rw [hrose] at b2 d2
          have HR := Lib.hid hrose
          clear hrose
          have hcnt : cnt ≤ 64 := by omega
          gi_wp2_with fail
          refine ⟨trivial, ?_⟩
          refine (CallsIn.inRound lp (callsIn_wide.2 (rises_b _ _ _ _ true HN.out _))).mono ?_
          rintro e w' ⟨rfl, hb'⟩
          have q1 := (b2.below hb' hl2).cell 0
          have q2 := (b2.below hb' hl2).frozen 0
          have q3 := (b1.below hb' hl1).cell 0
          have q4 := (b1.below hb' hl1).frozen 0
          have q5 : ¬ g = w.heap.size := by omega
          have q6 : ¬ w.heap.size = g := by omega
          simp only [List.getElem?_toArray, List.getElem?_cons_zero] at q1 q3
          gi_wp2
          have hst : rdSt l (pre ++ [x]) = (cnt + 1, true) := by rw [HS.out, HN.out, HR.out]; rfl
          refine ⟨?_, ?_, ⟨⟨⟨?_, ?_⟩, ?_⟩, HLE.out⟩, ?_⟩
          · exact (keepsFrom_below hb').trans (((KeepsOthers.setCell _ _ _).trans (KeepsOthers.setCell _ _ _)).from _)
          · exact ⟨((hb'.mono hB1.size).setCell (p := ⟨w.heap.size, 0, none⟩) (by simp) _).setCell (p := ⟨g, 0, none⟩) (by simp; omega) _, (((b0.below hb' hl0).far (p := ⟨w.heap.size, 0, none⟩) (by simp; omega) _).far (p := ⟨g, 0, none⟩) (by simp; omega) _).trans b0.symm⟩
          · rw [hst]
            have := ((b1.below hb' hl1).set_ 0 (.int .i64 ((cnt : Int) + 1))).far (p := ⟨g, 0, none⟩) (by simp; omega) (.bool true)
            exact this
          · rw [hst]; exact ((b2.below hb' hl2).far (p := ⟨w.heap.size, 0, none⟩) (by simp; omega) _).set_ 0 _
          · exact ((b0.below hb' hl0).far (p := ⟨w.heap.size, 0, none⟩) (by simp; omega) _).far (p := ⟨g, 0, none⟩) (by simp; omega) _
          · exact ((hB1.trans (hb'.mono hB1.size)).setCell (p := ⟨w.heap.size, 0, none⟩) (by simp) _).setCell (p := ⟨g, 0, none⟩) (by simp; omega) _
    case done =>
      rintro D ys W hD rfl ⟨⟨⟨⟨b1, b2⟩, b0⟩, ht⟩, hB1⟩ hK
      have q1 := b1.cell 0
      simp only [List.getElem?_toArray, List.getElem?_cons_zero] at q1
      gi_wp2
      refine ⟨by simp, .inl ⟨_, _, rfl, run_takeDeferred hK, ?_⟩⟩
      exact ⟨_, results_tmp rfl _ _ _, rfl, hB1.trans (belowK_b (w := w) (Nat.le_refl _) _ D _ _ (by omega) hK rfl rfl)⟩
    case stop =>
      rintro D c pre W _ _ h _
      exact h.elim
end Go.Proofs.Ytlikmlhlfbdchaa
namespace Go.Proofs.Ytlikmlhlfbdchaa
open Go.RowKit Go.Shelf

theorem low_edge (l : List Geo.XY) (k : Nat) (hk : k < l.length) : Geo.low (Geo.X l k) (Geo.X l ((k + 1) % l.length)) ↔ Geo.up (Geo.edge (Geo.At l) k) := by
  rw [Geo.low_up]
  unfold Geo.edge
  rw [Geo.At_lt l hk, ← Geo.At_mod l (k + 1), Geo.At_lt l (Nat.mod_lt _ (by omega))]
theorem rdSt_val (l : List Geo.XY) (h3 : 3 ≤ l.length) (k : Nat) (hk : k ≤ l.length) :
    (rdSt l (List.range k)).1 = Geo.rds (Geo.At l) l.length k ∧ (rdSt l (List.range k)).2 = decide (Geo.up (Geo.edge (Geo.At l) (k + l.length - 1))) := by
  induction k with
  | zero =>
    refine ⟨rfl, ?_⟩
    have : (rdSt l (List.range 0)).2 = decide (Geo.low (Geo.X l (l.length - 1)) (Geo.X l 0)) := rfl
    rw [this]
    have e := low_edge l (l.length - 1) (by omega)
    rw [show l.length - 1 + 1 = l.length by omega, Nat.mod_self] at e
    rw [Nat.zero_add]
    exact decide_eq_decide.2 e
  | succ k ih =>
    obtain ⟨h1, h2⟩ := ih (by omega)
    rw [List.range_succ, rdSt_snoc, h1, h2]
    have e := low_edge l k (by omega)
    have hd : decide (Geo.low (Geo.X l k) (Geo.X l ((k + 1) % l.length))) = decide (Geo.up (Geo.edge (Geo.At l) k)) := decide_eq_decide.2 e
    constructor
    · simp only
      rw [Geo.rds, hd]
      unfold Geo.ind
      by_cases u1 : Geo.up (Geo.edge (Geo.At l) k) <;> by_cases u2 : Geo.up (Geo.edge (Geo.At l) (k + l.length - 1)) <;> simp [u1, u2]
    · simp only
      rw [hd, show k + 1 + l.length - 1 = k + l.length by omega, Geo.edge_per (Geo.At_per l)]

theorem valid_of_parts (l : List Geo.XY) (h3 : 3 ≤ l.length) (h64 : l.length ≤ 64) (hin : AllIn l) : Valid l ↔ ((tlSt l (List.range l.length)).2 = true ∧ (rdSt l (List.range l.length)).1 = 1) := by
  rw [tlSt_snd l _ (Nat.le_refl _), (rdSt_val l h3 _ (Nat.le_refl _)).1]
  have := Geo.valid_iff l h3
  unfold Geo.DLoc at this
  rw [this]
  exact ⟨fun h => h.2.2.2, fun h => ⟨h3, h64, hin, h⟩⟩
theorem not_valid_in {l : List Geo.XY} (h : ¬ AllIn l) : ¬ Valid l := fun hv => h hv.2.2.1

theorem turnsleft_any (b off cap : Nat) (l : List Geo.XY) (h3 : 3 ≤ l.length) (h64 : l.length ≤ 64) (hin : AllIn l) (w : World) (hb : b < w.heap.size)
    (hc : ∀ k, k < l.length → w.cell? ⟨b, off + k * 2, none⟩ = some (.int .i64 (Geo.X l k).1) ∧ w.cell? ⟨b, off + k * 2 + 1, none⟩ = some (.int .i64 (Geo.X l k).2)) (r : Bool) (hr : (tlSt l (List.range l.length)).2 = r) :
    Calls Try.prog 86 #[.slice (some ⟨b, off, none⟩) l.length cap] w fun e W' => e = .returned (.bool r) ∧ Below w.heap.size w W' := by
  subst hr
  exact callsIn_wide.1 (turnsleft_in b off cap l h3 h64 hin w hb hc)
theorem rounds_any (b off cap : Nat) (l : List Geo.XY) (h3 : 3 ≤ l.length) (h64 : l.length ≤ 64) (w : World) (hb : b < w.heap.size)
    (hc : ∀ k, k < l.length → w.cell? ⟨b, off + k * 2, none⟩ = some (.int .i64 (Geo.X l k).1) ∧ w.cell? ⟨b, off + k * 2 + 1, none⟩ = some (.int .i64 (Geo.X l k).2)) (n : Nat) (hn : (rdSt l (List.range l.length)).1 = n) :
    Calls Try.prog 87 #[.slice (some ⟨b, off, none⟩) l.length cap] w fun e W' => e = .returned (.int .i64 n) ∧ Below w.heap.size w W' := by
  subst hn
  exact callsIn_wide.1 (rounds_in b off cap l h3 h64 w hb hc)
theorem allin_b (A : Option Addr) (l : List Geo.XY) (c : Nat) (w : World) (hr : Pts w A l) (hl : l.length ≤ 140737488355328) (r : Bool) (h : allInB l = r) :
    Calls Try.prog 85 #[.slice A l.length c] w fun e w' => e = .returned (.bool r) ∧ Below w.heap.size w w' := by
  subst h; exact allin_any A l c w hr hl

set_option maxHeartbeats 1000000 in
theorem dvalid_any (A : Option Addr) (l : List Geo.XY) (c : Nat) (w : World) (h : Pts w A l) :
    Calls Try.prog 48 #[.slice A l.length c] w fun e w' => e = .returned (.bool (validB l)) ∧ Below w.heap.size w w' := by
  by_cases h0 : l.length < 3
  · have H := Lib.hid (ret_false (l := l) (fun hv => by have := hv.1; omega))
    go_enter Try.func48, Try.ntmps48
    go_wp2
    go_ret
    exact ⟨H.out, Below.refl _ _⟩
  by_cases h1 : 64 < l.length
  · have H := Lib.hid (ret_false (l := l) (fun hv => by have := hv.2.1; omega))
    go_enter Try.func48, Try.ntmps48
    go_wp2
    go_ret
    exact ⟨H.out, Below.refl _ _⟩
  have HP := Lib.hid h
  clear h
  cases hin : allInB l with
  | false =>
    have H := Lib.hid (ret_false (l := l) (not_valid_in (by unfold allInB at hin; simpa using hin)))
    have HI := Lib.hid hin
    clear hin
    go_enter Try.func48, Try.ntmps48
    go_wp2_with (go_at_call 85; refine (allin_b _ _ _ _ HP.out (by omega) false HI.out).mono ?_; rintro e w' ⟨rfl, hb'⟩)
    go_ret
    exact ⟨H.out, hb'⟩
  | true =>
    have hall : AllIn l := by unfold allInB at hin; simpa using hin
    have HI := Lib.hid hin
    have HA := Lib.hid hall
    have hiff := valid_of_parts l (by omega) (by omega) hall
    have HV := Lib.hid hiff
    clear hin hall hiff
    rcases HP.out with h | ⟨b, off, rfl, hb, hc⟩
    · rw [h] at h0; simp at h0
    have HC := Lib.hid hc
    clear hc
    cases ht : (tlSt l (List.range l.length)).2 with
    | false =>
      have H := Lib.hid (ret_false (l := l) (fun hv => by have := (HV.out.1 hv).1; rw [ht] at this; cases this))
      have HT := Lib.hid ht
      clear ht
      go_enter Try.func48, Try.ntmps48
      go_wp2_with (first | (go_at_call 85; refine (allin_b _ _ _ _ HP.out (by omega) true HI.out).mono ?_; rintro e w1 ⟨rfl, hb1⟩) | (go_at_call 86; refine (turnsleft_any b off _ l (by omega) (by omega) HA.out _ (Nat.lt_of_lt_of_le hb hb1.size) (fun k hk => ⟨(hb1.cell (p := ⟨b, off + k * 2, none⟩) hb).trans (HC.out k hk).1, (hb1.cell (p := ⟨b, off + k * 2 + 1, none⟩) hb).trans (HC.out k hk).2⟩) false HT.out).mono ?_; rintro e w2 ⟨rfl, hb2⟩))
      go_ret
      exact ⟨H.out, hb1.trans (hb2.mono hb1.size)⟩
    | true =>
      have HT := Lib.hid ht
      clear ht
      obtain ⟨n, hn⟩ : ∃ n, (rdSt l (List.range l.length)).1 = n := ⟨_, rfl⟩
      have HN := Lib.hid hn
      clear hn
      by_cases h1 : n = 1
      · have H := Lib.hid (ret_true (l := l) (HV.out.2 ⟨HT.out, HN.out.trans h1⟩))
        subst h1
        go_enter Try.func48, Try.ntmps48
        go_wp2_with (first | (go_at_call 85; refine (allin_b _ _ _ _ HP.out (by omega) true HI.out).mono ?_; rintro e w1 ⟨rfl, hb1⟩) | (go_at_call 86; refine (turnsleft_any b off _ l (by omega) (by omega) HA.out _ (Nat.lt_of_lt_of_le hb hb1.size) (fun k hk => ⟨(hb1.cell (p := ⟨b, off + k * 2, none⟩) hb).trans (HC.out k hk).1, (hb1.cell (p := ⟨b, off + k * 2 + 1, none⟩) hb).trans (HC.out k hk).2⟩) true HT.out).mono ?_; rintro e w2 ⟨rfl, hb2⟩) | (go_at_call 87; refine (rounds_any b off _ l (by omega) (by omega) _ (Nat.lt_of_lt_of_le hb (Nat.le_trans hb1.size hb2.size)) (fun k hk => ⟨((hb1.trans (hb2.mono hb1.size)).cell (p := ⟨b, off + k * 2, none⟩) hb).trans (HC.out k hk).1, ((hb1.trans (hb2.mono hb1.size)).cell (p := ⟨b, off + k * 2 + 1, none⟩) hb).trans (HC.out k hk).2⟩) 1 HN.out).mono ?_; rintro e w3 ⟨rfl, hb3⟩))
        go_ret
        exact ⟨H.out, (hb1.trans (hb2.mono hb1.size)).trans (hb3.mono (Nat.le_trans hb1.size hb2.size))⟩
      · have H := Lib.hid (ret_false (l := l) (fun hv => h1 (HN.out.symm.trans (HV.out.1 hv).2)))
        have hne : ((n : Int) == 1) = false := by simp; omega
        have H1 := Lib.hid h1
        clear h1
        go_enter Try.func48, Try.ntmps48
        go_wp2_with (first | (go_at_call 85; refine (allin_b _ _ _ _ HP.out (by omega) true HI.out).mono ?_; rintro e w1 ⟨rfl, hb1⟩) | (go_at_call 86; refine (turnsleft_any b off _ l (by omega) (by omega) HA.out _ (Nat.lt_of_lt_of_le hb hb1.size) (fun k hk => ⟨(hb1.cell (p := ⟨b, off + k * 2, none⟩) hb).trans (HC.out k hk).1, (hb1.cell (p := ⟨b, off + k * 2 + 1, none⟩) hb).trans (HC.out k hk).2⟩) true HT.out).mono ?_; rintro e w2 ⟨rfl, hb2⟩) | (go_at_call 87; refine (rounds_any b off _ l (by omega) (by omega) _ (Nat.lt_of_lt_of_le hb (Nat.le_trans hb1.size hb2.size)) (fun k hk => ⟨((hb1.trans (hb2.mono hb1.size)).cell (p := ⟨b, off + k * 2, none⟩) hb).trans (HC.out k hk).1, ((hb1.trans (hb2.mono hb1.size)).cell (p := ⟨b, off + k * 2 + 1, none⟩) hb).trans (HC.out k hk).2⟩) n HN.out).mono ?_; rintro e w3 ⟨rfl, hb3⟩))
        go_ret
        exact ⟨H.out, (hb1.trans (hb2.mono hb1.size)).trans (hb3.mono (Nat.le_trans hb1.size hb2.size))⟩
end Go.Proofs.Ytlikmlhlfbdchaa
namespace Go.Proofs.Ytlikmlhlfbdchaa
open Go.RowKit Go.Shelf

/-- the rounded-down root, as the program reckons it -/
theorem fsq_up (n : Nat) (h : ¬ Geo.csq n * Geo.csq n = n) : ((Geo.csq n : Int) - 1) = (Geo.fsq n : Int) := by
  have := Geo.fsq_of_csq n
  rw [if_neg h] at this
  have h2 : 0 < Geo.csq n := by
    rcases Nat.eq_zero_or_pos (Geo.csq n) with h0 | h0
    · have h1 := (Geo.csq_spec n).1
      rw [h0] at h1 h
      omega
    · exact h0
  omega

/-- the greatest square of the first k corners' distances from the middle -/
def farK (l : List Geo.XY) : Nat → Nat
  | 0 => 0
  | k + 1 => max (farK l k) (((Geo.X l k).1 * (Geo.X l k).1 + (Geo.X l k).2 * (Geo.X l k).2).toNat)
theorem sq_bd {x : Int} (h1 : -5000 ≤ x) (h2 : x ≤ 5000) : 0 ≤ x * x ∧ x * x ≤ 25000000 := by
  have := mul_bd (a := x) (b := x) (A := 5000) (B := 5000) (by omega) (by omega) (by omega) (by omega)
  have h3 : 0 ≤ x * x := by
    rcases Int.le_total 0 x with h | h
    · exact Int.mul_nonneg h h
    · exact Int.mul_nonneg_of_nonpos_of_nonpos h h
  omega
theorem farK_le (l : List Geo.XY) (h : AllIn l) (k : Nat) : farK l k ≤ 50000000 := by
  induction k with
  | zero => simp [farK]
  | succ k ih =>
    obtain ⟨a1, a2, a3, a4⟩ := in_all h k
    have s1 := sq_bd a1 a2
    have s2 := sq_bd a3 a4
    rw [farK]
    omega

theorem farK_step {l : List Geo.XY} (h : AllIn l) (k : Nat) : Value.int .i64 (if ((farK l k : Nat) : Int) < (Geo.X l k).1 * (Geo.X l k).1 + (Geo.X l k).2 * (Geo.X l k).2 then (Geo.X l k).1 * (Geo.X l k).1 + (Geo.X l k).2 * (Geo.X l k).2 else ((farK l k : Nat) : Int)) = .int .i64 ((farK l (k + 1) : Nat) : Int) := by
  obtain ⟨a1, a2, a3, a4⟩ := in_all h k
  have s1 := sq_bd a1 a2
  have s2 := sq_bd a3 a4
  congr 1
  rw [farK]
  split <;> omega

end Go.Proofs.Ytlikmlhlfbdchaa
namespace Go.Proofs.Ytlikmlhlfbdchaa
open Go.RowKit Go.Shelf
attribute [local go_sem] Oper.semAt_some

theorem dvalid_b (A : Option Addr) (l : List Geo.XY) (c : Nat) (w : World) (h : Pts w A l) (r : Bool) (hr : validB l = r) :
    Calls Try.prog 48 #[.slice A l.length c] w fun e w' => e = .returned (.bool r) ∧ Below w.heap.size w w' := by subst hr; exact dvalid_any A l c w h
theorem rvalid_b (A : Option Addr) (l : List Geo.XY) (c : Nat) (w : World) (h : Pts w A l) (r : Bool) (hr : validB l = r) :
    Calls Try.prog 51 #[.slice A l.length c] w fun e w' => e = .returned (.bool r) ∧ Below w.heap.size w w' := by subst hr; exact rvalid_any A l c w h
theorem valid_of {l : List Geo.XY} (h : validB l = true) : Valid l := by unfold validB at h; simpa using h
theorem Valid.allin {l : List Geo.XY} (h : Valid l) : AllIn l := h.2.2.1

/-- a value with its error: the value where the outline is valid -/
noncomputable def okOr (l : List Geo.XY) (z v : Value) : Ending := if validB l = true then .returned (.tuple #[v, .int .i64 0]) else .returned (.tuple #[z, .int .i64 10])
theorem okOr_yes {l : List Geo.XY} (h : validB l = true) (z v : Value) : okOr l z v = .returned (.tuple #[v, .int .i64 0]) := if_pos h
theorem okOr_no {l : List Geo.XY} (h : validB l = false) (z v : Value) : okOr l z v = .returned (.tuple #[z, .int .i64 10]) := by unfold okOr; rw [h]; rfl

def arSt (l : List Geo.XY) (pre : List Nat) : Int := pre.foldl (fun s k => s + Geo.cr (Geo.X l k) (Geo.X l ((k + 1) % l.length))) 0
theorem arSt_snoc (l : List Geo.XY) (pre : List Nat) (k : Nat) : arSt l (pre ++ [k]) = arSt l pre + Geo.cr (Geo.X l k) (Geo.X l ((k + 1) % l.length)) := by
  unfold arSt; rw [List.foldl_append]; rfl
theorem cr_bd {l : List Geo.XY} (h : AllIn l) (i j : Nat) : -50000000 ≤ Geo.cr (Geo.X l i) (Geo.X l j) ∧ Geo.cr (Geo.X l i) (Geo.X l j) ≤ 50000000 := by
  obtain ⟨a1, a2, a3, a4⟩ := in_all h i
  obtain ⟨a5, a6, a7, a8⟩ := in_all h j
  obtain ⟨m1, m2⟩ := mul_bd (a := (Geo.X l i).1) (b := (Geo.X l j).2) (A := 5000) (B := 5000) (by omega) (by omega) (by omega) (by omega)
  obtain ⟨m3, m4⟩ := mul_bd (a := (Geo.X l i).2) (b := (Geo.X l j).1) (A := 5000) (B := 5000) (by omega) (by omega) (by omega) (by omega)
  unfold Geo.cr
  omega
def ArOk (l : List Geo.XY) (pre : List Nat) : Prop := -(50000000 * (pre.length : Int)) ≤ arSt l pre ∧ arSt l pre ≤ 50000000 * (pre.length : Int)
theorem ArOk.snoc {l : List Geo.XY} (h : AllIn l) {pre : List Nat} (hp : ArOk l pre) (k : Nat) : ArOk l (pre ++ [k]) := by
  have := cr_bd h k ((k + 1) % l.length)
  unfold ArOk at *
  rw [arSt_snoc, List.length_append, List.length_singleton]
  omega
theorem arSt_area (l : List Geo.XY) (k : Nat) (hk : k ≤ l.length) : arSt l (List.range k) = Geo.areaK l k := by
  induction k with
  | zero => rfl
  | succ k ih =>
    rw [List.range_succ, arSt_snoc, ih (by omega), Geo.areaK, Geo.At_lt l (i := k) (by omega), ← Geo.At_mod l (k + 1), Geo.At_lt l (Nat.mod_lt _ (by omega))]

set_option maxRecDepth 100000 in
set_option maxHeartbeats 2000000 in
theorem area_in (b off cap : Nat) (l : List Geo.XY) (hval : validB l = true) (w : World) (hb : b < w.heap.size)
    (hc : ∀ k, k < l.length → w.cell? ⟨b, off + k * 2, none⟩ = some (.int .i64 (Geo.X l k).1) ∧ w.cell? ⟨b, off + k * 2 + 1, none⟩ = some (.int .i64 (Geo.X l k).2)) :
    CallsIn Fence.wide 5 Try.prog 103 #[.slice (some ⟨b, off, none⟩) l.length cap] w fun e W' => e = .returned (.tuple #[.int .i64 (Geo.areaK l l.length), .int .i64 0]) ∧ Below w.heap.size w W' := by
  have HV := Lib.hid hval
  have hva := valid_of hval
  have h3 := hva.1
  have h64 := hva.2.1
  have HIN := Lib.hid hva.allin
  clear hval hva
  have HC := Lib.hid hc
  have HP : Hid (Pts w (some ⟨b, off, none⟩) l) := Lib.hid (.inr ⟨b, off, rfl, hb, hc⟩)
  clear hc
  refine callsIn_of_wp_marks Try.func103 rfl trivial ?_ rfl
  simp only [Try.ntmps103, List.size_toArray, List.length_cons, List.length_nil, Nat.reduceAdd, Nat.reduceSub, Array.replicate_succ, Array.replicate_zero, List.push_toArray, List.append_toArray, List.nil_append, List.cons_append]
  gi_wp2_with (first | (refine ⟨trivial, ?_⟩; gi_at_call 48; refine (callsIn_wide.2 (dvalid_b _ _ _ _ HP.out true HV.out)).mono ?_; rintro e w1 ⟨rfl, hb1⟩) | (refine ⟨trivial, ?_⟩; gi_at_call 110; refine (sides_any _ _ _ _ _).mono ?_; rintro e w' ⟨rfl, rfl⟩))
  have hs1 := hb1.size
  have bA := (Blk.new w1 3 #[.int .i64 0]).alloc (.cells #[.slice (some ⟨b, off, none⟩) l.length cap] 22)
  have bO := Blk.new (w1.alloc (.cells #[.int .i64 0] 3)) 22 #[.slice (some ⟨b, off, none⟩) l.length cap]
  rw [World.size_alloc] at bO
  have hB0 : Below w.heap.size w ((w1.alloc (.cells #[.int .i64 0] 3)).alloc (.cells #[.slice (some ⟨b, off, none⟩) l.length cap] 22)) := (hb1.alloc hs1 _).alloc (by simp; omega) _
  have hsz : ((w1.alloc (.cells #[.int .i64 0] 3)).alloc (.cells #[.slice (some ⟨b, off, none⟩) l.length cap] 22)).heap.size = w1.heap.size + 2 := by simp
  obtain ⟨W0, hW0⟩ : ∃ W0, (w1.alloc (.cells #[.int .i64 0] 3)).alloc (.cells #[.slice (some ⟨b, off, none⟩) l.length cap] 22) = W0 := ⟨_, rfl⟩
  rw [hW0] at bA bO hB0 hsz ⊢
  clear hW0
  obtain ⟨S, hSS⟩ : ∃ S, S = w1.heap.size := ⟨_, rfl⟩
  rw [← hSS] at bA bO hsz hs1 ⊢
  clear hSS hb1
  refine wpIn_rangeFunc_ownH rfl (by omega) (gf := 125) (lb := #[.pointer (some ⟨S + 1, 0, none⟩)]) rfl trivial (enters_of Try.func125 (by kernel_rfl) rfl)
    (sides_stops (5 - 1) (S + 1) w.heap.size b off cap l (by omega) h64 W0 (by omega) (by omega) hb (bO.cell 0) (fun k hk => ⟨(hB0.cell (p := ⟨b, off + k * 2, none⟩) hb).trans (HC.out k hk).1, (hB0.cell (p := ⟨b, off + k * 2 + 1, none⟩) hb).trans (HC.out k hk).2⟩))
    KeepsO.trans (keepsO_b (by omega) (by omega)) (Below.refl _ _) (fun _ => rfl)
    (fun pre W => ((Blk W S 3 #[.int .i64 (arSt l pre)] ∧ Blk W (S + 1) 22 #[.slice (some ⟨b, off, none⟩) l.length cap]) ∧ ArOk l pre) ∧ Below w.heap.size w W)
    (fun _ _ _ => False)
    (OwnFrom.and (OwnFrom.and (OwnFrom.and (Own.from (blk_own _ _ _) _) (Own.from (blk_own _ _ _) _)) (fun _ _ _ _ hs _ _ => hs)) (ownFrom_below (Nat.le_refl _) (by omega)))
    (fun _ _ _ _ _ hs _ _ => hs)
    ⟨⟨⟨bA, bO⟩, ⟨by simp [arSt], by simp [arSt]⟩⟩, hB0⟩
    (fun x a' W => ∃ Ba, (Blk W Ba 76 (xyA (Geo.X l x)) ∧ Blk W (Ba + 1) 76 (xyA (Geo.X l ((x + 1) % l.length)))) ∧ S + 1 < Ba ∧ a' = { tmps := #[.slice (some ⟨b, off, none⟩) l.length cap, undef, .int .i64 0, .int .i64 0, .pointer (some ⟨S, 0, none⟩), .pointer (some ⟨Ba, 0, none⟩), .pointer (some ⟨Ba + 1, 0, none⟩), .slice (some ⟨b, off, none⟩) l.length cap, .bool true, .bool false, .slice (some ⟨b, off, none⟩) l.length cap, .func (.func 125) #[] #[.pointer (some ⟨S + 1, 0, none⟩)], .agg #[.int .i64 (Geo.X l x).1, .int .i64 (Geo.X l x).2], .agg #[.int .i64 (Geo.X l ((x + 1) % l.length)).1, .int .i64 (Geo.X l ((x + 1) % l.length)).2], undef, undef, undef, undef, undef, undef], defers := [] })
    (fun x a' _ X Y row hs hg hr => by obtain ⟨Ba, ⟨h1, h2⟩, h4⟩ := hs; exact ⟨Ba, ⟨blk_own Ba 76 (fun (_ : Unit) => xyA (Geo.X l x)) () X Y row h1 hg (fun r e => (hr r e).2), blk_own (Ba + 1) 76 (fun (_ : Unit) => xyA (Geo.X l ((x + 1) % l.length))) () X Y row h2 hg (fun r e => (hr r e).2)⟩, h4⟩)
    ?assign ?body ?done ?stop
  case assign =>
    rintro lp pre x W K ⟨⟨⟨b1, b0⟩, ht⟩, hB1⟩ hK
    have HT := Lib.hid ht
    clear ht
    have hsW := hB1.size
    have hl1 := b0.lt
    dsimp only [sideEnc]
    gi_wp2
    refine hK _ _ (((KeepsOthers.alloc _ _).trans (KeepsOthers.alloc _ _)).from _) (((KeepsO.refl _ _ W).alloc hsW (by omega) _).alloc (by simp; omega) (by simp; omega) _) ⟨⟨⟨(b1.alloc _).alloc _, (b0.alloc _).alloc _⟩, HT.out⟩, (hB1.alloc hsW _).alloc (by simp; omega) _⟩ ⟨W.heap.size, ⟨(Blk.new W 76 _).alloc _, ?_⟩, ?_, rfl⟩
    · have := Blk.new (W.alloc (.cells #[.int .i64 (Geo.X l x).1, .int .i64 (Geo.X l x).2] 76)) 76 (xyA (Geo.X l ((x + 1) % l.length)))
      rwa [World.size_alloc] at this
    · exact hl1
  case body =>
    rintro lp pre x a' W hlp ⟨r, hr⟩ ⟨⟨⟨b1, b0⟩, ht⟩, hB1⟩ ⟨Ba, ⟨b3, b4⟩, hBa, rfl⟩ hlt
    have hok := ht.snoc HIN.out x
    have hsn := arSt_snoc l pre x
    have HOK := Lib.hid hok
    have HS := Lib.hid hsn
    obtain ⟨t1, t2⟩ := ht
    clear hok hsn
    obtain ⟨a1, a2, a3, a4⟩ := in_all HIN.out x
    obtain ⟨a5, a6, a7, a8⟩ := in_all HIN.out ((x + 1) % l.length)
    obtain ⟨a9, a10⟩ := cr_bd HIN.out x ((x + 1) % l.length)
    unfold Geo.cr at a9 a10
    have d1 := b1.cell 0
    have d1f := b1.frozen 0
    have d3 := b3.cell 0
    have d4 := b3.cell 1
    have d5 := b4.cell 0
    have d6 := b4.cell 1
    simp only [xyA, List.getElem?_toArray, List.getElem?_cons_zero, List.getElem?_cons_succ] at d1 d3 d4 d5 d6
    have hl1 := b1.lt
    have hl3 := b3.lt
    have hl4 := b4.lt
    have hl0 := b0.lt
    generalize hS1 : arSt l pre = cnt at *
    generalize hX1 : Geo.X l x = x1 at *
    generalize hX2 : Geo.X l ((x + 1) % l.length) = x2 at *
    clear hS1 hX1 hX2
    have hmix : Try.prog.follows .mixedOrders = true := by kernel_rfl
    have e1 : IntKind.i64.wrap (cnt + (x1.1 * x2.2 - x1.2 * x2.1)) = cnt + (x1.1 * x2.2 - x1.2 * x2.1) := IntWalk.i64_in _ (by omega)
    gi_wp2
    gi_region_with_o ((refine ⟨trivial, ?_⟩; gi_at_call 121; refine (CallsIn.inRound lp (callsIn_wide.2 (cross72_any _ _ _ _ (by omega) (by omega) (by omega) (by omega) (by omega) (by omega) (by omega) (by omega) _))).mono ?_; rintro e w' ⟨rfl, hb'⟩; have q1 := (b1.drew.below hb' hl1).cell 0; have q2 := (b1.drew.below hb' hl1).frozen 0; have q3 := (b3.drew.below hb' hl3).cell 0; have q4 := (b3.drew.below hb' hl3).cell 1; have q5 := (b4.drew.below hb' hl4).cell 0; have q6 := (b4.drew.below hb' hl4).cell 1; simp only [xyA, List.getElem?_toArray, List.getElem?_cons_zero, List.getElem?_cons_succ] at q1 q3 q4 q5 q6))
    all_goals
      gi_wp2
      have hbW : Below W.heap.size W w' := ((Below.refl W.heap.size W).drew).trans hb'
      refine ⟨(keepsFrom_below hbW).trans ((KeepsOthers.setCell _ _ _).from _), ⟨(hbW.mono hB1.size).setCell (p := ⟨S, 0, none⟩) (by simp; omega) _, ?_⟩, ⟨⟨?_, ?_⟩, HOK.out⟩, ?_⟩
      · exact ((b0.below hbW hl0).far (p := ⟨S, 0, none⟩) (by simp) _).trans b0.symm
      · rw [HS.out]; exact (b1.below hbW hl1).set_ 0 _
      · exact (b0.below hbW hl0).far (p := ⟨S, 0, none⟩) (by simp) _
      · exact (hB1.trans (hbW.mono hB1.size)).setCell (p := ⟨S, 0, none⟩) (by simp; omega) _
  case done =>
    rintro D ys W hD rfl ⟨⟨⟨b1, b0⟩, ht⟩, hB1⟩ hK
    have q1 := b1.cell 0
    simp only [List.getElem?_toArray, List.getElem?_cons_zero] at q1
    have HA := Lib.hid (arSt_area l l.length (Nat.le_refl _))
    clear ht
    gi_wp2
    refine ⟨by simp, .inl ⟨_, _, rfl, run_takeDeferred hK, ?_⟩⟩
    exact ⟨_, results_tmp2 rfl _ _ _, by rw [← HA.out]; rfl, hB1.trans (belowK_b (w := w) (Nat.le_refl _) _ D _ _ (by omega) hK rfl rfl)⟩
  case stop =>
    rintro D c pre W _ _ h _
    exact h.elim

set_option maxHeartbeats 1000000 in
theorem area_any (A : Option Addr) (l : List Geo.XY) (c : Nat) (w : World) (hr : Pts w A l) :
    Calls Try.prog 103 #[.slice A l.length c] w fun e w' => e = okOr l (.int .i64 0) (.int .i64 (Geo.areaK l l.length)) ∧ Below w.heap.size w w' := by
  cases hv : validB l with
  | false =>
    have HR := Lib.hid hr
    have HV := Lib.hid hv
    have H := Lib.hid (okOr_no hv (.int .i64 0) (.int .i64 (Geo.areaK l l.length)))
    clear hv hr
    go_enter Try.func103, Try.ntmps103
    go_wp2_with (go_at_call 48; refine (dvalid_b _ _ _ _ HR.out false HV.out).mono ?_; rintro e w' ⟨rfl, hb'⟩)
    go_ret2
    exact ⟨by rw [H.out]; rfl, hb'⟩
  | true =>
    rw [okOr_yes hv]
    rcases hr with h | ⟨b, off, rfl, hb, hc⟩
    · have := (valid_of hv).1
      rw [h] at this
      simp at this
    · exact callsIn_wide.1 (area_in b off c l hv w hb hc)
end Go.Proofs.Ytlikmlhlfbdchaa
