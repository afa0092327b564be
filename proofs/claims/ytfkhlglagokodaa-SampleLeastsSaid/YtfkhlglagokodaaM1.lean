/- Order, of the document; Least, of both sides. -/
import Derived.Test.YtfkhlglagokodaaD1
import Derived.Test.YtfkhlglagokodaaB2
import Derived.Test.YtfkhlglagokodaaP7
namespace Go.Proofs.Ytfkhlglagokodaa
open Go.RowKit Go.Shelf

theorem natDiv (a b : Nat) : (a : Int).tdiv (b : Int) = ((a / b : Nat) : Int) ∧ (a : Int) / (b : Int) = ((a / b : Nat) : Int) := by
  constructor <;> rfl
theorem natMod (a b : Nat) : (a : Int).tmod (b : Int) = ((a % b : Nat) : Int) ∧ (a : Int) % (b : Int) = ((a % b : Nat) : Int) := by
  constructor <;> rfl

set_option maxRecDepth 100000 in
set_option maxHeartbeats 8000000 in
theorem order_step (a b c d : Nat) (ha : a ≤ 9223372036854775807) (hb : b ≤ 9223372036854775807) (hc : c ≤ 9223372036854775807) (hd : d ≤ 9223372036854775807) (hb0 : 0 < b) (hd0 : 0 < d)
    (ih : 0 < a % b → 0 < c % d → ∀ w' : World, Calls Try.prog 56 #[.int .i64 d, .int .i64 ((c % d : Nat) : Int), .int .i64 b, .int .i64 ((a % b : Nat) : Int)] w' fun e w'' => e = .returned (.int .i64 (Pl.cmp (d * (a % b)) (b * (c % d)))) ∧ Below w'.heap.size w' w'') (w : World) :
    Calls Try.prog 56 #[.int .i64 a, .int .i64 b, .int .i64 c, .int .i64 d] w fun e w' => e = .returned (.int .i64 (Pl.cmp (a * d) (c * b))) ∧ Below w.heap.size w w' := by
  have hbz : ¬ (b : Int) = 0 := by omega
  have hdz : ¬ (d : Int) = 0 := by omega
  have hb1 : (1 : Int) ≤ (b : Int) := by omega
  have hd1 : (1 : Int) ≤ (d : Int) := by omega
  have haI : (a : Int) ≤ 9223372036854775807 := by omega
  have hcI : (c : Int) ≤ 9223372036854775807 := by omega
  have hp2 : a / b ≤ a := Nat.div_le_self _ _
  have hq2 : c / d ≤ c := Nat.div_le_self _ _
  have hr2 := Nat.mod_lt a hb0
  have hs2 := Nat.mod_lt c hd0
  have HLT := Lib.hid (fun h => Pl.ord_lt (a := a) (c := c) (d := d) hb0 h)
  have HGT := Lib.hid (fun h => Pl.ord_gt (a := a) (b := b) (c := c) hd0 h)
  have HEQ := Lib.hid (fun h => Pl.ord_eq (a := a) (b := b) (c := c) (d := d) h)
  have HZE := Lib.hid (fun r s h => Pl.ord_zero (r := r) (s := s) hb0 hd0 h)
  have p1 := (natDiv a b).1
  have p2 := (natDiv a b).2
  have q1 := (natDiv c d).1
  have q2 := (natDiv c d).2
  have r1 := (natMod a b).1
  have r2 := (natMod a b).2
  have s1 := (natMod c d).1
  have s2 := (natMod c d).2
  have HIH := Lib.hid ih
  generalize Pl.cmp (a * d) (c * b) = V at *
  obtain ⟨p, hp⟩ : ∃ p, a / b = p := ⟨_, rfl⟩
  obtain ⟨q, hq⟩ : ∃ q, c / d = q := ⟨_, rfl⟩
  obtain ⟨r, hr⟩ : ∃ r, a % b = r := ⟨_, rfl⟩
  obtain ⟨s, hs⟩ : ∃ s, c % d = s := ⟨_, rfl⟩
  rw [hp] at p1 p2 hp2 HLT HGT HEQ
  rw [hq] at q1 q2 hq2 HLT HGT HEQ
  rw [hr] at r1 r2 hr2 HEQ HIH
  rw [hs] at s1 s2 hs2 HEQ HIH
  have k1 : IntKind.i64.wrap ((a : Int).tdiv (b : Int)) = (p : Int) := by rw [p1]; exact IntWalk.i64_in _ (by omega)
  have k2 : IntKind.i64.wrap ((c : Int).tdiv (d : Int)) = (q : Int) := by rw [q1]; exact IntWalk.i64_in _ (by omega)
  have k3 : IntKind.i64.wrap ((a : Int).tmod (b : Int)) = (r : Int) := by rw [r1]; exact IntWalk.i64_in _ (by omega)
  have k4 : IntKind.i64.wrap ((c : Int).tmod (d : Int)) = (s : Int) := by rw [s1]; exact IntWalk.i64_in _ (by omega)
  clear ih hp hq hr hs ha hc hb0 hd0
  go_enter Try.func56, Try.ntmps56
  go_wp2
  refine wp_region_ext (by kernel_rfl) (by kernel_rfl) ?_
  repeat (go_big_quiet_step (fail))
  refine wpQuiet_nil ?_
  rintro _ ⟨x, rfl⟩
  have hB1 := x.h
  generalize x.w = w1 at *
  clear x
  rcases Nat.lt_trichotomy p q with h | h | h
  · have HV := Lib.hid (HLT.out h)
    have c1 : ((p : Int) != (q : Int)) = true := by simp; omega
    have c2 : (p : Int) < (q : Int) := by omega
    clear h
    go_wp2
    go_ret
    exact ⟨by rw [HV.out]; rfl, hB1⟩
  · have HV := Lib.hid (HEQ.out h)
    subst h
    go_wp2
    refine wp_region_ext (by kernel_rfl) (by kernel_rfl) ?_
    repeat (go_big_quiet_step (fail))
    refine wpQuiet_nil ?_
    rintro _ ⟨x, rfl⟩
    have hB2 := hB1.trans (x.h.mono hB1.size)
    generalize x.w = w2 at *
    clear x
    have hc4 : (r = 0 ∧ s = 0) ∨ (r = 0 ∧ 0 < s) ∨ (0 < r ∧ s = 0) ∨ (0 < r ∧ 0 < s) := by omega
    rcases hc4 with ⟨h1, h2⟩ | ⟨h1, h2⟩ | ⟨h1, h2⟩ | ⟨h1, h2⟩
    · subst h1 h2
      have HV2 : Hid (V = 0) := Lib.hid (by rw [HV.out, HZE.out 0 0 (.inl rfl)]; rfl)
      clear HV HEQ HIH
      go_wp2
      go_ret
      exact ⟨by rw [HV2.out]; rfl, hB2⟩
    · subst h1
      have HV2 : Hid (V = -1) := Lib.hid (by rw [HV.out, HZE.out 0 s (.inl rfl)]; omega)
      have e1 : ¬ (s : Int) < 1 := by omega
      have e2 : (1 : Int) ≤ (s : Int) := by omega
      have e3 : min (s : Int) 1 = 1 := by omega
      clear HV HEQ HIH
      go_wp2
      all_goals
        go_ret
        exact ⟨by rw [HV2.out]; first | rfl | (exact congrArg (fun z => Ending.returned (Value.int .i64 z)) (by omega)), hB2⟩
    · subst h2
      have HV2 : Hid (V = 1) := Lib.hid (by rw [HV.out, HZE.out r 0 (.inr rfl)]; omega)
      have e0 : ((r : Int) == 0) = false := by simp; omega
      have e1 : ¬ (r : Int) < 1 := by omega
      have e2 : (1 : Int) ≤ (r : Int) := by omega
      have e3 : min (r : Int) 1 = 1 := by omega
      clear HV HEQ HIH
      go_wp2
      all_goals
        go_ret
        exact ⟨by rw [HV2.out]; first | rfl | (exact congrArg (fun z => Ending.returned (Value.int .i64 z)) (by omega)), hB2⟩
    · have HC := Lib.hid (HIH.out h1 h2)
      have HV2 : Hid (V = Pl.cmp (d * r) (b * s)) := Lib.hid (by rw [HV.out, Nat.mul_comm r d, Nat.mul_comm s b])
      have e0 : ((r : Int) == 0) = false := by simp; omega
      have e1 : ((s : Int) == 0) = false := by simp; omega
      clear HV HEQ HIH h1 h2
      go_wp2_with fail
      refine (HC.out _).mono ?_
      rintro e w3 ⟨rfl, hb3⟩
      have hB3 := hB2.trans (hb3.mono hB2.size)
      go_wp2
      go_ret
      exact ⟨by rw [HV2.out]; rfl, hB3⟩
  · have HV := Lib.hid (HGT.out h)
    have c1 : ((p : Int) != (q : Int)) = true := by simp; omega
    have c2 : ¬ (p : Int) < (q : Int) := by omega
    clear h
    go_wp2
    go_ret
    exact ⟨by rw [HV.out]; rfl, hB1⟩

theorem order_b : ∀ (N a b c d : Nat), b + d ≤ N → a ≤ 9223372036854775807 → b ≤ 9223372036854775807 → c ≤ 9223372036854775807 → d ≤ 9223372036854775807 → 0 < b → 0 < d → ∀ w : World,
    Calls Try.prog 56 #[.int .i64 a, .int .i64 b, .int .i64 c, .int .i64 d] w fun e w' => e = .returned (.int .i64 (Pl.cmp (a * d) (c * b))) ∧ Below w.heap.size w w' := by
  intro N
  induction N with
  | zero => intro a b c d h _ _ _ _ h1 h2 w; omega
  | succ N ih =>
    intro a b c d h ha hb hc hd hb0 hd0 w
    have h1 := Nat.mod_lt a hb0
    have h2 := Nat.mod_lt c hd0
    exact order_step a b c d ha hb hc hd hb0 hd0 (fun hr hs w' => ih d (c % d) b (a % b) (by omega) hd (by omega) hb (by omega) hs hr w') w
end Go.Proofs.Ytfkhlglagokodaa
