/- Compare, of the program. -/
import Derived.Test.YtfkhlglagokodaaA5
import Derived.Test.YtfkhlglagokodaaP4
import Derived.Shelf.Bits.Mul64
namespace Go.Proofs.Ytfkhlglagokodaa
open Go.RowKit Go.Shelf Go.Lib

def Pl.orI (a b : Int) : Int := if a = 0 then b else a
set_option maxRecDepth 100000 in
set_option maxHeartbeats 1000000 in
theorem mul64_b (x y : Nat) (hx : x < 18446744073709551616) (hy : y < 18446744073709551616) (w : World) :
    Calls Try.prog 64 #[.int .u64 x, .int .u64 y] w fun e w' => e = .returned (.tuple #[.int .u64 ((x * y / 18446744073709551616 : Nat) : Int), .int .u64 ((x * y % 18446744073709551616 : Nat) : Int)]) ∧ w' = w := by
  obtain ⟨bd, bt, bw, hhi⟩ := Lib.mul64_hi x y hx hy
  have ba := Lib.half_mul_le (a := x / 4294967296) (b := y / 4294967296) (by omega) (by omega)
  have bb := Lib.half_mul_le (a := x / 4294967296) (b := y % 4294967296) (by omega) (by omega)
  have bc := Lib.half_mul_le (a := x % 4294967296) (b := y / 4294967296) (by omega) (by omega)
  have ba' : x / 4294967296 * (y / 4294967296) < 18446744073709551616 := by omega
  have bb' : x / 4294967296 * (y % 4294967296) < 18446744073709551616 := by omega
  have bc' : x % 4294967296 * (y / 4294967296) < 18446744073709551616 := by omega
  have bh1 : x / 4294967296 * (y / 4294967296) + (x / 4294967296 * (y % 4294967296) + x % 4294967296 * (y % 4294967296) / 4294967296) / 4294967296 < 18446744073709551616 := by omega
  have bh : x / 4294967296 * (y / 4294967296) + (x / 4294967296 * (y % 4294967296) + x % 4294967296 * (y % 4294967296) / 4294967296) / 4294967296 + ((x / 4294967296 * (y % 4294967296) + x % 4294967296 * (y % 4294967296) / 4294967296) % 4294967296 + x % 4294967296 * (y / 4294967296)) / 4294967296 < 18446744073709551616 := by omega
  go_enter Try.func64, Try.ntmps64
  go_wp2
  simp only [Mul64.maskN x hx, Mul64.maskN y hy, Mul64.divN, Mul64.mulN, Mul64.addN, Mul64.wrapN _ bd, Mul64.wrapN _ bb', Mul64.wrapN _ bt, Mul64.maskN _ bt, Mul64.wrapN _ bc', Mul64.wrapN _ bw, Mul64.wrapN _ ba', Mul64.wrapN _ bh1, Mul64.wrapN _ bh, Mul64.wrapM (x * y)]
  rw [hhi]
  go_ret2
  exact ⟨rfl, rfl⟩

set_option maxHeartbeats 400000 in
theorem cmp_b (x y : Nat) (w : World) :
    Calls Try.prog 66 #[.int .u64 x, .int .u64 y] w fun e w' => e = .returned (.int .i64 (Pl.cmp x y)) ∧ w' = w := by
  rcases Nat.lt_trichotomy x y with h | h | h
  · have H := Lib.hid (Pl.cmp_lt h)
    have h1 : (x : Int) < (y : Int) := by omega
    clear h
    go_enter Try.func66, Try.ntmps66
    go_wp2
    go_ret
    exact ⟨by rw [H.out]; rfl, rfl⟩
  · have H := Lib.hid (Pl.cmp_eq h)
    have h1 : ¬ (x : Int) < (y : Int) := by omega
    have h2 : ¬ (y : Int) < (x : Int) := by omega
    clear h
    go_enter Try.func66, Try.ntmps66
    go_wp2
    go_ret
    exact ⟨by rw [H.out]; rfl, rfl⟩
  · have H := Lib.hid (Pl.cmp_gt h)
    have h1 : ¬ (x : Int) < (y : Int) := by omega
    have h2 : (y : Int) < (x : Int) := by omega
    clear h
    go_enter Try.func66, Try.ntmps66
    go_wp2
    go_ret
    exact ⟨by rw [H.out]; rfl, rfl⟩

set_option maxHeartbeats 400000 in
theorem or_any (g : Nat) (a b : Int) (w : World) (h0 : w.cell? ⟨g, 0, none⟩ = some (.int .i64 a)) (h1 : w.cell? ⟨g, 1, none⟩ = some (.int .i64 b)) :
    Calls Try.prog 65 #[.slice (some ⟨g, 0, none⟩) 2 2] w fun e w' => e = .returned (.int .i64 (Pl.orI a b)) ∧ w' = w := by
  go_enter Try.func65, Try.ntmps65
  go_wp2
  go_loop [8] (fun i => ∃ k : Nat, k ≤ 2 ∧ i = .int .i64 k ∧ (1 ≤ k → a = 0) ∧ (2 ≤ k → b = 0)) (fun i => 2 - (intOf i).toNat)
  case atStart => exact ⟨0, by omega, rfl, fun h => absurd h (by omega), fun h => absurd h (by omega)⟩
  case round =>
    obtain ⟨k, hk, rfl, ha, hb⟩ := hrel
    have HA := Lib.hid ha
    have HB := Lib.hid hb
    clear ha hb
    have hk3 : k = 0 ∨ k = 1 ∨ k = 2 := by omega
    rcases hk3 with rfl | rfl | rfl
    · by_cases hz : a = 0
      · have hz1 : (a != 0) = false := by simp [hz]
        have HZ := Lib.hid hz
        clear hz
        go_wp2
        go_round
        case rel => exact ⟨1, by omega, by simp, fun _ => HZ.out, fun h => absurd h (by omega)⟩
        case measure => simp [intOf]
      · have hz1 : (a != 0) = true := by simp [hz]
        have HZ := Lib.hid hz
        clear hz
        go_wp2
        go_ret
        exact ⟨by unfold Pl.orI; rw [if_neg HZ.out]; rfl, rfl⟩
    · by_cases hz : b = 0
      · have hz1 : (b != 0) = false := by simp [hz]
        have HZ := Lib.hid hz
        clear hz
        go_wp2
        go_round
        case rel => exact ⟨2, by omega, by simp, fun _ => HA.out (by omega), fun _ => HZ.out⟩
        case measure => simp [intOf]
      · have hz1 : (b != 0) = true := by simp [hz]
        have HZ := Lib.hid hz
        clear hz
        go_wp2
        go_ret
        exact ⟨by unfold Pl.orI; rw [if_pos (HA.out (by omega))]; rfl, rfl⟩
    · go_wp2
      go_ret
      exact ⟨by unfold Pl.orI; rw [if_pos (HA.out (by omega)), HB.out (by omega)]; rfl, rfl⟩


theorem cmp_or (x y : Nat) : Pl.orI (Pl.cmp (x / 18446744073709551616) (y / 18446744073709551616)) (Pl.cmp (x % 18446744073709551616) (y % 18446744073709551616)) = Pl.cmp x y := by
  rw [← Pl.cmp_words x y 18446744073709551616 (by omega)]
  unfold Pl.orI
  by_cases h : Pl.cmp (x / 18446744073709551616) (y / 18446744073709551616) = 0
  · rw [if_pos h, if_neg (by simpa using h)]
  · rw [if_neg h, if_pos h]

set_option maxRecDepth 100000 in
set_option maxHeartbeats 2000000 in
theorem compare_b (a b c d : Nat) (ha : a ≤ 9223372036854775807) (hb : b ≤ 9223372036854775807) (hc : c ≤ 9223372036854775807) (hd : d ≤ 9223372036854775807) (w : World) :
    Calls Try.prog 55 #[.agg (frA a b), .agg (frA c d)] w fun e w' => e = .returned (.int .i64 (Pl.cmp (a * d) (c * b))) ∧ Below w.heap.size w w' := by
  have hB0 := ((Below.refl w.heap.size w).alloc (Nat.le_refl _) (.cells (frA a b) 51)).alloc (by simp) (.cells (frA c d) 51)
  have bA := (Blk.new w 51 (frA a b)).alloc (.cells (frA c d) 51)
  have bC := Blk.new (w.alloc (.cells (frA a b) 51)) 51 (frA c d)
  simp only [World.size_alloc] at bC
  have q0 := bA.cell 0
  have q1 := bA.cell 1
  have q2 := bC.cell 0
  have q3 := bC.cell 1
  have u1 : IntKind.u64.wrap (a : Int) = (a : Int) := by rw [IntKind.wrap_u64]; omega
  have u2 : IntKind.u64.wrap (b : Int) = (b : Int) := by rw [IntKind.wrap_u64]; omega
  have u3 : IntKind.u64.wrap (c : Int) = (c : Int) := by rw [IntKind.wrap_u64]; omega
  have u4 : IntKind.u64.wrap (d : Int) = (d : Int) := by rw [IntKind.wrap_u64]; omega
  have HM1 := Lib.hid (fun w' : World => mul64_b a d (by omega) (by omega) w')
  have HM2 := Lib.hid (fun w' : World => mul64_b c b (by omega) (by omega) w')
  have HE := Lib.hid (cmp_or (a * d) (c * b))
  have haI : (a : Int) ≤ 9223372036854775807 := by omega
  have hbI : (b : Int) ≤ 9223372036854775807 := by omega
  have hcI : (c : Int) ≤ 9223372036854775807 := by omega
  have hdI : (d : Int) ≤ 9223372036854775807 := by omega
  rw [← HE.out]
  generalize a * d / 18446744073709551616 = x1 at *
  generalize a * d % 18446744073709551616 = x2 at *
  generalize c * b / 18446744073709551616 = y1 at *
  generalize c * b % 18446744073709551616 = y2 at *
  have HC1 := Lib.hid (fun w' : World => cmp_b x1 y1 w')
  have HC2 := Lib.hid (fun w' : World => cmp_b x2 y2 w')
  clear HE
  generalize Pl.cmp x1 y1 = r1 at *
  generalize Pl.cmp x2 y2 = r2 at *
  clear bA bC
  go_enter Try.func55, Try.ntmps55
  go_wp2_with fail
  refine (HM1.out _).mono ?_
  rintro e w1 ⟨rfl, rfl⟩
  go_wp2_with fail
  refine (HM2.out _).mono ?_
  rintro e w1 ⟨rfl, rfl⟩
  clear q0 q1 q2 q3 u1 u2 u3 u4
  go_wp2_with fail
  refine (HC1.out _).mono ?_
  rintro e w1 ⟨rfl, rfl⟩
  go_wp2_with fail
  refine (HC2.out _).mono ?_
  rintro e w1 ⟨rfl, rfl⟩
  go_wp2_with fail
  have bN := Blk.new ((w.alloc (.cells (frA a b) 51)).alloc (.cells (frA c d) 51)) 3 #[.int .i64 r1, .int .i64 r2]
  simp only [World.size_alloc] at bN
  have hB3 := hB0.alloc hB0.size (.cells #[.int .i64 r1, .int .i64 r2] 3)
  refine (or_any _ r1 r2 _ (bN.cell 0) (bN.cell 1)).mono ?_
  rintro e w1 ⟨rfl, rfl⟩
  clear bN
  go_wp2
  go_ret
  exact ⟨rfl, hB3⟩

set_option maxRecDepth 100000 in
set_option maxHeartbeats 1000000 in
theorem isfrac_b (x y : Int) (v : Bool) (hv : (decide (0 ≤ x) && decide (0 < y)) = v) (w : World) :
    Calls Try.prog 54 #[.agg (frA x y)] w fun e w' => e = .returned (.bool v) ∧ Below w.heap.size w w' := by
  have hB := (Below.refl w.heap.size w).alloc (Nat.le_refl _) (.cells (frA x y) 51)
  have bT := Blk.new w 51 (frA x y)
  have q0 := bT.cell 0
  have q1 := bT.cell 1
  by_cases c : 0 ≤ x
  · have HV : Hid (v = decide (0 < y)) := Lib.hid (by rw [← hv, decide_eq_true c]; rfl)
    clear hv bT
    go_enter Try.func54, Try.ntmps54
    go_wp2
    go_ret
    exact ⟨by rw [HV.out]; rfl, hB⟩
  · have HV : Hid (v = false) := Lib.hid (by rw [← hv, decide_eq_false c]; rfl)
    clear hv bT
    go_enter Try.func54, Try.ntmps54
    go_wp2
    go_ret
    exact ⟨by rw [HV.out]; rfl, hB⟩

/-- a fraction is read whole, wherever it lies -/
theorem ldm_fr {ops : Array Oper} {rest : List Oper} {o : Oper} {a : Act} {w : World} {Q : Exit → Act → World → Prop} {b off : Nat} {x y : Int} (hr : w.rangeAt b off (frA x y).toList) (hw : Region.wanted o (yielded ops a.tmps) = true) (z : Operand) (ho : o.op = .load 51 z)
    (hx : a.eval z = .pointer (some ⟨b, off, none⟩)) (h : wpList Try.prog ops Q rest (a.put o.dst (.agg (frA x y))) w) : wpList Try.prog ops Q (o :: rest) a w :=
  wpList_wanted hw fun _ hK => wp_load_mid 51 z ho b off hx (frA x y).toList _ hr Try.underlying51 rfl infoFr (hK _ _ h)

set_option maxRecDepth 100000 in
set_option maxHeartbeats 2000000 in
theorem Compare_b (a b c d : Nat) (ha : a ≤ 9223372036854775807) (hb : b ≤ 9223372036854775807) (hc : c ≤ 9223372036854775807) (hd : d ≤ 9223372036854775807) (hb0 : 0 < b) (hd0 : 0 < d) (w : World) :
    Calls Try.prog 37 #[.agg (frA a b), .agg (frA c d)] w fun e w' => e = .returned (.tuple #[.int .i64 (Pl.cmp (a * d) (c * b)), .int .i64 0]) ∧ Below w.heap.size w w' := by
  have hB0 := ((Below.refl w.heap.size w).alloc (Nat.le_refl _) (.cells (frA a b) 51)).alloc (by simp) (.cells (frA c d) 51)
  have bA := (Blk.new w 51 (frA a b)).alloc (.cells (frA c d) 51)
  have bC := Blk.new (w.alloc (.cells (frA a b) 51)) 51 (frA c d)
  simp only [World.size_alloc] at bC
  have H1 := Lib.hid (fun w' : World => isfrac_b a b true (by simp; omega) w')
  have H2 := Lib.hid (fun w' : World => isfrac_b c d true (by simp; omega) w')
  have H3 := Lib.hid (fun w' : World => compare_b a b c d ha hb hc hd w')
  generalize Pl.cmp (a * d) (c * b) = v at *
  have r0 := bA.range
  clear ha hb hc hd hb0 hd0
  go_enter Try.func37, Try.ntmps37
  go_wp2_with (refine ldm_fr r0 rfl _ rfl rfl ?_)
  refine (H1.out _).mono ?_
  rintro e w1 ⟨rfl, hb1⟩
  have hB1 := hB0.trans (hb1.mono hB0.size)
  have bA1 := bA.below hb1 bA.lt
  have bC1 := bC.below hb1 bC.lt
  have r1 := bC1.range
  clear bA bC r0 hb1 hB0
  go_wp2_with (refine ldm_fr r1 rfl _ rfl rfl ?_)
  refine (H2.out _).mono ?_
  rintro e w2 ⟨rfl, hb2⟩
  have hB2 := hB1.trans (hb2.mono hB1.size)
  have bA2 := bA1.below hb2 bA1.lt
  have bC2 := bC1.below hb2 bC1.lt
  have ra := bA2.range
  have rc := bC2.range
  clear bA1 bC1 r1 hb2 hB1 bA2 bC2
  go_wp2_with (first | refine ldm_fr ra rfl _ rfl rfl ?_ | refine ldm_fr rc rfl _ rfl rfl ?_)
  refine (H3.out _).mono ?_
  rintro e w3 ⟨rfl, hb3⟩
  have hB3 := hB2.trans (hb3.mono hB2.size)
  clear ra rc
  go_wp2
  go_ret2
  exact ⟨rfl, hB3⟩
end Go.Proofs.Ytfkhlglagokodaa
