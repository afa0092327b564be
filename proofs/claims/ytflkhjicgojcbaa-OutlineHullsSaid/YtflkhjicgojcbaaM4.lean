import Derived.Test.YtflkhjicgojcbaaM3
namespace Go.Proofs.Ytflkhjicgojcbaa
open Go.RowKit Go.Shelf

/-- the bit that is tried when j bits are left -/
def bitOf (j : Nat) : Nat := if j = 0 then 0 else 2 ^ (j - 1)
theorem bitOf_half (i : Nat) : (bitOf (i + 1) : Nat) / 2 = bitOf i := by
  unfold bitOf
  rw [if_neg (by omega)]
  cases i with
  | zero => rfl
  | succ i => rw [if_neg (by omega)]; simp only [Nat.add_sub_cancel]; rw [Nat.pow_succ]; omega
theorem rootK_step (n i r : Nat) : Geo.rootK n (i + 1) r = Geo.rootK n i (if (r + bitOf (i + 1)) * (r + bitOf (i + 1)) ≤ n then r + bitOf (i + 1) else r) := rfl
theorem pow_bit (i : Nat) : 2 ^ (i + 1) = 2 ^ i + bitOf (i + 1) := by
  have : bitOf (i + 1) = 2 ^ i := rfl
  rw [this, Nat.pow_succ]; omega
theorem bitOf_pos (i : Nat) : 0 < bitOf (i + 1) := by
  have : bitOf (i + 1) = 2 ^ i := rfl
  rw [this]; exact Nat.two_pow_pos i

set_option maxHeartbeats 1000000 in
theorem root_any (n : Nat) (hn : n ≤ 1000000000) (w : World) :
    Calls Try.prog 94 #[.int .i64 n] w fun e w' => e = .returned (.int .i64 (Geo.fsq n)) ∧ w' = w := by
  have hfin : Geo.rootK n 21 0 = Geo.fsq n := Geo.rootK_spec n 21 0 (by omega) (by simp; omega)
  have HF := Lib.hid hfin
  clear hfin
  go_enter Try.func94, Try.ntmps94
  go_wp2
  go_loop [3, 4] (fun a b => ∃ j r : Nat, a = .int .i64 r ∧ b = .int .i64 (bitOf j) ∧ r + 2 ^ j ≤ 2097152 ∧ Geo.rootK n j r = Geo.fsq n) (fun _ b => (intOf b).toNat)
  case atStart => exact ⟨21, 0, rfl, rfl, by omega, HF.out⟩
  case round =>
    obtain ⟨j, r, rfl, rfl, hle, hk⟩ := hrel
    cases j with
    | zero =>
      have HK := Lib.hid hk
      clear hk hle
      have hz : bitOf 0 = 0 := rfl
      rw [hz]
      go_wp2
      go_ret
      exact ⟨by rw [← HK.out]; rfl, rfl⟩
    | succ i =>
      rw [pow_bit] at hle
      have hp := bitOf_pos i
      have HH := Lib.hid (bitOf_half i)
      rw [rootK_step] at hk
      have HK := Lib.hid hk
      clear hk
      have hpi : 0 < 2 ^ i := Nat.two_pow_pos i
      obtain ⟨q, hq⟩ : ∃ q, q = 2 ^ i := ⟨_, rfl⟩
      rw [← hq] at hle hpi
      have HQ := Lib.hid hq
      clear hq
      generalize bitOf (i + 1) = p at *
      obtain ⟨m1, m2⟩ := mul_bd (a := (r : Int) + (p : Int)) (b := (r : Int) + (p : Int)) (A := 2097152) (B := 2097152) (by omega) (by omega) (by omega) (by omega)
      by_cases hc : (r + p) * (r + p) ≤ n
      · have hci : ((r : Int) + (p : Int)) * ((r : Int) + (p : Int)) ≤ (n : Int) := by
          have : ((r + p : Nat) : Int) * ((r + p : Nat) : Int) ≤ (n : Int) := by rw [← Int.natCast_mul]; omega
          simpa using this
        have HC := Lib.hid hc
        clear hc
        go_wp2
        go_round
        case rel => exact ⟨i, r + p, by go_num, by rw [← HH.out]; go_num, by rw [← HQ.out]; omega, by have := HK.out; rwa [if_pos HC.out] at this⟩
        case measure => simp [intOf]; omega
      · have hci : ¬ ((r : Int) + (p : Int)) * ((r : Int) + (p : Int)) ≤ (n : Int) := by
          intro h
          apply hc
          have : ((r + p : Nat) : Int) * ((r + p : Nat) : Int) ≤ (n : Int) := by simpa using h
          rw [← Int.natCast_mul] at this
          omega
        have HC := Lib.hid hc
        clear hc
        go_wp2
        go_round
        case rel => exact ⟨i, r, rfl, by rw [← HH.out]; go_num, by rw [← HQ.out]; omega, by have := HK.out; rwa [if_neg HC.out] at this⟩
        case measure => simp [intOf]; omega

set_option maxHeartbeats 1000000 in
theorem up_any (n : Nat) (hn : n ≤ 1000000000) (w : World) :
    Calls Try.prog 95 #[.int .i64 n] w fun e w' => e = .returned (.int .i64 (Geo.csq n)) ∧ w' = w := by
  have hs := Geo.fsq_spec n
  have hf : Geo.fsq n ≤ 100000 := Geo.fsq_le n 100000 (by omega)
  by_cases h : Geo.fsq n * Geo.fsq n = n
  · have hc : Geo.csq n = Geo.fsq n := by unfold Geo.csq; rw [if_pos h]
    have hci : ¬ (Geo.fsq n : Int) * (Geo.fsq n : Int) < (n : Int) := by rw [← Int.natCast_mul, h]; omega
    have HC := Lib.hid hc
    obtain ⟨m1, m2⟩ := mul_bd (a := (Geo.fsq n : Int)) (b := (Geo.fsq n : Int)) (A := 100000) (B := 100000) (by omega) (by omega) (by omega) (by omega)
    clear h hc hs
    go_enter Try.func95, Try.ntmps95
    go_wp2_with (go_at_call 94; refine (root_any n hn _).mono ?_; rintro e w' ⟨rfl, rfl⟩)
    go_ret
    exact ⟨by rw [HC.out]; rfl, rfl⟩
  · have hc : Geo.csq n = Geo.fsq n + 1 := by unfold Geo.csq; rw [if_neg h]
    have hci : (Geo.fsq n : Int) * (Geo.fsq n : Int) < (n : Int) := by rw [← Int.natCast_mul]; omega
    have HC := Lib.hid hc
    obtain ⟨m1, m2⟩ := mul_bd (a := (Geo.fsq n : Int)) (b := (Geo.fsq n : Int)) (A := 100000) (B := 100000) (by omega) (by omega) (by omega) (by omega)
    clear h hc hs
    go_enter Try.func95, Try.ntmps95
    go_wp2_with (go_at_call 94; refine (root_any n hn _).mono ?_; rintro e w' ⟨rfl, rfl⟩)
    go_ret
    exact ⟨by rw [HC.out]; exact (by go_num), rfl⟩

theorem val_max (a b : Nat) : Value.int .i64 (if a < b then (b : Int) else (a : Int)) = .int .i64 ((max a b : Nat) : Int) := by
  congr 1; split <;> omega

/-- the reference's diameter of the first k corners -/
def dmK (l : List Geo.XY) : Nat → Nat
  | 0 => 0
  | k + 1 => max (dmK l k) (Geo.csq (4 * ((Geo.X l k).1 * (Geo.X l k).1 + (Geo.X l k).2 * (Geo.X l k).2).toNat))
theorem dmK_far (l : List Geo.XY) (k : Nat) : dmK l k = Geo.csq (4 * farK l k) := by
  induction k with
  | zero => rw [dmK, farK, Nat.mul_zero, Geo.csq_zero]
  | succ k ih =>
    rw [dmK, farK, ih]
    generalize ((Geo.X l k).1 * (Geo.X l k).1 + (Geo.X l k).2 * (Geo.X l k).2).toNat = s
    rcases Nat.le_total (farK l k) s with h | h
    · have := Geo.csq_mono (show 4 * farK l k ≤ 4 * s by omega)
      rw [Nat.max_eq_right h, Nat.max_eq_right this]
    · have := Geo.csq_mono (show 4 * s ≤ 4 * farK l k by omega)
      rw [Nat.max_eq_left h, Nat.max_eq_left this]

set_option maxHeartbeats 1000000 in
theorem rdiam_any (A : Option Addr) (l : List Geo.XY) (c : Nat) (w : World) (hr : Pts w A l) :
    Calls Try.prog 50 #[.slice A l.length c] w fun e w' => e = okOr l (.int .i64 0) (.int .i64 (Geo.csq (4 * farK l l.length))) ∧ Below w.heap.size w w' := by
  have HR := Lib.hid hr
  clear hr
  cases hv : validB l with
  | false =>
    have HV := Lib.hid hv
    have H := Lib.hid (okOr_no hv (.int .i64 0) (.int .i64 (Geo.csq (4 * farK l l.length))))
    clear hv
    go_enter Try.func50, Try.ntmps50
    go_wp2_with (go_at_call 20; refine (rvalid_b _ _ _ _ HR.out false HV.out).mono ?_; rintro e w' ⟨rfl, hb'⟩)
    go_ret2
    exact ⟨by rw [H.out]; rfl, hb'⟩
  | true =>
    have HV := Lib.hid hv
    have H := Lib.hid (okOr_yes hv (.int .i64 0) (.int .i64 (Geo.csq (4 * farK l l.length))))
    have hval := valid_of hv
    have h64 := hval.2.1
    have HIN := Lib.hid hval.allin
    have HD := Lib.hid (dmK_far l l.length)
    clear hv hval
    go_enter Try.func50, Try.ntmps50
    go_wp2_with (go_at_call 20; refine (rvalid_b _ _ _ _ HR.out true HV.out).mono ?_; rintro e w1 ⟨rfl, hb1⟩)
    go_loopw [4, 12] (fun d i wr => ∃ k : Nat, k ≤ l.length ∧ i = .int .i64 k ∧ d = .int .i64 (dmK l k) ∧ Below w.heap.size w wr) (fun _ i _ => l.length - (intOf i).toNat)
    case atStart => exact ⟨0, Nat.zero_le _, rfl, rfl, hb1⟩
    case round =>
      clear hb1
      obtain ⟨k, hk, rfl, rfl, hB⟩ := hrel
      by_cases hlt : k < l.length
      · rcases HR.out with h0 | ⟨b, off, rfl, hb, hc⟩
        · rw [h0] at hlt; simp at hlt
        have c1 : wr.cell? ⟨b, off + k * 2, none⟩ = some (.int .i64 (Geo.X l k).1) := (hB.cell (p := ⟨b, off + k * 2, none⟩) hb).trans (hc k hlt).1
        have c2 : wr.cell? ⟨b, off + k * 2 + 1, none⟩ = some (.int .i64 (Geo.X l k).2) := (hB.cell (p := ⟨b, off + k * 2 + 1, none⟩) hb).trans (hc k hlt).2
        clear hc
        obtain ⟨a1, a2, a3, a4⟩ := in_all HIN.out k
        obtain ⟨s1, s2⟩ := sq_bd a1 a2
        obtain ⟨s3, s4⟩ := sq_bd a3 a4
        have hBa := hB.alloc hB.size (.cells #[.int .i64 (Geo.X l k).1, .int .i64 (Geo.X l k).2] 38)
        obtain ⟨n, hn⟩ : ∃ n, n = ((Geo.X l k).1 * (Geo.X l k).1 + (Geo.X l k).2 * (Geo.X l k).2).toNat := ⟨_, rfl⟩
        have e1 : 4 * ((Geo.X l k).1 * (Geo.X l k).1 + (Geo.X l k).2 * (Geo.X l k).2) = ((4 * n : Nat) : Int) := by omega
        have hn2 : n ≤ 50000000 := by omega
        have E1 := Lib.hid e1
        have HS : Hid (dmK l (k + 1) = max (dmK l k) (Geo.csq (4 * n))) := by rw [dmK, hn]; exact Lib.hid rfl
        clear e1 hn
        go_wp2_with fail
        rw [E1.out]
        refine (up_any (4 * n) (by omega) _).mono ?_
        rintro e w2 ⟨rfl, rfl⟩
        go_wp2
        go_roundw
        case rel => exact ⟨k + 1, by omega, by go_num, by rw [HS.out]; exact val_max _ _, hBa⟩
        case measure => simp [intOf]; omega
      · obtain rfl : k = l.length := by omega
        go_wp2
        go_ret2
        exact ⟨by rw [H.out, ← HD.out]; rfl, hB⟩

/-- the square of the length of side k -/
def sdSq (l : List Geo.XY) (k : Nat) : Nat := (((Geo.X l k).1 - (Geo.X l ((k + 1) % l.length)).1) * ((Geo.X l k).1 - (Geo.X l ((k + 1) % l.length)).1) + ((Geo.X l k).2 - (Geo.X l ((k + 1) % l.length)).2) * ((Geo.X l k).2 - (Geo.X l ((k + 1) % l.length)).2)).toNat
theorem sq_bd2 {x : Int} (h1 : -10000 ≤ x) (h2 : x ≤ 10000) : 0 ≤ x * x ∧ x * x ≤ 100000000 := by
  have := mul_bd (a := x) (b := x) (A := 10000) (B := 10000) (by omega) (by omega) (by omega) (by omega)
  have h3 : 0 ≤ x * x := by
    rcases Int.le_total 0 x with h | h
    · exact Int.mul_nonneg h h
    · exact Int.mul_nonneg_of_nonpos_of_nonpos h h
  omega
theorem sdSq_val {l : List Geo.XY} (h : AllIn l) (k : Nat) : ((Geo.X l k).1 - (Geo.X l ((k + 1) % l.length)).1) * ((Geo.X l k).1 - (Geo.X l ((k + 1) % l.length)).1) + ((Geo.X l k).2 - (Geo.X l ((k + 1) % l.length)).2) * ((Geo.X l k).2 - (Geo.X l ((k + 1) % l.length)).2) = (sdSq l k : Int) ∧ sdSq l k ≤ 200000000 := by
  obtain ⟨a1, a2, a3, a4⟩ := in_all h k
  obtain ⟨a5, a6, a7, a8⟩ := in_all h ((k + 1) % l.length)
  have s1 := sq_bd2 (x := (Geo.X l k).1 - (Geo.X l ((k + 1) % l.length)).1) (by omega) (by omega)
  have s2 := sq_bd2 (x := (Geo.X l k).2 - (Geo.X l ((k + 1) % l.length)).2) (by omega) (by omega)
  unfold sdSq
  omega
theorem root_bd (n : Nat) (h : n ≤ 200000000) : Geo.fsq n ≤ 20000 ∧ Geo.csq n ≤ 20000 := ⟨Geo.fsq_le n 20000 (by omega), Geo.csq_le n 20000 (by omega)⟩
/-- the two bounds of the length of the first k sides -/
def lowK (l : List Geo.XY) : Nat → Nat
  | 0 => 0
  | k + 1 => lowK l k + Geo.fsq (sdSq l k)
def highK (l : List Geo.XY) : Nat → Nat
  | 0 => 0
  | k + 1 => highK l k + Geo.csq (sdSq l k)
theorem lhK_bd {l : List Geo.XY} (h : AllIn l) (k : Nat) : lowK l k ≤ 20000 * k ∧ highK l k ≤ 20000 * k := by
  induction k with
  | zero => simp [lowK, highK]
  | succ k ih =>
    have := root_bd _ (sdSq_val h k).2
    rw [lowK, highK]
    omega
/-- three numbers: two values and an error -/
noncomputable def okOr3 (l : List Geo.XY) (a b : Value) : Ending := if validB l = true then .returned (.tuple #[a, b, .int .i64 0]) else .returned (.tuple #[.int .i64 0, .int .i64 0, .int .i64 10])
theorem okOr3_yes {l : List Geo.XY} (h : validB l = true) (a b : Value) : okOr3 l a b = .returned (.tuple #[a, b, .int .i64 0]) := if_pos h
theorem okOr3_no {l : List Geo.XY} (h : validB l = false) (a b : Value) : okOr3 l a b = .returned (.tuple #[.int .i64 0, .int .i64 0, .int .i64 10]) := by unfold okOr3; rw [h]; rfl

set_option maxHeartbeats 1000000 in
theorem raround_any (A : Option Addr) (l : List Geo.XY) (c : Nat) (w : World) (hr : Pts w A l) :
    Calls Try.prog 48 #[.slice A l.length c] w fun e w' => e = okOr3 l (.int .i64 (lowK l l.length)) (.int .i64 (highK l l.length)) ∧ Below w.heap.size w w' := by
  have HR := Lib.hid hr
  clear hr
  cases hv : validB l with
  | false =>
    have HV := Lib.hid hv
    have H := Lib.hid (okOr3_no hv (.int .i64 (lowK l l.length)) (.int .i64 (highK l l.length)))
    clear hv
    go_enter Try.func48, Try.ntmps48
    go_wp2_with (go_at_call 20; refine (rvalid_b _ _ _ _ HR.out false HV.out).mono ?_; rintro e w' ⟨rfl, hb'⟩)
    go_ret3
    exact ⟨by rw [H.out]; rfl, hb'⟩
  | true =>
    have HV := Lib.hid hv
    have H := Lib.hid (okOr3_yes hv (.int .i64 (lowK l l.length)) (.int .i64 (highK l l.length)))
    have hval := valid_of hv
    have h3 := hval.1
    have h64 := hval.2.1
    have HIN := Lib.hid hval.allin
    clear hv hval
    go_enter Try.func48, Try.ntmps48
    go_wp2_with (go_at_call 20; refine (rvalid_b _ _ _ _ HR.out true HV.out).mono ?_; rintro e w1 ⟨rfl, hb1⟩)
    go_loopw [2, 3, 14] (fun lo hi i wr => ∃ k : Nat, k ≤ l.length ∧ i = .int .i64 k ∧ lo = .int .i64 (lowK l k) ∧ hi = .int .i64 (highK l k) ∧ Below w.heap.size w wr) (fun _ _ i _ => l.length - (intOf i).toNat)
    case atStart => exact ⟨0, Nat.zero_le _, rfl, rfl, rfl, hb1⟩
    case round =>
      clear hb1
      obtain ⟨k, hk, rfl, rfl, rfl, hB⟩ := hrel
      by_cases hlt : k < l.length
      · rcases HR.out with h0 | ⟨b, off, rfl, hb, hc⟩
        · rw [h0] at hlt; simp at hlt
        obtain ⟨hsv, hsb⟩ := sdSq_val HIN.out k
        obtain ⟨hlb, hhb⟩ := lhK_bd HIN.out k
        obtain ⟨hr1, hr2⟩ := root_bd _ hsb
        obtain ⟨m, hm⟩ : ∃ m, m = (k + 1) % l.length := ⟨_, rfl⟩
        have hml : m < l.length := by rw [hm]; exact Nat.mod_lt _ (by omega)
        have e3 : ((k : Int) + 1) % (l.length : Int) = (m : Int) := by rw [hm]; simp
        rw [← hm] at hsv
        clear hm
        have e4 : ¬ (l.length : Int) = 0 := by omega
        have c1 : wr.cell? ⟨b, off + k * 2, none⟩ = some (.int .i64 (Geo.X l k).1) := (hB.cell (p := ⟨b, off + k * 2, none⟩) hb).trans (hc k hlt).1
        have c2 : wr.cell? ⟨b, off + k * 2 + 1, none⟩ = some (.int .i64 (Geo.X l k).2) := (hB.cell (p := ⟨b, off + k * 2 + 1, none⟩) hb).trans (hc k hlt).2
        have c3 : wr.cell? ⟨b, off + m * 2, none⟩ = some (.int .i64 (Geo.X l m).1) := (hB.cell (p := ⟨b, off + m * 2, none⟩) hb).trans (hc m hml).1
        have c4 : wr.cell? ⟨b, off + m * 2 + 1, none⟩ = some (.int .i64 (Geo.X l m).2) := (hB.cell (p := ⟨b, off + m * 2 + 1, none⟩) hb).trans (hc m hml).2
        have hbl : b < wr.heap.size := Nat.lt_of_lt_of_le hb hB.size
        clear hc
        obtain ⟨a1, a2, a3, a4⟩ := in_all HIN.out k
        obtain ⟨a5, a6, a7, a8⟩ := in_all HIN.out m
        have hBa := (hB.alloc hB.size (.cells #[.int .i64 (Geo.X l k).1, .int .i64 (Geo.X l k).2] 38)).alloc (by simp; have := hB.size; omega) (.cells #[.int .i64 (Geo.X l m).1, .int .i64 (Geo.X l m).2] 38)
        obtain ⟨s1, s2⟩ := sq_bd2 (x := (Geo.X l k).1 - (Geo.X l m).1) (by omega) (by omega)
        obtain ⟨s3, s4⟩ := sq_bd2 (x := (Geo.X l k).2 - (Geo.X l m).2) (by omega) (by omega)
        have HSV := Lib.hid hsv
        have HL1 : Hid (lowK l (k + 1) = lowK l k + Geo.fsq (sdSq l k)) := Lib.hid rfl
        have HL2 : Hid (highK l (k + 1) = highK l k + Geo.csq (sdSq l k)) := Lib.hid rfl
        clear hsv
        go_wp2_with fail
        rw [HSV.out]
        refine (root_any (sdSq l k) (by omega) _).mono ?_
        rintro e w2 ⟨rfl, rfl⟩
        go_wp2_with fail
        refine (up_any (sdSq l k) (by omega) _).mono ?_
        rintro e w2 ⟨rfl, rfl⟩
        go_wp2
        go_roundw
        case rel => exact ⟨k + 1, by omega, by go_num, by rw [HL1.out]; go_num, by rw [HL2.out]; go_num, hBa⟩
        case measure => simp [intOf]; omega
      · obtain rfl : k = l.length := by omega
        go_wp2
        go_ret3
        exact ⟨by rw [H.out]; rfl, hB⟩
end Go.Proofs.Ytflkhjicgojcbaa
