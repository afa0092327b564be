import Derived.Test.YthabpgclnbmnpaaGreatDoorB5
namespace Go.Proofs.YthabpgclnbmnpaaGreatDoor
open Go.RowKit Go.Shelf

set_option maxHeartbeats 400000 in
theorem root1_any (d n g : Nat) (hd : d ≤ 1000000000) (w : World) (hc : w.cell? ⟨g, 0, none⟩ = some (.int .i64 n)) :
    Calls Tryz.prog 85 #[.int .i64 d, .pointer (some ⟨g, 0, none⟩)] w fun e w' => e = .returned (.bool (decide ((n : Int) ≤ (d : Int) * (d : Int)))) ∧ w' = w := by
  obtain ⟨m1, m2⟩ := mul_bd (a := (d : Int)) (b := (d : Int)) (A := 1000000000) (B := 1000000000) (by omega) (by omega) (by omega) (by omega)
  go_enter Tryz.func85, Tryz.ntmps85
  go_wp2
  go_ret
  exact ⟨rfl, rfl⟩

set_option maxHeartbeats 1000000 in
theorem search_any (n g : Nat) (hn : n ≤ 1000000000) (w : World) (hc : w.cell? ⟨g, 0, none⟩ = some (.int .i64 n)) :
    Calls Tryz.prog 84 #[.int .i64 n, .func (.func 85) #[] #[.pointer (some ⟨g, 0, none⟩)]] w fun e w' => e = .returned (.int .i64 (Geo.csq n)) ∧ w' = w := by
  go_enter Tryz.func84, Tryz.ntmps84
  go_wp2
  go_loop [5, 6] (fun a b => ∃ i j : Nat, i ≤ j ∧ j ≤ n ∧ a = .int .i64 i ∧ b = .int .i64 j ∧ (∀ e, e < i → e * e < n) ∧ n ≤ j * j) (fun a b => (intOf b - intOf a).toNat)
  case atStart => exact ⟨0, n, by omega, by omega, rfl, rfl, fun e he => absurd he (by omega), by
    by_cases h : n = 0
    · subst h; simp
    · exact Nat.le_mul_of_pos_right _ (by omega)⟩
  case round =>
    obtain ⟨i, j, hij, hj, rfl, rfl, hi, hjj⟩ := hrel
    have HI := Lib.hid hi
    have HJ := Lib.hid hjj
    clear hi hjj
    by_cases hlt : i < j
    · obtain ⟨h, hh⟩ : ∃ h, h = (i + j) / 2 := ⟨_, rfl⟩
      have e1 : ((i : Int) + (j : Int)) / 2 = ((h : Nat) : Int) := by omega
      have E1 := Lib.hid e1
      have hb1 : i ≤ h := by omega
      have hb2 : h < j := by omega
      clear e1 hh
      by_cases hs : n ≤ h * h
      · have hd : decide ((n : Int) ≤ (h : Int) * (h : Int)) = true := by
          rw [← Int.natCast_mul]; exact decide_eq_true (by omega)
        have HD := Lib.hid hd
        have HS := Lib.hid hs
        clear hd hs
        go_wp2_with fail
        rw [E1.out]
        refine (root1_any h n g (by omega) _ hc).mono ?_
        rintro e w' ⟨rfl, rfl⟩
        rw [HD.out]
        go_wp2
        go_round
        case rel => exact ⟨i, h, by omega, by omega, rfl, rfl, HI.out, HS.out⟩
        case measure => simp [intOf]; omega
      · have hd : decide ((n : Int) ≤ (h : Int) * (h : Int)) = false := by
          rw [← Int.natCast_mul]; exact decide_eq_false (by omega)
        have HD := Lib.hid hd
        have HS := Lib.hid hs
        clear hd hs
        go_wp2_with fail
        rw [E1.out]
        refine (root1_any h n g (by omega) _ hc).mono ?_
        rintro e w' ⟨rfl, rfl⟩
        rw [HD.out]
        go_wp2
        go_round
        case rel => exact ⟨h + 1, j, by omega, by omega, by go_num, rfl, fun e he => by
          have := HS.out
          have := Geo.sq_mono (show e ≤ h by omega)
          omega, HJ.out⟩
        case measure => simp [intOf]; omega
    · obtain rfl : i = j := by omega
      have H := Lib.hid (Geo.csq_unique HJ.out HI.out)
      go_wp2
      go_ret
      exact ⟨by rw [← H.out]; rfl, rfl⟩

/-- the rounded-down root, as the program reckons it -/
theorem fsq_up (n : Nat) (h : ¬ Geo.csq n * Geo.csq n = n) : ((Geo.csq n : Int) - 1) = (Geo.fsq n : Int) := by
  have := Geo.fsq_of_csq n
  rw [if_neg h] at this
  have h2 : 0 < Geo.csq n := by
    rcases Nat.eq_zero_or_pos (Geo.csq n) with h0 | h0
    · have h1 := (Geo.csq_spec n).1
      rw [h0] at h1 h
      omega
    · exact h0
  omega

set_option maxHeartbeats 400000 in
theorem roots_any (n : Nat) (hn : n ≤ 1000000000) (w : World) :
    Calls Tryz.prog 63 #[.int .i64 n] w fun e w' => e = .returned (.tuple #[.int .i64 (Geo.fsq n), .int .i64 (Geo.csq n)]) ∧ Below w.heap.size w w' := by
  have hle : Geo.csq n ≤ 1000000000 := Nat.le_trans (Geo.csq_self n) hn
  obtain ⟨m1, m2⟩ := mul_bd (a := (Geo.csq n : Int)) (b := (Geo.csq n : Int)) (A := 1000000000) (B := 1000000000) (by omega) (by omega) (by omega) (by omega)
  by_cases h : Geo.csq n * Geo.csq n = n
  · have hb : ((Geo.csq n : Int) * (Geo.csq n : Int) == (n : Int)) = true := by
      rw [← Int.natCast_mul, h]; simp
    have hf := Geo.fsq_of_csq n
    rw [if_pos h] at hf
    have HF := Lib.hid hf
    clear h hf
    go_enter Tryz.func63, Tryz.ntmps63
    go_wp2_with (go_at_call 84; refine (search_any n w.heap.size (by omega) _ (by go_simp)).mono ?_; rintro e w' ⟨rfl, rfl⟩)
    go_ret2
    exact ⟨by rw [HF.out]; rfl, (Below.refl _ _).alloc (Nat.le_refl _) _⟩
  · have hb : ((Geo.csq n : Int) * (Geo.csq n : Int) == (n : Int)) = false := by
      rw [← Int.natCast_mul]; simp; omega
    have HF := Lib.hid (fsq_up n h)
    clear h
    go_enter Tryz.func63, Tryz.ntmps63
    go_wp2_with (go_at_call 84; refine (search_any n w.heap.size (by omega) _ (by go_simp)).mono ?_; rintro e w' ⟨rfl, rfl⟩)
    go_ret2
    exact ⟨by rw [← HF.out]; rfl, (Below.refl _ _).alloc (Nat.le_refl _) _⟩

set_option maxHeartbeats 400000 in
theorem dot_any (ax ay bx bY : Int) (h1 : -10000000 ≤ ax) (h2 : ax ≤ 10000000) (h3 : -10000000 ≤ ay) (h4 : ay ≤ 10000000) (h5 : -10000000 ≤ bx) (h6 : bx ≤ 10000000) (h7 : -10000000 ≤ bY) (h8 : bY ≤ 10000000) (w : World) :
    Calls Tryz.prog 62 #[.agg #[.int .i64 ax, .int .i64 ay], .agg #[.int .i64 bx, .int .i64 bY]] w fun e w' =>
      e = .returned (.int .i64 (ax * bx + ay * bY)) ∧ Below w.heap.size w w' := by
  obtain ⟨m1, m2⟩ := mul_bd (a := ax) (b := bx) (A := 10000000) (B := 10000000) (by omega) (by omega) (by omega) (by omega)
  obtain ⟨m3, m4⟩ := mul_bd (a := ay) (b := bY) (A := 10000000) (B := 10000000) (by omega) (by omega) (by omega) (by omega)
  go_enter Tryz.func62, Tryz.ntmps62
  go_wp2
  go_ret
  exact ⟨rfl, ((Below.refl _ _).alloc (Nat.le_refl _) _).alloc (by simp) _⟩

/-- the greatest square of the first k corners' distances from the middle -/
def farK (l : List Geo.XY) : Nat → Nat
  | 0 => 0
  | k + 1 => max (farK l k) (((Geo.X l k).1 * (Geo.X l k).1 + (Geo.X l k).2 * (Geo.X l k).2).toNat)
theorem sq_bd {x : Int} (h1 : -5000 ≤ x) (h2 : x ≤ 5000) : 0 ≤ x * x ∧ x * x ≤ 25000000 := by
  have := mul_bd (a := x) (b := x) (A := 5000) (B := 5000) (by omega) (by omega) (by omega) (by omega)
  have h3 : 0 ≤ x * x := by
    rcases Int.le_total 0 x with h | h
    · exact Int.mul_nonneg h h
    · exact Int.mul_nonneg_of_nonpos_of_nonpos h h
  omega
theorem farK_le (l : List Geo.XY) (h : AllIn l) (k : Nat) : farK l k ≤ 50000000 := by
  induction k with
  | zero => simp [farK]
  | succ k ih =>
    obtain ⟨a1, a2, a3, a4⟩ := in_all h k
    have s1 := sq_bd a1 a2
    have s2 := sq_bd a3 a4
    rw [farK]
    omega

theorem farK_step {l : List Geo.XY} (h : AllIn l) (k : Nat) : Value.int .i64 (if ((farK l k : Nat) : Int) < (Geo.X l k).1 * (Geo.X l k).1 + (Geo.X l k).2 * (Geo.X l k).2 then (Geo.X l k).1 * (Geo.X l k).1 + (Geo.X l k).2 * (Geo.X l k).2 else ((farK l k : Nat) : Int)) = .int .i64 ((farK l (k + 1) : Nat) : Int) := by
  obtain ⟨a1, a2, a3, a4⟩ := in_all h k
  have s1 := sq_bd a1 a2
  have s2 := sq_bd a3 a4
  congr 1
  rw [farK]
  split <;> omega

set_option maxHeartbeats 1000000 in
theorem diam_any (A : Option Addr) (l : List Geo.XY) (c : Nat) (w : World) (hr : Pts w A l) (hl : l.length ≤ 64) (hin : AllIn l) :
    Calls Tryz.prog 44 #[.slice A l.length c] w fun e w' => e = .returned (.int .i64 (Geo.csq (4 * farK l l.length))) ∧ Below w.heap.size w w' := by
  have HR := Lib.hid hr
  have HIN := Lib.hid hin
  clear hr hin
  go_enter Tryz.func44, Tryz.ntmps44
  go_wp2
  go_loopw [3, 10] (fun f i wr => ∃ k : Nat, k ≤ l.length ∧ i = .int .i64 k ∧ f = .int .i64 (farK l k) ∧ Below w.heap.size w wr) (fun _ i _ => l.length - (intOf i).toNat)
  case atStart => exact ⟨0, Nat.zero_le _, rfl, rfl, Below.refl _ _⟩
  case round =>
    obtain ⟨k, hk, rfl, rfl, hB⟩ := hrel
    have hf := farK_le l HIN.out k
    by_cases hlt : k < l.length
    · rcases HR.out with h0 | ⟨b, off, rfl, hb, hc⟩
      · rw [h0] at hlt; simp at hlt
      have c1 : wr.cell? ⟨b, off + k * 2, none⟩ = some (.int .i64 (Geo.X l k).1) := (hB.cell (p := ⟨b, off + k * 2, none⟩) hb).trans (hc k hlt).1
      have c2 : wr.cell? ⟨b, off + k * 2 + 1, none⟩ = some (.int .i64 (Geo.X l k).2) := (hB.cell (p := ⟨b, off + k * 2 + 1, none⟩) hb).trans (hc k hlt).2
      clear hc
      obtain ⟨a1, a2, a3, a4⟩ := in_all HIN.out k
      go_wp2_with (go_at_call 62; refine (dot_any _ _ _ _ (by omega) (by omega) (by omega) (by omega) (by omega) (by omega) (by omega) (by omega) _).mono ?_; rintro e w' ⟨rfl, hb'⟩)
      go_roundw
      case rel => exact ⟨k + 1, by omega, by go_num, farK_step HIN.out k, (hB.alloc hB.size _).trans (hb'.mono (by simp; have := hB.size; omega))⟩
      case measure => simp [intOf]; omega
    · obtain rfl : k = l.length := by omega
      go_wp2_with fail
      rw [show (4 * ((farK l l.length : Nat) : Int)) = ((4 * farK l l.length : Nat) : Int) from by omega]
      refine (roots_any (4 * farK l l.length) (by omega) _).mono ?_
      rintro e w' ⟨rfl, hb'⟩
      go_wp2
      go_ret
      exact ⟨rfl, hB.trans (hb'.mono hB.size)⟩
end Go.Proofs.YthabpgclnbmnpaaGreatDoor
