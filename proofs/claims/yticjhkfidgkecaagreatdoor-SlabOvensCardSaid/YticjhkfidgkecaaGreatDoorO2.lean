/- Ovens: Season and Ready, of the program and the document. -/
import Derived.Test.YticjhkfidgkecaaGreatDoorO1
namespace Go.Proofs.YticjhkfidgkecaaGreatDoor
open Go.RowKit Pl

/-- what seasoned answers when a call has no fault -/
theorem sea_calls (n : Int) (A : Option Addr) (t : List Int) (len c : Nat) (hlen : t.length = len) (hc : len ≤ c) (d V : Int) (hE : seE n t d = 0) (hV : seV n t d = V) (w : World) (hI : Tb w A t) :
    (Calls Tryz.prog 94 #[.int .i64 n, .slice A len c, .int .i64 d] w fun e w' => e = .returned (.int .i64 V) ∧ w' = w) ∧ (Calls Tryz.prog 97 #[.int .i64 n, .slice A len c, .int .i64 d] w fun e w' => e = .returned (.int .i64 V) ∧ w' = w) := by
  obtain ⟨hok, hn, hd, hl⟩ := seE_zero hE
  have e : V = sea n t d.toNat := by rw [← hV]; unfold seV; rw [if_pos hE]
  have h1 := seasoned_any n A t len c hlen hc hok d.toNat (by omega) (by omega) w hI
  have h2 := dseasoned_any n A t len c hlen hok d.toNat (by omega) (by omega) (by omega) w hI
  rw [show ((d.toNat : Nat) : Int) = d by omega, ← e] at h1 h2
  exact ⟨h1, h2⟩
theorem seV_of {n : Int} {t : List Int} {d : Int} (h : seE n t d ≠ 0) : seV n t d = 0 := by unfold seV; rw [if_neg h]
set_option maxRecDepth 100000 in
set_option maxHeartbeats 2000000 in
theorem season_any (n : Int) (A : Option Addr) (t : List Int) (len c : Nat) (hlen : t.length = len) (hc : len ≤ c) (hm : len ≤ maxLen) (d : Int) (w : World) (hI : Tb w A t) :
    Calls Tryz.prog 52 #[.int .i64 n, .slice A len c, .int .i64 d] w fun e w' => e = .returned (.tuple #[.int .i64 (seV n t d), .int .i64 (seE n t d)]) ∧ w' = w := by
  obtain ⟨E, hE⟩ : ∃ E, seE n t d = E := ⟨_, rfl⟩
  obtain ⟨V, hV⟩ : ∃ V, seV n t d = V := ⟨_, rfl⟩
  obtain ⟨a, ha⟩ : ∃ a, siz n = a := ⟨_, rfl⟩
  obtain ⟨b, hb⟩ : ∃ b, wai d = b := ⟨_, rfl⟩
  have HV := Lib.hid hV
  have HE := Lib.hid hE
  have HV0 := Lib.hid (seV_of (n := n) (t := t) (d := d))
  have HS := Lib.hid (fun (h : E = 0) w hI => (sea_calls n A t len c hlen hc d V (hE.trans h) hV w hI).1)
  rw [hE, hV] at HV0
  rw [hE, hV]
  unfold seE at hE
  rw [ha, hb] at hE
  have H3 := Lib.hid (fun w hI => ovenError_any A t len c hlen hm (a && b) E hE w hI)
  have H1 := Lib.hid (isSize_any n)
  have H2 := Lib.hid (isWait_any d)
  rw [ha] at H1
  rw [hb] at H2
  have HI := Lib.hid hI
  clear hlen hc hm hE hV ha hb hI
  go_enter Tryz.func52, Tryz.ntmps52
  go_wp2_with fail
  refine (H1.out _).mono ?_
  rintro e w1 ⟨rfl, rfl⟩
  cases a with
  | false =>
    rw [Bool.false_and] at H3
    go_wp2_with fail
    refine (H3.out _ HI.out).mono ?_
    rintro e w2 ⟨rfl, rfl⟩
    by_cases h0 : E = 0
    · have HSS := Lib.hid (HS.out h0)
      subst h0
      clear HS
      go_wp2_with fail
      refine (HSS.out _ HI.out).mono ?_
      rintro e w3 ⟨rfl, rfl⟩
      go_wp2_with fail
      go_ret2
      exact ⟨ret2 rfl rfl, rfl⟩
    · have g0 : (E == 0) = false := by simpa using h0
      have HZ := Lib.hid (HV0.out h0)
      go_wp2_with fail
      go_ret2
      exact ⟨ret2 (congrArg (Value.int .i64) HZ.out.symm) rfl, rfl⟩
  | true =>
    rw [Bool.true_and] at H3
    go_wp2_with fail
    refine (H2.out _).mono ?_
    rintro e w2 ⟨rfl, rfl⟩
    go_wp2_with fail
    refine (H3.out _ HI.out).mono ?_
    rintro e w3 ⟨rfl, rfl⟩
    by_cases h0 : E = 0
    · have HSS := Lib.hid (HS.out h0)
      subst h0
      clear HS
      go_wp2_with fail
      refine (HSS.out _ HI.out).mono ?_
      rintro e w4 ⟨rfl, rfl⟩
      go_wp2_with fail
      go_ret2
      exact ⟨ret2 rfl rfl, rfl⟩
    · have g0 : (E == 0) = false := by simpa using h0
      have HZ := Lib.hid (HV0.out h0)
      go_wp2_with fail
      go_ret2
      exact ⟨ret2 (congrArg (Value.int .i64) HZ.out.symm) rfl, rfl⟩
set_option maxRecDepth 100000 in
set_option maxHeartbeats 2000000 in
theorem dseason_any (n : Int) (A : Option Addr) (t : List Int) (len c : Nat) (hlen : t.length = len) (hc : len ≤ c) (hm : len ≤ maxLen) (d : Int) (w : World) (hI : Tb w A t) :
    Calls Tryz.prog 53 #[.int .i64 n, .slice A len c, .int .i64 d] w fun e w' => e = .returned (.tuple #[.int .i64 (seV n t d), .int .i64 (seE n t d)]) ∧ w' = w := by
  obtain ⟨E, hE⟩ : ∃ E, seE n t d = E := ⟨_, rfl⟩
  obtain ⟨V, hV⟩ : ∃ V, seV n t d = V := ⟨_, rfl⟩
  obtain ⟨T, hT⟩ : ∃ T, ovE t true = T := ⟨_, rfl⟩
  obtain ⟨a, ha⟩ : ∃ a, siz n = a := ⟨_, rfl⟩
  have HV0 := Lib.hid (seV_of (n := n) (t := t) (d := d))
  have HS := Lib.hid (fun (h : E = 0) w hI => (sea_calls n A t len c hlen hc d V (hE.trans h) hV w hI).2)
  have HEE := Lib.hid (ovE_and t (siz n && wai d))
  rw [show ovE t (siz n && wai d) = E from hE, hT] at HEE
  rw [hE, hV] at HV0
  rw [hE, hV]
  have H3 := Lib.hid (fun w hI => table_any A t len c hlen hm T hT w hI)
  have H1 := Lib.hid (raw_any n)
  rw [ha] at H1 HEE
  have HI := Lib.hid hI
  clear hlen hc hm hE hV ha hT hI
  go_enter Tryz.func53, Tryz.ntmps53
  go_wp2_with fail
  refine (H3.out _ HI.out).mono ?_
  rintro e w1 ⟨rfl, rfl⟩
  by_cases hT0 : T = 0
  · have HE2 := Lib.hid (HEE.out.1 hT0)
    subst hT0
    clear HEE
    go_wp2_with fail
    refine (H1.out _).mono ?_
    rintro e w2 ⟨rfl, rfl⟩
    cases a with
    | false =>
      have e2 : E = 2 := HE2.out
      have HZ := Lib.hid (HV0.out (by rw [e2]; decide))
      subst e2
      clear HE2 HS HV0
      go_wp2_with fail
      go_ret2
      exact ⟨ret2 (congrArg (Value.int .i64) HZ.out.symm) rfl, rfl⟩
    | true =>
      rw [Bool.true_and] at HE2
      by_cases h1 : d < 0
      · have e2 : E = 2 := by have := HE2.out; rw [show wai d = false by simp [wai]; omega] at this; exact this
        have HZ := Lib.hid (HV0.out (by rw [e2]; decide))
        subst e2
        clear HE2 HS HV0
        go_wp2_with fail
        go_ret2
        exact ⟨ret2 (congrArg (Value.int .i64) HZ.out.symm) rfl, rfl⟩
      · have g1 : decide (d < 0) = false := by simpa using h1
        by_cases h2 : 1000 < d
        · have e2 : E = 2 := by have := HE2.out; rw [show wai d = false by simp [wai]; omega] at this; exact this
          have HZ := Lib.hid (HV0.out (by rw [e2]; decide))
          subst e2
          clear HE2 HS HV0
          go_wp2_with fail
          go_ret2
          exact ⟨ret2 (congrArg (Value.int .i64) HZ.out.symm) rfl, rfl⟩
        · have g2 : decide (1000 < d) = false := by simpa using h2
          have e2 : E = 0 := by have := HE2.out; rw [show wai d = true by simp [wai]; omega] at this; exact this
          have HSS := Lib.hid (HS.out e2)
          subst e2
          clear HE2 HS HV0
          go_wp2_with fail
          refine (HSS.out _ HI.out).mono ?_
          rintro e w3 ⟨rfl, rfl⟩
          go_wp2_with fail
          go_ret2
          exact ⟨ret2 rfl rfl, rfl⟩
  · have e2 : E = T := HEE.out.2 hT0
    have HZ := Lib.hid (HV0.out (by rw [e2]; exact hT0))
    have g0 : (T == 0) = false := by simpa using hT0
    subst e2
    clear HS HV0 HEE
    go_wp2_with fail
    go_ret2
    exact ⟨ret2 (congrArg (Value.int .i64) HZ.out.symm) rfl, rfl⟩
end Go.Proofs.YticjhkfidgkecaaGreatDoor
