/- Ovens: what SlabOvens asks of Ready. -/
import Derived.Test.YticjhkfidgkecaaGreatDoorO3
namespace Go.Proofs.YticjhkfidgkecaaGreatDoor
open Go.RowKit Pl

theorem season_ok (n : Int) (A : Option Addr) (t : List Int) (len c : Nat) (hlen : t.length = len) (hc : len ≤ c) (hm : len ≤ maxLen) (h60 : len ≤ 60) (hok : OkT t) (hn : 1 ≤ n ∧ n ≤ 100000) (d : Nat) (hd : d ≤ 1000) (w : World) (hI : Tb w A t) :
    Calls Tryz.prog 52 #[.int .i64 n, .slice A len c, .int .i64 d] w fun e w' => e = .returned (.tuple #[.int .i64 (sea n t d), .int .i64 0]) ∧ w' = w := by
  have h := season_any n A t len c hlen hc hm d w hI
  have e : seE n t d = 0 := seE_of hok hn (by omega) (by omega)
  have e2 : seV n t d = sea n t d := by unfold seV; rw [if_pos e]; simp
  rw [e, e2] at h
  exact h
set_option maxRecDepth 100000 in
set_option maxHeartbeats 4000000 in
theorem rdy_any (n : Int) (A : Option Addr) (t : List Int) (len c : Nat) (hlen : t.length = len) (hc : len ≤ c) (hm : len ≤ maxLen) (h60 : len ≤ 60) (hok : OkT t) (hn : 1 ≤ n ∧ n ≤ 2000) (l : Int) (w : World) (hI : Tb w A t) :
    Calls Tryz.prog 58 #[.int .i64 n, .slice A len c, .int .i64 l] w fun e w' => e = .returned (.bool true) ∧ w' = w := by
  have HR := Lib.hid (fun w hI => ready_any n A t len c hlen hc hm l w hI)
  have HI := Lib.hid hI
  by_cases hl : l < 0
  · have e1 : rdE n t l = 2 := by
      unfold rdE
      rw [show (siz n && decide (0 ≤ l)) = false by rw [show decide (0 ≤ l) = false by simp; omega]; simp]
      have := (ovE_and t false).1 (ovE_of hok rfl (by omega)); simpa using this
    have e2 : rdV n t l = 0 := rdV_of (by rw [e1]; decide)
    rw [e1, e2] at HR
    clear hlen hc hm h60 hok hn hI e1 e2
    go_enter Tryz.func58, Tryz.ntmps58
    go_wp2_with fail
    refine (HR.out _ HI.out).mono ?_
    rintro e w1 ⟨rfl, rfl⟩
    go_wp2_with fail
    go_ret
    exact ⟨rfl, rfl⟩
  · have gl : decide (l < 0) = false := by simpa using hl
    have e1 : rdE n t l = 0 := ovE_of hok (by simp [siz]; omega) (by omega)
    obtain ⟨D, hD⟩ : ∃ D, rdy n t l = D := ⟨_, rfl⟩
    have e2 : rdV n t l = D := by unfold rdV; rw [if_pos e1, hD]
    rw [e1, e2] at HR
    obtain ⟨q1, q2, q3⟩ := rdy_spec (n := n) (t := t) (l := l) (by omega)
    rw [hD, hlen] at q1 q2 q3
    have HS := Lib.hid (fun (d : Nat) (hd : d ≤ 1000) w hI => season_ok n A t len c hlen hc hm h60 hok (by omega) d hd w hI)
    have bz := sea_bd (s := n) len hok (by omega)
    have by' := sea_bd (s := n) D hok (by omega)
    have kw : IntKind.i64.wrap (sea n t D - sea n t len) = sea n t D - sea n t len := IntWalk.i64_in _ (by omega)
    have gy : decide (l < sea n t D - sea n t len) = false := by simpa using q2
    rcases Nat.eq_zero_or_pos D with h0 | h0
    · subst h0
      have HSz := Lib.hid (HS.out len (by omega))
      have HS0 := Lib.hid (HS.out 0 (by omega))
      generalize sea n t len = z at *
      generalize sea n t 0 = y at *
      clear hlen hc hm hok hI e1 e2 HS bz by' q1 q2 q3 hD hn
      have HKW := Lib.hid kw
      by_cases hnl : n ≤ l
      · go_enter Tryz.func58, Tryz.ntmps58
        go_wp2_with fail
        refine (HR.out _ HI.out).mono ?_
        rintro e w1 ⟨rfl, rfl⟩
        go_wp2_with fail
        refine (HSz.out _ HI.out).mono ?_
        rintro e w2 ⟨rfl, rfl⟩
        go_wp2_with fail
        refine (HS0.out _ HI.out).mono ?_
        rintro e w3 ⟨rfl, rfl⟩
        go_wp2_with fail
        go_ret
        exact ⟨rfl, rfl⟩
      · have gn : decide (n ≤ l) = false := by simpa using hnl
        go_enter Tryz.func58, Tryz.ntmps58
        go_wp2_with fail
        refine (HR.out _ HI.out).mono ?_
        rintro e w1 ⟨rfl, rfl⟩
        go_wp2_with fail
        refine (HSz.out _ HI.out).mono ?_
        rintro e w2 ⟨rfl, rfl⟩
        go_wp2_with fail
        refine (HS0.out _ HI.out).mono ?_
        rintro e w3 ⟨rfl, rfl⟩
        go_wp2_with fail
        go_ret
        exact ⟨rfl, rfl⟩
    · obtain ⟨p, rfl⟩ : ∃ p, D = p + 1 := ⟨D - 1, by omega⟩
      have q4 := q3 p (by omega)
      have bu := sea_bd (s := n) p hok (by omega)
      have gn : decide (n ≤ l) = false := by simp; omega
      have gu : decide (l < sea n t p - sea n t len) = true := by simpa using q4
      have kw2 : IntKind.i64.wrap (sea n t p - sea n t len) = sea n t p - sea n t len := IntWalk.i64_in _ (by omega)
      have kw3 : IntKind.i64.wrap ((p : Int) + 1 - 1) = p := by rw [show (p : Int) + 1 - 1 = p by omega]; exact IntWalk.i64_in _ (by omega)
      have KW4 : Hid (wrap64 (p : Int) = p) := Lib.hid (by unfold wrap64; omega)
      have gp : decide ((p : Int) + 1 < 0) = false := by simp; omega
      have gq : decide ((len : Int) < (p : Int) + 1) = false := by simp; omega
      have gr : ((p : Int) + 1 == 0) = false := by simp; omega
      have gs : ((p : Int) + 1 != 0) = true := by simp; omega
      have HSz := Lib.hid (HS.out len (by omega))
      have HSD := Lib.hid (HS.out (p + 1) (by omega))
      have HSp := Lib.hid (HS.out p (by omega))
      rw [show ((p + 1 : Nat) : Int) = (p : Int) + 1 by omega] at HR HSD
      generalize sea n t len = z at *
      generalize sea n t (p + 1) = y at *
      generalize sea n t p = u at *
      clear hlen hc hm hok hI e1 e2 HS bz by' q1 q2 q3 q4 hD hn h0 bu
      go_enter Tryz.func58, Tryz.ntmps58
      go_wp2_with fail
      refine (HR.out _ HI.out).mono ?_
      rintro e w1 ⟨rfl, rfl⟩
      go_wp2_with fail
      refine (HSz.out _ HI.out).mono ?_
      rintro e w2 ⟨rfl, rfl⟩
      go_wp2_with fail
      refine (HSD.out _ HI.out).mono ?_
      rintro e w3 ⟨rfl, rfl⟩
      go_wp2_with fail
      rw [KW4.out]
      refine (HSp.out _ HI.out).mono ?_
      rintro e w4 ⟨rfl, rfl⟩
      go_wp2_with fail
      go_ret
      exact ⟨rfl, rfl⟩
end Go.Proofs.YticjhkfidgkecaaGreatDoor
