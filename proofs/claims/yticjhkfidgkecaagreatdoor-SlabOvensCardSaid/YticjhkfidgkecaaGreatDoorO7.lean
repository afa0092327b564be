/- SlabSeasons. -/
import Derived.Test.YticjhkfidgkecaaGreatDoorO3
import Derived.Test.YticjhkfidgkecaaGreatDoorO6
import Derived.Test.YticjhkfidgkecaaGreatDoorS5
namespace Go.Proofs.YticjhkfidgkecaaGreatDoor
open Go.RowKit Go.Shelf Pl

theorem allow_any (n : Int) (A : Option Addr) (t : List Int) (len c : Nat) (hlen : t.length = len) (hc : len ≤ c) (hm : len ≤ maxLen) (d : Int) (w : World) (hI : Tb w A t) :
    Calls Tryz.prog 56 #[.int .i64 n, .slice A len c, .int .i64 d] w fun e w' => e = .returned (.tuple #[.int .i64 (alV n t d), .int .i64 (alE n t d)]) ∧ Below w.heap.size w w' := by
  by_cases h0 : seE n t d = 0
  · exact allow_ok n A t len c hlen hc hm d h0 w hI
  · exact allow_err n A t len c hlen hm d h0 w hI
set_option maxRecDepth 100000 in
set_option maxHeartbeats 4000000 in
theorem law_seasons (n : Int) (A : Option Addr) (t : List Int) (len c : Nat) (d : Int) (w : World) (hlen : t.length = len) (hc : len ≤ c) (hm : c ≤ maxLen) (hI : Tb w A t) (hE : Env w) (h8 : 8 ≤ w.heap.size) :
    Calls Tryz.prog 13 #[.int .i64 n, .slice A len c, .int .i64 d] w fun e w' => e = .returned (.bool true) ∧ Below w.heap.size w w' := by
  have hml : len ≤ maxLen := Nat.le_trans hc hm
  have HSA := Lib.hid (fun w hE h8 => sane_any w hE h8)
  have HE := Lib.hid hE
  have H8 := Lib.hid h8
  have HI := Lib.hid hI
  have C1 := Lib.hid (fun w hI => season_any n A t len c hlen hc hml d w hI)
  have C2 := Lib.hid (fun w hI => dseason_any n A t len c hlen hc hml d w hI)
  have C3 := Lib.hid (fun w hI => ready_any n A t len c hlen hc hml d w hI)
  have C4 := Lib.hid (fun w hI => dready_any n A t len c hlen hc hml d w hI)
  have C5 := Lib.hid (fun w hI => allow_any n A t len c hlen hc hml d w hI)
  have C6 := Lib.hid (fun w hI => dallow_any n A t len c hlen hml d w hI)
  generalize seV n t d = v1 at *
  generalize seE n t d = e1 at *
  generalize rdV n t d = v2 at *
  generalize rdE n t d = e2 at *
  generalize alV n t d = v3 at *
  generalize alE n t d = e3 at *
  have hm63 : len ≤ 9223372036854775807 := by unfold maxLen at hml; omega
  clear hE h8 hI hlen hc hm hml
  by_cases h70 : 70 < len
  · have g0 : (70 : Int) < (len : Int) := by omega
    go_enter Tryz.func13, Tryz.ntmps13
    go_wp2_with fail
    refine (HSA.out _ HE.out H8.out).mono ?_
    rintro e w1 ⟨rfl, hb1⟩
    have HB1 := Lib.hid hb1
    clear hb1
    go_wp2_with fail
    go_ret
    exact ⟨rfl, HB1.out⟩
  · have g0 : decide ((70 : Int) < (len : Int)) = false := by simp; omega
    go_enter Tryz.func13, Tryz.ntmps13
    go_wp2_with fail
    refine (C1.out _ HI.out).mono ?_
    rintro e w1 ⟨rfl, rfl⟩
    go_wp2_with fail
    refine (C2.out _ HI.out).mono ?_
    rintro e w2 ⟨rfl, rfl⟩
    go_wp2_with fail
    refine (C3.out _ HI.out).mono ?_
    rintro e w3 ⟨rfl, rfl⟩
    go_wp2_with fail
    refine (C4.out _ HI.out).mono ?_
    rintro e w4 ⟨rfl, rfl⟩
    go_wp2_with fail
    refine (C5.out _ HI.out).mono ?_
    rintro e w5 ⟨rfl, hb5⟩
    have HB5 := Lib.hid hb5
    have HI5 := Lib.hid (HI.out.below hb5)
    have HE5 := Lib.hid (HE.out.below hb5)
    have H85 := Lib.hid (Nat.le_trans H8.out hb5.size)
    clear hb5 HI HE H8
    go_wp2_with fail
    refine (C6.out _ HI5.out).mono ?_
    rintro e w6 ⟨rfl, rfl⟩
    go_wp2_with fail
    refine (HSA.out _ HE5.out H85.out).mono ?_
    rintro e w7 ⟨rfl, hb7⟩
    have HB7 := Lib.hid (below_trans HB5.out hb7)
    clear hb7
    go_wp2_with fail
    go_ret
    exact ⟨rfl, HB7.out⟩
end Go.Proofs.YticjhkfidgkecaaGreatDoor
