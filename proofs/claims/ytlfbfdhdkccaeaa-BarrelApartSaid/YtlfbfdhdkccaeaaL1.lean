/- BarrelApart. -/
import Derived.Test.YtlfbfdhdkccaeaaD3
namespace Go.Proofs.Ytlfbfdhdkccaeaa
open Go.RowKit Go.Shelf

set_option maxRecDepth 100000 in
set_option maxHeartbeats 4000000 in
theorem law_apart (A : Option Addr) (l : List Pl.Bt) (c : Nat) (AX : Option Addr) (xs : List Int) (cx : Nat) (hmc : xs.length ≤ cx) (hcx : cx ≤ maxLen) (w : World) (hI : Bts w A l) (hX : Rows inL 1 w AX xs) :
    Calls Try.prog 6 #[.slice A l.length c, .slice AX xs.length cx] w fun e w' => e = .returned (.bool true) ∧ Below w.heap.size w w' := by
  have hB := Below.refl w.heap.size w
  have HI := Lib.hid hI
  have HX := Lib.hid hX
  have HS := Lib.hid sane_any
  have H1 := Lib.hid (fun (h : xs.length ≤ 1000) w' hI hX => Apart_any A l c _ rfl AX xs cx _ rfl h hmc hcx w' hI hX)
  have H2 := Lib.hid (fun (h : xs.length ≤ 1000) w' hI hX => rApart_any A l c _ rfl AX xs cx _ rfl h w' hI hX)
  have H3 := Lib.hid (fun (h : xs.length ≤ 1000) w' hI hX => Length_any A l c _ rfl AX xs cx _ rfl h w' hI hX)
  have H4 := Lib.hid (fun (h : xs.length ≤ 1000) w' hI hX => rLength_any A l c _ rfl AX xs cx _ rfl h w' hI hX)
  generalize Pl.apV l xs = v1 at *
  generalize Pl.clE l xs = v2 at *
  generalize Pl.lnV l xs = v3 at *
  generalize l.length = n at *
  generalize xs.length = m at *
  clear hI hX hmc hcx
  by_cases hw : (50 : Int) < (n : Int)
  · have HW := Lib.hid (wide_b A n c 50 true (by simp [hw]))
    go_enter Try.func6, Try.ntmps6
    go_wp2_with fail
    refine (HW.out _).mono ?_
    rintro e w3 ⟨rfl, rfl⟩
    go_wp2_with fail
    refine (HS.out _).mono ?_
    rintro e w4 ⟨rfl, hb⟩
    go_wp2
    go_ret
    exact ⟨rfl, hb⟩
  have HW := Lib.hid (wide_b A n c 50 false (by simp [hw]))
  clear hw
  by_cases h6 : (60 : Int) < (m : Int)
  · go_enter Try.func6, Try.ntmps6
    go_wp2_with fail
    refine (HW.out _).mono ?_
    rintro e w3 ⟨rfl, rfl⟩
    go_wp2_with fail
    refine (HS.out _).mono ?_
    rintro e w4 ⟨rfl, hb⟩
    go_wp2
    go_ret
    exact ⟨rfl, hb⟩
  have HM : Hid (m ≤ 1000) := Lib.hid (by omega)
  go_enter Try.func6, Try.ntmps6
  go_wp2_with fail
  refine (HW.out _).mono ?_
  rintro e w3 ⟨rfl, rfl⟩
  go_wp2_with fail
  refine (H1.out HM.out _ HI.out HX.out).mono ?_
  rintro e w1 ⟨rfl, hb1⟩
  have hB1 := hB.trans (hb1.mono hB.size)
  have HI1 := Lib.hid (HI.out.below hb1)
  have HX1 := Lib.hid (HX.out.below hb1)
  clear hb1 hB HI HX H1
  go_wp2_with fail
  refine (H2.out HM.out _ HI1.out HX1.out).mono ?_
  rintro e w2 ⟨rfl, hb2⟩
  have hB2 := hB1.trans (hb2.mono hB1.size)
  have HI2 := Lib.hid (HI1.out.below hb2)
  have HX2 := Lib.hid (HX1.out.below hb2)
  clear hb2 hB1 HI1 HX1 H2
  go_wp2_with fail
  refine (H3.out HM.out _ HI2.out HX2.out).mono ?_
  rintro e w3 ⟨rfl, hb3⟩
  have hB3 := hB2.trans (hb3.mono hB2.size)
  have HI3 := Lib.hid (HI2.out.below hb3)
  have HX3 := Lib.hid (HX2.out.below hb3)
  clear hb3 hB2 HI2 HX2 H3
  go_wp2_with fail
  refine (H4.out HM.out _ HI3.out HX3.out).mono ?_
  rintro e w4 ⟨rfl, hb4⟩
  have hB4 := hB3.trans (hb4.mono hB3.size)
  clear hb4 hB3 HI3 HX3 H4
  go_wp2_with fail
  refine (HS.out _).mono ?_
  rintro e w5 ⟨rfl, hb5⟩
  go_wp2
  go_ret
  exact ⟨rfl, hB4.trans (hb5.mono hB4.size)⟩
end Go.Proofs.Ytlfbfdhdkccaeaa
