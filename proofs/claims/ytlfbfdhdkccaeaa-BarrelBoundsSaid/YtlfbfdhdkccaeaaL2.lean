/- BarrelBounds. -/
import Derived.Test.YtlfbfdhdkccaeaaE2
namespace Go.Proofs.Ytlfbfdhdkccaeaa
open Go.RowKit Go.Shelf

set_option maxRecDepth 100000 in
set_option maxHeartbeats 4000000 in
theorem law_bounds (A : Option Addr) (l : List Pl.Bt) (c : Nat) (b cl : Int) (w : World) (hI : Bts w A l) :
    Calls Try.prog 9 #[.slice A l.length c, .int .i64 b, .int .i64 cl] w fun e w' => e = .returned (.bool true) ∧ Below w.heap.size w w' := by
  have hB := Below.refl w.heap.size w
  have HI := Lib.hid hI
  have HS := Lib.hid sane_any
  have H1 := Lib.hid (fun w' hI => Bound_any A l c _ rfl b cl w' hI)
  have H2 := Lib.hid (fun w' hI => rBound_any A l c _ rfl b cl w' hI)
  have H3 := Lib.hid (fun w' hI => Bound_any A l c _ rfl (b + 1) cl w' hI)
  have HM := Lib.hid (fun (h : Pl.bdE l b cl = 0) (h2 : b ≠ 8) => Pl.bd_more h h2)
  have HBB : Hid (Pl.bdE l b cl = 0 → 1 ≤ b ∧ b ≤ 8) := Lib.hid (fun h => (Pl.shop_true.1 (Pl.bdE_zero h).2).1)
  generalize Pl.bdV l b cl = v1 at *
  generalize Pl.bdE l b cl = v2 at *
  generalize Pl.bdV l (b + 1) cl = v3 at *
  generalize Pl.bdE l (b + 1) cl = v4 at *
  generalize l.length = n at *
  clear hI
  by_cases hw : (50 : Int) < (n : Int)
  · have HW := Lib.hid (wide_b A n c 50 true (by simp [hw]))
    go_enter Try.func9, Try.ntmps9
    go_wp2_with fail
    refine (HW.out _).mono ?_
    rintro e w3 ⟨rfl, rfl⟩
    go_wp2_with fail
    refine (HS.out _).mono ?_
    rintro e w4 ⟨rfl, hb⟩
    go_wp2
    go_ret
    exact ⟨rfl, hb⟩
  have HW := Lib.hid (wide_b A n c 50 false (by simp [hw]))
  clear hw
  go_enter Try.func9, Try.ntmps9
  go_wp2_with fail
  refine (HW.out _).mono ?_
  rintro e w3 ⟨rfl, rfl⟩
  go_wp2_with fail
  refine (H1.out _ HI.out).mono ?_
  rintro e w1 ⟨rfl, hb1⟩
  have hB1 := hB.trans (hb1.mono hB.size)
  have HI1 := Lib.hid (HI.out.below hb1)
  clear hb1 hB HI H1
  go_wp2_with fail
  refine (H2.out _ HI1.out).mono ?_
  rintro e w2 ⟨rfl, hb2⟩
  have hB2 := hB1.trans (hb2.mono hB1.size)
  have HI2 := Lib.hid (HI1.out.below hb2)
  clear hb2 hB1 HI1 H2
  go_wp2_with fail
  refine (HS.out _).mono ?_
  rintro e w3 ⟨rfl, hb3⟩
  have hB3 := hB2.trans (hb3.mono hB2.size)
  have HI3 := Lib.hid (HI2.out.below hb3)
  clear hb3 hB2 HI2
  by_cases h0 : v2 = 0
  · subst h0
    obtain ⟨b1, b8⟩ := HBB.out rfl
    by_cases hb8 : b = 8
    · subst hb8
      go_wp2
      go_ret
      exact ⟨rfl, hB3⟩
    · obtain ⟨m1, m2⟩ := HM.out rfl hb8
      have hne : (b == 8) = false := by simp [hb8]
      have HV4 := Lib.hid m1
      have k1 : IntKind.i64.wrap (b + 1) = b + 1 := IntWalk.i64_in _ (by omega)
      clear m1 hb8
      go_wp2_with fail
      refine (H3.out _ HI3.out).mono ?_
      rw [HV4.out]
      rintro e w4 ⟨rfl, hb4⟩
      have hB4 := hB3.trans (hb4.mono hB3.size)
      go_wp2
      go_ret
      exact ⟨rfl, hB4⟩
  · have h1 : (v2 != 0) = true := by simp [h0]
    clear h0
    go_wp2
    go_ret
    exact ⟨rfl, hB3⟩
end Go.Proofs.Ytlfbfdhdkccaeaa
