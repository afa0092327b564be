/- LastStabs. -/
import Derived.Test.YtghbipipehglfaaA20
import Derived.Test.YtghbipipehglfaaA22
import Derived.Test.YtghbipipehglfaaA13
namespace Go.Proofs.Ytghbipipehglfaa
open Go.RowKit Go.Shelf

theorem stabV_len (x : Int) (vs : List Int) : (stabV x vs).length ≤ 200 := by
  unfold stabV
  split
  · rename_i h
    have := (Pl.lineE_zero h).1
    have := Pl.stabT_len x vs
    simp
    omega
  · simp
theorem sprdV_len (x : Int) (vs : List Int) : (sprdV x vs).length ≤ 200 := by
  unfold sprdV
  split
  · rename_i h
    have := (Pl.lineE_zero h).1
    have := Pl.sprdT_len x vs
    omega
  · simp

set_option maxRecDepth 100000 in
set_option maxHeartbeats 4000000 in
theorem law_stabs (A B : Option Addr) (vs ls : List Int) (c d : Nat) (x : Int) (w : World) (hI : Ints w A vs) (hJ : Ints w B ls) :
    Calls Try.prog 5 #[.slice A vs.length c, .int .i64 x, .slice B ls.length d] w fun e w' => e = .returned (.bool true) ∧ Below w.heap.size w w' := by
  have H1 := Lib.hid (fun w => stab_any A vs c x w)
  have H2 := Lib.hid (fun w => rstab_any A vs c x w)
  have H3 := Lib.hid (fun w => spread_any A vs c x w)
  have H4 := Lib.hid (fun w => rspread_any A vs c x w)
  have H5 := Lib.hid (fun w => stabbed_any A B vs ls c d x w)
  have H6 := Lib.hid (fun w => rstabbed_any A B vs ls c d x w)
  have hl1 := stabV_len x vs
  have hl2 := sprdV_len x vs
  have HI := Lib.hid hI
  have HJ := Lib.hid hJ
  clear hI hJ
  generalize stabV x vs = l1 at *
  generalize sprdV x vs = l2 at *
  generalize stbV x vs ls = b at *
  generalize Pl.lineE vs x [] = e1 at *
  generalize Pl.lineE vs x ls = e2 at *
  go_enter Try.func5, Try.ntmps5
  go_wp2_with fail
  refine (H1.out _ HI.out).mono ?_
  rintro e w1 ⟨v1, rfl, hown1, hb1⟩
  obtain ⟨A1, c1, rfl, hI1⟩ := ints_of_owns hown1
  go_wp2_with fail
  refine (H2.out _ (HI.out.below hb1)).mono ?_
  rintro e w2 ⟨v2, rfl, hown2, hb2⟩
  obtain ⟨A2, c2, rfl, hI2⟩ := ints_of_owns hown2
  have hB2 := hb1.trans (hb2.mono hb1.size)
  have HI1 := Lib.hid (hI1.below hb2)
  have HI2 := Lib.hid hI2
  clear hown1 hown2 hI1 hI2 hb1 hb2
  go_wp2_with (go_at_call 15; refine (same_yes A1 A2 l1 c1 c2 (by omega) _ HI1.out HI2.out).mono ?_; rintro e w3 ⟨rfl, hb3⟩; have hB3 := hB2.trans (hb3.mono hB2.size); clear hb3 hB2)
  refine (H3.out _ (HI.out.below hB3)).mono ?_
  rintro e w4 ⟨v4, rfl, hown4, hb4⟩
  obtain ⟨A4, c4, rfl, hI4⟩ := ints_of_owns hown4
  have hB4 := hB3.trans (hb4.mono hB3.size)
  clear hown4 hb4 hB3
  go_wp2_with fail
  refine (H4.out _ (HI.out.below hB4)).mono ?_
  rintro e w5 ⟨v5, rfl, hown5, hb5⟩
  obtain ⟨A5, c5, rfl, hI5⟩ := ints_of_owns hown5
  have hB5 := hB4.trans (hb5.mono hB4.size)
  have HI4 := Lib.hid (hI4.below hb5)
  have HI5 := Lib.hid hI5
  clear hown5 hI4 hI5 hb5 hB4
  go_wp2_with (go_at_call 15; refine (same_yes A4 A5 l2 c4 c5 (by omega) _ HI4.out HI5.out).mono ?_; rintro e w6 ⟨rfl, hb6⟩; have hB6 := hB5.trans (hb6.mono hB5.size); clear hb6 hB5)
  refine (H5.out _ (HI.out.below hB6) (HJ.out.below hB6)).mono ?_
  rintro e w7 ⟨rfl, hb7⟩
  have hB7 := hB6.trans (hb7.mono hB6.size)
  clear hb7 hB6
  go_wp2_with fail
  refine (H6.out _ (HI.out.below hB7) (HJ.out.below hB7)).mono ?_
  rintro e w8 ⟨rfl, hw8⟩
  obtain rfl : w7 = w8 := hw8.symm
  go_wp2_with fail
  refine (awake_any _).mono ?_
  rintro e wa ⟨rfl, hba⟩
  go_wp2
  go_ret
  exact ⟨rfl, hB7.trans (hba.mono hB7.size)⟩
end Go.Proofs.Ytghbipipehglfaa
