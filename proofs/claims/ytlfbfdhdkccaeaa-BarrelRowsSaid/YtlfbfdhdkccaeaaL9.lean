/- BarrelRows. -/
import Derived.Test.YtlfbfdhdkccaeaaR4
import Derived.Test.YtlfbfdhdkccaeaaN1
namespace Go.Proofs.Ytlfbfdhdkccaeaa
open Go.RowKit Go.Shelf

theorem rs_bd (l : List Pl.Bt) : (Pl.Rs l).length ≤ 1000 ∧ ∀ k, k < (Pl.Rs l).length → ((Pl.Rs l).getD k []).length ≤ 1000 := by
  by_cases h : Pl.vs l = true
  · rw [Pl.Rs_ok h]
    have hk := Pl.ok_of h
    have h1 := Pl.gr_len (l := l) l.length
    have h2 := hk.len
    refine ⟨by unfold Pl.R; omega, fun k hk' => ?_⟩
    have := (Pl.row_facts hk (Nat.le_refl _) (j := k) hk').2.1
    unfold Pl.R
    omega
  · rw [Pl.Rs_no (by simpa using h)]
    exact ⟨by simp, fun k hk => absurd hk (Nat.not_lt_zero _)⟩

set_option maxRecDepth 100000 in
set_option maxHeartbeats 4000000 in
theorem law_rows (A : Option Addr) (l : List Pl.Bt) (c : Nat) (w : World) (hI : Bts w A l) :
    Calls Try.prog 5 #[.slice A l.length c] w fun e w' => e = .returned (.bool true) ∧ Below w.heap.size w w' := by
  have HI := Lib.hid hI
  have HS := Lib.hid sane_any
  obtain ⟨n, hn⟩ : ∃ n, l.length = n := ⟨_, rfl⟩
  have H1 := Lib.hid (fun W hI => Rows_any A l c n hn W hI)
  have H2 := Lib.hid (fun W hI => rRows_any A l c n hn W hI)
  have H3 := Lib.hid (fun W hI => Fewest_any A l c n hn W hI)
  have H4 := Lib.hid (fun W hI => rFewest_any A l c n hn W hI)
  obtain ⟨hb1, hb2⟩ := rs_bd l
  have HB2 := Lib.hid hb2
  rw [hn]
  generalize Pl.Rs l = V at *
  generalize Pl.E l = e0 at *
  clear hI hn hb2
  by_cases hw : (50 : Int) < (n : Int)
  · have HW := Lib.hid (wide_b A n c 50 true (by simp [hw]))
    go_enter Try.func5, Try.ntmps5
    go_wp2_with fail
    refine (HW.out _).mono ?_
    rintro e w3 ⟨rfl, rfl⟩
    go_wp2_with fail
    refine (HS.out _).mono ?_
    rintro e w4 ⟨rfl, hb⟩
    go_wp2
    go_ret
    exact ⟨rfl, hb⟩
  have HW := Lib.hid (wide_b A n c 50 false (by simp [hw]))
  clear hw
  go_enter Try.func5, Try.ntmps5
  go_wp2_with fail
  refine (HW.out _).mono ?_
  rintro e w3 ⟨rfl, hw3⟩
  obtain rfl : w = w3 := hw3.symm
  go_wp2_with fail
  refine (H1.out _ HI.out).mono ?_
  rintro e w1 ⟨v1, f1, rfl, hR1, hB1⟩
  have HI1 := Lib.hid (HI.out.below hB1)
  have HR1 := Lib.hid hR1
  clear hR1
  go_wp2_with fail
  refine (H2.out _ HI1.out).mono ?_
  rintro e w2 ⟨v2, f2, rfl, hR2, hb2⟩
  have hB2 := hB1.trans (hb2.mono hB1.size)
  have HI2 := Lib.hid (HI1.out.below hb2)
  have HR12 := Lib.hid (HR1.out.below hb2)
  have HR2 := Lib.hid hR2
  clear hR2 hb2 HR1 HI1
  go_wp2_with fail
  refine (H3.out _ HI2.out).mono ?_
  rintro e w3 ⟨rfl, hb3⟩
  have hB3 := hB2.trans (hb3.mono hB2.size)
  have HI3 := Lib.hid (HI2.out.below hb3)
  have HR13 := Lib.hid (HR12.out.below hb3)
  have HR23 := Lib.hid (HR2.out.below hb3)
  clear hb3 HR12 HR2 HI2
  go_wp2_with fail
  refine (H4.out _ HI3.out).mono ?_
  rintro e w4 ⟨rfl, hb4⟩
  have hB4 := hB3.trans (hb4.mono hB3.size)
  obtain ⟨A1, c1, hv1, ra, _⟩ := (HR13.out.below hb4).open encIr
  obtain ⟨A2, c2, hv2, rb, _⟩ := (HR23.out.below hb4).open encIr
  subst hv1
  subst hv2
  have HQ := Lib.hid (sameRows_eq A1 A2 V c1 c2 _ rfl hb1 HB2.out w4 ra rb)
  clear ra rb hb4 HR13 HR23 HI3 hB1 hB2 hB3
  generalize V.length = m at *
  go_wp2_with fail
  refine HQ.out.mono ?_
  rintro e w5 ⟨rfl, hb5⟩
  have hB5 := hB4.trans (hb5.mono hB4.size)
  clear hb5 hB4
  go_wp2_with fail
  refine (HS.out _).mono ?_
  rintro e w6 ⟨rfl, hb⟩
  have hB6 := hB5.trans (hb.mono hB5.size)
  go_wp2
  go_ret
  exact ⟨rfl, hB6⟩
end Go.Proofs.Ytlfbfdhdkccaeaa
