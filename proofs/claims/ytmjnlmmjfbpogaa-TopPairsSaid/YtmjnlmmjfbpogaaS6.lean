/- The law of what Match makes. -/
import Derived.Test.YtmjnlmmjfbpogaaS5
import Derived.Test.YtmjnlmmjfbpogaaC1
namespace Go.Proofs.Ytmjnlmmjfbpogaa
open Go.RowKit Go.Shelf

theorem Mt_len {l : List Pl.Tm} {tol : Int} (h : l.length ≤ 60) : (Pl.Mt l tol).length ≤ 600 := by
  unfold Pl.Mt
  split
  · have := mt_len540 (tol := tol) h; omega
  · exact Nat.zero_le _
theorem Rs_len {l : List Pl.Tm} {tol : Int} (h : l.length ≤ 60) : (Pl.Rs l tol).length ≤ 600 := by
  unfold Pl.Rs
  split
  · exact Nat.le_trans Pl.rs_len (by omega)
  · exact Nat.zero_le _

set_option maxRecDepth 100000 in
set_option maxHeartbeats 8000000 in
theorem law_matches (A : Option Addr) (l : List Pl.Tm) (c : Nat) (tol : Int) (w : World) (hI : Tms w A l) :
    Calls Try.prog 5 #[.slice A l.length c, .int .i64 tol] w fun e w' => e = .returned (.bool true) ∧ Below w.heap.size w w' := by
  have HI := Lib.hid hI
  have HS := Lib.hid sane_any
  have H1 := Lib.hid (fun (w' : World) hI => Match_any A l c _ rfl tol w' hI)
  have H2 := Lib.hid (fun (w' : World) hI => rMatch_any A l c _ rfl tol w' hI)
  have H3 := Lib.hid (fun (w' : World) hI => Most_any A l c _ rfl tol w' hI)
  have H4 := Lib.hid (fun (w' : World) hI => rMost_any A l c _ rfl tol w' hI)
  have H5 := Lib.hid (fun (w' : World) hI => Rest_any A l c _ rfl tol w' hI)
  have H6 := Lib.hid (fun (w' : World) hI => rRest_any A l c _ rfl tol w' hI)
  have hml := fun h => Mt_len (l := l) (tol := tol) h
  have hrl := fun h => Rs_len (l := l) (tol := tol) h
  generalize Pl.Mt l tol = M at *
  generalize Pl.Rs l tol = R at *
  generalize Pl.ck l tol = r at *
  generalize l.length = n at *
  clear hI
  have hB0 := Below.refl w.heap.size w
  by_cases hw : (40 : Int) < (n : Int)
  · have HW := Lib.hid (wide_b A n c 40 true (by simp [hw]))
    go_enter Try.func5, Try.ntmps5
    go_wp2_with fail
    refine (HW.out _).mono ?_
    rintro e w3 ⟨rfl, rfl⟩
    go_wp2_with fail
    refine (HS.out _).mono ?_
    rintro e w4 ⟨rfl, hb⟩
    go_wp2
    go_ret
    exact ⟨rfl, hB0.trans (hb.mono hB0.size)⟩
  · have HW := Lib.hid (wide_b A n c 40 false (by simp [hw]))
    have HML := Lib.hid (hml (by omega))
    have HRL := Lib.hid (hrl (by omega))
    obtain ⟨m, hm⟩ : ∃ m, M.length = m := ⟨_, rfl⟩
    obtain ⟨z, hz⟩ : ∃ z, R.length = z := ⟨_, rfl⟩
    have HM := Lib.hid hm
    have HZ := Lib.hid hz
    clear hw hml hrl hm hz
    go_enter Try.func5, Try.ntmps5
    go_wp2_with fail
    refine (HW.out _).mono ?_
    rintro e w3 ⟨rfl, rfl⟩
    go_wp2_with fail
    refine (H1.out _ HI.out).mono ?_
    rintro e w1 ⟨v1, rfl, hown, hb⟩
    obtain ⟨A1, c1, rfl, hr1, _, _⟩ := rows_of_owns encPr hown
    rw [HM.out]
    have hB1 := hB0.trans (hb.mono hB0.size)
    have HI1 := Lib.hid (HI.out.below hb)
    have HA := Lib.hid hr1
    clear hown hb hB0 hr1 HI HW H1
    go_wp2_with fail
    refine (H2.out _ HI1.out).mono ?_
    rintro e w2 ⟨v2, rfl, hown, hb⟩
    obtain ⟨A2, c2, rfl, hr2, _, _⟩ := rows_of_owns encPr hown
    rw [HM.out]
    have hB2 := hB1.trans (hb.mono hB1.size)
    have HI2 := Lib.hid (HI1.out.below hb)
    have HA2 := Lib.hid (HA.out.below hb)
    have HB2 := Lib.hid hr2
    clear hown hb hB1 hr2 HI1 HA H2
    go_wp2_with fail
    refine (H3.out _ HI2.out).mono ?_
    rintro e w3 ⟨rfl, hb⟩
    have hB3 := hB2.trans (hb.mono hB2.size)
    have HI3 := Lib.hid (HI2.out.below hb)
    have HA3 := Lib.hid (HA2.out.below hb)
    have HB3 := Lib.hid (HB2.out.below hb)
    clear hb hB2 HI2 HA2 HB2 H3
    go_wp2_with fail
    refine (H4.out _ HI3.out).mono ?_
    rintro e w4 ⟨rfl, hb⟩
    have hB4 := hB3.trans (hb.mono hB3.size)
    have HI4 := Lib.hid (HI3.out.below hb)
    have HA4 := Lib.hid (HA3.out.below hb)
    have HB4 := Lib.hid (HB3.out.below hb)
    clear hb hB3 HI3 HA3 HB3 H4
    go_wp2_with fail
    refine (H5.out _ HI4.out).mono ?_
    rintro e w5 ⟨v5, rfl, hown, hb⟩
    obtain ⟨A5, c5, rfl, hr5, _, _⟩ := rows_of_owns encIr hown
    rw [HZ.out]
    have hB5 := hB4.trans (hb.mono hB4.size)
    have HI5 := Lib.hid (HI4.out.below hb)
    have HA5 := Lib.hid (HA4.out.below hb)
    have HB5 := Lib.hid (HB4.out.below hb)
    have HR5 := Lib.hid hr5
    clear hown hb hB4 HI4 HA4 HB4 H5 hr5
    go_wp2_with fail
    refine (H6.out _ HI5.out).mono ?_
    rintro e w6 ⟨v6, rfl, hown, hb⟩
    obtain ⟨A6, c6, rfl, hr6, _, _⟩ := rows_of_owns encIr hown
    rw [HZ.out]
    have hB6 := hB5.trans (hb.mono hB5.size)
    have HA6 := Lib.hid (HA5.out.below hb)
    have HB6 := Lib.hid (HB5.out.below hb)
    have HR6 := Lib.hid (HR5.out.below hb)
    have HS6 := Lib.hid hr6
    clear hown hb hB5 HI5 HA5 HB5 H6 hr6 HR5
    go_wp2_with fail
    refine (samepairs_b _ _ M c1 c2 m HM.out (by rw [← HM.out]; exact HML.out) _ HA6.out HB6.out).mono ?_
    rintro e w7 ⟨rfl, hb⟩
    have hB7 := hB6.trans (hb.mono hB6.size)
    have HR7 := Lib.hid (HR6.out.below hb)
    have HS7 := Lib.hid (HS6.out.below hb)
    clear hb hB6 HA6 HB6 HR6 HS6
    go_wp2_with fail
    refine (same_b _ _ R c5 c6 z HZ.out (by rw [← HZ.out]; exact HRL.out) _ HR7.out HS7.out).mono ?_
    rintro e w8 ⟨rfl, hb⟩
    have hB8 := hB7.trans (hb.mono hB7.size)
    clear hb hB7 HR7 HS7
    go_wp2_with fail
    refine (HS.out _).mono ?_
    rintro e w9 ⟨rfl, hb⟩
    go_wp2
    go_ret
    exact ⟨rfl, hB8.trans (hb.mono hB8.size)⟩
end Go.Proofs.Ytmjnlmmjfbpogaa
