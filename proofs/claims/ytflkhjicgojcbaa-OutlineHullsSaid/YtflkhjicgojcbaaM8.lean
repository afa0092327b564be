import Derived.Test.YtflkhjicgojcbaaM7
import Derived.Test.YtflkhjicgojcbaaH5
import Derived.Test.YtflkhjicgojcbaaM3
namespace Go.Proofs.Ytflkhjicgojcbaa
open Go.RowKit Go.Shelf

theorem boxA_bd {l : List Geo.XY} (h : AllIn l) : -10000 ≤ boxA l ∧ boxA l ≤ 10000 := by
  obtain ⟨a1, a2, a3, a4⟩ := lowP_bd h l.length
  obtain ⟨a5, a6, a7, a8⟩ := highP_bd h l.length
  unfold boxA
  omega

theorem dia_bd {l : List Geo.XY} (h : AllIn l) : (0 : Int) ≤ (Geo.csq (4 * farK l l.length) : Int) ∧ (Geo.csq (4 * farK l l.length) : Int) ≤ 100000000 := by
  refine ⟨by omega, ?_⟩
  have := farK_le l h l.length
  have := Geo.csq_le (4 * farK l l.length) 100000000 (by omega)
  omega

theorem diam_r (A : Option Addr) (l : List Geo.XY) (c : Nat) (w : World) (hr : Pts w A l) (hl : l.length ≤ 64) (hin : AllIn l) (d : Int) (h : (Geo.csq (4 * farK l l.length) : Int) = d) :
    Calls Try.prog 96 #[.slice A l.length c] w fun e w' => e = .returned (.int .i64 d) ∧ Below w.heap.size w w' := by
  subst h; exact diam_any A l c w hr hl hin

set_option maxRecDepth 100000 in
set_option maxHeartbeats 4000000 in
theorem dblank_any (A : Option Addr) (l : List Geo.XY) (c : Nat) (br pu : Int) (w : World) (hr : Pts w A l) :
    Calls Try.prog 51 #[.slice A l.length c, .int .i64 br, .int .i64 pu] w fun e w' => e = tup2 (blankV l br pu) ∧ Below w.heap.size w w' := by
  have HR := Lib.hid hr
  cases hv : validB l with
  | false =>
    have HV := Lib.hid hv
    have H := Lib.hid (blankV_no hv br pu)
    clear hv hr
    go_enter Try.func51, Try.ntmps51
    go_wp2_with (go_at_call 19; refine (dvalid_b _ _ _ _ HR.out false HV.out).mono ?_; rintro e w' ⟨rfl, hb'⟩)
    go_ret2
    exact ⟨by rw [H.out]; rfl, hb'⟩
  | true =>
    have HV := Lib.hid hv
    have hval := valid_of hv
    have h3 := hval.1
    have h64 := hval.2.1
    by_cases hbr : 0 ≤ br
    by_cases hbr2 : br ≤ 20000
    by_cases hpu : 0 ≤ pu
    by_cases hpu2 : pu ≤ 20000
    · have H := Lib.hid (blankV_ok hv (br := br) (pu := pu) ⟨⟨hbr, hbr2⟩, hpu, hpu2⟩)
      have HIN := Lib.hid hval.allin
      have HBA : Hid (boxA l = (highP l l.length).1 - (lowP l l.length).1) := Lib.hid rfl
      obtain ⟨a1, a2, a3, a4⟩ := lowP_bd hval.allin l.length
      obtain ⟨a5, a6, a7, a8⟩ := highP_bd hval.allin l.length
      obtain ⟨d1, d2⟩ := dia_bd hval.allin
      obtain ⟨d, hd⟩ : ∃ d : Int, (Geo.csq (4 * farK l l.length) : Int) = d := ⟨_, rfl⟩
      rw [hd] at d1 d2
      have HD := Lib.hid hd
      clear hv hval hd
      rcases hr with h0 | ⟨b, off, rfl, hb, hc⟩
      · rw [h0] at h3; simp at h3
      have HC := Lib.hid hc
      clear hc
      go_enter Try.func51, Try.ntmps51
      go_wp2_with fail
      refine (dvalid_b _ _ _ _ HR.out true HV.out).mono ?_
      rintro e w1 ⟨rfl, hb1⟩
      go_wp2_with fail
      refine (bounds_any b off c l (by omega) h64 w1 (Nat.lt_of_lt_of_le hb hb1.size) (fun k hk => ⟨(hb1.cell (p := ⟨b, off + k * 2, none⟩) hb).trans (HC.out k hk).1, (hb1.cell (p := ⟨b, off + k * 2 + 1, none⟩) hb).trans (HC.out k hk).2⟩)).mono ?_
      rintro e w2 ⟨rfl, hb2⟩
      have hB2 := hb1.trans (hb2.mono hb1.size)
      have hsB := hB2.size
      have hB3 := (hB2.alloc hB2.size (.cells #[.int .i64 (lowP l l.length).1, .int .i64 (lowP l l.length).2] 38)).alloc (by simp; omega) (.cells #[.int .i64 (highP l l.length).1, .int .i64 (highP l l.length).2] 38)
      generalize lowP l l.length = lo at *
      generalize highP l l.length = hi at *
      have hxx := HBA.out
      generalize hbx : boxA l = bx at *
      go_wp2_with fail
      refine (diam_r (some ⟨b, off, none⟩) l c _ (HR.out.below hB3) h64 HIN.out d HD.out).mono ?_
      rintro e w4 ⟨rfl, hb4⟩
      have e0 : hi.1 - lo.1 = bx := hxx.symm
      have HXX := Lib.hid hxx
      clear hxx
      by_cases hneg : bx + br - pu < -(bx + br - pu)
      · go_wp2
        go_ret2
        exact ⟨by rw [H.out, HD.out, if_pos hneg]; rfl, hB3.trans (hb4.mono hB3.size)⟩
      · go_wp2
        go_ret2
        exact ⟨by rw [H.out, HD.out, if_neg (Int.not_lt.2 hneg)]; rfl, hB3.trans (hb4.mono hB3.size)⟩
    all_goals (
      have H := Lib.hid (blankV_arg hv (br := br) (pu := pu) (by omega))
      clear hv hval hr
      go_enter Try.func51, Try.ntmps51
      go_wp2_with (go_at_call 19; refine (dvalid_b _ _ _ _ HR.out true HV.out).mono ?_; rintro e w' ⟨rfl, hb'⟩)
      go_ret2
      exact ⟨by rw [H.out]; rfl, hb'⟩)

set_option maxRecDepth 100000 in
set_option maxHeartbeats 4000000 in
theorem rblank_any (A : Option Addr) (l : List Geo.XY) (c : Nat) (br pu : Int) (w : World) (hr : Pts w A l) :
    Calls Try.prog 52 #[.slice A l.length c, .int .i64 br, .int .i64 pu] w fun e w' => e = tup2 (blankV l br pu) ∧ Below w.heap.size w w' := by
  have HR := Lib.hid hr
  cases hv : validB l with
  | false =>
    have HV := Lib.hid hv
    have H := Lib.hid (blankV_no hv br pu)
    have HO := Lib.hid (okOr_no hv (.int .i64 0) (.int .i64 (Geo.csq (4 * farK l l.length))))
    clear hv hr
    go_enter Try.func52, Try.ntmps52
    go_wp2_with fail
    refine (rdiam_any _ _ _ _ HR.out).mono ?_
    rintro e w' ⟨rfl, hb'⟩
    rw [HO.out]
    go_wp2
    go_ret2
    exact ⟨by rw [H.out]; rfl, hb'⟩
  | true =>
    have HV := Lib.hid hv
    have hval := valid_of hv
    have h64 := hval.2.1
    have HIN := Lib.hid hval.allin
    obtain ⟨a1, a2⟩ := boxA_bd hval.allin
    obtain ⟨d1, d2⟩ := dia_bd hval.allin
    obtain ⟨d, hd⟩ : ∃ d : Int, (Geo.csq (4 * farK l l.length) : Int) = d := ⟨_, rfl⟩
    have HO := Lib.hid (okOr_yes hv (.int .i64 0) (.int .i64 (Geo.csq (4 * farK l l.length))))
    rw [hd] at d1 d2 HO
    have HD := Lib.hid hd
    have HO3 := Lib.hid (okOr3_yes hv (.int .i64 (boxA l)) (.int .i64 (boxB l)))
    by_cases hbr : 0 ≤ br
    by_cases hbr2 : br ≤ 20000
    by_cases hpu : 0 ≤ pu
    by_cases hpu2 : pu ≤ 20000
    · have H := Lib.hid (blankV_ok hv (br := br) (pu := pu) ⟨⟨hbr, hbr2⟩, hpu, hpu2⟩)
      clear hv hval hr hd
      go_enter Try.func52, Try.ntmps52
      go_wp2_with fail
      refine (rdiam_any _ _ _ _ HR.out).mono ?_
      rintro e w1 ⟨rfl, hb1⟩
      rw [HD.out, HO.out]
      go_wp2_with fail
      refine (rbox_any _ _ _ _ (HR.out.below hb1)).mono ?_
      rintro e w2 ⟨rfl, hb2⟩
      have hB2 := hb1.trans (hb2.mono hb1.size)
      rw [HO3.out]
      generalize boxB l = by' at *
      generalize boxA l = bx at *
      by_cases hneg : bx + br - pu < -(bx + br - pu)
      · go_wp2
        go_ret2
        exact ⟨by rw [H.out, HD.out, if_pos hneg]; rfl, hB2⟩
      · go_wp2
        go_ret2
        exact ⟨by rw [H.out, HD.out, if_neg (Int.not_lt.2 hneg)]; rfl, hB2⟩
    all_goals (
      have H := Lib.hid (blankV_arg hv (br := br) (pu := pu) (by omega))
      clear hv hval hr hd
      go_enter Try.func52, Try.ntmps52
      go_wp2_with fail
      refine (rdiam_any _ _ _ _ HR.out).mono ?_
      rintro e w1 ⟨rfl, hb1⟩
      rw [HD.out, HO.out]
      go_wp2
      go_ret2
      exact ⟨by rw [H.out]; rfl, hb1⟩)

set_option maxRecDepth 100000 in
set_option maxHeartbeats 4000000 in
theorem law_measures (A : Option Addr) (l : List Geo.XY) (c : Nat) (br pu : Int) (w : World) (hr : Pts w A l) :
    Calls Try.prog 10 #[.slice A l.length c, .int .i64 br, .int .i64 pu] w fun e w' => e = .returned (.bool true) ∧ Below w.heap.size w w' := by
  have HR := Lib.hid hr
  clear hr
  obtain ⟨x1, x2, x3, h1⟩ : ∃ x1 x2 x3 : Int, okOr3 l (.int .i64 (lowK l l.length)) (.int .i64 (highK l l.length)) = .returned (.tuple #[.int .i64 x1, .int .i64 x2, .int .i64 x3]) := by
    cases hv : validB l with
    | true => exact ⟨_, _, _, okOr3_yes hv _ _⟩
    | false => exact ⟨_, _, _, okOr3_no hv _ _⟩
  obtain ⟨y1, y2, h2⟩ : ∃ y1 y2 : Int, okOr l (.int .i64 0) (.int .i64 (Geo.csq (4 * farK l l.length))) = .returned (.tuple #[.int .i64 y1, .int .i64 y2]) := by
    cases hv : validB l with
    | true => exact ⟨_, _, okOr_yes hv _ _⟩
    | false => exact ⟨_, _, okOr_no hv _ _⟩
  obtain ⟨⟨z1, z2⟩, h3⟩ : ∃ r, blankV l br pu = r := ⟨_, rfl⟩
  have H1 := Lib.hid h1
  have H2 := Lib.hid h2
  have H3 := Lib.hid h3
  clear h1 h2 h3
  go_enter Try.func10, Try.ntmps10
  go_wp2_with fail
  refine (around_any A l c _ HR.out).mono ?_
  rintro e w1 ⟨rfl, hb1⟩
  rw [H1.out]
  go_wp2_with fail
  refine (raround_any A l c _ (HR.out.below hb1)).mono ?_
  rintro e w2 ⟨rfl, hb2⟩
  have hB2 := hb1.trans (hb2.mono hb1.size)
  rw [H1.out]
  go_wp2_with fail
  refine (diameter_any A l c _ (HR.out.below hB2)).mono ?_
  rintro e w3 ⟨rfl, hb3⟩
  have hB3 := hB2.trans (hb3.mono hB2.size)
  rw [H2.out]
  go_wp2_with fail
  refine (rdiam_any A l c _ (HR.out.below hB3)).mono ?_
  rintro e w4 ⟨rfl, hb4⟩
  have hB4 := hB3.trans (hb4.mono hB3.size)
  rw [H2.out]
  go_wp2_with fail
  refine (dblank_any A l c br pu _ (HR.out.below hB4)).mono ?_
  rintro e w5 ⟨rfl, hb5⟩
  have hB5 := hB4.trans (hb5.mono hB4.size)
  rw [H3.out]
  unfold tup2
  go_wp2_with fail
  refine (rblank_any A l c br pu _ (HR.out.below hB5)).mono ?_
  rintro e w6 ⟨rfl, hb6⟩
  have hB6 := hB5.trans (hb6.mono hB5.size)
  rw [H3.out]
  unfold tup2
  go_wp2_with fail
  refine (awake_any _).mono ?_
  rintro e w7 ⟨rfl, hb7⟩
  go_wp2
  go_ret
  exact ⟨rfl, hB6.trans (hb7.mono hB6.size)⟩
end Go.Proofs.Ytflkhjicgojcbaa
