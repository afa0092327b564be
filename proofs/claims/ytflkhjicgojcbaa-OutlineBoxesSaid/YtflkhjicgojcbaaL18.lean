import Derived.Test.YtflkhjicgojcbaaL16
import Derived.Test.YtflkhjicgojcbaaL17
namespace Go.Proofs.Ytflkhjicgojcbaa
open Go.RowKit Go.Shelf

set_option maxRecDepth 100000 in
set_option maxHeartbeats 4000000 in
theorem law_boxes (A : Option Addr) (l : List Geo.XY) (c : Nat) (w : World) (hr : Pts w A l) :
    Calls Try.prog 4 #[.slice A l.length c] w fun e w' => e = .returned (.bool true) ∧ Below w.heap.size w w' := by
  have HR := Lib.hid hr
  clear hr
  obtain ⟨x1, x2, x3, h1⟩ : ∃ x1 x2 x3 : Int, okOr3 l (.int .i64 (boxA l)) (.int .i64 (boxB l)) = .returned (.tuple #[.int .i64 x1, .int .i64 x2, .int .i64 x3]) := by
    cases hv : validB l with
    | true => exact ⟨_, _, _, okOr3_yes hv _ _⟩
    | false => exact ⟨_, _, _, okOr3_no hv _ _⟩
  obtain ⟨y1, y2, h2⟩ : ∃ y1 y2 : Int, okOr l (.int .i64 0) (.int .i64 (Geo.areaK l l.length)) = .returned (.tuple #[.int .i64 y1, .int .i64 y2]) := by
    cases hv : validB l with
    | true => exact ⟨_, _, okOr_yes hv _ _⟩
    | false => exact ⟨_, _, okOr_no hv _ _⟩
  have hlen : (lstV l (l.map (subXY (midP l)))).1.length ≤ 256 := by
    cases hv : validB l with
    | true => rw [lstV_ok hv]; have := (valid_of hv).2.1; rw [Geo.canon_length, List.length_map]; omega
    | false => rw [lstV_no hv]; simp
  obtain ⟨⟨m1, m2⟩, hm⟩ : ∃ r, lstV l (l.map (subXY (midP l))) = r := ⟨_, rfl⟩
  rw [hm] at hlen
  have heq : eqB m1 m1 = true := by unfold eqB; simp
  have H1 := Lib.hid h1
  have H2 := Lib.hid h2
  have HM := Lib.hid hm
  have HEQ := Lib.hid heq
  clear h1 h2 hm heq
  dsimp only at hlen
  go_enter Try.func4, Try.ntmps4
  go_wp2_with fail
  refine (dbox_any A l c _ HR.out).mono ?_
  rintro e w1 ⟨rfl, hb1⟩
  rw [H1.out]
  go_wp2_with fail
  refine (rbox_any A l c _ (HR.out.below hb1)).mono ?_
  rintro e w2 ⟨rfl, hb2⟩
  have hB2 := hb1.trans (hb2.mono hb1.size)
  rw [H1.out]
  go_wp2_with fail
  refine (dcentred_any A l c _ (HR.out.below hB2)).mono ?_
  rintro e w3 ⟨a1, rfl, hown1, hb3⟩
  have hB3 := hB2.trans (hb3.mono hB2.size)
  rw [HM.out] at hown1
  rw [HM.out]
  obtain ⟨A1, c1, rfl, hp1⟩ := pts_of_owns hown1
  go_wp2_with fail
  refine (rcentred_any A l c _ (HR.out.below hB3)).mono ?_
  rintro e w4 ⟨a2, rfl, hown2, hb4⟩
  have hB4 := hB3.trans (hb4.mono hB3.size)
  rw [HM.out] at hown2
  rw [HM.out]
  obtain ⟨A2, c2, rfl, hp2⟩ := pts_of_owns hown2
  have HP1 := Lib.hid (hp1.below hb4)
  have HP2 := Lib.hid hp2
  clear hp1 hp2 hown1 hown2
  dsimp only at HP1 HP2 ⊢
  go_wp2_with fail
  refine (area_any A l c _ (HR.out.below hB4)).mono ?_
  rintro e w5 ⟨rfl, hb5⟩
  have hB5 := hB4.trans (hb5.mono hB4.size)
  rw [H2.out]
  go_wp2_with fail
  refine (rarea_any A l c _ (HR.out.below hB5)).mono ?_
  rintro e w6 ⟨rfl, hb6⟩
  have hB6 := hB5.trans (hb6.mono hB5.size)
  rw [H2.out]
  go_wp2_with fail
  refine (same_any A1 A2 m1 m1 c1 c2 _ ((HP1.out.below hb5).below hb6) ((HP2.out.below hb5).below hb6) hlen true HEQ.out).mono ?_
  rintro e w7 ⟨rfl, hb7⟩
  have hB7 := hB6.trans (hb7.mono hB6.size)
  go_wp2_with fail
  refine (awake_any _).mono ?_
  rintro e w8 ⟨rfl, hb8⟩
  go_wp2
  go_ret
  exact ⟨rfl, hB7.trans (hb8.mono hB7.size)⟩
end Go.Proofs.Ytflkhjicgojcbaa
