import Derived.Test.YtflkhjicgojcbaaH5
namespace Go.Proofs.Ytflkhjicgojcbaa
open Go.RowKit Go.Shelf

/-- a bool and an error -/
def tupB (p : Bool × Int) : Ending := .returned (.tuple #[.bool p.1, .int .i64 p.2])
noncomputable def holdsV (l : List Geo.XY) (p : Geo.XY) : Bool × Int :=
  if validB l = true then (if rngB 20000 p = true then (holdB l p, 0) else (false, 2)) else (false, 10)
theorem holdsV_inv {l : List Geo.XY} (h : validB l = false) (p : Geo.XY) : tupB (holdsV l p) = .returned (.tuple #[.bool false, .int .i64 10]) := by unfold holdsV; rw [h]; rfl
theorem holdsV_arg {l : List Geo.XY} (h : validB l = true) {p : Geo.XY} (hb : ¬ rngB 20000 p = true) : tupB (holdsV l p) = .returned (.tuple #[.bool false, .int .i64 2]) := by unfold holdsV; rw [if_pos h, if_neg hb]; rfl
theorem holdsV_ok {l : List Geo.XY} (h : validB l = true) {p : Geo.XY} (hb : rngB 20000 p = true) : tupB (holdsV l p) = .returned (.tuple #[.bool (holdB l p), .int .i64 0]) := by unfold holdsV; rw [if_pos h, if_pos hb]; rfl

set_option maxHeartbeats 1000000 in
theorem dholds_any (A : Option Addr) (l : List Geo.XY) (c : Nat) (p : Geo.XY) (w : World) (hr : Pts w A l) :
    Calls Try.prog 37 #[.slice A l.length c, .agg #[.int .i64 p.1, .int .i64 p.2]] w fun e w' => e = tupB (holdsV l p) ∧ Below w.heap.size w w' := by
  have HR := Lib.hid hr
  clear hr
  have hb0 : Below w.heap.size w (w.alloc (.cells #[.int .i64 p.1, .int .i64 p.2] 38)) := (Below.refl _ w).alloc (Nat.le_refl _) _
  cases hv : validB l with
  | false =>
    have HV := Lib.hid hv
    have H := Lib.hid (holdsV_inv hv p)
    clear hv
    go_enter Try.func37, Try.ntmps37
    go_wp2_with (go_at_call 19; refine (dvalid_b _ _ _ _ (HR.out.below hb0) false HV.out).mono ?_; rintro e w' ⟨rfl, hb'⟩)
    go_ret2
    exact ⟨by rw [H.out]; rfl, hb0.trans (hb'.mono hb0.size)⟩
  | true =>
    have HV := Lib.hid hv
    have hval := valid_of hv
    have HVal := Lib.hid hval
    clear hval
    cases hrng : rngB 20000 p with
    | false =>
      have H := Lib.hid (holdsV_arg hv (p := p) (by rw [hrng]; simp))
      have HG := Lib.hid hrng
      clear hv hrng
      go_enter Try.func37, Try.ntmps37
      go_wp2_with (first | (go_at_call 19; refine (dvalid_b _ _ _ _ (HR.out.below hb0) true HV.out).mono ?_; rintro e w1 ⟨rfl, hb1⟩; have q1 := ((Blk.new w 38 _).below hb1 (by simp)).cell 0; have q2 := ((Blk.new w 38 _).below hb1 (by simp)).cell 1; simp only [List.getElem?_toArray, List.getElem?_cons_zero, List.getElem?_cons_succ] at q1 q2) | (go_at_call 77; refine (inr_b p.1 p.2 _ (by omega) (by omega) _ false HG.out).mono ?_; rintro e w2 ⟨rfl, hb2⟩))
      go_ret2
      exact ⟨by rw [H.out]; rfl, (hb0.trans (hb1.mono hb0.size)).trans (hb2.mono (Nat.le_trans hb0.size hb1.size))⟩
    | true =>
      obtain ⟨u1, u2, v1, v2⟩ := (rngB_iff _ _).1 hrng
      have H := Lib.hid (holdsV_ok hv hrng)
      have HG := Lib.hid hrng
      obtain ⟨r, hh⟩ : ∃ r, holdB l p = r := ⟨_, rfl⟩
      have HH := Lib.hid hh
      clear hv hrng hh
      go_enter Try.func37, Try.ntmps37
      go_wp2_with (first | (go_at_call 19; refine (dvalid_b _ _ _ _ (HR.out.below hb0) true HV.out).mono ?_; rintro e w1 ⟨rfl, hb1⟩; have q1 := ((Blk.new w 38 _).below hb1 (by simp)).cell 0; have q2 := ((Blk.new w 38 _).below hb1 (by simp)).cell 1; simp only [List.getElem?_toArray, List.getElem?_cons_zero, List.getElem?_cons_succ] at q1 q2) | (go_at_call 77; refine (inr_b p.1 p.2 _ (by omega) (by omega) _ true HG.out).mono ?_; rintro e w2 ⟨rfl, hb2⟩; have q3 := (((Blk.new w 38 _).below hb1 (by simp)).below hb2 (((Blk.new w 38 _).below hb1 (by simp)).lt)).cell 0; have q4 := (((Blk.new w 38 _).below hb1 (by simp)).below hb2 (((Blk.new w 38 _).below hb1 (by simp)).lt)).cell 1; simp only [List.getElem?_toArray, List.getElem?_cons_zero, List.getElem?_cons_succ] at q3 q4) | (go_at_call 82; refine (holds_b p _ _ _ _ (HR.out.below ((hb0.trans (hb1.mono hb0.size)).trans (hb2.mono (Nat.le_trans hb0.size hb1.size)))) HVal.out (by omega) (by omega) (by omega) (by omega) r HH.out).mono ?_; rintro e w3 ⟨rfl, hb3⟩))
      go_ret2
      exact ⟨by rw [H.out, HH.out]; rfl, ((hb0.trans (hb1.mono hb0.size)).trans (hb2.mono (Nat.le_trans hb0.size hb1.size))).trans (hb3.mono (Nat.le_trans hb0.size (Nat.le_trans hb1.size hb2.size)))⟩

set_option maxHeartbeats 1000000 in
theorem rholds_any (A : Option Addr) (l : List Geo.XY) (c : Nat) (p : Geo.XY) (w : World) (hr : Pts w A l) :
    Calls Try.prog 38 #[.slice A l.length c, .agg #[.int .i64 p.1, .int .i64 p.2]] w fun e w' => e = tupB (holdsV l p) ∧ Below w.heap.size w w' := by
  have HR := Lib.hid hr
  clear hr
  have hb0 : Below w.heap.size w (w.alloc (.cells #[.int .i64 p.1, .int .i64 p.2] 38)) := (Below.refl _ w).alloc (Nat.le_refl _) _
  cases hv : validB l with
  | false =>
    have HV := Lib.hid hv
    have H := Lib.hid (holdsV_inv hv p)
    clear hv
    go_enter Try.func38, Try.ntmps38
    go_wp2_with (go_at_call 20; refine (rvalid_b _ _ _ _ (HR.out.below hb0) false HV.out).mono ?_; rintro e w' ⟨rfl, hb'⟩)
    go_ret2
    exact ⟨by rw [H.out]; rfl, hb0.trans (hb'.mono hb0.size)⟩
  | true =>
    have HV := Lib.hid hv
    have hval := valid_of hv
    have HVal := Lib.hid hval
    clear hval
    by_cases hrng : -20000 ≤ p.1 ∧ p.1 ≤ 20000 ∧ -20000 ≤ p.2 ∧ p.2 ≤ 20000
    · have H := Lib.hid (holdsV_ok hv ((rngB_iff _ _).2 hrng))
      obtain ⟨u1, u2, v1, v2⟩ := hrng
      obtain ⟨r, hh⟩ : ∃ r, holdB l p = r := ⟨_, rfl⟩
      have HH := Lib.hid hh
      clear hv hh
      go_enter Try.func38, Try.ntmps38
      go_wp2_with (first | (go_at_call 20; refine (rvalid_b _ _ _ _ (HR.out.below hb0) true HV.out).mono ?_; rintro e w1 ⟨rfl, hb1⟩; have q1 := ((Blk.new w 38 _).below hb1 (by simp)).cell 0; have q2 := ((Blk.new w 38 _).below hb1 (by simp)).cell 1; simp only [List.getElem?_toArray, List.getElem?_cons_zero, List.getElem?_cons_succ] at q1 q2) | (go_at_call 83; refine (inside_b p _ _ _ _ (HR.out.below (hb0.trans (hb1.mono hb0.size))) HVal.out.2.1 HVal.out.allin (by omega) (by omega) (by omega) (by omega) r HH.out).mono ?_; rintro e w3 ⟨rfl, hb3⟩))
      go_ret2
      exact ⟨by rw [H.out, HH.out]; rfl, (hb0.trans (hb1.mono hb0.size)).trans (hb3.mono (Nat.le_trans hb0.size hb1.size))⟩
    · have H := Lib.hid (holdsV_arg hv (fun h => hrng ((rngB_iff _ _).1 h)))
      have HX := Lib.hid hrng
      clear hv hrng
      go_enter Try.func38, Try.ntmps38
      go_wp2_with (first | (go_at_call 20; refine (rvalid_b _ _ _ _ (HR.out.below hb0) true HV.out).mono ?_; rintro e w1 ⟨rfl, hb1⟩; have q1 := ((Blk.new w 38 _).below hb1 (by simp)).cell 0; have q2 := ((Blk.new w 38 _).below hb1 (by simp)).cell 1; simp only [List.getElem?_toArray, List.getElem?_cons_zero, List.getElem?_cons_succ] at q1 q2))
      all_goals first
        | (go_ret2; exact ⟨by rw [H.out]; rfl, hb0.trans (hb1.mono hb0.size)⟩)
        | (exfalso; have hx := HX.out; omega)

noncomputable def withinV (o l : List Geo.XY) : Bool × Int :=
  if validB o = true ∧ validB l = true then (holdAllB l o, 0) else (false, 10)
theorem withinV_no {o l : List Geo.XY} (h : ¬ (validB o = true ∧ validB l = true)) : tupB (withinV o l) = .returned (.tuple #[.bool false, .int .i64 10]) := by unfold withinV; rw [if_neg h]; rfl
theorem withinV_ok {o l : List Geo.XY} (h : validB o = true ∧ validB l = true) : tupB (withinV o l) = .returned (.tuple #[.bool (holdAllB l o), .int .i64 0]) := by unfold withinV; rw [if_pos h]; rfl

set_option maxHeartbeats 1000000 in
theorem dwithin_any (A A' : Option Addr) (o l : List Geo.XY) (c c' : Nat) (w : World) (ho : Pts w A o) (hr : Pts w A' l) :
    Calls Try.prog 39 #[.slice A o.length c, .slice A' l.length c'] w fun e w' => e = tupB (withinV o l) ∧ Below w.heap.size w w' := by
  have HO := Lib.hid ho
  have HR := Lib.hid hr
  clear ho hr
  cases hv : validB o with
  | false =>
    have HV := Lib.hid hv
    have H := Lib.hid (withinV_no (o := o) (l := l) (by rw [hv]; simp))
    clear hv
    go_enter Try.func39, Try.ntmps39
    go_wp2_with (go_at_call 19; refine (dvalid_b _ _ _ _ HO.out false HV.out).mono ?_; rintro e w' ⟨rfl, hb'⟩)
    go_ret2
    exact ⟨by rw [H.out]; rfl, hb'⟩
  | true =>
    have HV := Lib.hid hv
    cases hv2 : validB l with
    | false =>
      have HV2 := Lib.hid hv2
      have H := Lib.hid (withinV_no (o := o) (l := l) (by rw [hv2]; simp))
      clear hv hv2
      go_enter Try.func39, Try.ntmps39
      go_wp2_with fail
      refine (dvalid_b _ _ _ _ HO.out true HV.out).mono ?_
      rintro e w1 ⟨rfl, hb1⟩
      go_wp2_with fail
      refine (dvalid_b _ _ _ _ (HR.out.below hb1) false HV2.out).mono ?_
      rintro e w2 ⟨rfl, hb2⟩
      go_wp2
      go_ret2
      exact ⟨by rw [H.out]; rfl, hb1.trans (hb2.mono hb1.size)⟩
    | true =>
      have HV2 := Lib.hid hv2
      have H := Lib.hid (withinV_ok ⟨hv, hv2⟩)
      have HVo := Lib.hid (valid_of hv)
      have HVl := Lib.hid (valid_of hv2)
      clear hv hv2
      go_enter Try.func39, Try.ntmps39
      go_wp2_with fail
      refine (dvalid_b _ _ _ _ HO.out true HV.out).mono ?_
      rintro e w1 ⟨rfl, hb1⟩
      go_wp2_with fail
      refine (dvalid_b _ _ _ _ (HR.out.below hb1) true HV2.out).mono ?_
      rintro e w2 ⟨rfl, hb2⟩
      go_wp2_with fail
      refine (holdsall_any A A' o l c c' _ (HO.out.below (hb1.trans (hb2.mono hb1.size))) (HR.out.below (hb1.trans (hb2.mono hb1.size))) HVo.out.2.1 HVl.out HVo.out.allin).mono ?_
      rintro e w3 ⟨rfl, hb3⟩
      go_wp2
      go_ret2
      exact ⟨by rw [H.out]; rfl, (hb1.trans (hb2.mono hb1.size)).trans (hb3.mono (Nat.le_trans hb1.size hb2.size))⟩

set_option maxHeartbeats 1000000 in
theorem rwithin_any (A A' : Option Addr) (o l : List Geo.XY) (c c' : Nat) (w : World) (ho : Pts w A o) (hr : Pts w A' l) :
    Calls Try.prog 40 #[.slice A o.length c, .slice A' l.length c'] w fun e w' => e = tupB (withinV o l) ∧ Below w.heap.size w w' := by
  have HO := Lib.hid ho
  have HR := Lib.hid hr
  clear ho hr
  cases hv : validB o with
  | false =>
    have HV := Lib.hid hv
    have H := Lib.hid (withinV_no (o := o) (l := l) (by rw [hv]; simp))
    clear hv
    go_enter Try.func40, Try.ntmps40
    go_wp2_with (go_at_call 20; refine (rvalid_b _ _ _ _ HO.out false HV.out).mono ?_; rintro e w' ⟨rfl, hb'⟩)
    go_ret2
    exact ⟨by rw [H.out]; rfl, hb'⟩
  | true =>
    have HV := Lib.hid hv
    cases hv2 : validB l with
    | false =>
      have HV2 := Lib.hid hv2
      have H := Lib.hid (withinV_no (o := o) (l := l) (by rw [hv2]; simp))
      clear hv hv2
      go_enter Try.func40, Try.ntmps40
      go_wp2_with fail
      refine (rvalid_b _ _ _ _ HO.out true HV.out).mono ?_
      rintro e w1 ⟨rfl, hb1⟩
      go_wp2_with fail
      refine (rvalid_b _ _ _ _ (HR.out.below hb1) false HV2.out).mono ?_
      rintro e w2 ⟨rfl, hb2⟩
      go_wp2
      go_ret2
      exact ⟨by rw [H.out]; rfl, hb1.trans (hb2.mono hb1.size)⟩
    | true =>
      have HV2 := Lib.hid hv2
      have H := Lib.hid (withinV_ok ⟨hv, hv2⟩)
      have HVo := Lib.hid (valid_of hv)
      have HVl := Lib.hid (valid_of hv2)
      clear hv hv2
      go_enter Try.func40, Try.ntmps40
      go_wp2_with fail
      refine (rvalid_b _ _ _ _ HO.out true HV.out).mono ?_
      rintro e w1 ⟨rfl, hb1⟩
      go_wp2_with fail
      refine (rvalid_b _ _ _ _ (HR.out.below hb1) true HV2.out).mono ?_
      rintro e w2 ⟨rfl, hb2⟩
      go_wp2_with fail
      refine (within_any A A' o l c c' _ (HO.out.below (hb1.trans (hb2.mono hb1.size))) (HR.out.below (hb1.trans (hb2.mono hb1.size))) HVo.out.2.1 HVl.out.2.1 HVo.out.allin HVl.out.allin).mono ?_
      rintro e w3 ⟨rfl, hb3⟩
      go_wp2
      go_ret2
      exact ⟨by rw [H.out]; rfl, (hb1.trans (hb2.mono hb1.size)).trans (hb3.mono (Nat.le_trans hb1.size hb2.size))⟩
end Go.Proofs.Ytflkhjicgojcbaa
