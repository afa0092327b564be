import Derived.Test.YtflkhjicgojcbaaH4
namespace Go.Proofs.Ytflkhjicgojcbaa
open Go.RowKit Go.Shelf

def rngB (m : Int) (p : Geo.XY) : Bool := decide (-m ≤ p.1) && (decide (p.1 ≤ m) && (decide (-m ≤ p.2) && decide (p.2 ≤ m)))
theorem rngB_iff (m : Int) (p : Geo.XY) : rngB m p = true ↔ (-m ≤ p.1 ∧ p.1 ≤ m ∧ -m ≤ p.2 ∧ p.2 ≤ m) := by unfold rngB; simp
theorem inr_b (x y m : Int) (hm : 0 ≤ m) (hm' : m ≤ 1000000) (w : World) (r : Bool) (h : rngB m (x, y) = r) :
    Calls Try.prog 77 #[.agg #[.int .i64 x, .int .i64 y], .int .i64 m] w fun e w' => e = .returned (.bool r) ∧ Below w.heap.size w w' := by
  subst h; exact inrange_any x y m hm hm' w

/-- what Reach answers: the number, the error -/
noncomputable def reachV (l : List Geo.XY) (u v : Int) : Int × Int :=
  if validB l = true then (if rngB 10000 (u, v) = true ∧ ¬ (u = 0 ∧ v = 0) then (rchK l u v l.length, 0) else (0, 2)) else (0, 10)
def tup2 (p : Int × Int) : Ending := .returned (.tuple #[.int .i64 p.1, .int .i64 p.2])

theorem reachV_inv {l : List Geo.XY} (h : validB l = false) (u v : Int) : tup2 (reachV l u v) = .returned (.tuple #[.int .i64 0, .int .i64 10]) := by unfold reachV; rw [h]; rfl
theorem reachV_arg {l : List Geo.XY} (h : validB l = true) {u v : Int} (hb : ¬ (rngB 10000 (u, v) = true ∧ ¬ (u = 0 ∧ v = 0))) : tup2 (reachV l u v) = .returned (.tuple #[.int .i64 0, .int .i64 2]) := by unfold reachV; rw [if_pos h, if_neg hb]; rfl
theorem reachV_ok {l : List Geo.XY} (h : validB l = true) {u v : Int} (hb : rngB 10000 (u, v) = true ∧ ¬ (u = 0 ∧ v = 0)) : tup2 (reachV l u v) = .returned (.tuple #[.int .i64 (rchK l u v l.length), .int .i64 0]) := by unfold reachV; rw [if_pos h, if_pos hb]; rfl

set_option maxHeartbeats 1000000 in
theorem dreach_any (A : Option Addr) (l : List Geo.XY) (c : Nat) (u v : Int) (w : World) (hr : Pts w A l) :
    Calls Try.prog 35 #[.slice A l.length c, .int .i64 u, .int .i64 v] w fun e w' => e = tup2 (reachV l u v) ∧ Below w.heap.size w w' := by
  have HR := Lib.hid hr
  clear hr
  cases hv : validB l with
  | false =>
    have HV := Lib.hid hv
    have H := Lib.hid (reachV_inv hv u v)
    clear hv
    go_enter Try.func35, Try.ntmps35
    go_wp2_with (go_at_call 19; refine (dvalid_b _ _ _ _ HR.out false HV.out).mono ?_; rintro e w' ⟨rfl, hb'⟩)
    go_ret2
    exact ⟨by rw [H.out]; rfl, hb'⟩
  | true =>
    have HV := Lib.hid hv
    have hval := valid_of hv
    have h3 := hval.1
    have h64 := hval.2.1
    have HIN := Lib.hid hval.allin
    clear hval
    cases hrng : rngB 10000 (u, v) with
    | false =>
      have H := Lib.hid (reachV_arg hv (u := u) (v := v) (fun h => by rw [hrng] at h; cases h.1))
      have HG := Lib.hid hrng
      clear hv hrng
      go_enter Try.func35, Try.ntmps35
      go_wp2_with (first | (go_at_call 19; refine (dvalid_b _ _ _ _ HR.out true HV.out).mono ?_; rintro e w1 ⟨rfl, hb1⟩) | (go_at_call 77; refine (inr_b _ _ _ (by omega) (by omega) _ false HG.out).mono ?_; rintro e w2 ⟨rfl, hb2⟩))
      go_ret2
      exact ⟨by rw [H.out]; rfl, (hb1.alloc hb1.size _).trans (hb2.mono (by simp; have := hb1.size; omega))⟩
    | true =>
      obtain ⟨u1, u2, v1, v2⟩ := (rngB_iff _ _).1 hrng
      simp only at u1 u2 v1 v2
      have HG := Lib.hid hrng
      by_cases hu : u = 0
      · by_cases hv0 : v = 0
        · have H := Lib.hid (reachV_arg hv (u := u) (v := v) (fun h => h.2 ⟨hu, hv0⟩))
          have k1 : (u == 0) = true := by simp [hu]
          have k2 : (v == 0) = true := by simp [hv0]
          clear hv hrng hu hv0
          go_enter Try.func35, Try.ntmps35
          go_wp2_with (first | (go_at_call 19; refine (dvalid_b _ _ _ _ HR.out true HV.out).mono ?_; rintro e w1 ⟨rfl, hb1⟩) | (go_at_call 77; refine (inr_b _ _ _ (by omega) (by omega) _ true HG.out).mono ?_; rintro e w2 ⟨rfl, hb2⟩))
          go_ret2
          exact ⟨by rw [H.out]; rfl, (hb1.alloc hb1.size _).trans (hb2.mono (by simp; have := hb1.size; omega))⟩
        · have H := Lib.hid (reachV_ok hv (u := u) (v := v) ⟨hrng, fun h => hv0 h.2⟩)
          have k1 : (u == 0) = true := by simp [hu]
          have k2 : (v == 0) = false := by simp [hv0]
          clear hv hrng hu hv0
          go_enter Try.func35, Try.ntmps35
          go_wp2_with (first | (go_at_call 19; refine (dvalid_b _ _ _ _ HR.out true HV.out).mono ?_; rintro e w1 ⟨rfl, hb1⟩) | (go_at_call 77; refine (inr_b _ _ _ (by omega) (by omega) _ true HG.out).mono ?_; rintro e w2 ⟨rfl, hb2⟩; have q1 := ((Blk.new w1 38 _).below hb2 (by simp)).cell 0; have q2 := ((Blk.new w1 38 _).below hb2 (by simp)).cell 1; simp only [List.getElem?_toArray, List.getElem?_cons_zero, List.getElem?_cons_succ] at q1 q2) | (go_at_call 80; refine (reach_any _ _ _ _ _ _ (HR.out.below (((hb1.alloc hb1.size _).trans (hb2.mono (by simp; have := hb1.size; omega))))) (by omega) h64 HIN.out u1 u2 v1 v2).mono ?_; rintro e w3 ⟨rfl, hb3⟩))
          go_ret2
          exact ⟨by rw [H.out]; rfl, ((hb1.alloc hb1.size _).trans (hb2.mono (by simp; have := hb1.size; omega))).trans (hb3.mono (Nat.le_trans hb1.size (Nat.le_trans (by simp) hb2.size)))⟩
      · have H := Lib.hid (reachV_ok hv (u := u) (v := v) ⟨hrng, fun h => hu h.1⟩)
        have k1 : (u == 0) = false := by simp [hu]
        clear hv hrng hu
        go_enter Try.func35, Try.ntmps35
        go_wp2_with (first | (go_at_call 19; refine (dvalid_b _ _ _ _ HR.out true HV.out).mono ?_; rintro e w1 ⟨rfl, hb1⟩) | (go_at_call 77; refine (inr_b _ _ _ (by omega) (by omega) _ true HG.out).mono ?_; rintro e w2 ⟨rfl, hb2⟩; have q1 := ((Blk.new w1 38 _).below hb2 (by simp)).cell 0; have q2 := ((Blk.new w1 38 _).below hb2 (by simp)).cell 1; simp only [List.getElem?_toArray, List.getElem?_cons_zero, List.getElem?_cons_succ] at q1 q2) | (go_at_call 80; refine (reach_any _ _ _ _ _ _ (HR.out.below (((hb1.alloc hb1.size _).trans (hb2.mono (by simp; have := hb1.size; omega))))) (by omega) h64 HIN.out u1 u2 v1 v2).mono ?_; rintro e w3 ⟨rfl, hb3⟩))
        go_ret2
        exact ⟨by rw [H.out]; rfl, ((hb1.alloc hb1.size _).trans (hb2.mono (by simp; have := hb1.size; omega))).trans (hb3.mono (Nat.le_trans hb1.size (Nat.le_trans (by simp) hb2.size)))⟩

set_option maxHeartbeats 1000000 in
theorem rreach_any (A : Option Addr) (l : List Geo.XY) (c : Nat) (u v : Int) (w : World) (hr : Pts w A l) :
    Calls Try.prog 36 #[.slice A l.length c, .int .i64 u, .int .i64 v] w fun e w' => e = tup2 (reachV l u v) ∧ Below w.heap.size w w' := by
  have HR := Lib.hid hr
  clear hr
  cases hv : validB l with
  | false =>
    have HV := Lib.hid hv
    have H := Lib.hid (reachV_inv hv u v)
    clear hv
    go_enter Try.func36, Try.ntmps36
    go_wp2_with (go_at_call 20; refine (rvalid_b _ _ _ _ HR.out false HV.out).mono ?_; rintro e w' ⟨rfl, hb'⟩)
    go_ret2
    exact ⟨by rw [H.out]; rfl, hb'⟩
  | true =>
    have HV := Lib.hid hv
    have hval := valid_of hv
    have h3 := hval.1
    have h64 := hval.2.1
    have HIN := Lib.hid hval.allin
    clear hval
    by_cases hrng : (-10000 ≤ u ∧ u ≤ 10000 ∧ -10000 ≤ v ∧ v ≤ 10000) ∧ ¬ (u = 0 ∧ v = 0)
    · obtain ⟨⟨u1, u2, v1, v2⟩, hz⟩ := hrng
      have H := Lib.hid (reachV_ok hv (u := u) (v := v) ⟨(rngB_iff _ _).2 ⟨u1, u2, v1, v2⟩, hz⟩)
      clear hv
      by_cases hu : u = 0
      · have hv0 : ¬ v = 0 := fun h => hz ⟨hu, h⟩
        have k1 : (u == 0) = true := by simp [hu]
        have k2 : (v == 0) = false := by simp [hv0]
        clear hz hu hv0
        go_enter Try.func36, Try.ntmps36
        go_wp2_with (first | (go_at_call 20; refine (rvalid_b _ _ _ _ HR.out true HV.out).mono ?_; rintro e w1 ⟨rfl, hb1⟩) | (go_at_call 81; refine (farthest_any _ _ _ _ _ _ (HR.out.below hb1) (by omega) h64 HIN.out u1 u2 v1 v2).mono ?_; rintro e w3 ⟨rfl, hb3⟩))
        go_ret2
        exact ⟨by rw [H.out]; rfl, hb1.trans (hb3.mono hb1.size)⟩
      · have k1 : (u == 0) = false := by simp [hu]
        clear hz hu
        go_enter Try.func36, Try.ntmps36
        go_wp2_with (first | (go_at_call 20; refine (rvalid_b _ _ _ _ HR.out true HV.out).mono ?_; rintro e w1 ⟨rfl, hb1⟩) | (go_at_call 81; refine (farthest_any _ _ _ _ _ _ (HR.out.below hb1) (by omega) h64 HIN.out u1 u2 v1 v2).mono ?_; rintro e w3 ⟨rfl, hb3⟩))
        go_ret2
        exact ⟨by rw [H.out]; rfl, hb1.trans (hb3.mono hb1.size)⟩
    · have H := Lib.hid (reachV_arg hv (u := u) (v := v) (fun h => hrng ⟨(rngB_iff _ _).1 h.1, h.2⟩))
      have HX := Lib.hid hrng
      clear hv hrng
      go_enter Try.func36, Try.ntmps36
      go_wp2_with (first | (go_at_call 20; refine (rvalid_b _ _ _ _ HR.out true HV.out).mono ?_; rintro e w1 ⟨rfl, hb1⟩))
      all_goals first
        | (go_ret2; exact ⟨by rw [H.out]; rfl, hb1⟩)
        | (exfalso; have hx := HX.out; simp at *; omega)
end Go.Proofs.Ytflkhjicgojcbaa
