import Derived.Test.YtflkhjicgojcbaaL11
namespace Go.Proofs.Ytflkhjicgojcbaa
open Go.RowKit Go.Shelf

def rngM (dx dy : Int) : Bool := decide (-10000 ≤ dx) && (decide (dx ≤ 10000) && (decide (-10000 ≤ dy) && decide (dy ≤ 10000)))
theorem rngM_iff (dx dy : Int) : rngM dx dy = true ↔ (-10000 ≤ dx ∧ dx ≤ 10000 ∧ -10000 ≤ dy ∧ dy ≤ 10000) := by unfold rngM; simp
theorem inrM (dx dy : Int) (r : Bool) (h : rngM dx dy = r) (w : World) :
    Calls Try.prog 77 #[.agg #[.int .i64 dx, .int .i64 dy], .int .i64 10000] w fun e w' => e = .returned (.bool r) ∧ Below w.heap.size w w' :=
  (inrange_any dx dy 10000 (by omega) (by omega) w).mono fun e w' ⟨he, hb⟩ => ⟨by rw [he, ← h]; rfl, hb⟩
noncomputable def movedV (l : List Geo.XY) (dx dy : Int) : List Geo.XY × Int :=
  if validB l = true then (if rngM dx dy = true then (if allInB (l.map (addXY (dx, dy))) = true then (Geo.canon (l.map (addXY (dx, dy))), 0) else ([], 2)) else ([], 2)) else ([], 10)
theorem movedV_inv {l : List Geo.XY} (h : validB l = false) (dx dy : Int) : movedV l dx dy = ([], 10) := by unfold movedV; rw [h]; rfl
theorem movedV_arg {l : List Geo.XY} (h : validB l = true) {dx dy : Int} (h2 : rngM dx dy = false) : movedV l dx dy = ([], 2) := by unfold movedV; rw [if_pos h, h2]; rfl
theorem movedV_far {l : List Geo.XY} (h : validB l = true) {dx dy : Int} (h2 : rngM dx dy = true) (h3 : allInB (l.map (addXY (dx, dy))) = false) : movedV l dx dy = ([], 2) := by unfold movedV; rw [if_pos h, if_pos h2, h3]; rfl
theorem movedV_ok {l : List Geo.XY} (h : validB l = true) {dx dy : Int} (h2 : rngM dx dy = true) (h3 : allInB (l.map (addXY (dx, dy))) = true) : movedV l dx dy = (Geo.canon (l.map (addXY (dx, dy))), 0) := by unfold movedV; rw [if_pos h, if_pos h2, if_pos h3]

theorem allin_r (A : Option Addr) (l : List Geo.XY) (n c : Nat) (e : l.length = n) (w : World) (hr : Pts w A l) (hl : n ≤ 140737488355328) (r : Bool) (h : allInB l = r) :
    Calls Try.prog 58 #[.slice A n c] w fun e w' => e = .returned (.bool r) ∧ Below w.heap.size w w' := by
  subst e; exact allin_b A l c w hr hl r h

set_option maxRecDepth 100000 in
set_option maxHeartbeats 4000000 in
theorem dmoved_any (A : Option Addr) (l : List Geo.XY) (c : Nat) (dx dy : Int) (w : World) (hP : Pts w A l) :
    Calls Try.prog 33 #[.slice A l.length c, .int .i64 dx, .int .i64 dy] w fun e w' => ListErr w (movedV l dx dy).1 (movedV l dx dy).2 e w' := by
  have HP := Lib.hid hP
  cases hv : validB l with
  | false =>
    have HV := Lib.hid hv
    rw [movedV_inv hv]
    clear hv hP
    unfold ListErr
    go_enter Try.func33, Try.ntmps33
    go_wp2_with (go_at_call 19; refine (dvalid_b _ _ _ _ HP.out false HV.out).mono ?_; rintro e w' ⟨rfl, hb'⟩)
    go_ret2
    exact ⟨_, rfl, own_nil' _ _, hb'⟩
  | true =>
    have HV := Lib.hid hv
    have hval := valid_of hv
    have h3 := hval.1
    have h64 := hval.2.1
    have HIN := Lib.hid hval.allin
    obtain ⟨b, off, rfl, hb, hc⟩ := pts_open hP (by omega)
    have HC := Lib.hid hc
    cases hr : rngM dx dy with
    | false =>
      have HR := Lib.hid hr
      rw [movedV_arg hv hr]
      clear hv hval hc hP hr
      unfold ListErr
      go_enter Try.func33, Try.ntmps33
      go_wp2_with fail
      refine (dvalid_b _ _ _ _ HP.out true HV.out).mono ?_
      rintro e w1 ⟨rfl, hb1⟩
      have hB1 := hb1.alloc hb1.size (.cells #[.int .i64 dx, .int .i64 dy] 38)
      go_wp2_with (go_at_call 77; refine (inrM dx dy false HR.out _).mono ?_; rintro e w2 ⟨rfl, hb2⟩)
      go_ret2
      exact ⟨_, rfl, own_nil' _ _, hB1.trans (hb2.mono hB1.size)⟩
    | true =>
      have HR := Lib.hid hr
      have hq : (-20000 ≤ ((dx, dy) : Geo.XY).1 ∧ ((dx, dy) : Geo.XY).1 ≤ 20000) ∧ -20000 ≤ ((dx, dy) : Geo.XY).2 ∧ ((dx, dy) : Geo.XY).2 ≤ 20000 := by have := (rngM_iff dx dy).1 hr; dsimp only; omega
      have HQ := Lib.hid hq
      obtain ⟨ai, hai⟩ : ∃ r, allInB (l.map (addXY (dx, dy))) = r := ⟨_, rfl⟩
      have HAI := Lib.hid hai
      have el : (l.map (addXY (dx, dy))).length = l.length := by rw [List.length_map]
      have HEL := Lib.hid el
      have HRES : Hid (movedV l dx dy = if ai = true then (Geo.canon (l.map (addXY (dx, dy))), 0) else ([], 2)) := Lib.hid (by
        cases ai with
        | true => rw [movedV_ok hv hr hai]; rfl
        | false => rw [movedV_far hv hr hai]; rfl)
      clear hv hval hc hP hr hq hai el
      rw [HRES.out]
      unfold ListErr
      go_enter Try.func33, Try.ntmps33
      go_wp2_with fail
      refine (dvalid_b _ _ _ _ HP.out true HV.out).mono ?_
      rintro e w1 ⟨rfl, hb1⟩
      have hB1 := hb1.alloc hb1.size (.cells #[.int .i64 dx, .int .i64 dy] 38)
      have bG := Blk.new w1 38 #[.int .i64 dx, .int .i64 dy]
      go_wp2_with fail
      refine (inrM dx dy true HR.out _).mono ?_
      rintro e w2 ⟨rfl, hb2⟩
      have hB2 := hB1.trans (hb2.mono hB1.size)
      have bG2 := bG.below hb2 bG.lt
      go_wp2_with fail
      refine (changed78 b off c l w1.heap.size (dx, dy) HQ.out h64 HIN.out w2 (Nat.lt_of_lt_of_le hb hB2.size) (fun k hk => ⟨(hB2.cell (p := ⟨b, off + k * 2, none⟩) hb).trans (HC.out k hk).1, (hB2.cell (p := ⟨b, off + k * 2 + 1, none⟩) hb).trans (HC.out k hk).2⟩) bG2).mono ?_
      rintro e w3 ⟨v, rfl, hown, hb3⟩
      have hB3 := hB2.trans (hb3.mono hB2.size)
      obtain ⟨A1, c1, rfl, hp1, hc1⟩ := pts_of_owns' hown
      rw [HEL.out] at hc1 ⊢
      clear hown bG bG2
      go_wp2_with fail
      refine (allin_r A1 (l.map (addXY (dx, dy))) l.length c1 HEL.out _ hp1 (by omega) ai HAI.out).mono ?_
      rintro e w4 ⟨rfl, hb4⟩
      have hB4 := hB3.trans (hb4.mono hB3.size)
      cases ai with
      | false =>
        go_wp2
        go_ret2
        exact ⟨_, rfl, own_nil' _ _, hB4⟩
      | true =>
        go_wp2_with fail
        refine (dcanon_r A1 (l.map (addXY (dx, dy))) l.length c1 HEL.out (by omega) h64 hc1 w4 (hp1.below hb4)).mono ?_
        rintro e w5 ⟨v, rfl, hown5, hb5⟩
        go_wp2
        go_ret2
        exact ⟨_, rfl, hown5.mono hB4.size, hB4.trans (hb5.mono hB4.size)⟩
end Go.Proofs.Ytflkhjicgojcbaa
