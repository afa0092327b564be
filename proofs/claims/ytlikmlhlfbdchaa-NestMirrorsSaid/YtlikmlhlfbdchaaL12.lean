import Derived.Test.YtlikmlhlfbdchaaBZ
namespace Go.Proofs.Ytlikmlhlfbdchaa
open Go.RowKit Go.Shelf

def rngM (dx dy : Int) : Bool := decide (-10000 ≤ dx) && (decide (dx ≤ 10000) && (decide (-10000 ≤ dy) && decide (dy ≤ 10000)))
theorem rngM_iff (dx dy : Int) : rngM dx dy = true ↔ (-10000 ≤ dx ∧ dx ≤ 10000 ∧ -10000 ≤ dy ∧ dy ≤ 10000) := by unfold rngM; simp
theorem inrM (dx dy : Int) (r : Bool) (h : rngM dx dy = r) (w : World) :
    Calls Try.prog 109 #[.agg #[.int .i64 dx, .int .i64 dy], .int .i64 10000] w fun e w' => e = .returned (.bool r) ∧ Below w.heap.size w w' :=
  (inrange_any dx dy 10000 (by omega) (by omega) w).mono fun e w' ⟨he, hb⟩ => ⟨by rw [he, ← h]; rfl, hb⟩
noncomputable def movedV (l : List Geo.XY) (dx dy : Int) : List Geo.XY × Int :=
  if validB l = true then (if rngM dx dy = true then (if allInB (l.map (addXY (dx, dy))) = true then (Geo.canon (l.map (addXY (dx, dy))), 0) else ([], 2)) else ([], 2)) else ([], 10)
theorem movedV_inv {l : List Geo.XY} (h : validB l = false) (dx dy : Int) : movedV l dx dy = ([], 10) := by unfold movedV; rw [h]; rfl
theorem movedV_arg {l : List Geo.XY} (h : validB l = true) {dx dy : Int} (h2 : rngM dx dy = false) : movedV l dx dy = ([], 2) := by unfold movedV; rw [if_pos h, h2]; rfl
theorem movedV_far {l : List Geo.XY} (h : validB l = true) {dx dy : Int} (h2 : rngM dx dy = true) (h3 : allInB (l.map (addXY (dx, dy))) = false) : movedV l dx dy = ([], 2) := by unfold movedV; rw [if_pos h, if_pos h2, h3]; rfl
theorem movedV_ok {l : List Geo.XY} (h : validB l = true) {dx dy : Int} (h2 : rngM dx dy = true) (h3 : allInB (l.map (addXY (dx, dy))) = true) : movedV l dx dy = (Geo.canon (l.map (addXY (dx, dy))), 0) := by unfold movedV; rw [if_pos h, if_pos h2, if_pos h3]

theorem allin_r (A : Option Addr) (l : List Geo.XY) (n c : Nat) (e : l.length = n) (w : World) (hr : Pts w A l) (hl : n ≤ 140737488355328) (r : Bool) (h : allInB l = r) :
    Calls Try.prog 85 #[.slice A n c] w fun e w' => e = .returned (.bool r) ∧ Below w.heap.size w w' := by
  subst e; exact allin_b A l c w hr hl r h

end Go.Proofs.Ytlikmlhlfbdchaa
