import Derived.Test.YthabpgclnbmnpaaGreatDoorH5
namespace Go.Proofs.YthabpgclnbmnpaaGreatDoor
open Go.RowKit Go.Shelf

/-- a bool and an error -/
def tupB (p : Bool × Int) : Ending := .returned (.tuple #[.bool p.1, .int .i64 p.2])
noncomputable def holdsV (l : List Geo.XY) (p : Geo.XY) : Bool × Int :=
  if validB l = true then (if rngB 20000 p = true then (holdB l p, 0) else (false, 2)) else (false, 10)
theorem holdsV_inv {l : List Geo.XY} (h : validB l = false) (p : Geo.XY) : tupB (holdsV l p) = .returned (.tuple #[.bool false, .int .i64 10]) := by unfold holdsV; rw [h]; rfl
theorem holdsV_arg {l : List Geo.XY} (h : validB l = true) {p : Geo.XY} (hb : ¬ rngB 20000 p = true) : tupB (holdsV l p) = .returned (.tuple #[.bool false, .int .i64 2]) := by unfold holdsV; rw [if_pos h, if_neg hb]; rfl
theorem holdsV_ok {l : List Geo.XY} (h : validB l = true) {p : Geo.XY} (hb : rngB 20000 p = true) : tupB (holdsV l p) = .returned (.tuple #[.bool (holdB l p), .int .i64 0]) := by unfold holdsV; rw [if_pos h, if_pos hb]; rfl

noncomputable def withinV (o l : List Geo.XY) : Bool × Int :=
  if validB o = true ∧ validB l = true then (holdAllB l o, 0) else (false, 10)
theorem withinV_no {o l : List Geo.XY} (h : ¬ (validB o = true ∧ validB l = true)) : tupB (withinV o l) = .returned (.tuple #[.bool false, .int .i64 10]) := by unfold withinV; rw [if_neg h]; rfl
theorem withinV_ok {o l : List Geo.XY} (h : validB o = true ∧ validB l = true) : tupB (withinV o l) = .returned (.tuple #[.bool (holdAllB l o), .int .i64 0]) := by unfold withinV; rw [if_pos h]; rfl

end Go.Proofs.YthabpgclnbmnpaaGreatDoor
