import Derived.Test.YthabpgclnbmnpaaGreatDoorM3
namespace Go.Proofs.YthabpgclnbmnpaaGreatDoor
open Go.RowKit Go.Shelf

/-- all sides of l have p to their left, or on them -/
def Hold (l : List Geo.XY) (p : Geo.XY) : Prop := ∀ i, i < l.length → 0 ≤ Geo.Cross (Geo.X l i) (Geo.X l ((i + 1) % l.length)) p
instance (l : List Geo.XY) (p : Geo.XY) : Decidable (Hold l p) := by unfold Hold; infer_instance
def holdB (l : List Geo.XY) (p : Geo.XY) : Bool := decide (Hold l p)
theorem holdB_no {l : List Geo.XY} {p : Geo.XY} (h : ¬ Hold l p) : Ending.returned (.bool false) = .returned (.bool (holdB l p)) := by unfold holdB; rw [decide_eq_false h]
theorem holdB_yes {l : List Geo.XY} {p : Geo.XY} (h : Hold l p) : Ending.returned (.bool true) = .returned (.bool (holdB l p)) := by unfold holdB; rw [decide_eq_true h]

end Go.Proofs.YthabpgclnbmnpaaGreatDoor
