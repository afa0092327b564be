import Derived.Test.YthabpgclnbmnpaaGreatDoorH4
namespace Go.Proofs.YthabpgclnbmnpaaGreatDoor
open Go.RowKit Go.Shelf

def rngB (m : Int) (p : Geo.XY) : Bool := decide (-m ≤ p.1) && (decide (p.1 ≤ m) && (decide (-m ≤ p.2) && decide (p.2 ≤ m)))
theorem rngB_iff (m : Int) (p : Geo.XY) : rngB m p = true ↔ (-m ≤ p.1 ∧ p.1 ≤ m ∧ -m ≤ p.2 ∧ p.2 ≤ m) := by unfold rngB; simp
theorem inr_b (x y m : Int) (hm : 0 ≤ m) (hm' : m ≤ 1000000) (w : World) (r : Bool) (h : rngB m (x, y) = r) :
    Calls Tryz.prog 48 #[.agg #[.int .i64 x, .int .i64 y], .int .i64 m] w fun e w' => e = .returned (.bool r) ∧ Below w.heap.size w w' := by
  subst h; exact inrange_any x y m hm hm' w

/-- what Reach answers: the number, the error -/
noncomputable def reachV (l : List Geo.XY) (u v : Int) : Int × Int :=
  if validB l = true then (if rngB 10000 (u, v) = true ∧ ¬ (u = 0 ∧ v = 0) then (rchK l u v l.length, 0) else (0, 2)) else (0, 10)
def tup2 (p : Int × Int) : Ending := .returned (.tuple #[.int .i64 p.1, .int .i64 p.2])

theorem reachV_inv {l : List Geo.XY} (h : validB l = false) (u v : Int) : tup2 (reachV l u v) = .returned (.tuple #[.int .i64 0, .int .i64 10]) := by unfold reachV; rw [h]; rfl
theorem reachV_arg {l : List Geo.XY} (h : validB l = true) {u v : Int} (hb : ¬ (rngB 10000 (u, v) = true ∧ ¬ (u = 0 ∧ v = 0))) : tup2 (reachV l u v) = .returned (.tuple #[.int .i64 0, .int .i64 2]) := by unfold reachV; rw [if_pos h, if_neg hb]; rfl
theorem reachV_ok {l : List Geo.XY} (h : validB l = true) {u v : Int} (hb : rngB 10000 (u, v) = true ∧ ¬ (u = 0 ∧ v = 0)) : tup2 (reachV l u v) = .returned (.tuple #[.int .i64 (rchK l u v l.length), .int .i64 0]) := by unfold reachV; rw [if_pos h, if_pos hb]; rfl

end Go.Proofs.YthabpgclnbmnpaaGreatDoor
