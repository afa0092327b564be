import Derived.Test.YthabpgclnbmnpaaGreatDoorH3
namespace Go.Proofs.YthabpgclnbmnpaaGreatDoor
open Go.RowKit Go.Shelf

def rchD (l : List Geo.XY) (u v : Int) : Nat → Int
  | 0 => (Geo.X l 0).1 * u + (Geo.X l 0).2 * v
  | k + 1 => if rchD l u v k < (Geo.X l k).1 * u + (Geo.X l k).2 * v then (Geo.X l k).1 * u + (Geo.X l k).2 * v else rchD l u v k
theorem rchD_eq (l : List Geo.XY) (u v : Int) (k : Nat) : rchD l u v k = rchK l u v k := by
  induction k with
  | zero => simp only [rchD, rchK, Int.mul_comm]
  | succ k ih => rw [rchD, rchK, ih, Int.mul_comm _ u, Int.mul_comm _ v]

end Go.Proofs.YthabpgclnbmnpaaGreatDoor
