import Derived.Test.YthabpgclnbmnpaaGreatDoorH1
namespace Go.Proofs.YthabpgclnbmnpaaGreatDoor
open Go.RowKit Go.Shelf
attribute [local go_sem] Oper.semAt_some

/-- all places of q are held by l -/
def HoldAll (l q : List Geo.XY) : Prop := ∀ i, i < q.length → holdB l (Geo.X q i) = true
instance (l q : List Geo.XY) : Decidable (HoldAll l q) := by unfold HoldAll; infer_instance
def holdAllB (l q : List Geo.XY) : Bool := decide (HoldAll l q)
theorem holdAllB_no {l q : List Geo.XY} (h : ¬ HoldAll l q) : Ending.returned (.bool false) = .returned (.bool (holdAllB l q)) := by unfold holdAllB; rw [decide_eq_false h]
theorem holdAllB_yes {l q : List Geo.XY} (h : HoldAll l q) : Ending.returned (.bool true) = .returned (.bool (holdAllB l q)) := by unfold holdAllB; rw [decide_eq_true h]

/-- the reach of the first k corners -/
def rchK (l : List Geo.XY) (u v : Int) : Nat → Int
  | 0 => u * (Geo.X l 0).1 + v * (Geo.X l 0).2
  | k + 1 => if rchK l u v k < u * (Geo.X l k).1 + v * (Geo.X l k).2 then u * (Geo.X l k).1 + v * (Geo.X l k).2 else rchK l u v k
theorem val_bd {l : List Geo.XY} (h : AllIn l) {u v : Int} (u1 : -10000 ≤ u) (u2 : u ≤ 10000) (v1 : -10000 ≤ v) (v2 : v ≤ 10000) (k : Nat) :
    (-50000000 ≤ u * (Geo.X l k).1 ∧ u * (Geo.X l k).1 ≤ 50000000) ∧ (-50000000 ≤ v * (Geo.X l k).2 ∧ v * (Geo.X l k).2 ≤ 50000000) := by
  obtain ⟨a1, a2, a3, a4⟩ := in_all h k
  have := mul_bd (a := u) (b := (Geo.X l k).1) (A := 10000) (B := 5000) (by omega) (by omega) (by omega) (by omega)
  have := mul_bd (a := v) (b := (Geo.X l k).2) (A := 10000) (B := 5000) (by omega) (by omega) (by omega) (by omega)
  omega
theorem rchK_bd {l : List Geo.XY} (h : AllIn l) {u v : Int} (u1 : -10000 ≤ u) (u2 : u ≤ 10000) (v1 : -10000 ≤ v) (v2 : v ≤ 10000) (k : Nat) : -100000000 ≤ rchK l u v k ∧ rchK l u v k ≤ 100000000 := by
  induction k with
  | zero => have := val_bd h u1 u2 v1 v2 0; rw [rchK]; omega
  | succ k ih => have := val_bd h u1 u2 v1 v2 k; rw [rchK]; split <;> omega

end Go.Proofs.YthabpgclnbmnpaaGreatDoor
