import Derived.Test.YthabpgclnbmnpaaGreatDoorH2
namespace Go.Proofs.YthabpgclnbmnpaaGreatDoor
open Go.RowKit Go.Shelf
attribute [local go_sem] Oper.semAt_some

/-- whether the first sides hold p -/
def hdSt (l : List Geo.XY) (p : Geo.XY) (pre : List Nat) : Bool := pre.foldl (fun s k => s && decide (0 ≤ Geo.turn (Geo.X l k) (Geo.X l ((k + 1) % l.length)) p)) true
theorem hdSt_snoc (l : List Geo.XY) (p : Geo.XY) (pre : List Nat) (k : Nat) : hdSt l p (pre ++ [k]) = (hdSt l p pre && decide (0 ≤ Geo.turn (Geo.X l k) (Geo.X l ((k + 1) % l.length)) p)) := by
  unfold hdSt; rw [List.foldl_append]; rfl
theorem hdSt_iff (l : List Geo.XY) (p : Geo.XY) (k : Nat) : hdSt l p (List.range k) = true ↔ ∀ i, i < k → 0 ≤ Geo.Cross (Geo.X l i) (Geo.X l ((i + 1) % l.length)) p := by
  induction k with
  | zero => simp [hdSt]
  | succ k ih =>
    rw [List.range_succ, hdSt_snoc, Bool.and_eq_true, ih, decide_eq_true_eq, Geo.turn_eq]
    constructor
    · rintro ⟨h1, h2⟩ i hi
      by_cases e : i = k
      · subst e; exact h2
      · exact h1 i (by omega)
    · intro h
      exact ⟨fun i hi => h i (by omega), h k (by omega)⟩
theorem hdSt_all (l : List Geo.XY) (p : Geo.XY) : hdSt l p (List.range l.length) = holdB l p := by
  rw [Bool.eq_iff_iff, hdSt_iff]
  unfold holdB
  rw [decide_eq_true_eq]
  rfl
theorem hdSt_stop (l : List Geo.XY) (p : Geo.XY) (k : Nat) (hk : k ≤ l.length) (h : hdSt l p (List.range k) = false) : holdB l p = false := by
  rw [← hdSt_all]
  cases hh : hdSt l p (List.range l.length) with
  | false => rfl
  | true =>
    have h1 := (hdSt_iff l p l.length).1 hh
    have h2 := (hdSt_iff l p k).2 (fun i hi => h1 i (by omega))
    rw [h] at h2
    cases h2

end Go.Proofs.YthabpgclnbmnpaaGreatDoor
