import Derived.Test.YthabpgclnbmnpaaGreatDoorM2
namespace Go.Proofs.YthabpgclnbmnpaaGreatDoor
open Go.RowKit Go.Shelf

/-- the square of the sanity check -/
def sq0 : List Geo.XY := [(-2, -1), (2, -1), (2, 1), (-2, 1)]
theorem sq0_valid : Valid sq0 := by
  refine ⟨by decide, by decide, ?_, ?_⟩
  · intro k hk
    have : k = 0 ∨ k = 1 ∨ k = 2 ∨ k = 3 := by have : sq0.length = 4 := rfl
                                               omega
    rcases this with rfl | rfl | rfl | rfl <;> decide
  · intro i hi j hj h1 h2
    have hl : sq0.length = 4 := rfl
    rw [hl] at hi hj h2
    have a : i = 0 ∨ i = 1 ∨ i = 2 ∨ i = 3 := by omega
    have b : j = 0 ∨ j = 1 ∨ j = 2 ∨ j = 3 := by omega
    rcases a with rfl | rfl | rfl | rfl <;> rcases b with rfl | rfl | rfl | rfl <;> first | (exfalso; omega) | decide
theorem sq0_area : Geo.areaK sq0 sq0.length = 16 := by decide
theorem sq0_far : farK sq0 sq0.length = 5 := by decide
theorem sq0_csq : Geo.csq 20 = 5 := by decide

def SqAt (w : World) (g : Nat) : Prop := Blk w g 42 #[.int .i64 (-2), .int .i64 (-1), .int .i64 2, .int .i64 (-1), .int .i64 2, .int .i64 1, .int .i64 (-2), .int .i64 1]
theorem SqAt.pts {w : World} {g : Nat} (h : SqAt w g) : Pts w (some ⟨g, 0, none⟩) sq0 := by
  refine .inr ⟨g, 0, rfl, Blk.lt h, fun k hk => ?_⟩
  have : k = 0 ∨ k = 1 ∨ k = 2 ∨ k = 3 := by have : sq0.length = 4 := rfl
                                             omega
  rcases this with rfl | rfl | rfl | rfl <;> exact ⟨Blk.cell h _, Blk.cell h _⟩
theorem area_sq (w : World) (g : Nat) (h : SqAt w g) : Calls Tryz.prog 22 #[.slice (some ⟨g, 0, none⟩) 4 4] w fun e w' => e = .returned (.tuple #[.int .i64 16, .int .i64 0]) ∧ Below w.heap.size w w' :=
  (area_any (some ⟨g, 0, none⟩) sq0 4 w h.pts).mono fun e w' ⟨he, hb⟩ => ⟨by rw [he, okOr_yes (validB_true sq0_valid), sq0_area], hb⟩
theorem diam_sq (w : World) (g : Nat) (h : SqAt w g) : Calls Tryz.prog 23 #[.slice (some ⟨g, 0, none⟩) 4 4] w fun e w' => e = .returned (.tuple #[.int .i64 5, .int .i64 0]) ∧ Below w.heap.size w w' :=
  (diameter_any (some ⟨g, 0, none⟩) sq0 4 w h.pts).mono fun e w' ⟨he, hb⟩ => ⟨by rw [he, okOr_yes (validB_true sq0_valid), sq0_far, sq0_csq]; rfl, hb⟩

set_option maxHeartbeats 1000000 in
theorem awake_any (w : World) : Calls Tryz.prog 6 #[] w fun e w' => e = .returned (.bool true) ∧ Below w.heap.size w w' := by
  go_enter Tryz.func6, Tryz.ntmps6
  go_wp2_with fail
  refine (area_sq _ w.heap.size (Blk.new _ _ _)).mono ?_
  rintro e w1 ⟨rfl, hb1⟩
  have hsq : SqAt w1 w.heap.size := Blk.below (Blk.new w 42 _) hb1 (by simp)
  have HS := Lib.hid hsq
  clear hsq
  have hs := hb1.size
  rw [World.size_alloc] at hs
  go_wp2_with fail
  refine (diam_sq _ w.heap.size HS.out).mono ?_
  rintro e w2 ⟨rfl, hb2⟩
  go_wp2
  go_ret
  exact ⟨rfl, (((Below.refl _ w).alloc (Nat.le_refl _) _).trans (hb1.mono (by simp))).trans (hb2.mono (by omega))⟩
end Go.Proofs.YthabpgclnbmnpaaGreatDoor
