/- Stab on every input; the sanity check. -/
import Derived.Test.YtghbipipehglfaaDoorA12
namespace Go.Proofs.YtghbipipehglfaaDoor
open Go.RowKit Go.Shelf

set_option maxRecDepth 100000 in
set_option maxHeartbeats 2000000 in
theorem stab_any (A : Option Addr) (vs : List Int) (c : Nat) (x : Int) (w : World) (hI : Ints w A vs) :
    Calls Tryd.prog 51 #[.slice A vs.length c, .int .i64 x] w fun e w' => ∃ v, e = .returned (.tuple #[v, .int .i64 (Pl.lineE vs x [])]) ∧ w'.ownsRow w.heap.size 3 1 v (stabV x vs).length (ints (stabV x vs)) ∧ Below w.heap.size w w' := by
  have HI := Lib.hid hI
  clear hI
  have hB1 : Below w.heap.size w (w.alloc (.cells #[.int .i64 x] 3)) := (Below.refl _ w).alloc (Nat.le_refl _) _
  rcases Pl.lineE_three vs x [] with h0 | h0 | h0
  · rw [h0, show stabV x vs = (Pl.stabT x vs).reverse from if_pos h0]
    exact (callsIn_wide (n := 8)).1 (stab_ok A vs c x w HI.out h0)
  all_goals
    have HR := Lib.hid h0
    have HS : Hid (stabV x vs = []) := Lib.hid (if_neg (by rw [h0]; decide))
    rw [h0]
    clear h0
    go_enter Tryd.func51, Tryd.ntmps51
    go_wp2_with (go_at_call 79; refine (checkline_any A none vs [] c 0 x _ (HI.out.below hB1) (Ints.nil _ _)).mono ?_; rw [HR.out]; rintro e w' ⟨rfl, rfl⟩)
    go_ret2
    exact ⟨_, rfl, by rw [HS.out]; exact World.ownsRow_nil _ _ _ _, hB1⟩

theorem stabT_awake : Pl.stabT 3 [1, 2, 4, 7, 8] = [5, 1] := by
  have h0 := Pl.stab_runs (w := 3) (by decide) [1, 2, 4, 7, 8]
  have h1 := h0.of_step (v := 8) (by decide) rfl (by intro u hu _; show u ≤ 8; simp at hu; omega)
  have h2 := h1.of_step (v := 4) (by decide) (by decide) (by intro u hu ho; show u ≤ 4; simp at hu; simp [Pl.stabW] at ho; omega)
  exact h2.of_done (by intro u hu; simp at hu; simp [Pl.stabW]; omega)
theorem stabV_awake : stabV 3 [1, 2, 4, 7, 8] = [1, 5] := by
  unfold stabV
  rw [if_pos (by decide), stabT_awake]
  rfl

set_option maxRecDepth 100000 in
set_option maxHeartbeats 2000000 in
theorem awake_any (w : World) : Calls Tryd.prog 18 #[] w fun e w' => e = .returned (.bool true) ∧ Below w.heap.size w w' := by
  have hB0 : Below w.heap.size w (w.alloc (.cells #[.int .i64 1, .int .i64 2, .int .i64 4, .int .i64 7, .int .i64 8] 3)) := (Below.refl _ w).alloc (Nat.le_refl _) _
  have b0 := Blk.new w 3 #[.int .i64 1, .int .i64 2, .int .i64 4, .int .i64 7, .int .i64 8]
  have hI : Ints (w.alloc (.cells #[.int .i64 1, .int .i64 2, .int .i64 4, .int .i64 7, .int .i64 8] 3)) (some ⟨w.heap.size, 0, none⟩) [1, 2, 4, 7, 8] :=
    .inr ⟨w.heap.size, 0, rfl, by simp, fun k hk => by
      rw [Nat.zero_add]
      exact five (p := fun k => (w.alloc (.cells #[.int .i64 1, .int .i64 2, .int .i64 4, .int .i64 7, .int .i64 8] 3)).cell? ⟨w.heap.size, k, none⟩ = some (.int .i64 ([1, 2, 4, 7, 8].getD k 0))) hk (b0.cell 0) (b0.cell 1) (b0.cell 2) (b0.cell 3) (b0.cell 4)⟩
  have hC := stab_any (some ⟨w.heap.size, 0, none⟩) [1, 2, 4, 7, 8] 5 3 _ hI
  rw [stabV_awake, show Pl.lineE [1, 2, 4, 7, 8] 3 [] = 0 from by decide] at hC
  have HC := Lib.hid hC
  clear hC hI b0
  go_enter Tryd.func18, Tryd.ntmps18
  go_wp2_with (go_at_call 51; refine HC.out.mono ?_; rintro e w1 ⟨v, rfl, hown, hb1⟩; obtain ⟨A, c, rfl, hJ⟩ := ints_of_owns (l := [1, 5]) hown)
  have b1 := Blk.new w1 3 #[.int .i64 1, .int .i64 5]
  have hJ2 : Ints (w1.alloc (.cells #[.int .i64 1, .int .i64 5] 3)) (some ⟨w1.heap.size, 0, none⟩) [1, 5] :=
    .inr ⟨w1.heap.size, 0, rfl, by simp, fun k hk => by
      rw [Nat.zero_add]
      match k, hk with
      | 0, _ => exact b1.cell 0
      | 1, _ => exact b1.cell 1⟩
  have hJ1 := hJ.below ((Below.refl _ w1).alloc (Nat.le_refl _) (.cells #[.int .i64 1, .int .i64 5] 3))
  have hB1 := (hB0.trans (hb1.mono hB0.size)).alloc (by have := (hB0.trans (hb1.mono hB0.size)).size; exact this) (.cells #[.int .i64 1, .int .i64 5] 3)
  refine (same_yes A (some ⟨w1.heap.size, 0, none⟩) [1, 5] c 2 (by simp) _ hJ1 hJ2).mono ?_
  rintro e w2 ⟨rfl, hb2⟩
  go_wp2
  go_ret
  exact ⟨rfl, hB1.trans (hb2.mono hB1.size)⟩
end Go.Proofs.YtghbipipehglfaaDoor
