/- byLength's comparison. -/
import Derived.Test.YtmjnlmmjfbpogaaV2
import Derived.Shelf.SlSortCmp.NoneTotal
namespace Go.Proofs.Ytmjnlmmjfbpogaa
open Go.RowKit Go.Shelf Go.Sort Go.Lib

set_option maxHeartbeats 400000 in
theorem cmp_any (a b : Int) (w : World) : Calls Try.prog 82 #[.int .i64 a, .int .i64 b] w fun e w' => e = .returned (.int .i64 (Pl.cmpI a b)) ∧ w' = w := by
  rcases Int.lt_trichotomy a b with h | h | h
  · have H := Lib.hid (Pl.cmpI_lt h)
    go_enter Try.func82, Try.ntmps82
    go_wp2
    go_ret
    exact ⟨by rw [H.out]; rfl, rfl⟩
  · have H := Lib.hid (Pl.cmpI_eq h)
    have h1 : ¬ a < b := by omega
    have h2 : ¬ b < a := by omega
    clear h
    go_enter Try.func82, Try.ntmps82
    go_wp2
    go_ret
    exact ⟨by rw [H.out]; rfl, rfl⟩
  · have H := Lib.hid (Pl.cmpI_gt h)
    have h1 : ¬ a < b := by omega
    go_enter Try.func82, Try.ntmps82
    go_wp2
    go_ret
    exact ⟨by rw [H.out]; rfl, rfl⟩

set_option maxHeartbeats 400000 in
theorem or_any (g : Nat) (a b : Int) (w : World) (h0 : w.cell? ⟨g, 0, none⟩ = some (.int .i64 a)) (h1 : w.cell? ⟨g, 1, none⟩ = some (.int .i64 b)) :
    Calls Try.prog 81 #[.slice (some ⟨g, 0, none⟩) 2 2] w fun e w' => e = .returned (.int .i64 (Pl.orI a b)) ∧ w' = w := by
  go_enter Try.func81, Try.ntmps81
  go_wp2
  go_loop [8] (fun i => ∃ k : Nat, k ≤ 2 ∧ i = .int .i64 k ∧ (1 ≤ k → a = 0) ∧ (2 ≤ k → b = 0)) (fun i => 2 - (intOf i).toNat)
  case atStart => exact ⟨0, by omega, rfl, fun h => absurd h (by omega), fun h => absurd h (by omega)⟩
  case round =>
    obtain ⟨k, hk, rfl, ha, hb⟩ := hrel
    have HA := Lib.hid ha
    have HB := Lib.hid hb
    clear ha hb
    have hk3 : k = 0 ∨ k = 1 ∨ k = 2 := by omega
    rcases hk3 with rfl | rfl | rfl
    · by_cases hz : a = 0
      · have hz1 : (a != 0) = false := by simp [hz]
        have HZ := Lib.hid hz
        clear hz
        go_wp2
        go_round
        case rel => exact ⟨1, by omega, by simp, fun _ => HZ.out, fun h => absurd h (by omega)⟩
        case measure => simp [intOf]
      · have hz1 : (a != 0) = true := by simp [hz]
        have HZ := Lib.hid hz
        clear hz
        go_wp2
        go_ret
        exact ⟨by unfold Pl.orI; rw [if_neg HZ.out]; rfl, rfl⟩
    · by_cases hz : b = 0
      · have hz1 : (b != 0) = false := by simp [hz]
        have HZ := Lib.hid hz
        clear hz
        go_wp2
        go_round
        case rel => exact ⟨2, by omega, by simp, fun _ => HA.out (by omega), fun _ => HZ.out⟩
        case measure => simp [intOf]
      · have hz1 : (b != 0) = true := by simp [hz]
        have HZ := Lib.hid hz
        clear hz
        go_wp2
        go_ret
        exact ⟨by unfold Pl.orI; rw [if_pos (HA.out (by omega))]; rfl, rfl⟩
    · go_wp2
      go_ret
      exact ⟨by unfold Pl.orI; rw [if_pos (HA.out (by omega)), HB.out (by omega)]; rfl, rfl⟩

theorem wp_region_tail {P : Program} {id : Nat} {Q : Exit → Act → World → Prop} {a : Act} {w : World} {l : List Oper} (n : Nat) (hm : P.follows .mixedOrders = true) (hB : Region.lexTailB .any l.toArray n = true)
    (h : ∀ W : World, W = w.drew → wpStill P l.toArray W (fun a' => wpList P l.toArray Q (l.drop n) a' W) (l.take n) a) : (Code.region id l.toArray true).wp P Q a w :=
  wp_region_still_tail n hm hB (h _ rfl)

/-- a temple with its place in the list -/
abbrev pcL (t : Pl.Tm) (i : Nat) : List Value := [.int .i64 t.num, .int .i64 t.side, .int .i64 t.len, .int .i64 t.col, .int .i64 i]

set_option maxRecDepth 100000 in
set_option maxHeartbeats 400000 in
theorem bl_grow (s t : Pl.Tm) (i j : Nat) (w : World) : Calls Try.prog 80 #[.agg (pcL s i).toArray, .agg (pcL t j).toArray] w fun e w' =>
    e = .returned (.int .i64 (Pl.fbI s t)) ∧ ∃ q os, w' = grow (w.drewN q) os := by
  go_enter Try.func80, Try.ntmps80
  go_wp2
  refine wp_region_tail 14 (by kernel_rfl) (by kernel_rfl) fun W hW => ?_
  have f1 : W.cell? ⟨w.heap.size, 0, none⟩ = some (.int .i64 s.num) := by rw [hW]; go_simp
  have f2 : W.cell? ⟨w.heap.size, 2, none⟩ = some (.int .i64 s.len) := by rw [hW]; go_simp
  have f3 : W.cell? ⟨w.heap.size + 1, 0, none⟩ = some (.int .i64 t.num) := by rw [hW]; go_simp
  have f4 : W.cell? ⟨w.heap.size + 1, 2, none⟩ = some (.int .i64 t.len) := by rw [hW]; go_simp
  have hb : ∃ q os, W = grow (w.drewN q) os := ⟨1, _, by rw [hW, alloc_eq_grow, alloc_eq_grow, grow_grow]; rfl⟩
  have HB := Lib.hid hb
  clear hW hb
  simp only [List.take_succ_cons, List.take_zero, List.drop_succ_cons, List.drop_zero]
  iterate 6 still_step
  still_call (cmp_any _ _ _)
  iterate 6 still_step
  still_call (cmp_any _ _ _)
  refine wpStill_nil ?_
  go_wp2_with fail
  refine (or_any W.heap.size (Pl.cmpI s.len t.len) (Pl.cmpI s.num t.num) _ (by go_simp) (by go_simp)).mono ?_
  rintro e w' ⟨rfl, rfl⟩
  go_wp2
  go_ret
  refine ⟨rfl, ?_⟩
  obtain ⟨q, os, rfl⟩ := HB.out
  exact ⟨q, _, by rw [alloc_eq_grow, grow_grow]⟩
end Go.Proofs.Ytmjnlmmjfbpogaa
