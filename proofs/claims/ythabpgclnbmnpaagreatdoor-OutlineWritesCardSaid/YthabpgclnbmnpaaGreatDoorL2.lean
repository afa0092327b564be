import Derived.Test.YthabpgclnbmnpaaGreatDoorL1
import Derived.Lib.AppendZeros
namespace Go.Proofs.YthabpgclnbmnpaaGreatDoor
open Go.RowKit Go.Shelf

set_option maxRecDepth 100000 in
set_option maxHeartbeats 2000000 in
theorem grow_any (n : Nat) (h0 : 0 < n) (h64 : n ≤ 128) (w : World) :
    Calls Tryz.prog 55 #[.slice none 0 0, .int .i64 n] w fun e w' => ∃ v, e = .returned v ∧ w'.ownsRow w.heap.size 42 2 v 0 (flat []) ∧ Below w.heap.size w w' := by
  obtain ⟨i0, hi, hz0, hz1, hz2⟩ := info_parts info38'
  have hrz := fun ty => Lib.run_append_nil_zeros w 22 3 ty 42 i0 _ .i64 .i64 Tryz.underlying22 Tryz.underlying3 hi hz0 n h0 (by rw [hz1]; omega) (by omega) (by rw [hz2]; omega)
  have hGm := grownCap_le_maxLen w n 0 42 (by unfold maxLen; omega)
  have hGn := grownCap_ge w n 0 42
  generalize grownCap w n 0 42 = G at *
  have hOwn : ∀ cur : Array Value, cur.size = G * 2 → ((w.drew).alloc (.cells cur 42)).ownsRow w.heap.size 42 2 (.slice (some ⟨w.drew.heap.size, 0, none⟩) 0 G) 0 (flat []) := fun cur hcur => World.ownsRow_made w.drew cur G (Nat.le_refl _) hGm hcur
  have HOwn := Lib.hid hOwn
  have hG63 : G ≤ 9223372036854775807 := by unfold maxLen at hGm; omega
  clear hOwn hGm
  go_enter Tryz.func55, Tryz.ntmps55
  go_wp2_with (at_builtin; refine Lib.wpList_append_run _ rfl _ _ _ _ rfl _ _ rfl rfl _ _ (hrz _) ?_)
  go_ret
  refine ⟨_, rfl, HOwn.out _ ?_, ((Below.refl _ w).drew).alloc (Nat.le_refl _) _⟩
  simp [Builtin.zeroCells]
  omega

theorem pts_cells {W : World} {b off : Nat} {ps : List Geo.XY} (h : Pts W (some ⟨b, off, none⟩) ps) : ∀ (j : Nat) (u : Value), (flat ps)[j]? = some u → W.cell? ((⟨b, off, none⟩ : Addr).add j) = some u := by
  intro j u hj
  have hjl : j < (flat ps).length := by
    rcases Nat.lt_or_ge j (flat ps).length with h | h
    · exact h
    · rw [List.getElem?_eq_none h] at hj; cases hj
  rw [flat_length] at hjl
  rcases h with h | ⟨b', off', he, hb, hc⟩
  · subst h; simp at hjl
  · cases he
    rw [show (⟨b, off, none⟩ : Addr).add j = ⟨b, off + j, none⟩ from by cases j <;> simp [Addr.add]]
    obtain ⟨k, hk⟩ : ∃ k, j = k * 2 ∨ j = k * 2 + 1 := ⟨j / 2, by omega⟩
    have hkl : k < ps.length := by omega
    obtain ⟨f1, f2⟩ := flat_get ps k hkl
    obtain ⟨g1, g2⟩ := hc k hkl
    rcases hk with rfl | rfl
    · rw [g1, ← f1, hj]
    · rw [← Nat.add_assoc, g2, ← f2, hj]

set_option maxRecDepth 100000 in
set_option maxHeartbeats 4000000 in
theorem concat_any (S b1 o1 c1 b2 o2 c2 : Nat) (ps qs : List Geo.XY) (h0 : 0 < ps.length + qs.length) (h64 : ps.length + qs.length ≤ 128) (w : World) (hS : Blk w S 22 #[.slice (some ⟨b1, o1, none⟩) ps.length c1, .slice (some ⟨b2, o2, none⟩) qs.length c2])
    (hp : Pts w (some ⟨b1, o1, none⟩) ps) (hq : Pts w (some ⟨b2, o2, none⟩) qs) :
    Calls Tryz.prog 32 #[.slice (some ⟨S, 0, none⟩) 2 2] w fun e w' => ∃ v, e = .returned v ∧ w'.ownsRow w.heap.size 42 2 v (ps.length + qs.length) (flat (ps ++ qs)) ∧ Below w.heap.size w w' := by
  have HP := Lib.hid hp
  have HQ := Lib.hid hq
  have HS := Lib.hid hS
  have hsl := hS.lt
  have s0 := hS.cell 0
  have s1 := hS.cell 1
  simp only [List.getElem?_toArray, List.getElem?_cons_zero, List.getElem?_cons_succ] at s0 s1
  clear hp hq hS
  obtain ⟨i0, hi, hz0, hz1, hz2⟩ := info_parts info38'
  go_enter Tryz.func32, Tryz.ntmps32
  go_wp2
  go_loop [3, 11] (fun s i => ∃ k : Nat, k ≤ 2 ∧ i = .int .i64 k ∧ s = .int .i64 ((if k = 0 then 0 else if k = 1 then ps.length else ps.length + qs.length : Nat) : Int)) (fun _ i => 2 - (intOf i).toNat)
  case atStart => exact ⟨0, by omega, rfl, rfl⟩
  case round =>
    obtain ⟨k, hk, rfl, rfl⟩ := hrel
    have hk3 : k = 0 ∨ k = 1 ∨ k = 2 := by omega
    rcases hk3 with rfl | rfl | rfl
    · simp only [if_true]
      go_wp2
      go_round
      case rel => exact ⟨1, by omega, by simp, by simp⟩
      case measure => simp [intOf]
    · simp only [if_true, if_neg (show ¬ (1 : Nat) = 0 by omega)]
      go_wp2
      go_round
      case rel => exact ⟨2, by omega, by simp, by simp⟩
      case measure => simp [intOf]
    · simp only [if_neg (show ¬ (2 : Nat) = 0 by omega), if_neg (show ¬ (2 : Nat) = 1 by omega)]
      go_wp2_with fail
      refine (grow_any (ps.length + qs.length) h0 h64 w).mono ?_
      rintro e w1 ⟨v, rfl, hown, hb1⟩
      have hb1' := hb1
      go_wp2
      go_loopw [6, 27] (fun v i wr => ∃ k : Nat, k ≤ 2 ∧ i = .int .i64 k ∧ wr.ownsRow w.heap.size 42 2 v (if k = 0 then 0 else if k = 1 then ps.length else ps.length + qs.length) (flat (if k = 0 then [] else if k = 1 then ps else ps ++ qs)) ∧ Below w.heap.size w wr) (fun _ i _ => 2 - (intOf i).toNat)
      case atStart => exact ⟨0, by omega, rfl, hown, hb1⟩
      case round =>
        clear hown hb1 hb1'
        obtain ⟨k, hk, rfl, hown, hB⟩ := hrel
        have t0 := (hB.cell (p := ⟨S, 0, none⟩) hsl).trans s0
        have t1 := (hB.cell (p := ⟨S, 1, none⟩) hsl).trans s1
        have hSl : S < wr.heap.size := Nat.lt_of_lt_of_le hsl hB.size
        have hk3 : k = 0 ∨ k = 1 ∨ k = 2 := by omega
        rcases hk3 with rfl | rfl | rfl
        · simp only [if_true] at hown
          go_wp2_with (at_builtin; refine wpList_append_own _ rfl _ _ 22 rfl w.heap.size 42 i0 _ 2 16 Tryz.underlying22 hi hz0 hz1 hz2 rfl (by decide) _ _ _ rfl hown ⟨b1, o1, none⟩ ps.length c1 (flat ps) rfl (flat_length ps) (pts_cells (HP.out.below hB)) (oneCell_flat ps) ?c3 ?c4 hB.size ?_)
          case c3 => unfold maxLen; omega
          case c4 => omega
          intro v' w1 hown' hgrow _
          have hB' : Below w.heap.size w w1 := hB.grown hgrow hB.size (fun k e => (hown.lt k e).1)
          clear hown hgrow
          go_wp2
          go_roundw
          case rel => exact ⟨1, by omega, by simp, by simpa [flat] using hown', hB'⟩
          case measure => simp [intOf]
        · simp only [if_true, if_neg (show ¬ (1 : Nat) = 0 by omega)] at hown
          go_wp2_with (at_builtin; refine wpList_append_own _ rfl _ _ 22 rfl w.heap.size 42 i0 _ 2 16 Tryz.underlying22 hi hz0 hz1 hz2 rfl (by decide) _ _ _ rfl hown ⟨b2, o2, none⟩ qs.length c2 (flat qs) rfl (flat_length qs) (pts_cells (HQ.out.below hB)) (oneCell_flat qs) ?c3 ?c4 hB.size ?_)
          case c3 => unfold maxLen; omega
          case c4 => omega
          intro v' w1 hown' hgrow _
          have hB' : Below w.heap.size w w1 := hB.grown hgrow hB.size (fun k e => (hown.lt k e).1)
          clear hown hgrow
          go_wp2
          go_roundw
          case rel => exact ⟨2, by omega, by simp, by simpa [flat_append] using hown', hB'⟩
          case measure => simp [intOf]
        · simp only [if_neg (show ¬ (2 : Nat) = 0 by omega), if_neg (show ¬ (2 : Nat) = 1 by omega)] at hown
          go_wp2
          go_ret
          exact ⟨_, rfl, hown, hB⟩
end Go.Proofs.YthabpgclnbmnpaaGreatDoor
