import Derived.Test.YtflkhjicgojcbaaK2
import Derived.Lib.AppendZeros
import Derived.Laws.AppendOwnNone
namespace Go.Proofs.Ytflkhjicgojcbaa
open Go.RowKit Go.Shelf

set_option maxRecDepth 100000 in
set_option maxHeartbeats 2000000 in
theorem grow_big (n : Nat) (h0 : 0 < n) (h64 : n ≤ 10000) (w : World) :
    Calls Try.prog 111 #[.slice none 0 0, .int .i64 n] w fun e w' => ∃ v, e = .returned v ∧ w'.ownsRow w.heap.size 38 2 v 0 (flat []) ∧ Below w.heap.size w w' := by
  obtain ⟨i0, hi, hz0, hz1, hz2⟩ := info_parts info38'
  have hrz := fun ty => Lib.run_append_nil_zeros w 22 3 ty 38 i0 _ .i64 .i64 Try.underlying22 Try.underlying3 hi hz0 n h0 (by rw [hz1]; omega) (by omega) (by rw [hz2]; omega)
  have hGm := grownCap_le_maxLen w n 0 38 (by unfold maxLen; omega)
  have hGn := grownCap_ge w n 0 38
  generalize grownCap w n 0 38 = G at *
  have hOwn : ∀ cur : Array Value, cur.size = G * 2 → ((w.drew).alloc (.cells cur 38)).ownsRow w.heap.size 38 2 (.slice (some ⟨w.drew.heap.size, 0, none⟩) 0 G) 0 (flat []) := fun cur hcur => World.ownsRow_made w.drew cur G (Nat.le_refl _) hGm hcur
  have HOwn := Lib.hid hOwn
  have hG63 : G ≤ 9223372036854775807 := by unfold maxLen at hGm; omega
  clear hOwn hGm
  go_enter Try.func111, Try.ntmps111
  go_wp2_with (at_builtin; refine Lib.wpList_append_run _ rfl _ _ _ _ rfl _ _ rfl rfl _ _ (hrz _) ?_)
  go_ret
  refine ⟨_, rfl, HOwn.out _ ?_, ((Below.refl _ w).drew).alloc (Nat.le_refl _) _⟩
  simp [Builtin.zeroCells]
  omega

set_option maxRecDepth 100000 in
set_option maxHeartbeats 4000000 in
theorem concat_big (S b1 o1 c1 b2 o2 c2 : Nat) (ps qs : List Geo.XY) (h0 : 0 < ps.length + qs.length) (h64 : ps.length + qs.length ≤ 10000) (w : World) (hS : Blk w S 22 #[.slice (some ⟨b1, o1, none⟩) ps.length c1, .slice (some ⟨b2, o2, none⟩) qs.length c2])
    (hp : Pts w (some ⟨b1, o1, none⟩) ps) (hq : Pts w (some ⟨b2, o2, none⟩) qs) :
    Calls Try.prog 98 #[.slice (some ⟨S, 0, none⟩) 2 2] w fun e w' => ∃ v, e = .returned v ∧ w'.ownsRow w.heap.size 38 2 v (ps.length + qs.length) (flat (ps ++ qs)) ∧ Below w.heap.size w w' := by
  have HP := Lib.hid hp
  have HQ := Lib.hid hq
  have HS := Lib.hid hS
  have hsl := hS.lt
  have s0 := hS.cell 0
  have s1 := hS.cell 1
  simp only [List.getElem?_toArray, List.getElem?_cons_zero, List.getElem?_cons_succ] at s0 s1
  clear hp hq hS
  obtain ⟨i0, hi, hz0, hz1, hz2⟩ := info_parts info38'
  go_enter Try.func98, Try.ntmps98
  go_wp2
  go_loop [3, 11] (fun s i => ∃ k : Nat, k ≤ 2 ∧ i = .int .i64 k ∧ s = .int .i64 ((if k = 0 then 0 else if k = 1 then ps.length else ps.length + qs.length : Nat) : Int)) (fun _ i => 2 - (intOf i).toNat)
  case atStart => exact ⟨0, by omega, rfl, rfl⟩
  case round =>
    obtain ⟨k, hk, rfl, rfl⟩ := hrel
    have hk3 : k = 0 ∨ k = 1 ∨ k = 2 := by omega
    rcases hk3 with rfl | rfl | rfl
    · simp only [if_true]
      go_wp2
      go_round
      case rel => exact ⟨1, by omega, by simp, by simp⟩
      case measure => simp [intOf]
    · simp only [if_true, if_neg (show ¬ (1 : Nat) = 0 by omega)]
      go_wp2
      go_round
      case rel => exact ⟨2, by omega, by simp, by simp⟩
      case measure => simp [intOf]
    · simp only [if_neg (show ¬ (2 : Nat) = 0 by omega), if_neg (show ¬ (2 : Nat) = 1 by omega)]
      go_wp2_with fail
      refine (grow_big (ps.length + qs.length) h0 h64 w).mono ?_
      rintro e w1 ⟨v, rfl, hown, hb1⟩
      have hb1' := hb1
      go_wp2
      go_loopw [6, 27] (fun v i wr => ∃ k : Nat, k ≤ 2 ∧ i = .int .i64 k ∧ wr.ownsRow w.heap.size 38 2 v (if k = 0 then 0 else if k = 1 then ps.length else ps.length + qs.length) (flat (if k = 0 then [] else if k = 1 then ps else ps ++ qs)) ∧ Below w.heap.size w wr) (fun _ i _ => 2 - (intOf i).toNat)
      case atStart => exact ⟨0, by omega, rfl, hown, hb1⟩
      case round =>
        clear hown hb1 hb1'
        obtain ⟨k, hk, rfl, hown, hB⟩ := hrel
        have t0 := (hB.cell (p := ⟨S, 0, none⟩) hsl).trans s0
        have t1 := (hB.cell (p := ⟨S, 1, none⟩) hsl).trans s1
        have hSl : S < wr.heap.size := Nat.lt_of_lt_of_le hsl hB.size
        have hk3 : k = 0 ∨ k = 1 ∨ k = 2 := by omega
        rcases hk3 with rfl | rfl | rfl
        · simp only [if_true] at hown
          go_wp2_with (at_builtin; refine wpList_append_own _ rfl _ _ 22 rfl w.heap.size 38 i0 _ 2 16 Try.underlying22 hi hz0 hz1 hz2 rfl (by decide) _ _ _ rfl hown ⟨b1, o1, none⟩ ps.length c1 (flat ps) rfl (flat_length ps) (pts_cells (HP.out.below hB)) (oneCell_flat ps) ?c3 ?c4 hB.size ?_)
          case c3 => unfold maxLen; omega
          case c4 => omega
          intro v' w1 hown' hgrow _
          have hB' : Below w.heap.size w w1 := hB.grown hgrow hB.size (fun k e => (hown.lt k e).1)
          clear hown hgrow
          go_wp2
          go_roundw
          case rel => exact ⟨1, by omega, by simp, by simpa [flat] using hown', hB'⟩
          case measure => simp [intOf]
        · simp only [if_true, if_neg (show ¬ (1 : Nat) = 0 by omega)] at hown
          go_wp2_with (at_builtin; refine wpList_append_own _ rfl _ _ 22 rfl w.heap.size 38 i0 _ 2 16 Try.underlying22 hi hz0 hz1 hz2 rfl (by decide) _ _ _ rfl hown ⟨b2, o2, none⟩ qs.length c2 (flat qs) rfl (flat_length qs) (pts_cells (HQ.out.below hB)) (oneCell_flat qs) ?c3 ?c4 hB.size ?_)
          case c3 => unfold maxLen; omega
          case c4 => omega
          intro v' w1 hown' hgrow _
          have hB' : Below w.heap.size w w1 := hB.grown hgrow hB.size (fun k e => (hown.lt k e).1)
          clear hown hgrow
          go_wp2
          go_roundw
          case rel => exact ⟨2, by omega, by simp, by simpa [flat_append] using hown', hB'⟩
          case measure => simp [intOf]
        · simp only [if_neg (show ¬ (2 : Nat) = 0 by omega), if_neg (show ¬ (2 : Nat) = 1 by omega)] at hown
          go_wp2
          go_ret
          exact ⟨_, rfl, hown, hB⟩
/-- nothing has turned but block g -/
structure Only (g : Nat) (w w' : World) : Prop where
  os : w'.os = w.os
  tape : w'.tape = w.tape
  output : w'.output = w.output
  size : w'.heap.size = w.heap.size
  block : ∀ k, k ≠ g → w'.heap[k]? = w.heap[k]?
theorem Only.refl (g : Nat) (w : World) : Only g w w := ⟨rfl, rfl, rfl, rfl, fun _ _ => rfl⟩
theorem Only.drew {g : Nat} {w w' : World} (h : Only g w w') : Only g w w'.drew := ⟨h.os, h.tape, h.output, h.size, h.block⟩
theorem Only.setCell {g : Nat} {w w' : World} (h : Only g w w') (i : Nat) (u : Value) : Only g w (w'.setCell ⟨g, i, none⟩ u) :=
  ⟨h.os, h.tape, h.output, by rw [← h.size]; simp [World.setCell], fun k hk => (Below.heap_setCell w' ⟨g, i, none⟩ u k hk).trans (h.block k hk)⟩
theorem Only.below {g B : Nat} {w w' : World} (h : Only g w w') (hB : B ≤ g) : Below B w w' := ⟨h.os, h.tape, h.output, by rw [h.size]; exact Nat.le_refl _, fun k hk => h.block k (by omega)⟩
theorem Only.own {g B n : Nat} {w w' : World} (h : Only g w w') {v : Value} {xs : List Value} (ho : w.ownsRow B 38 2 v n xs) (hn : v.ownBlock ≠ some g) : w'.ownsRow B 38 2 v n xs :=
  ho.kept (row := some g) ⟨h.os, h.tape, h.output, by rw [h.size]; exact Nat.le_refl _, fun k _ hk => h.block k (fun e => hk (by rw [e]))⟩ (.inr hn)
set_option maxRecDepth 100000 in
set_option maxHeartbeats 4000000 in
theorem reverse_big (B g c : Nat) (ps : List Geo.XY) (h64 : ps.length ≤ 10000) (h0 : 0 < ps.length) (w : World) (hown : w.ownsRow B 38 2 (.slice (some ⟨g, 0, none⟩) ps.length c) ps.length (flat ps)) :
    Calls Try.prog 75 #[.slice (some ⟨g, 0, none⟩) ps.length c] w fun e w' => e = .returned (.tuple #[]) ∧ w'.ownsRow B 38 2 (.slice (some ⟨g, 0, none⟩) ps.length c) ps.length (flat ps.reverse) ∧ Only g w w' := by
  go_enter Try.func75, Try.ntmps75
  go_wp2
  go_loopw [2, 3] (fun i j wr => ∃ k : Nat, 2 * k ≤ ps.length ∧ i = .int .i64 k ∧ j = .int .i64 ((ps.length : Int) - 1 - k) ∧ wr.ownsRow B 38 2 (.slice (some ⟨g, 0, none⟩) ps.length c) ps.length (flat (revK ps k)) ∧ Only g w wr) (fun i _ _ => ps.length - (intOf i).toNat)
  case atStart => exact ⟨0, by omega, rfl, by simp, by rw [revK_zero]; exact hown, Only.refl _ _⟩
  case round =>
    clear hown
    obtain ⟨k, hk, rfl, rfl, hown, hB⟩ := hrel
    by_cases hlt : 2 * k + 1 < ps.length
    · obtain ⟨m, hm⟩ : ∃ m, m = ps.length - 1 - k := ⟨_, rfl⟩
      have hmi : (ps.length : Int) - 1 - (k : Int) = (m : Int) := by omega
      have hml : m < ps.length := by omega
      have hkl : k < ps.length := by omega
      have hkm : k < m := by omega
      obtain ⟨x1, x2⟩ := revK_at ps k hlt
      rw [← hm] at x2
      have HN : Hid (revK ps (k + 1) = ((revK ps k).set k (Geo.X ps m)).set m (Geo.X ps k)) := Lib.hid (by rw [revK_succ ps k hlt, ← hm])
      obtain ⟨f1, f2⟩ := flat_get (revK ps k) k (by rw [revK_len]; omega)
      obtain ⟨f3, f4⟩ := flat_get (revK ps k) m (by rw [revK_len]; omega)
      have q1 := hown.cellAt (k * 2) (by omega)
      have q2 := hown.cellAt (k * 2 + 1) (by omega)
      have q3 := hown.cellAt (m * 2) (by omega)
      have q4 := hown.cellAt (m * 2 + 1) (by omega)
      rw [f1, x1] at q1
      rw [f2, x1] at q2
      rw [f3, x2] at q3
      rw [f4, x2] at q4
      have r1 := hown.frozenAt (k * 2)
      have r2 := hown.frozenAt (k * 2 + 1)
      have r3 := hown.frozenAt (m * 2)
      have r4 := hown.frozenAt (m * 2 + 1)
      have HOWN := Lib.hid hown
      have HMM := Lib.hid hm
      rw [hmi]
      clear f1 f2 f3 f4 x1 x2 hown hm hmi
      have hd1 : ¬ k * 2 = m * 2 := by omega
      have hd2 : ¬ k * 2 + 1 = m * 2 := by omega
      have hd3 : ¬ k * 2 = m * 2 + 1 := by omega
      have hd4 : ¬ k * 2 + 1 = m * 2 + 1 := by omega
      go_wp2
      go_region
      have hown2 := ((((HOWN.out.stored (k * 2) (.int .i64 (Geo.X ps m).1)).1.stored (k * 2 + 1) (.int .i64 (Geo.X ps m).2)).1.stored (m * 2) (.int .i64 (Geo.X ps k).1)).1.stored (m * 2 + 1) (.int .i64 (Geo.X ps k).2)).1.drew
      rw [flat_set, flat_set, ← HN.out] at hown2
      have hB2 := ((((hB.setCell (k * 2) (.int .i64 (Geo.X ps m).1)).setCell (k * 2 + 1) (.int .i64 (Geo.X ps m).2)).setCell (m * 2) (.int .i64 (Geo.X ps k).1)).setCell (m * 2 + 1) (.int .i64 (Geo.X ps k).2)).drew
      clear q1 q2 q3 q4 r1 r2 r3 r4 hB
      generalize ((((wr.setCell ⟨g, k * 2, none⟩ (.int .i64 (Geo.X ps m).1)).setCell ⟨g, k * 2 + 1, none⟩ (.int .i64 (Geo.X ps m).2)).setCell ⟨g, m * 2, none⟩ (.int .i64 (Geo.X ps k).1)).setCell ⟨g, m * 2 + 1, none⟩ (.int .i64 (Geo.X ps k).2)).drew = W2 at *
      go_wp2
      go_roundw
      case rel => exact ⟨k + 1, by omega, by go_num, by have := HMM.out; congr 1; omega, hown2, hB2⟩
      case measure => simp [intOf]; omega
    · have hd : revK ps k = ps.reverse := revK_done ps k (by omega)
      rw [hd] at hown
      have hn : ¬ ((k : Int) < (ps.length : Int) - 1 - (k : Int)) := by omega
      clear hd
      go_wp2
      refine ⟨rfl, .tuple #[], by simp [results, Try.f75], rfl, hown, hB⟩

theorem own_empty {w : World} {g : Nat} (hB : Blk w g 38 #[]) : w.ownsRow g 38 2 (.slice (some ⟨g, 0, none⟩) 0 0) 0 (flat []) :=
  ⟨rfl, .inr ⟨g, 0, #[], rfl, Nat.le_refl _, hB, Nat.le_refl _, by unfold maxLen; omega, rfl, rfl⟩⟩
set_option maxRecDepth 100000 in
set_option maxHeartbeats 2000000 in
theorem clone_some (ad : Addr) (c : Nat) (l : List Geo.XY) (hl : l.length ≤ 5000) (w : World) (hP : Pts w (some ad) l) :
    Calls Try.prog 104 #[.slice (some ad) l.length c] w fun e w' => ∃ v, e = .returned v ∧ w'.ownsRow w.heap.size 38 2 v l.length (flat l) ∧ Below w.heap.size w w' ∧ v ≠ .slice none 0 0 := by
  have HP := Lib.hid hP
  clear hP
  obtain ⟨i0, hi, hz0, hz1, hz2⟩ := info_parts info38'
  have h22 := Lib.run_eql_slice_nil (P := Try.prog) w 22 38 (some ad) l.length c 0 0 Try.underlying22
  have hB1 := (Below.refl w.heap.size w).alloc (Nat.le_refl _) (.cells #[] 38)
  have HC1 : Hid (∀ (j : Nat) (u : Value), (flat l)[j]? = some u → (w.alloc (.cells #[] 38)).cell? (ad.add j) = some u) := Lib.hid (by
    intro j u hj
    by_cases h0 : l = []
    · subst h0; simp [flat] at hj
    · rcases HP.out with h | ⟨b, off, he, hb, hc⟩
      · exact absurd h h0
      · cases he
        exact pts_cells ((show Pts w (some ⟨b, off, none⟩) l from .inr ⟨b, off, rfl, hb, hc⟩).below hB1) j u hj)
  go_enter Try.func104, Try.ntmps104
  go_wp2_with (at_builtin; refine wpList_append_own _ rfl _ _ 22 rfl w.heap.size 38 i0 _ 2 16 Try.underlying22 hi hz0 hz1 hz2 rfl (by decide) (.slice (some ⟨w.heap.size, 0, none⟩) 0 0) 0 (flat []) rfl (own_empty (Blk.new _ _ _)) ad l.length c (flat l) rfl (flat_length l) HC1.out (oneCell_flat l) (by unfold maxLen; omega) (by omega) (by simp) ?_; intro v' w2 hown' hgrow hiff)
  have hB2 : Below w.heap.size w w2 := hB1.grown hgrow (by simp) (fun k e => by cases e; exact Nat.le_refl _)
  have hne : v' ≠ .slice none 0 0 := fun e => by cases (hiff.1 e).1
  clear hgrow hiff h22
  go_wp2
  go_ret
  exact ⟨_, rfl, by simpa [flat] using hown', hB2, hne⟩
set_option maxRecDepth 100000 in
theorem clone_none (c : Nat) (w : World) :
    Calls Try.prog 104 #[.slice none 0 c] w fun e w' => e = .returned (.slice none 0 0) ∧ w' = w := by
  have h22 := Lib.run_eql_slice_nil (P := Try.prog) w 22 38 none 0 c 0 0 Try.underlying22
  go_enter Try.func104, Try.ntmps104
  go_wp2
  go_ret
  exact ⟨rfl, rfl⟩
end Go.Proofs.Ytflkhjicgojcbaa
