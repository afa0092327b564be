/- Merged: L1 L2 L3 L4 M3 H1 H2 H3 H4 H5 H6 L5. -/
import Derived.Test.YtlikmlhlfbdchaaBX
import Derived.OwnWalk
import Derived.Laws.OwnMore
import Derived.Lib.AppendZeros
import Derived.Deep.Onto
namespace Go.Proofs.Ytlikmlhlfbdchaa
open Go.RowKit Go.Shelf

theorem info38' : (Try.prog.info? 76).map (fun i => (i.zero, i.size, i.bytes)) = some (some (.agg #[.int .i64 0, .int .i64 0]), 2, 16) := by kernel_rfl

/-- the cells of a list of places -/
def flat : List Geo.XY → List Value
  | [] => []
  | p :: ps => .int .i64 p.1 :: .int .i64 p.2 :: flat ps
theorem flat_length (ps : List Geo.XY) : (flat ps).length = ps.length * 2 := by
  induction ps with
  | nil => rfl
  | cons p ps ih => simp only [flat, List.length_cons, ih]; omega
theorem flat_append (ps qs : List Geo.XY) : flat (ps ++ qs) = flat ps ++ flat qs := by
  induction ps with
  | nil => rfl
  | cons p ps ih => simp only [flat, List.cons_append, ih]
theorem flat_get (ps : List Geo.XY) (k : Nat) (hk : k < ps.length) : (flat ps)[k * 2]? = some (.int .i64 (Geo.X ps k).1) ∧ (flat ps)[k * 2 + 1]? = some (.int .i64 (Geo.X ps k).2) := by
  induction ps generalizing k with
  | nil => simp at hk
  | cons p ps ih =>
    cases k with
    | zero => simp [flat, Geo.X]
    | succ k =>
      have := ih k (by simpa using hk)
      have e : (k + 1) * 2 = k * 2 + 1 + 1 := by omega
      rw [e]
      simp only [flat, List.getElem?_cons_succ]
      have e2 : Geo.X (p :: ps) (k + 1) = Geo.X ps k := by simp [Geo.X]
      rw [e2]
      exact this
theorem flat_one (p : Geo.XY) : flat [p] = [.int .i64 p.1, .int .i64 p.2] := rfl
theorem oneCell_flat (ps : List Geo.XY) : ∀ u ∈ flat ps, u.oneCell' = true := by
  induction ps with
  | nil => simp [flat]
  | cons p ps ih =>
    intro u hu
    simp only [flat, List.mem_cons] at hu
    rcases hu with rfl | rfl | hu
    · rfl
    · rfl
    · exact ih u hu

/-- a slice that owns a list of places leads to it -/
theorem pts_of_owns {W : World} {base : Nat} {v : Value} {ps : List Geo.XY} (h : W.ownsRow base 76 2 v ps.length (flat ps)) : ∃ A c, v = .slice A ps.length c ∧ Pts W A ps := by
  have hh := h
  rcases h with ⟨_, ⟨rfl, h0⟩ | ⟨g, cap, cur, rfl, hg, hcell, _⟩⟩
  · exact ⟨none, 0, by rw [h0], .inl (List.length_eq_zero_iff.1 h0)⟩
  · refine ⟨some ⟨g, 0, none⟩, cap, rfl, .inr ⟨g, 0, rfl, ?_, fun k hk => ?_⟩⟩
    · rcases Nat.lt_or_ge g W.heap.size with h | h
      · exact h
      · rw [Array.getElem?_eq_none h] at hcell; cases hcell
    · obtain ⟨f1, f2⟩ := flat_get ps k hk
      have c1 := hh.cellAt (k * 2) (by omega)
      have c2 := hh.cellAt (k * 2 + 1) (by omega)
      rw [f1] at c1
      rw [f2] at c2
      simp only [Nat.zero_add]
      exact ⟨c1, c2⟩

theorem pts_lt {W : World} {b off : Nat} {l : List Geo.XY} (h : Pts W (some ⟨b, off, none⟩) l) (h0 : 0 < l.length) : b < W.heap.size := by
  rcases h with h | ⟨b', off', he, hb, _⟩
  · subst h; simp at h0
  · cases he; exact hb

set_option maxHeartbeats 1000000 in
theorem lower_any (ax ay bx bY : Int) (w : World) : Calls Try.prog 92 #[.agg #[.int .i64 ax, .int .i64 ay], .agg #[.int .i64 bx, .int .i64 bY]] w fun e w' =>
    e = .returned (.bool (decide (Geo.low (ax, ay) (bx, bY)))) ∧ Below w.heap.size w w' := by
  have H : Hid (decide (Geo.low (ax, ay) (bx, bY)) = (decide (ay < bY) || (decide (ay = bY) && decide (ax < bx)))) := Lib.hid (by rw [Bool.eq_iff_iff, decide_eq_true_eq]; unfold Geo.low; simp)
  go_enter Try.func92, Try.ntmps92
  go_wp2
  all_goals (go_ret; exact ⟨by rw [H.out]; simp [*]; try omega, ((Below.refl _ _).alloc (Nat.le_refl _) _).alloc (by simp) _⟩)

theorem new_cells (W : World) (x y : Value) : ∀ (j : Nat) (u : Value), [x, y][j]? = some u → (W.alloc (.cells #[x, y] 76)).cell? ((⟨W.heap.size, 0, none⟩ : Addr).add j) = some u := by
  intro j u hj
  have := (Blk.new W 76 #[x, y]).cell j
  rw [show (⟨W.heap.size, 0, none⟩ : Addr).add j = ⟨W.heap.size, j, none⟩ from by cases j <;> simp [Addr.add], this]
  simpa using hj
theorem one_two (a b : Int) : ∀ u ∈ [Value.int .i64 a, Value.int .i64 b], u.oneCell' = true := by
  intro u hu
  simp at hu
  rcases hu with rfl | rfl <;> rfl

/-- the first k of the corners from the least one on -/
def fromLow (l : List Geo.XY) (k : Nat) : List Geo.XY := (List.range k).map fun i => Geo.At l (Geo.lowIdx l l.length + i)
theorem fromLow_len (l : List Geo.XY) (k : Nat) : (fromLow l k).length = k := by simp [fromLow]
theorem fromLow_succ (l : List Geo.XY) (k : Nat) : fromLow l (k + 1) = fromLow l k ++ [Geo.At l (Geo.lowIdx l l.length + k)] := by simp [fromLow, List.range_succ]
theorem fromLow_all (l : List Geo.XY) : fromLow l l.length = Geo.canon l := by
  refine List.ext_getElem? fun i => ?_
  by_cases h : i < l.length
  · have := Geo.canon_get l i h
    unfold Geo.X at this
    have hl : i < (Geo.canon l).length := by rw [Geo.canon_length]; exact h
    rw [List.getElem?_eq_getElem hl] at this
    rw [List.getElem?_eq_getElem hl]
    simp only [Option.getD_some] at this
    rw [this]
    simp [fromLow, h]
  · rw [List.getElem?_eq_none (by rw [fromLow_len]; omega), List.getElem?_eq_none (by rw [Geo.canon_length]; omega)]

set_option maxRecDepth 100000 in
set_option maxHeartbeats 4000000 in
theorem turnlist_any (b off c : Nat) (l : List Geo.XY) (h0 : 0 < l.length) (h64 : l.length ≤ 64) (w : World) (hb : b < w.heap.size)
    (hc : ∀ k, k < l.length → w.cell? ⟨b, off + k * 2, none⟩ = some (.int .i64 (Geo.X l k).1) ∧ w.cell? ⟨b, off + k * 2 + 1, none⟩ = some (.int .i64 (Geo.X l k).2)) :
    Calls Try.prog 53 #[.slice (some ⟨b, off, none⟩) l.length c] w fun e w' => ∃ v, e = .returned v ∧ w'.ownsRow w.heap.size 76 2 v (Geo.canon l).length (flat (Geo.canon l)) ∧ Below w.heap.size w w' := by
  have HC := Lib.hid hc
  clear hc
  obtain ⟨i0, hi, hz0, hz1, hz2⟩ := info_parts info38'
  go_enter Try.func53, Try.ntmps53
  go_wp2
  go_loopw [3, 10] (fun at_ i wr => ∃ k : Nat, k ≤ l.length ∧ i = .int .i64 k ∧ at_ = .int .i64 (Geo.lowIdx l k) ∧ Below w.heap.size w wr) (fun _ i _ => l.length - (intOf i).toNat)
  case atStart => exact ⟨0, Nat.zero_le _, rfl, rfl, Below.refl _ _⟩
  case round =>
    obtain ⟨k, hk, rfl, rfl, hB⟩ := hrel
    by_cases hlt : k < l.length
    · obtain ⟨m, hm⟩ : ∃ m, m = Geo.lowIdx l k := ⟨_, rfl⟩
      have hml : m < l.length := by
        rw [hm]
        by_cases e : k = 0
        · subst e; exact h0
        · have := Geo.lowIdx_lt l k (by omega); omega
      have HS : Hid (Geo.lowIdx l (k + 1) = if Geo.low (Geo.X l k) (Geo.X l m) then k else m) := Lib.hid (by rw [hm]; rfl)
      rw [← hm]
      clear hm
      have c1 : wr.cell? ⟨b, off + k * 2, none⟩ = some (.int .i64 (Geo.X l k).1) := (hB.cell (p := ⟨b, off + k * 2, none⟩) hb).trans (HC.out k hlt).1
      have c2 : wr.cell? ⟨b, off + k * 2 + 1, none⟩ = some (.int .i64 (Geo.X l k).2) := (hB.cell (p := ⟨b, off + k * 2 + 1, none⟩) hb).trans (HC.out k hlt).2
      have c3 : wr.cell? ⟨b, off + m * 2, none⟩ = some (.int .i64 (Geo.X l m).1) := (hB.cell (p := ⟨b, off + m * 2, none⟩) hb).trans (HC.out m hml).1
      have c4 : wr.cell? ⟨b, off + m * 2 + 1, none⟩ = some (.int .i64 (Geo.X l m).2) := (hB.cell (p := ⟨b, off + m * 2 + 1, none⟩) hb).trans (HC.out m hml).2
      have hbl : b < wr.heap.size := Nat.lt_of_lt_of_le hb hB.size
      go_wp2
      have hBa := hB.alloc hB.size (.cells #[.int .i64 (Geo.X l k).1, .int .i64 (Geo.X l k).2] 76)
      have bX := Blk.new wr 76 #[.int .i64 (Geo.X l k).1, .int .i64 (Geo.X l k).2]
      have d3 : (wr.alloc (.cells #[.int .i64 (Geo.X l k).1, .int .i64 (Geo.X l k).2] 76)).cell? ⟨b, off + m * 2, none⟩ = some (.int .i64 (Geo.X l m).1) := (hBa.cell (p := ⟨b, off + m * 2, none⟩) hb).trans (HC.out m hml).1
      have d4 : (wr.alloc (.cells #[.int .i64 (Geo.X l k).1, .int .i64 (Geo.X l k).2] 76)).cell? ⟨b, off + m * 2 + 1, none⟩ = some (.int .i64 (Geo.X l m).2) := (hBa.cell (p := ⟨b, off + m * 2 + 1, none⟩) hb).trans (HC.out m hml).2
      generalize wr.alloc (.cells #[.int .i64 (Geo.X l k).1, .int .i64 (Geo.X l k).2] 76) = W1 at *
      have q1 := bX.cell 0
      have q2 := bX.cell 1
      simp only [List.getElem?_toArray, List.getElem?_cons_zero, List.getElem?_cons_succ] at q1 q2
      have z1 := fun s : Ext W1 => s.cell q1
      have z2 := fun s : Ext W1 => s.cell q2
      have z3 := fun s : Ext W1 => s.cell d3
      have z4 := fun s : Ext W1 => s.cell d4
      refine wp_region_ext (by kernel_rfl) (by kernel_rfl) ?_
      repeat (go_big_quiet_step ((go_at_call 92; refine calls_ext (lower_any _ _ _ _ _))))
      refine wpQuiet_nil ?_
      rintro _ ⟨s, rfl⟩
      have hBs := hBa.trans (s.h.mono hBa.size)
      generalize s.w = W2 at *
      clear z1 z2 z3 z4 s
      by_cases hlow : Geo.low (Geo.X l k) (Geo.X l m)
      · have e1 : decide (Geo.low ((Geo.X l k).1, (Geo.X l k).2) ((Geo.X l m).1, (Geo.X l m).2)) = true := decide_eq_true hlow
        rw [e1]
        go_wp2
        go_roundw
        case rel => exact ⟨k + 1, by omega, by go_num, by rw [HS.out, if_pos hlow], hBs⟩
        case measure => simp [intOf]; omega
      · have e1 : decide (Geo.low ((Geo.X l k).1, (Geo.X l k).2) ((Geo.X l m).1, (Geo.X l m).2)) = false := decide_eq_false hlow
        rw [e1]
        go_wp2
        go_roundw
        case rel => exact ⟨k + 1, by omega, by go_num, by rw [HS.out, if_neg hlow], hBs⟩
        case measure => simp [intOf]; omega
    · obtain rfl : k = l.length := by omega
      have hat := Geo.lowIdx_lt l l.length h0
      obtain ⟨at_, hat_⟩ : ∃ m, m = Geo.lowIdx l l.length := ⟨_, rfl⟩
      have HAT := Lib.hid hat_
      rw [← hat_] at hat ⊢
      clear hat_
      go_wp2
      clear hlt
      go_loopw [6, 25] (fun v i wr => ∃ k : Nat, k ≤ l.length ∧ i = .int .i64 k ∧ wr.ownsRow w.heap.size 76 2 v k (flat (fromLow l k)) ∧ Below w.heap.size w wr) (fun _ i _ => l.length - (intOf i).toNat)
      case atStart => exact ⟨0, Nat.zero_le _, rfl, World.ownsRow_nil _ _ _ _, hB⟩
      case round =>
        clear hB
        obtain ⟨k, hk, rfl, hown, hB⟩ := hrel
        by_cases hlt : k < l.length
        · obtain ⟨m, hm⟩ : ∃ m, m = (at_ + k) % l.length := ⟨_, rfl⟩
          have hml : m < l.length := by rw [hm]; exact Nat.mod_lt _ (by omega)
          have HM : Hid (fromLow l (k + 1) = fromLow l k ++ [Geo.X l m]) := Lib.hid (by
            have hml' : (Geo.lowIdx l l.length + k) % l.length < l.length := Nat.mod_lt _ (by omega)
            rw [fromLow_succ, hm, HAT.out, ← Geo.At_mod, Geo.At_lt l hml'])
          have e3 : ((at_ : Int) + (k : Int)) % (l.length : Int) = (m : Int) := by rw [hm]; simp
          clear hm
          have e4 : ¬ (l.length : Int) = 0 := by omega
          have c3 : wr.cell? ⟨b, off + m * 2, none⟩ = some (.int .i64 (Geo.X l m).1) := (hB.cell (p := ⟨b, off + m * 2, none⟩) hb).trans (HC.out m hml).1
          have c4 : wr.cell? ⟨b, off + m * 2 + 1, none⟩ = some (.int .i64 (Geo.X l m).2) := (hB.cell (p := ⟨b, off + m * 2 + 1, none⟩) hb).trans (HC.out m hml).2
          have hbl : b < wr.heap.size := Nat.lt_of_lt_of_le hb hB.size
          go_wp2_with (at_builtin; refine wpList_append_own _ rfl _ _ 22 rfl w.heap.size 76 i0 _ 2 16 Try.underlying22 hi hz0 hz1 hz2 rfl (by decide) _ _ _ rfl (hown.alloc _) ⟨wr.heap.size, 0, none⟩ 1 1 [.int .i64 (Geo.X l m).1, .int .i64 (Geo.X l m).2] rfl rfl ?c1 ?c2 ?c3 ?c4 ?c5 ?_)
          case c1 => exact new_cells _ _ _
          case c2 => exact one_two _ _
          case c3 => unfold maxLen; omega
          case c4 => omega
          case c5 => have := hB.size; simp; omega
          intro v' w1 hown' hgrow _
          have hB' : Below w.heap.size w w1 := (hB.alloc hB.size _).grown hgrow (by have := hB.size; simp; omega) (fun k e => (hown.lt k e).1)
          clear hown hgrow
          go_wp2
          go_roundw
          case rel => exact ⟨k + 1, by omega, by go_num, by rw [HM.out, flat_append]; exact hown', hB'⟩
          case measure => simp [intOf]; omega
        · obtain rfl : k = l.length := by omega
          go_wp2
          go_ret
          exact ⟨_, rfl, by rw [Geo.canon_length, ← fromLow_all]; exact hown, hB⟩
end Go.Proofs.Ytlikmlhlfbdchaa
namespace Go.Proofs.Ytlikmlhlfbdchaa
open Go.RowKit Go.Shelf

set_option maxRecDepth 100000 in
set_option maxHeartbeats 2000000 in
theorem grow_any (n : Nat) (h0 : 0 < n) (h64 : n ≤ 128) (w : World) :
    Calls Try.prog 133 #[.slice none 0 0, .int .i64 n] w fun e w' => ∃ v, e = .returned v ∧ w'.ownsRow w.heap.size 76 2 v 0 (flat []) ∧ Below w.heap.size w w' := by
  obtain ⟨i0, hi, hz0, hz1, hz2⟩ := info_parts info38'
  have hrz := fun ty => Lib.run_append_nil_zeros w 22 3 ty 76 i0 _ .i64 .i64 Try.underlying22 Try.underlying3 hi hz0 n h0 (by rw [hz1]; omega) (by omega) (by rw [hz2]; omega)
  have hGm := grownCap_le_maxLen w n 0 76 (by unfold maxLen; omega)
  have hGn := grownCap_ge w n 0 76
  generalize grownCap w n 0 76 = G at *
  have hOwn : ∀ cur : Array Value, cur.size = G * 2 → ((w.drew).alloc (.cells cur 76)).ownsRow w.heap.size 76 2 (.slice (some ⟨w.drew.heap.size, 0, none⟩) 0 G) 0 (flat []) := fun cur hcur => World.ownsRow_made w.drew cur G (Nat.le_refl _) hGm hcur
  have HOwn := Lib.hid hOwn
  have hG63 : G ≤ 9223372036854775807 := by unfold maxLen at hGm; omega
  clear hOwn hGm
  go_enter Try.func133, Try.ntmps133
  go_wp2_with (at_builtin; refine Lib.wpList_append_run _ rfl _ _ _ _ rfl _ _ rfl rfl _ _ (hrz _) ?_)
  go_ret
  refine ⟨_, rfl, HOwn.out _ ?_, ((Below.refl _ w).drew).alloc (Nat.le_refl _) _⟩
  simp [Builtin.zeroCells]
  omega

theorem pts_cells {W : World} {b off : Nat} {ps : List Geo.XY} (h : Pts W (some ⟨b, off, none⟩) ps) : ∀ (j : Nat) (u : Value), (flat ps)[j]? = some u → W.cell? ((⟨b, off, none⟩ : Addr).add j) = some u := by
  intro j u hj
  have hjl : j < (flat ps).length := by
    rcases Nat.lt_or_ge j (flat ps).length with h | h
    · exact h
    · rw [List.getElem?_eq_none h] at hj; cases hj
  rw [flat_length] at hjl
  rcases h with h | ⟨b', off', he, hb, hc⟩
  · subst h; simp at hjl
  · cases he
    rw [show (⟨b, off, none⟩ : Addr).add j = ⟨b, off + j, none⟩ from by cases j <;> simp [Addr.add]]
    obtain ⟨k, hk⟩ : ∃ k, j = k * 2 ∨ j = k * 2 + 1 := ⟨j / 2, by omega⟩
    have hkl : k < ps.length := by omega
    obtain ⟨f1, f2⟩ := flat_get ps k hkl
    obtain ⟨g1, g2⟩ := hc k hkl
    rcases hk with rfl | rfl
    · rw [g1, ← f1, hj]
    · rw [← Nat.add_assoc, g2, ← f2, hj]

set_option maxRecDepth 100000 in
set_option maxHeartbeats 4000000 in
theorem concat_any (S b1 o1 c1 b2 o2 c2 : Nat) (ps qs : List Geo.XY) (h0 : 0 < ps.length + qs.length) (h64 : ps.length + qs.length ≤ 128) (w : World) (hS : Blk w S 22 #[.slice (some ⟨b1, o1, none⟩) ps.length c1, .slice (some ⟨b2, o2, none⟩) qs.length c2])
    (hp : Pts w (some ⟨b1, o1, none⟩) ps) (hq : Pts w (some ⟨b2, o2, none⟩) qs) :
    Calls Try.prog 130 #[.slice (some ⟨S, 0, none⟩) 2 2] w fun e w' => ∃ v, e = .returned v ∧ w'.ownsRow w.heap.size 76 2 v (ps.length + qs.length) (flat (ps ++ qs)) ∧ Below w.heap.size w w' := by
  have HP := Lib.hid hp
  have HQ := Lib.hid hq
  have HS := Lib.hid hS
  have hsl := hS.lt
  have s0 := hS.cell 0
  have s1 := hS.cell 1
  simp only [List.getElem?_toArray, List.getElem?_cons_zero, List.getElem?_cons_succ] at s0 s1
  clear hp hq hS
  obtain ⟨i0, hi, hz0, hz1, hz2⟩ := info_parts info38'
  go_enter Try.func130, Try.ntmps130
  go_wp2
  go_loop [3, 11] (fun s i => ∃ k : Nat, k ≤ 2 ∧ i = .int .i64 k ∧ s = .int .i64 ((if k = 0 then 0 else if k = 1 then ps.length else ps.length + qs.length : Nat) : Int)) (fun _ i => 2 - (intOf i).toNat)
  case atStart => exact ⟨0, by omega, rfl, rfl⟩
  case round =>
    obtain ⟨k, hk, rfl, rfl⟩ := hrel
    have hk3 : k = 0 ∨ k = 1 ∨ k = 2 := by omega
    rcases hk3 with rfl | rfl | rfl
    · simp only [if_true]
      go_wp2
      go_round
      case rel => exact ⟨1, by omega, by simp, by simp⟩
      case measure => simp [intOf]
    · simp only [if_true, if_neg (show ¬ (1 : Nat) = 0 by omega)]
      go_wp2
      go_round
      case rel => exact ⟨2, by omega, by simp, by simp⟩
      case measure => simp [intOf]
    · simp only [if_neg (show ¬ (2 : Nat) = 0 by omega), if_neg (show ¬ (2 : Nat) = 1 by omega)]
      go_wp2_with fail
      refine (grow_any (ps.length + qs.length) h0 h64 w).mono ?_
      rintro e w1 ⟨v, rfl, hown, hb1⟩
      have hb1' := hb1
      go_wp2
      go_loopw [6, 27] (fun v i wr => ∃ k : Nat, k ≤ 2 ∧ i = .int .i64 k ∧ wr.ownsRow w.heap.size 76 2 v (if k = 0 then 0 else if k = 1 then ps.length else ps.length + qs.length) (flat (if k = 0 then [] else if k = 1 then ps else ps ++ qs)) ∧ Below w.heap.size w wr) (fun _ i _ => 2 - (intOf i).toNat)
      case atStart => exact ⟨0, by omega, rfl, hown, hb1⟩
      case round =>
        clear hown hb1 hb1'
        obtain ⟨k, hk, rfl, hown, hB⟩ := hrel
        have t0 := (hB.cell (p := ⟨S, 0, none⟩) hsl).trans s0
        have t1 := (hB.cell (p := ⟨S, 1, none⟩) hsl).trans s1
        have hSl : S < wr.heap.size := Nat.lt_of_lt_of_le hsl hB.size
        have hk3 : k = 0 ∨ k = 1 ∨ k = 2 := by omega
        rcases hk3 with rfl | rfl | rfl
        · simp only [if_true] at hown
          go_wp2_with (at_builtin; refine wpList_append_own _ rfl _ _ 22 rfl w.heap.size 76 i0 _ 2 16 Try.underlying22 hi hz0 hz1 hz2 rfl (by decide) _ _ _ rfl hown ⟨b1, o1, none⟩ ps.length c1 (flat ps) rfl (flat_length ps) (pts_cells (HP.out.below hB)) (oneCell_flat ps) ?c3 ?c4 hB.size ?_)
          case c3 => unfold maxLen; omega
          case c4 => omega
          intro v' w1 hown' hgrow _
          have hB' : Below w.heap.size w w1 := hB.grown hgrow hB.size (fun k e => (hown.lt k e).1)
          clear hown hgrow
          go_wp2
          go_roundw
          case rel => exact ⟨1, by omega, by simp, by simpa [flat] using hown', hB'⟩
          case measure => simp [intOf]
        · simp only [if_true, if_neg (show ¬ (1 : Nat) = 0 by omega)] at hown
          go_wp2_with (at_builtin; refine wpList_append_own _ rfl _ _ 22 rfl w.heap.size 76 i0 _ 2 16 Try.underlying22 hi hz0 hz1 hz2 rfl (by decide) _ _ _ rfl hown ⟨b2, o2, none⟩ qs.length c2 (flat qs) rfl (flat_length qs) (pts_cells (HQ.out.below hB)) (oneCell_flat qs) ?c3 ?c4 hB.size ?_)
          case c3 => unfold maxLen; omega
          case c4 => omega
          intro v' w1 hown' hgrow _
          have hB' : Below w.heap.size w w1 := hB.grown hgrow hB.size (fun k e => (hown.lt k e).1)
          clear hown hgrow
          go_wp2
          go_roundw
          case rel => exact ⟨2, by omega, by simp, by simpa [flat_append] using hown', hB'⟩
          case measure => simp [intOf]
        · simp only [if_neg (show ¬ (2 : Nat) = 0 by omega), if_neg (show ¬ (2 : Nat) = 1 by omega)] at hown
          go_wp2
          go_ret
          exact ⟨_, rfl, hown, hB⟩
end Go.Proofs.Ytlikmlhlfbdchaa
namespace Go.Proofs.Ytlikmlhlfbdchaa
open Go.RowKit Go.Shelf

theorem concat_r (S b1 o1 c1 b2 o2 c2 n1 n2 : Nat) (ps qs : List Geo.XY) (e1 : ps.length = n1) (e2 : qs.length = n2) (h0 : 0 < n1 + n2) (h64 : n1 + n2 ≤ 128) (w : World) (hS : Blk w S 22 #[.slice (some ⟨b1, o1, none⟩) n1 c1, .slice (some ⟨b2, o2, none⟩) n2 c2])
    (hp : Pts w (some ⟨b1, o1, none⟩) ps) (hq : Pts w (some ⟨b2, o2, none⟩) qs) :
    Calls Try.prog 130 #[.slice (some ⟨S, 0, none⟩) 2 2] w fun e w' => ∃ v, e = .returned v ∧ w'.ownsRow w.heap.size 76 2 v (n1 + n2) (flat (ps ++ qs)) ∧ Below w.heap.size w w' := by
  subst e1 e2; exact concat_any S b1 o1 c1 b2 o2 c2 ps qs h0 h64 w hS hp hq

theorem fb_r (ax ay bx bY : Int) (w : World) (r : Int) (h : fbI (ax, ay) (bx, bY) = r) : Calls Try.prog 127 #[.agg #[.int .i64 ax, .int .i64 ay], .agg #[.int .i64 bx, .int .i64 bY]] w fun e w' =>
    e = .returned (.int .i64 r) ∧ Below w.heap.size w w' := by
  subst h; exact fb_any ax ay bx bY w

theorem pts_drop {W : World} {b off : Nat} {l : List Geo.XY} (hb : b < W.heap.size) (h : ∀ k, k < l.length → W.cell? ⟨b, off + k * 2, none⟩ = some (.int .i64 (Geo.X l k).1) ∧ W.cell? ⟨b, off + k * 2 + 1, none⟩ = some (.int .i64 (Geo.X l k).2)) (a : Nat) :
    Pts W (some ⟨b, off + a * 2, none⟩) (l.drop a) := by
  refine .inr ⟨b, off + a * 2, rfl, hb, fun k hk => ?_⟩
  rw [List.length_drop] at hk
  have := h (a + k) (by omega)
  have e : Geo.X (l.drop a) k = Geo.X l (a + k) := by unfold Geo.X; rw [List.getElem?_drop]
  rw [e, show off + a * 2 + k * 2 = off + (a + k) * 2 by omega]
  exact this
theorem pts_take {W : World} {b off : Nat} {l : List Geo.XY} (hb : b < W.heap.size) (h : ∀ k, k < l.length → W.cell? ⟨b, off + k * 2, none⟩ = some (.int .i64 (Geo.X l k).1) ∧ W.cell? ⟨b, off + k * 2 + 1, none⟩ = some (.int .i64 (Geo.X l k).2)) (a : Nat) :
    Pts W (some ⟨b, off, none⟩) (l.take a) := by
  refine .inr ⟨b, off, rfl, hb, fun k hk => ?_⟩
  rw [List.length_take] at hk
  have := h k (by omega)
  have e : Geo.X (l.take a) k = Geo.X l k := by unfold Geo.X; rw [List.getElem?_take, if_pos (by omega)]
  rw [e]
  exact this

set_option maxRecDepth 100000 in
set_option maxHeartbeats 4000000 in
theorem canonical_any (b off c : Nat) (l : List Geo.XY) (h0 : 0 < l.length) (h64 : l.length ≤ 64) (hcap : l.length ≤ c) (w : World) (hb : b < w.heap.size)
    (hc : ∀ k, k < l.length → w.cell? ⟨b, off + k * 2, none⟩ = some (.int .i64 (Geo.X l k).1) ∧ w.cell? ⟨b, off + k * 2 + 1, none⟩ = some (.int .i64 (Geo.X l k).2)) :
    Calls Try.prog 115 #[.slice (some ⟨b, off, none⟩) l.length c] w fun e w' => ∃ v, e = .returned v ∧ w'.ownsRow w.heap.size 76 2 v (Geo.canon l).length (flat (Geo.canon l)) ∧ Below w.heap.size w w' := by
  have HC := Lib.hid hc
  clear hc
  go_enter Try.func115, Try.ntmps115
  go_wp2
  go_loopw [3, 8] (fun at_ i wr => ∃ k : Nat, k ≤ l.length ∧ i = .int .i64 k ∧ at_ = .int .i64 (Geo.lowIdx l k) ∧ Below w.heap.size w wr) (fun _ i _ => l.length - (intOf i).toNat)
  case atStart => exact ⟨0, Nat.zero_le _, rfl, rfl, Below.refl _ _⟩
  case round =>
    obtain ⟨k, hk, rfl, rfl, hB⟩ := hrel
    by_cases hlt : k < l.length
    · obtain ⟨m, hm⟩ : ∃ m, m = Geo.lowIdx l k := ⟨_, rfl⟩
      have hml : m < l.length := by
        rw [hm]
        by_cases e : k = 0
        · subst e; exact h0
        · have := Geo.lowIdx_lt l k (by omega); omega
      have HS : Hid (Geo.lowIdx l (k + 1) = if Geo.low (Geo.X l k) (Geo.X l m) then k else m) := Lib.hid (by rw [hm]; rfl)
      rw [← hm]
      clear hm
      have c1 : wr.cell? ⟨b, off + k * 2, none⟩ = some (.int .i64 (Geo.X l k).1) := (hB.cell (p := ⟨b, off + k * 2, none⟩) hb).trans (HC.out k hlt).1
      have c2 : wr.cell? ⟨b, off + k * 2 + 1, none⟩ = some (.int .i64 (Geo.X l k).2) := (hB.cell (p := ⟨b, off + k * 2 + 1, none⟩) hb).trans (HC.out k hlt).2
      have c3 : wr.cell? ⟨b, off + m * 2, none⟩ = some (.int .i64 (Geo.X l m).1) := (hB.cell (p := ⟨b, off + m * 2, none⟩) hb).trans (HC.out m hml).1
      have c4 : wr.cell? ⟨b, off + m * 2 + 1, none⟩ = some (.int .i64 (Geo.X l m).2) := (hB.cell (p := ⟨b, off + m * 2 + 1, none⟩) hb).trans (HC.out m hml).2
      have hbl : b < wr.heap.size := Nat.lt_of_lt_of_le hb hB.size
      go_wp2
      have hBa := hB.alloc hB.size (.cells #[.int .i64 (Geo.X l k).1, .int .i64 (Geo.X l k).2] 76)
      have bX := Blk.new wr 76 #[.int .i64 (Geo.X l k).1, .int .i64 (Geo.X l k).2]
      have d3 : (wr.alloc (.cells #[.int .i64 (Geo.X l k).1, .int .i64 (Geo.X l k).2] 76)).cell? ⟨b, off + m * 2, none⟩ = some (.int .i64 (Geo.X l m).1) := (hBa.cell (p := ⟨b, off + m * 2, none⟩) hb).trans (HC.out m hml).1
      have d4 : (wr.alloc (.cells #[.int .i64 (Geo.X l k).1, .int .i64 (Geo.X l k).2] 76)).cell? ⟨b, off + m * 2 + 1, none⟩ = some (.int .i64 (Geo.X l m).2) := (hBa.cell (p := ⟨b, off + m * 2 + 1, none⟩) hb).trans (HC.out m hml).2
      generalize wr.alloc (.cells #[.int .i64 (Geo.X l k).1, .int .i64 (Geo.X l k).2] 76) = W1 at *
      have q1 := bX.cell 0
      have q2 := bX.cell 1
      simp only [List.getElem?_toArray, List.getElem?_cons_zero, List.getElem?_cons_succ] at q1 q2
      have z1 := fun s : Ext W1 => s.cell q1
      have z2 := fun s : Ext W1 => s.cell q2
      have z3 := fun s : Ext W1 => s.cell d3
      have z4 := fun s : Ext W1 => s.cell d4
      obtain ⟨r, hr⟩ : ∃ r, fbI ((Geo.X l k).1, (Geo.X l k).2) ((Geo.X l m).1, (Geo.X l m).2) = r := ⟨_, rfl⟩
      refine wp_region_ext (by kernel_rfl) (by kernel_rfl) ?_
      repeat (go_big_quiet_step ((go_at_call 127; refine calls_ext (fb_r _ _ _ _ _ r hr))))
      refine wpQuiet_nil ?_
      rintro _ ⟨s, rfl⟩
      have hBs := hBa.trans (s.h.mono hBa.size)
      generalize s.w = W2 at *
      clear z1 z2 z3 z4 s
      have HR := Lib.hid (show r < 0 ↔ Geo.low (Geo.X l k) (Geo.X l m) by rw [← hr]; exact fbI_low _ _)
      clear hr
      by_cases hneg : r < 0
      · go_wp2
        go_roundw
        case rel => exact ⟨k + 1, by omega, by go_num, by rw [HS.out, if_pos (HR.out.1 hneg)], hBs⟩
        case measure => simp [intOf]; omega
      · go_wp2
        go_roundw
        case rel => exact ⟨k + 1, by omega, by go_num, by rw [HS.out, if_neg (fun h => hneg (HR.out.2 h))], hBs⟩
        case measure => simp [intOf]; omega
    · obtain rfl : k = l.length := by omega
      have hat := Geo.lowIdx_lt l l.length h0
      obtain ⟨at_, hat_⟩ : ∃ m, m = Geo.lowIdx l l.length := ⟨_, rfl⟩
      have HAT := Lib.hid hat_
      rw [← hat_] at hat ⊢
      clear hat_
      go_wp2
      have g1 : at_ ≤ l.length := by omega
      have g2 : at_ ≤ c := by omega
      have g3 : ¬ c = at_ := by omega
      refine wp_region_tail 6 (by kernel_rfl) (by kernel_rfl) fun W hW => ?_
      simp only [List.take_succ_cons, List.take_zero, List.drop_succ_cons, List.drop_zero]
      iterate 6 still_step
      refine wpStill_nil ?_
      have hBW : Below w.heap.size w W := by rw [hW]; exact hB.drew
      have hBX := hBW.alloc hBW.size (.cells #[.slice (some ⟨b, off + at_ * 2, none⟩) (l.length - at_) (c - at_), .slice (some ⟨b, off, none⟩) at_ c] 22)
      have hcX : ∀ k, k < l.length → (W.alloc (.cells #[.slice (some ⟨b, off + at_ * 2, none⟩) (l.length - at_) (c - at_), .slice (some ⟨b, off, none⟩) at_ c] 22)).cell? ⟨b, off + k * 2, none⟩ = some (.int .i64 (Geo.X l k).1) ∧ (W.alloc (.cells #[.slice (some ⟨b, off + at_ * 2, none⟩) (l.length - at_) (c - at_), .slice (some ⟨b, off, none⟩) at_ c] 22)).cell? ⟨b, off + k * 2 + 1, none⟩ = some (.int .i64 (Geo.X l k).2) :=
        fun k hk => ⟨(hBX.cell (p := ⟨b, off + k * 2, none⟩) hb).trans (HC.out k hk).1, (hBX.cell (p := ⟨b, off + k * 2 + 1, none⟩) hb).trans (HC.out k hk).2⟩
      have HCX := Lib.hid hcX
      clear hcX hW
      have hbX : b < (W.alloc (.cells #[.slice (some ⟨b, off + at_ * 2, none⟩) (l.length - at_) (c - at_), .slice (some ⟨b, off, none⟩) at_ c] 22)).heap.size := Nat.lt_of_lt_of_le hb hBX.size
      go_wp2_with (go_at_call 130; refine (concat_r W.heap.size b (off + at_ * 2) (c - at_) b off c (l.length - at_) at_ (l.drop at_) (l.take at_) (by simp) (by simp; omega) (by omega) (by omega) _ (Blk.new W 22 _) (pts_drop hbX HCX.out at_) (pts_take hbX HCX.out at_)).mono ?_; rintro e w' ⟨v, rfl, hown, hb'⟩)
      go_ret
      refine ⟨_, rfl, ?_, hBX.trans (hb'.mono hBX.size)⟩
      have e : l.drop at_ ++ l.take at_ = Geo.canon l := by unfold Geo.canon; rw [← HAT.out]
      rw [e, show l.length - at_ + at_ = (Geo.canon l).length by rw [Geo.canon_length]; omega] at hown
      exact hown.mono hBX.size
end Go.Proofs.Ytlikmlhlfbdchaa
namespace Go.Proofs.Ytlikmlhlfbdchaa
open Go.RowKit Go.Shelf

def eqB (a b : List Geo.XY) : Bool := decide (a = b)
theorem eqB_len {a b : List Geo.XY} (h : ¬ a.length = b.length) : Ending.returned (.bool false) = .returned (.bool (eqB a b)) := by
  unfold eqB; rw [decide_eq_false (fun e => h (by rw [e]))]
theorem eqB_at {a b : List Geo.XY} (k : Nat) (h : ¬ Geo.X a k = Geo.X b k) : Ending.returned (.bool false) = .returned (.bool (eqB a b)) := by
  unfold eqB; rw [decide_eq_false (fun e => h (by rw [e]))]
theorem eqB_all {a b : List Geo.XY} (hl : a.length = b.length) (h : ∀ j, j < a.length → Geo.X a j = Geo.X b j) : Ending.returned (.bool true) = .returned (.bool (eqB a b)) := by
  unfold eqB
  rw [decide_eq_true]
  refine List.ext_getElem hl fun i h1 h2 => ?_
  have := h i h1
  unfold Geo.X at this
  rw [List.getElem?_eq_getElem h1, List.getElem?_eq_getElem h2] at this
  simpa using this

set_option maxRecDepth 100000 in
set_option maxHeartbeats 2000000 in
theorem requal_any (A B : Option Addr) (a b : List Geo.XY) (c c' : Nat) (w : World) (ha : Pts w A a) (hb : Pts w B b) (hl : a.length ≤ 256) :
    Calls Try.prog 21 #[.slice A a.length c, .slice B b.length c'] w fun e w' => e = .returned (.bool (eqB a b)) ∧ Below w.heap.size w w' := by
  have HA := Lib.hid ha
  have HB := Lib.hid hb
  clear ha hb
  by_cases hlen : a.length = b.length
  · have HL := Lib.hid hlen
    go_enter Try.func21, Try.ntmps21
    go_wp2
    go_loopw [13] (fun i wr => ∃ k : Nat, k ≤ a.length ∧ i = .int .i64 k ∧ (∀ j, j < k → Geo.X a j = Geo.X b j) ∧ Below w.heap.size w wr) (fun i _ => a.length - (intOf i).toNat)
    case atStart => exact ⟨0, Nat.zero_le _, rfl, fun j hj => absurd hj (by omega), Below.refl _ _⟩
    case round =>
      obtain ⟨k, hk, rfl, hJ, hB⟩ := hrel
      have HJ := Lib.hid hJ
      clear hJ
      by_cases hlt : k < a.length
      · rcases HA.out with h0 | ⟨b1, o1, rfl, hb1, hc1⟩
        · rw [h0] at hlt; simp at hlt
        rcases HB.out with h0 | ⟨b2, o2, rfl, hb2, hc2⟩
        · rw [h0] at hlen; simp at hlen; rw [hlen] at hlt; simp at hlt
        have hltb : k < b.length := by omega
        have c1 := (hB.cell (p := ⟨b1, o1 + k * 2, none⟩) hb1).trans (hc1 k hlt).1
        have c2 := (hB.cell (p := ⟨b1, o1 + k * 2 + 1, none⟩) hb1).trans (hc1 k hlt).2
        have c3 := (hB.cell (p := ⟨b2, o2 + k * 2, none⟩) hb2).trans (hc2 k hltb).1
        have c4 := (hB.cell (p := ⟨b2, o2 + k * 2 + 1, none⟩) hb2).trans (hc2 k hltb).2
        clear hc1 hc2
        have z1 := fun s : Ext wr => s.cell c1
        have z2 := fun s : Ext wr => s.cell c2
        have z3 := fun s : Ext wr => s.cell c3
        have z4 := fun s : Ext wr => s.cell c4
        have HX : Hid (Geo.X a k = Geo.X b k ↔ (Geo.X a k).1 = (Geo.X b k).1 ∧ (Geo.X a k).2 = (Geo.X b k).2) := Lib.hid Prod.ext_iff
        obtain ⟨x, hx⟩ : ∃ x, Geo.X a k = x := ⟨_, rfl⟩
        obtain ⟨y, hy⟩ : ∃ y, Geo.X b k = y := ⟨_, rfl⟩
        have HXX := Lib.hid hx
        have HYY := Lib.hid hy
        rw [hx] at c1 c2 z1 z2
        rw [hy] at c3 c4 z3 z4
        rw [hx, hy] at HX
        clear hx hy
        go_wp2
        by_cases h1 : x.1 = y.1
        · by_cases h2 : x.2 = y.2
          · have HE := Lib.hid (HX.out.2 ⟨h1, h2⟩)
            refine wp_region_ext (by kernel_rfl) (by kernel_rfl) ?_
            repeat (go_big_quiet_step (fail))
            refine wpQuiet_nil ?_
            rintro _ ⟨s, rfl⟩
            have hBs := hB.trans (s.h.mono hB.size)
            generalize s.w = W2 at *
            clear z1 z2 z3 z4 s c1 c2 c3 c4
            go_wp2
            go_roundw
            case rel => exact ⟨k + 1, by omega, by go_num, fun j hj => by
              by_cases e : j = k
              · subst e; rw [HXX.out, HYY.out]; exact HE.out
              · exact HJ.out j (by omega), hBs⟩
            case measure => simp [intOf]; omega
          · have HE := Lib.hid (eqB_at k (fun h => h2 (HX.out.1 (by rw [← HXX.out, ← HYY.out]; exact h)).2))
            refine wp_region_ext (by kernel_rfl) (by kernel_rfl) ?_
            repeat (go_big_quiet_step (fail))
            refine wpQuiet_nil ?_
            rintro _ ⟨s, rfl⟩
            have hBs := hB.trans (s.h.mono hB.size)
            generalize s.w = W2 at *
            clear z1 z2 z3 z4 s c1 c2 c3 c4
            go_wp2
            go_ret
            exact ⟨HE.out, hBs⟩
        · have HE := Lib.hid (eqB_at k (fun h => h1 (HX.out.1 (by rw [← HXX.out, ← HYY.out]; exact h)).1))
          refine wp_region_ext (by kernel_rfl) (by kernel_rfl) ?_
          repeat (go_big_quiet_step (fail))
          refine wpQuiet_nil ?_
          rintro _ ⟨s, rfl⟩
          have hBs := hB.trans (s.h.mono hB.size)
          generalize s.w = W2 at *
          clear z1 z2 z3 z4 s c1 c2 c3 c4
          go_wp2
          go_ret
          exact ⟨HE.out, hBs⟩
      · obtain rfl : k = a.length := by omega
        have HE := Lib.hid (eqB_all HL.out HJ.out)
        go_wp2
        go_ret
        exact ⟨HE.out, hB⟩
  · have HE := Lib.hid (eqB_len hlen)
    go_enter Try.func21, Try.ntmps21
    go_wp2
    go_ret
    exact ⟨HE.out, Below.refl _ _⟩
/-- the answer of a function that returns a list and an error -/
def ListErr (w : World) (ps : List Geo.XY) (err : Int) (e : Ending) (w' : World) : Prop :=
  ∃ v, e = .returned (.tuple #[v, .int .i64 err]) ∧ w'.ownsRow w.heap.size 76 2 v ps.length (flat ps) ∧ Below w.heap.size w w'

end Go.Proofs.Ytlikmlhlfbdchaa
namespace Go.Proofs.Ytlikmlhlfbdchaa
open Go.RowKit Go.Shelf

/-- the square of the sanity check -/
def sq0 : List Geo.XY := [(-2, -1), (2, -1), (2, 1), (-2, 1)]
theorem sq0_valid : Valid sq0 := by
  refine ⟨by decide, by decide, ?_, ?_⟩
  · intro k hk
    have : k = 0 ∨ k = 1 ∨ k = 2 ∨ k = 3 := by have : sq0.length = 4 := rfl
                                               omega
    rcases this with rfl | rfl | rfl | rfl <;> decide
  · intro i hi j hj h1 h2
    have hl : sq0.length = 4 := rfl
    rw [hl] at hi hj h2
    have a : i = 0 ∨ i = 1 ∨ i = 2 ∨ i = 3 := by omega
    have b : j = 0 ∨ j = 1 ∨ j = 2 ∨ j = 3 := by omega
    rcases a with rfl | rfl | rfl | rfl <;> rcases b with rfl | rfl | rfl | rfl <;> first | (exfalso; omega) | decide
theorem sq0_area : Geo.areaK sq0 sq0.length = 16 := by decide
theorem sq0_far : farK sq0 sq0.length = 5 := by decide
theorem sq0_csq : Geo.csq 20 = 5 := by decide

def SqAt (w : World) (g : Nat) : Prop := Blk w g 76 #[.int .i64 (-2), .int .i64 (-1), .int .i64 2, .int .i64 (-1), .int .i64 2, .int .i64 1, .int .i64 (-2), .int .i64 1]
theorem SqAt.pts {w : World} {g : Nat} (h : SqAt w g) : Pts w (some ⟨g, 0, none⟩) sq0 := by
  refine .inr ⟨g, 0, rfl, Blk.lt h, fun k hk => ?_⟩
  have : k = 0 ∨ k = 1 ∨ k = 2 ∨ k = 3 := by have : sq0.length = 4 := rfl
                                             omega
  rcases this with rfl | rfl | rfl | rfl <;> exact ⟨Blk.cell h _, Blk.cell h _⟩
theorem area_sq (w : World) (g : Nat) (h : SqAt w g) : Calls Try.prog 103 #[.slice (some ⟨g, 0, none⟩) 4 4] w fun e w' => e = .returned (.tuple #[.int .i64 16, .int .i64 0]) ∧ Below w.heap.size w w' :=
  (area_any (some ⟨g, 0, none⟩) sq0 4 w h.pts).mono fun e w' ⟨he, hb⟩ => ⟨by rw [he, okOr_yes (validB_true sq0_valid), sq0_area], hb⟩
end Go.Proofs.Ytlikmlhlfbdchaa
namespace Go.Proofs.Ytlikmlhlfbdchaa
open Go.RowKit Go.Shelf

/-- all sides of l have p to their left, or on them -/
def Hold (l : List Geo.XY) (p : Geo.XY) : Prop := ∀ i, i < l.length → 0 ≤ Geo.Cross (Geo.X l i) (Geo.X l ((i + 1) % l.length)) p
instance (l : List Geo.XY) (p : Geo.XY) : Decidable (Hold l p) := by unfold Hold; infer_instance
def holdB (l : List Geo.XY) (p : Geo.XY) : Bool := decide (Hold l p)
theorem holdB_no {l : List Geo.XY} {p : Geo.XY} (h : ¬ Hold l p) : Ending.returned (.bool false) = .returned (.bool (holdB l p)) := by unfold holdB; rw [decide_eq_false h]
theorem holdB_yes {l : List Geo.XY} {p : Geo.XY} (h : Hold l p) : Ending.returned (.bool true) = .returned (.bool (holdB l p)) := by unfold holdB; rw [decide_eq_true h]

end Go.Proofs.Ytlikmlhlfbdchaa
namespace Go.Proofs.Ytlikmlhlfbdchaa
open Go.RowKit Go.Shelf
attribute [local go_sem] Oper.semAt_some

/-- all places of q are held by l -/
def HoldAll (l q : List Geo.XY) : Prop := ∀ i, i < q.length → holdB l (Geo.X q i) = true
instance (l q : List Geo.XY) : Decidable (HoldAll l q) := by unfold HoldAll; infer_instance
def holdAllB (l q : List Geo.XY) : Bool := decide (HoldAll l q)
theorem holdAllB_no {l q : List Geo.XY} (h : ¬ HoldAll l q) : Ending.returned (.bool false) = .returned (.bool (holdAllB l q)) := by unfold holdAllB; rw [decide_eq_false h]
theorem holdAllB_yes {l q : List Geo.XY} (h : HoldAll l q) : Ending.returned (.bool true) = .returned (.bool (holdAllB l q)) := by unfold holdAllB; rw [decide_eq_true h]

/-- the reach of the first k corners -/
def rchK (l : List Geo.XY) (u v : Int) : Nat → Int
  | 0 => u * (Geo.X l 0).1 + v * (Geo.X l 0).2
  | k + 1 => if rchK l u v k < u * (Geo.X l k).1 + v * (Geo.X l k).2 then u * (Geo.X l k).1 + v * (Geo.X l k).2 else rchK l u v k
theorem val_bd {l : List Geo.XY} (h : AllIn l) {u v : Int} (u1 : -10000 ≤ u) (u2 : u ≤ 10000) (v1 : -10000 ≤ v) (v2 : v ≤ 10000) (k : Nat) :
    (-50000000 ≤ u * (Geo.X l k).1 ∧ u * (Geo.X l k).1 ≤ 50000000) ∧ (-50000000 ≤ v * (Geo.X l k).2 ∧ v * (Geo.X l k).2 ≤ 50000000) := by
  obtain ⟨a1, a2, a3, a4⟩ := in_all h k
  have := mul_bd (a := u) (b := (Geo.X l k).1) (A := 10000) (B := 5000) (by omega) (by omega) (by omega) (by omega)
  have := mul_bd (a := v) (b := (Geo.X l k).2) (A := 10000) (B := 5000) (by omega) (by omega) (by omega) (by omega)
  omega
theorem rchK_bd {l : List Geo.XY} (h : AllIn l) {u v : Int} (u1 : -10000 ≤ u) (u2 : u ≤ 10000) (v1 : -10000 ≤ v) (v2 : v ≤ 10000) (k : Nat) : -100000000 ≤ rchK l u v k ∧ rchK l u v k ≤ 100000000 := by
  induction k with
  | zero => have := val_bd h u1 u2 v1 v2 0; rw [rchK]; omega
  | succ k ih => have := val_bd h u1 u2 v1 v2 k; rw [rchK]; split <;> omega

set_option maxHeartbeats 1000000 in
theorem farthest_any (A : Option Addr) (l : List Geo.XY) (c : Nat) (u v : Int) (w : World) (hr : Pts w A l) (h0 : 0 < l.length) (hl : l.length ≤ 64) (hin : AllIn l) (u1 : -10000 ≤ u) (u2 : u ≤ 10000) (v1 : -10000 ≤ v) (v2 : v ≤ 10000) :
    Calls Try.prog 129 #[.slice A l.length c, .int .i64 u, .int .i64 v] w fun e w' => e = .returned (.int .i64 (rchK l u v l.length)) ∧ Below w.heap.size w w' := by
  have HIN := Lib.hid hin
  clear hin
  rcases hr with hr | ⟨b, off, rfl, hb, hc⟩
  · rw [hr] at h0; simp at h0
  have HC := Lib.hid hc
  have c1 : w.cell? ⟨b, off, none⟩ = some (.int .i64 (Geo.X l 0).1) := by have := (hc 0 h0).1; rwa [Nat.zero_mul, Nat.add_zero] at this
  have c2 : w.cell? ⟨b, off + 1, none⟩ = some (.int .i64 (Geo.X l 0).2) := by have := (hc 0 h0).2; rwa [Nat.zero_mul, Nat.add_zero] at this
  clear hc
  obtain ⟨⟨m1, m2⟩, m3, m4⟩ := val_bd HIN.out u1 u2 v1 v2 0
  have e1 : IntKind.i64.wrap (u * (Geo.X l 0).1) = u * (Geo.X l 0).1 := IntWalk.i64_in _ (by omega)
  have e2 : IntKind.i64.wrap (v * (Geo.X l 0).2) = v * (Geo.X l 0).2 := IntWalk.i64_in _ (by clear e1; omega)
  have e3 : IntKind.i64.wrap (u * (Geo.X l 0).1 + v * (Geo.X l 0).2) = u * (Geo.X l 0).1 + v * (Geo.X l 0).2 := IntWalk.i64_in _ (by clear e1 e2; omega)
  have e4 : (0 : Int) < (l.length : Int) := by clear e1 e2 e3; omega
  have e5 : (1 : Int) ≤ (l.length : Int) := by clear e1 e2 e3; omega
  have e6 : ¬ l = [] := by intro h; rw [h] at h0; simp at h0
  go_enter Try.func129, Try.ntmps129
  go_wp2
  have f1 : ∀ s : Ext w, s.w.cell? ⟨b, off, none⟩ = some (.int .i64 (Geo.X l 0).1) := fun s => s.cell c1
  have f2 : ∀ s : Ext w, s.w.cell? ⟨b, off + 1, none⟩ = some (.int .i64 (Geo.X l 0).2) := fun s => s.cell c2
  refine wp_region_ext (by kernel_rfl) (by kernel_rfl) ?_
  repeat (go_big_quiet_step (fail))
  refine wpQuiet_nil ?_
  rintro _ ⟨s, rfl⟩
  clear f1 f2 e1 e2 e3 c1 c2
  have hBs := s.h
  go_wp2
  go_loopw [7, 25] (fun r i wr => ∃ k : Nat, k ≤ l.length ∧ i = .int .i64 k ∧ r = .int .i64 (rchK l u v k) ∧ Below w.heap.size w wr) (fun _ i _ => l.length - (intOf i).toNat)
  case atStart => exact ⟨0, Nat.zero_le _, rfl, rfl, hBs⟩
  case round =>
    obtain ⟨k, hk, rfl, rfl, hB⟩ := hrel
    by_cases hlt : k < l.length
    · have c1 : wr.cell? ⟨b, off + k * 2, none⟩ = some (.int .i64 (Geo.X l k).1) := (hB.cell (p := ⟨b, off + k * 2, none⟩) hb).trans (HC.out k hlt).1
      have c2 : wr.cell? ⟨b, off + k * 2 + 1, none⟩ = some (.int .i64 (Geo.X l k).2) := (hB.cell (p := ⟨b, off + k * 2 + 1, none⟩) hb).trans (HC.out k hlt).2
      obtain ⟨⟨m1, m2⟩, m3, m4⟩ := val_bd HIN.out u1 u2 v1 v2 k
      obtain ⟨m5, m6⟩ := rchK_bd HIN.out u1 u2 v1 v2 k
      go_wp2
      go_roundw
      case rel => exact ⟨k + 1, by omega, by go_num, rfl, hB.alloc hB.size _⟩
      case measure => simp [intOf]; omega
    · obtain rfl : k = l.length := by omega
      go_wp2
      go_ret
      exact ⟨rfl, hB⟩
end Go.Proofs.Ytlikmlhlfbdchaa
namespace Go.Proofs.Ytlikmlhlfbdchaa
open Go.RowKit Go.Shelf
attribute [local go_sem] Oper.semAt_some

/-- whether the first sides hold p -/
def hdSt (l : List Geo.XY) (p : Geo.XY) (pre : List Nat) : Bool := pre.foldl (fun s k => s && decide (0 ≤ Geo.turn (Geo.X l k) (Geo.X l ((k + 1) % l.length)) p)) true
theorem hdSt_snoc (l : List Geo.XY) (p : Geo.XY) (pre : List Nat) (k : Nat) : hdSt l p (pre ++ [k]) = (hdSt l p pre && decide (0 ≤ Geo.turn (Geo.X l k) (Geo.X l ((k + 1) % l.length)) p)) := by
  unfold hdSt; rw [List.foldl_append]; rfl
theorem hdSt_iff (l : List Geo.XY) (p : Geo.XY) (k : Nat) : hdSt l p (List.range k) = true ↔ ∀ i, i < k → 0 ≤ Geo.Cross (Geo.X l i) (Geo.X l ((i + 1) % l.length)) p := by
  induction k with
  | zero => simp [hdSt]
  | succ k ih =>
    rw [List.range_succ, hdSt_snoc, Bool.and_eq_true, ih, decide_eq_true_eq, Geo.turn_eq]
    constructor
    · rintro ⟨h1, h2⟩ i hi
      by_cases e : i = k
      · subst e; exact h2
      · exact h1 i (by omega)
    · intro h
      exact ⟨fun i hi => h i (by omega), h k (by omega)⟩
theorem hdSt_all (l : List Geo.XY) (p : Geo.XY) : hdSt l p (List.range l.length) = holdB l p := by
  rw [Bool.eq_iff_iff, hdSt_iff]
  unfold holdB
  rw [decide_eq_true_eq]
  rfl
theorem hdSt_stop (l : List Geo.XY) (p : Geo.XY) (k : Nat) (hk : k ≤ l.length) (h : hdSt l p (List.range k) = false) : holdB l p = false := by
  rw [← hdSt_all]
  cases hh : hdSt l p (List.range l.length) with
  | false => rfl
  | true =>
    have h1 := (hdSt_iff l p l.length).1 hh
    have h2 := (hdSt_iff l p k).2 (fun i hi => h1 i (by omega))
    rw [h] at h2
    cases h2

end Go.Proofs.Ytlikmlhlfbdchaa
namespace Go.Proofs.Ytlikmlhlfbdchaa
open Go.RowKit Go.Shelf

def rchD (l : List Geo.XY) (u v : Int) : Nat → Int
  | 0 => (Geo.X l 0).1 * u + (Geo.X l 0).2 * v
  | k + 1 => if rchD l u v k < (Geo.X l k).1 * u + (Geo.X l k).2 * v then (Geo.X l k).1 * u + (Geo.X l k).2 * v else rchD l u v k
theorem rchD_eq (l : List Geo.XY) (u v : Int) (k : Nat) : rchD l u v k = rchK l u v k := by
  induction k with
  | zero => simp only [rchD, rchK, Int.mul_comm]
  | succ k ih => rw [rchD, rchK, ih, Int.mul_comm _ u, Int.mul_comm _ v]

end Go.Proofs.Ytlikmlhlfbdchaa
namespace Go.Proofs.Ytlikmlhlfbdchaa
open Go.RowKit Go.Shelf

def rngB (m : Int) (p : Geo.XY) : Bool := decide (-m ≤ p.1) && (decide (p.1 ≤ m) && (decide (-m ≤ p.2) && decide (p.2 ≤ m)))
theorem rngB_iff (m : Int) (p : Geo.XY) : rngB m p = true ↔ (-m ≤ p.1 ∧ p.1 ≤ m ∧ -m ≤ p.2 ∧ p.2 ≤ m) := by unfold rngB; simp
theorem inr_b (x y m : Int) (hm : 0 ≤ m) (hm' : m ≤ 1000000) (w : World) (r : Bool) (h : rngB m (x, y) = r) :
    Calls Try.prog 109 #[.agg #[.int .i64 x, .int .i64 y], .int .i64 m] w fun e w' => e = .returned (.bool r) ∧ Below w.heap.size w w' := by
  subst h; exact inrange_any x y m hm hm' w

/-- what Reach answers: the number, the error -/
noncomputable def reachV (l : List Geo.XY) (u v : Int) : Int × Int :=
  if validB l = true then (if rngB 10000 (u, v) = true ∧ ¬ (u = 0 ∧ v = 0) then (rchK l u v l.length, 0) else (0, 2)) else (0, 10)
def tup2 (p : Int × Int) : Ending := .returned (.tuple #[.int .i64 p.1, .int .i64 p.2])

theorem reachV_inv {l : List Geo.XY} (h : validB l = false) (u v : Int) : tup2 (reachV l u v) = .returned (.tuple #[.int .i64 0, .int .i64 10]) := by unfold reachV; rw [h]; rfl
theorem reachV_arg {l : List Geo.XY} (h : validB l = true) {u v : Int} (hb : ¬ (rngB 10000 (u, v) = true ∧ ¬ (u = 0 ∧ v = 0))) : tup2 (reachV l u v) = .returned (.tuple #[.int .i64 0, .int .i64 2]) := by unfold reachV; rw [if_pos h, if_neg hb]; rfl
theorem reachV_ok {l : List Geo.XY} (h : validB l = true) {u v : Int} (hb : rngB 10000 (u, v) = true ∧ ¬ (u = 0 ∧ v = 0)) : tup2 (reachV l u v) = .returned (.tuple #[.int .i64 (rchK l u v l.length), .int .i64 0]) := by unfold reachV; rw [if_pos h, if_pos hb]; rfl

end Go.Proofs.Ytlikmlhlfbdchaa
namespace Go.Proofs.Ytlikmlhlfbdchaa
open Go.RowKit Go.Shelf

/-- a bool and an error -/
def tupB (p : Bool × Int) : Ending := .returned (.tuple #[.bool p.1, .int .i64 p.2])
noncomputable def holdsV (l : List Geo.XY) (p : Geo.XY) : Bool × Int :=
  if validB l = true then (if rngB 20000 p = true then (holdB l p, 0) else (false, 2)) else (false, 10)
theorem holdsV_inv {l : List Geo.XY} (h : validB l = false) (p : Geo.XY) : tupB (holdsV l p) = .returned (.tuple #[.bool false, .int .i64 10]) := by unfold holdsV; rw [h]; rfl
theorem holdsV_arg {l : List Geo.XY} (h : validB l = true) {p : Geo.XY} (hb : ¬ rngB 20000 p = true) : tupB (holdsV l p) = .returned (.tuple #[.bool false, .int .i64 2]) := by unfold holdsV; rw [if_pos h, if_neg hb]; rfl
theorem holdsV_ok {l : List Geo.XY} (h : validB l = true) {p : Geo.XY} (hb : rngB 20000 p = true) : tupB (holdsV l p) = .returned (.tuple #[.bool (holdB l p), .int .i64 0]) := by unfold holdsV; rw [if_pos h, if_pos hb]; rfl

noncomputable def withinV (o l : List Geo.XY) : Bool × Int :=
  if validB o = true ∧ validB l = true then (holdAllB l o, 0) else (false, 10)
theorem withinV_no {o l : List Geo.XY} (h : ¬ (validB o = true ∧ validB l = true)) : tupB (withinV o l) = .returned (.tuple #[.bool false, .int .i64 10]) := by unfold withinV; rw [if_neg h]; rfl
theorem withinV_ok {o l : List Geo.XY} (h : validB o = true ∧ validB l = true) : tupB (withinV o l) = .returned (.tuple #[.bool (holdAllB l o), .int .i64 0]) := by unfold withinV; rw [if_pos h]; rfl

end Go.Proofs.Ytlikmlhlfbdchaa
namespace Go.Proofs.Ytlikmlhlfbdchaa
open Go.RowKit Go.Shelf

theorem own_nil (w : World) : w.ownsRow w.heap.size 76 2 (.slice none 0 0) ([] : List Geo.XY).length (flat []) := World.ownsRow_nil _ _ _ _
theorem own_nil' (w : World) (B : Nat) : w.ownsRow B 76 2 (.slice none 0 0) ([] : List Geo.XY).length (flat []) := World.ownsRow_nil _ _ _ _

/-- if l is an outline: its canonical form; otherwise an error -/
noncomputable def canonV (l : List Geo.XY) : List Geo.XY × Int := if validB l = true then (Geo.canon l, 0) else ([], 10)
theorem canonV_ok {l : List Geo.XY} (h : validB l = true) : canonV l = (Geo.canon l, 0) := if_pos h
theorem canonV_no {l : List Geo.XY} (h : validB l = false) : canonV l = ([], 10) := by unfold canonV; rw [h]; rfl
noncomputable def sameV (o p : List Geo.XY) : Bool × Int := if validB o = true ∧ validB p = true then (eqB (Geo.canon o) (Geo.canon p), 0) else (false, 10)
theorem sameV_ok {o p : List Geo.XY} (h : validB o = true ∧ validB p = true) : sameV o p = (eqB (Geo.canon o) (Geo.canon p), 0) := if_pos h
theorem sameV_no {o p : List Geo.XY} (h : ¬ (validB o = true ∧ validB p = true)) : sameV o p = (false, 10) := if_neg h

/-- what an outline's list looks like in memory -/
theorem pts_open {W : World} {A : Option Addr} {l : List Geo.XY} (h : Pts W A l) (h0 : 0 < l.length) : ∃ b off, A = some ⟨b, off, none⟩ ∧ b < W.heap.size ∧ ∀ k, k < l.length → W.cell? ⟨b, off + k * 2, none⟩ = some (.int .i64 (Geo.X l k).1) ∧ W.cell? ⟨b, off + k * 2 + 1, none⟩ = some (.int .i64 (Geo.X l k).2) := by
  rcases h with h | ⟨b, off, rfl, hb, hc⟩
  · subst h; simp at h0
  · exact ⟨b, off, rfl, hb, hc⟩

theorem canon_len64 {l : List Geo.XY} (h : Valid l) : (Geo.canon l).length ≤ 64 := by rw [Geo.canon_length]; exact h.2.1

theorem dcanon_p (A : Option Addr) (l : List Geo.XY) (c : Nat) (h0 : 0 < l.length) (h64 : l.length ≤ 64) (hcap : l.length ≤ c) (w : World) (hP : Pts w A l) :
    Calls Try.prog 115 #[.slice A l.length c] w fun e w' => ∃ v, e = .returned v ∧ w'.ownsRow w.heap.size 76 2 v (Geo.canon l).length (flat (Geo.canon l)) ∧ Below w.heap.size w w' := by
  obtain ⟨b, off, rfl, hb, hc⟩ := pts_open hP h0
  exact canonical_any b off c l h0 h64 hcap w hb hc
theorem rcanon_p (A : Option Addr) (l : List Geo.XY) (c : Nat) (h0 : 0 < l.length) (h64 : l.length ≤ 64) (_hcap : l.length ≤ c) (w : World) (hP : Pts w A l) :
    Calls Try.prog 53 #[.slice A l.length c] w fun e w' => ∃ v, e = .returned v ∧ w'.ownsRow w.heap.size 76 2 v (Geo.canon l).length (flat (Geo.canon l)) ∧ Below w.heap.size w w' := by
  obtain ⟨b, off, rfl, hb, hc⟩ := pts_open hP h0
  exact turnlist_any b off c l h0 h64 w hb hc

set_option maxHeartbeats 1000000 in
theorem dcanonical (A : Option Addr) (l : List Geo.XY) (c : Nat) (w : World) (hP : Pts w A l) (hcap : l.length ≤ c) :
    Calls Try.prog 94 #[.slice A l.length c] w fun e w' => ListErr w (canonV l).1 (canonV l).2 e w' := by
  have HP := Lib.hid hP
  cases hv : validB l with
  | false =>
    have HV := Lib.hid hv
    rw [canonV_no hv]
    clear hv hP
    unfold ListErr
    go_enter Try.func94, Try.ntmps94
    go_wp2_with (go_at_call 48; refine (dvalid_b _ _ _ _ HP.out false HV.out).mono ?_; rintro e w' ⟨rfl, hb'⟩)
    go_ret2
    exact ⟨_, rfl, own_nil' _ _, hb'⟩
  | true =>
    have HV := Lib.hid hv
    have hval := valid_of hv
    have h3 := hval.1
    have h64 := hval.2.1
    rw [canonV_ok hv]
    clear hv hval hP
    unfold ListErr
    go_enter Try.func94, Try.ntmps94
    go_wp2_with fail
    refine (dvalid_b _ _ _ _ HP.out true HV.out).mono ?_
    rintro e w1 ⟨rfl, hb1⟩
    go_wp2_with fail
    refine (dcanon_p A l c (by omega) h64 hcap w1 (HP.out.below hb1)).mono ?_
    rintro e w2 ⟨v, rfl, hown, hb2⟩
    go_wp2
    go_ret2
    exact ⟨_, rfl, hown.mono hb1.size, hb1.trans (hb2.mono hb1.size)⟩

set_option maxHeartbeats 1000000 in
theorem rcanonical (A : Option Addr) (l : List Geo.XY) (c : Nat) (w : World) (hP : Pts w A l) (hcap : l.length ≤ c) :
    Calls Try.prog 46 #[.slice A l.length c] w fun e w' => ListErr w (canonV l).1 (canonV l).2 e w' := by
  have HP := Lib.hid hP
  cases hv : validB l with
  | false =>
    have HV := Lib.hid hv
    rw [canonV_no hv]
    clear hv hP
    unfold ListErr
    go_enter Try.func46, Try.ntmps46
    go_wp2_with (go_at_call 51; refine (rvalid_b _ _ _ _ HP.out false HV.out).mono ?_; rintro e w' ⟨rfl, hb'⟩)
    go_ret2
    exact ⟨_, rfl, own_nil' _ _, hb'⟩
  | true =>
    have HV := Lib.hid hv
    have hval := valid_of hv
    have h3 := hval.1
    have h64 := hval.2.1
    rw [canonV_ok hv]
    clear hv hval hP
    unfold ListErr
    go_enter Try.func46, Try.ntmps46
    go_wp2_with fail
    refine (rvalid_b _ _ _ _ HP.out true HV.out).mono ?_
    rintro e w1 ⟨rfl, hb1⟩
    go_wp2_with fail
    refine (rcanon_p A l c (by omega) h64 hcap w1 (HP.out.below hb1)).mono ?_
    rintro e w2 ⟨v, rfl, hown, hb2⟩
    go_wp2
    go_ret2
    exact ⟨_, rfl, hown.mono hb1.size, hb1.trans (hb2.mono hb1.size)⟩

theorem pts_of_listerr {w w' : World} {v : Value} {ps : List Geo.XY} (h : w'.ownsRow w.heap.size 76 2 v ps.length (flat ps)) : ∃ A c, v = .slice A ps.length c ∧ Pts w' A ps := pts_of_owns h

end Go.Proofs.Ytlikmlhlfbdchaa
