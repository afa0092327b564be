import Derived.Test.YthabpgclnbmnpaaGreatDoorM2
import Derived.OwnWalk
import Derived.Laws.OwnMore
namespace Go.Proofs.YthabpgclnbmnpaaGreatDoor
open Go.RowKit Go.Shelf

theorem info38' : (Tryz.prog.info? 42).map (fun i => (i.zero, i.size, i.bytes)) = some (some (.agg #[.int .i64 0, .int .i64 0]), 2, 16) := by kernel_rfl

/-- the cells of a list of places -/
def flat : List Geo.XY → List Value
  | [] => []
  | p :: ps => .int .i64 p.1 :: .int .i64 p.2 :: flat ps
theorem flat_length (ps : List Geo.XY) : (flat ps).length = ps.length * 2 := by
  induction ps with
  | nil => rfl
  | cons p ps ih => simp only [flat, List.length_cons, ih]; omega
theorem flat_append (ps qs : List Geo.XY) : flat (ps ++ qs) = flat ps ++ flat qs := by
  induction ps with
  | nil => rfl
  | cons p ps ih => simp only [flat, List.cons_append, ih]
theorem flat_get (ps : List Geo.XY) (k : Nat) (hk : k < ps.length) : (flat ps)[k * 2]? = some (.int .i64 (Geo.X ps k).1) ∧ (flat ps)[k * 2 + 1]? = some (.int .i64 (Geo.X ps k).2) := by
  induction ps generalizing k with
  | nil => simp at hk
  | cons p ps ih =>
    cases k with
    | zero => simp [flat, Geo.X]
    | succ k =>
      have := ih k (by simpa using hk)
      have e : (k + 1) * 2 = k * 2 + 1 + 1 := by omega
      rw [e]
      simp only [flat, List.getElem?_cons_succ]
      have e2 : Geo.X (p :: ps) (k + 1) = Geo.X ps k := by simp [Geo.X]
      rw [e2]
      exact this
theorem flat_one (p : Geo.XY) : flat [p] = [.int .i64 p.1, .int .i64 p.2] := rfl
theorem oneCell_flat (ps : List Geo.XY) : ∀ u ∈ flat ps, u.oneCell' = true := by
  induction ps with
  | nil => simp [flat]
  | cons p ps ih =>
    intro u hu
    simp only [flat, List.mem_cons] at hu
    rcases hu with rfl | rfl | hu
    · rfl
    · rfl
    · exact ih u hu

/-- a slice that owns a list of places leads to it -/
theorem pts_of_owns {W : World} {base : Nat} {v : Value} {ps : List Geo.XY} (h : W.ownsRow base 42 2 v ps.length (flat ps)) : ∃ A c, v = .slice A ps.length c ∧ Pts W A ps := by
  have hh := h
  rcases h with ⟨_, ⟨rfl, h0⟩ | ⟨g, cap, cur, rfl, hg, hcell, _⟩⟩
  · exact ⟨none, 0, by rw [h0], .inl (List.length_eq_zero_iff.1 h0)⟩
  · refine ⟨some ⟨g, 0, none⟩, cap, rfl, .inr ⟨g, 0, rfl, ?_, fun k hk => ?_⟩⟩
    · rcases Nat.lt_or_ge g W.heap.size with h | h
      · exact h
      · rw [Array.getElem?_eq_none h] at hcell; cases hcell
    · obtain ⟨f1, f2⟩ := flat_get ps k hk
      have c1 := hh.cellAt (k * 2) (by omega)
      have c2 := hh.cellAt (k * 2 + 1) (by omega)
      rw [f1] at c1
      rw [f2] at c2
      simp only [Nat.zero_add]
      exact ⟨c1, c2⟩

theorem pts_lt {W : World} {b off : Nat} {l : List Geo.XY} (h : Pts W (some ⟨b, off, none⟩) l) (h0 : 0 < l.length) : b < W.heap.size := by
  rcases h with h | ⟨b', off', he, hb, _⟩
  · subst h; simp at h0
  · cases he; exact hb

set_option maxHeartbeats 1000000 in
theorem lower_any (ax ay bx bY : Int) (w : World) : Calls Tryz.prog 40 #[.agg #[.int .i64 ax, .int .i64 ay], .agg #[.int .i64 bx, .int .i64 bY]] w fun e w' =>
    e = .returned (.bool (decide (Geo.low (ax, ay) (bx, bY)))) ∧ Below w.heap.size w w' := by
  have H : Hid (decide (Geo.low (ax, ay) (bx, bY)) = (decide (ay < bY) || (decide (ay = bY) && decide (ax < bx)))) := Lib.hid (by rw [Bool.eq_iff_iff, decide_eq_true_eq]; unfold Geo.low; simp)
  go_enter Tryz.func40, Tryz.ntmps40
  go_wp2
  all_goals (go_ret; exact ⟨by rw [H.out]; simp [*]; try omega, ((Below.refl _ _).alloc (Nat.le_refl _) _).alloc (by simp) _⟩)

theorem new_cells (W : World) (x y : Value) : ∀ (j : Nat) (u : Value), [x, y][j]? = some u → (W.alloc (.cells #[x, y] 42)).cell? ((⟨W.heap.size, 0, none⟩ : Addr).add j) = some u := by
  intro j u hj
  have := (Blk.new W 42 #[x, y]).cell j
  rw [show (⟨W.heap.size, 0, none⟩ : Addr).add j = ⟨W.heap.size, j, none⟩ from by cases j <;> simp [Addr.add], this]
  simpa using hj
theorem one_two (a b : Int) : ∀ u ∈ [Value.int .i64 a, Value.int .i64 b], u.oneCell' = true := by
  intro u hu
  simp at hu
  rcases hu with rfl | rfl <;> rfl

/-- the first k of the corners from the least one on -/
def fromLow (l : List Geo.XY) (k : Nat) : List Geo.XY := (List.range k).map fun i => Geo.At l (Geo.lowIdx l l.length + i)
theorem fromLow_len (l : List Geo.XY) (k : Nat) : (fromLow l k).length = k := by simp [fromLow]
theorem fromLow_succ (l : List Geo.XY) (k : Nat) : fromLow l (k + 1) = fromLow l k ++ [Geo.At l (Geo.lowIdx l l.length + k)] := by simp [fromLow, List.range_succ]
theorem fromLow_all (l : List Geo.XY) : fromLow l l.length = Geo.canon l := by
  refine List.ext_getElem? fun i => ?_
  by_cases h : i < l.length
  · have := Geo.canon_get l i h
    unfold Geo.X at this
    have hl : i < (Geo.canon l).length := by rw [Geo.canon_length]; exact h
    rw [List.getElem?_eq_getElem hl] at this
    rw [List.getElem?_eq_getElem hl]
    simp only [Option.getD_some] at this
    rw [this]
    simp [fromLow, h]
  · rw [List.getElem?_eq_none (by rw [fromLow_len]; omega), List.getElem?_eq_none (by rw [Geo.canon_length]; omega)]

set_option maxRecDepth 100000 in
set_option maxHeartbeats 4000000 in
theorem turnlist_any (b off c : Nat) (l : List Geo.XY) (h0 : 0 < l.length) (h64 : l.length ≤ 64) (w : World) (hb : b < w.heap.size)
    (hc : ∀ k, k < l.length → w.cell? ⟨b, off + k * 2, none⟩ = some (.int .i64 (Geo.X l k).1) ∧ w.cell? ⟨b, off + k * 2 + 1, none⟩ = some (.int .i64 (Geo.X l k).2)) :
    Calls Tryz.prog 19 #[.slice (some ⟨b, off, none⟩) l.length c] w fun e w' => ∃ v, e = .returned v ∧ w'.ownsRow w.heap.size 42 2 v (Geo.canon l).length (flat (Geo.canon l)) ∧ Below w.heap.size w w' := by
  have HC := Lib.hid hc
  clear hc
  obtain ⟨i0, hi, hz0, hz1, hz2⟩ := info_parts info38'
  go_enter Tryz.func19, Tryz.ntmps19
  go_wp2
  go_loopw [3, 10] (fun at_ i wr => ∃ k : Nat, k ≤ l.length ∧ i = .int .i64 k ∧ at_ = .int .i64 (Geo.lowIdx l k) ∧ Below w.heap.size w wr) (fun _ i _ => l.length - (intOf i).toNat)
  case atStart => exact ⟨0, Nat.zero_le _, rfl, rfl, Below.refl _ _⟩
  case round =>
    obtain ⟨k, hk, rfl, rfl, hB⟩ := hrel
    by_cases hlt : k < l.length
    · obtain ⟨m, hm⟩ : ∃ m, m = Geo.lowIdx l k := ⟨_, rfl⟩
      have hml : m < l.length := by
        rw [hm]
        by_cases e : k = 0
        · subst e; exact h0
        · have := Geo.lowIdx_lt l k (by omega); omega
      have HS : Hid (Geo.lowIdx l (k + 1) = if Geo.low (Geo.X l k) (Geo.X l m) then k else m) := Lib.hid (by rw [hm]; rfl)
      rw [← hm]
      clear hm
      have c1 : wr.cell? ⟨b, off + k * 2, none⟩ = some (.int .i64 (Geo.X l k).1) := (hB.cell (p := ⟨b, off + k * 2, none⟩) hb).trans (HC.out k hlt).1
      have c2 : wr.cell? ⟨b, off + k * 2 + 1, none⟩ = some (.int .i64 (Geo.X l k).2) := (hB.cell (p := ⟨b, off + k * 2 + 1, none⟩) hb).trans (HC.out k hlt).2
      have c3 : wr.cell? ⟨b, off + m * 2, none⟩ = some (.int .i64 (Geo.X l m).1) := (hB.cell (p := ⟨b, off + m * 2, none⟩) hb).trans (HC.out m hml).1
      have c4 : wr.cell? ⟨b, off + m * 2 + 1, none⟩ = some (.int .i64 (Geo.X l m).2) := (hB.cell (p := ⟨b, off + m * 2 + 1, none⟩) hb).trans (HC.out m hml).2
      have hbl : b < wr.heap.size := Nat.lt_of_lt_of_le hb hB.size
      go_wp2
      have hBa := hB.alloc hB.size (.cells #[.int .i64 (Geo.X l k).1, .int .i64 (Geo.X l k).2] 42)
      have bX := Blk.new wr 42 #[.int .i64 (Geo.X l k).1, .int .i64 (Geo.X l k).2]
      have d3 : (wr.alloc (.cells #[.int .i64 (Geo.X l k).1, .int .i64 (Geo.X l k).2] 42)).cell? ⟨b, off + m * 2, none⟩ = some (.int .i64 (Geo.X l m).1) := (hBa.cell (p := ⟨b, off + m * 2, none⟩) hb).trans (HC.out m hml).1
      have d4 : (wr.alloc (.cells #[.int .i64 (Geo.X l k).1, .int .i64 (Geo.X l k).2] 42)).cell? ⟨b, off + m * 2 + 1, none⟩ = some (.int .i64 (Geo.X l m).2) := (hBa.cell (p := ⟨b, off + m * 2 + 1, none⟩) hb).trans (HC.out m hml).2
      generalize wr.alloc (.cells #[.int .i64 (Geo.X l k).1, .int .i64 (Geo.X l k).2] 42) = W1 at *
      have q1 := bX.cell 0
      have q2 := bX.cell 1
      simp only [List.getElem?_toArray, List.getElem?_cons_zero, List.getElem?_cons_succ] at q1 q2
      have z1 := fun s : Ext W1 => s.cell q1
      have z2 := fun s : Ext W1 => s.cell q2
      have z3 := fun s : Ext W1 => s.cell d3
      have z4 := fun s : Ext W1 => s.cell d4
      refine wp_region_ext (by kernel_rfl) (by kernel_rfl) ?_
      repeat (go_big_quiet_step ((go_at_call 40; refine calls_ext (lower_any _ _ _ _ _))))
      refine wpQuiet_nil ?_
      rintro _ ⟨s, rfl⟩
      have hBs := hBa.trans (s.h.mono hBa.size)
      generalize s.w = W2 at *
      clear z1 z2 z3 z4 s
      by_cases hlow : Geo.low (Geo.X l k) (Geo.X l m)
      · have e1 : decide (Geo.low ((Geo.X l k).1, (Geo.X l k).2) ((Geo.X l m).1, (Geo.X l m).2)) = true := decide_eq_true hlow
        rw [e1]
        go_wp2
        go_roundw
        case rel => exact ⟨k + 1, by omega, by go_num, by rw [HS.out, if_pos hlow], hBs⟩
        case measure => simp [intOf]; omega
      · have e1 : decide (Geo.low ((Geo.X l k).1, (Geo.X l k).2) ((Geo.X l m).1, (Geo.X l m).2)) = false := decide_eq_false hlow
        rw [e1]
        go_wp2
        go_roundw
        case rel => exact ⟨k + 1, by omega, by go_num, by rw [HS.out, if_neg hlow], hBs⟩
        case measure => simp [intOf]; omega
    · obtain rfl : k = l.length := by omega
      have hat := Geo.lowIdx_lt l l.length h0
      obtain ⟨at_, hat_⟩ : ∃ m, m = Geo.lowIdx l l.length := ⟨_, rfl⟩
      have HAT := Lib.hid hat_
      rw [← hat_] at hat ⊢
      clear hat_
      go_wp2
      clear hlt
      go_loopw [6, 25] (fun v i wr => ∃ k : Nat, k ≤ l.length ∧ i = .int .i64 k ∧ wr.ownsRow w.heap.size 42 2 v k (flat (fromLow l k)) ∧ Below w.heap.size w wr) (fun _ i _ => l.length - (intOf i).toNat)
      case atStart => exact ⟨0, Nat.zero_le _, rfl, World.ownsRow_nil _ _ _ _, hB⟩
      case round =>
        clear hB
        obtain ⟨k, hk, rfl, hown, hB⟩ := hrel
        by_cases hlt : k < l.length
        · obtain ⟨m, hm⟩ : ∃ m, m = (at_ + k) % l.length := ⟨_, rfl⟩
          have hml : m < l.length := by rw [hm]; exact Nat.mod_lt _ (by omega)
          have HM : Hid (fromLow l (k + 1) = fromLow l k ++ [Geo.X l m]) := Lib.hid (by
            have hml' : (Geo.lowIdx l l.length + k) % l.length < l.length := Nat.mod_lt _ (by omega)
            rw [fromLow_succ, hm, HAT.out, ← Geo.At_mod, Geo.At_lt l hml'])
          have e3 : ((at_ : Int) + (k : Int)) % (l.length : Int) = (m : Int) := by rw [hm]; simp
          clear hm
          have e4 : ¬ (l.length : Int) = 0 := by omega
          have c3 : wr.cell? ⟨b, off + m * 2, none⟩ = some (.int .i64 (Geo.X l m).1) := (hB.cell (p := ⟨b, off + m * 2, none⟩) hb).trans (HC.out m hml).1
          have c4 : wr.cell? ⟨b, off + m * 2 + 1, none⟩ = some (.int .i64 (Geo.X l m).2) := (hB.cell (p := ⟨b, off + m * 2 + 1, none⟩) hb).trans (HC.out m hml).2
          have hbl : b < wr.heap.size := Nat.lt_of_lt_of_le hb hB.size
          go_wp2_with (at_builtin; refine wpList_append_own _ rfl _ _ 22 rfl w.heap.size 42 i0 _ 2 16 Tryz.underlying22 hi hz0 hz1 hz2 rfl (by decide) _ _ _ rfl (hown.alloc _) ⟨wr.heap.size, 0, none⟩ 1 1 [.int .i64 (Geo.X l m).1, .int .i64 (Geo.X l m).2] rfl rfl ?c1 ?c2 ?c3 ?c4 ?c5 ?_)
          case c1 => exact new_cells _ _ _
          case c2 => exact one_two _ _
          case c3 => unfold maxLen; omega
          case c4 => omega
          case c5 => have := hB.size; simp; omega
          intro v' w1 hown' hgrow _
          have hB' : Below w.heap.size w w1 := (hB.alloc hB.size _).grown hgrow (by have := hB.size; simp; omega) (fun k e => (hown.lt k e).1)
          clear hown hgrow
          go_wp2
          go_roundw
          case rel => exact ⟨k + 1, by omega, by go_num, by rw [HM.out, flat_append]; exact hown', hB'⟩
          case measure => simp [intOf]; omega
        · obtain rfl : k = l.length := by omega
          go_wp2
          go_ret
          exact ⟨_, rfl, by rw [Geo.canon_length, ← fromLow_all]; exact hown, hB⟩
end Go.Proofs.YthabpgclnbmnpaaGreatDoor
