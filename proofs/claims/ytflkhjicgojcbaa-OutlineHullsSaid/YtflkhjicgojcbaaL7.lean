import Derived.Test.YtflkhjicgojcbaaL5
namespace Go.Proofs.Ytflkhjicgojcbaa
open Go.RowKit Go.Shelf

/-- ps with its first i and its last i places exchanged -/
def revK (ps : List Geo.XY) (i : Nat) : List Geo.XY := (List.range ps.length).map fun m => if m < i ∨ ps.length ≤ m + i then Geo.X ps (ps.length - 1 - m) else Geo.X ps m
theorem revK_len (ps : List Geo.XY) (i : Nat) : (revK ps i).length = ps.length := by simp [revK]
theorem revK_get (ps : List Geo.XY) (i m : Nat) (h : m < ps.length) : (revK ps i)[m]? = some (if m < i ∨ ps.length ≤ m + i then Geo.X ps (ps.length - 1 - m) else Geo.X ps m) := by simp [revK, h]
theorem X_get {ps : List Geo.XY} {m : Nat} (h : m < ps.length) : ps[m]? = some (Geo.X ps m) := by
  unfold Geo.X; rw [List.getElem?_eq_getElem h]; rfl
theorem revK_zero (ps : List Geo.XY) : revK ps 0 = ps := by
  refine List.ext_getElem? fun m => ?_
  by_cases h : m < ps.length
  · rw [revK_get ps 0 m h, X_get h, if_neg (by omega)]
  · rw [List.getElem?_eq_none (by rw [revK_len]; omega), List.getElem?_eq_none (by omega)]
theorem revK_done (ps : List Geo.XY) (i : Nat) (h : ps.length ≤ 2 * i + 1) : revK ps i = ps.reverse := by
  refine List.ext_getElem? fun m => ?_
  by_cases hm : m < ps.length
  · rw [revK_get ps i m hm, List.getElem?_reverse hm, X_get (show ps.length - 1 - m < ps.length by omega)]
    by_cases hc : m < i ∨ ps.length ≤ m + i
    · rw [if_pos hc]
    · rw [if_neg hc, show ps.length - 1 - m = m by omega]
  · rw [List.getElem?_eq_none (by rw [revK_len]; omega), List.getElem?_eq_none (by rw [List.length_reverse]; omega)]
theorem revK_at (ps : List Geo.XY) (i : Nat) (hi : 2 * i + 1 < ps.length) : Geo.X (revK ps i) i = Geo.X ps i ∧ Geo.X (revK ps i) (ps.length - 1 - i) = Geo.X ps (ps.length - 1 - i) := by
  have h1 := revK_get ps i i (by omega)
  have h2 := revK_get ps i (ps.length - 1 - i) (by omega)
  rw [if_neg (by omega)] at h1 h2
  unfold Geo.X
  rw [h1, h2]
  exact ⟨rfl, rfl⟩
theorem revK_succ (ps : List Geo.XY) (i : Nat) (hi : 2 * i + 1 < ps.length) : revK ps (i + 1) = ((revK ps i).set i (Geo.X ps (ps.length - 1 - i))).set (ps.length - 1 - i) (Geo.X ps i) := by
  refine List.ext_getElem? fun m => ?_
  by_cases hm : m < ps.length
  · rw [revK_get ps (i + 1) m hm, List.getElem?_set, List.length_set, revK_len, List.getElem?_set, revK_len]
    by_cases e1 : ps.length - 1 - i = m
    · rw [if_pos e1, if_pos (by omega), if_pos (by omega), show ps.length - 1 - m = i by omega]
    · rw [if_neg e1]
      by_cases e2 : i = m
      · rw [if_pos e2, if_pos (by omega), if_pos (by omega), e2]
      · rw [if_neg e2, revK_get ps i m hm]
        by_cases hc : m < i ∨ ps.length ≤ m + i
        · rw [if_pos hc, if_pos (by omega)]
        · rw [if_neg hc, if_neg (by omega)]
  · rw [List.getElem?_eq_none (by rw [revK_len]; omega), List.getElem?_eq_none (by rw [List.length_set, List.length_set, revK_len]; omega)]
theorem flat_set (ps : List Geo.XY) (k : Nat) (p : Geo.XY) : ((flat ps).set (k * 2) (.int .i64 p.1)).set (k * 2 + 1) (.int .i64 p.2) = flat (ps.set k p) := by
  induction ps generalizing k with
  | nil => simp [flat]
  | cons q ps ih =>
    cases k with
    | zero => simp [flat]
    | succ k =>
      have := ih k
      rw [show (k + 1) * 2 = k * 2 + 1 + 1 by omega]
      simp only [flat, List.set_cons_succ, this]

theorem pts_of_owns' {W : World} {base : Nat} {v : Value} {ps : List Geo.XY} (h : W.ownsRow base 38 2 v ps.length (flat ps)) : ∃ A c, v = .slice A ps.length c ∧ Pts W A ps ∧ ps.length ≤ c := by
  obtain ⟨A, c, rfl, hp⟩ := pts_of_owns h
  refine ⟨A, c, rfl, hp, ?_⟩
  rcases h with ⟨_, ⟨h1, h0⟩ | ⟨g, cap, cur, h1, _, _, hle, _⟩⟩
  · omega
  · cases h1; exact hle

set_option maxRecDepth 100000 in
set_option maxHeartbeats 4000000 in
theorem reverse_any (B g c : Nat) (ps : List Geo.XY) (h64 : ps.length ≤ 64) (h0 : 0 < ps.length) (w : World) (hown : w.ownsRow B 38 2 (.slice (some ⟨g, 0, none⟩) ps.length c) ps.length (flat ps)) :
    Calls Try.prog 75 #[.slice (some ⟨g, 0, none⟩) ps.length c] w fun e w' => e = .returned (.tuple #[]) ∧ w'.ownsRow B 38 2 (.slice (some ⟨g, 0, none⟩) ps.length c) ps.length (flat ps.reverse) ∧ Below B w w' := by
  have hgB : B ≤ g := (hown.lt g rfl).1
  go_enter Try.func75, Try.ntmps75
  go_wp2
  go_loopw [2, 3] (fun i j wr => ∃ k : Nat, 2 * k ≤ ps.length ∧ i = .int .i64 k ∧ j = .int .i64 ((ps.length : Int) - 1 - k) ∧ wr.ownsRow B 38 2 (.slice (some ⟨g, 0, none⟩) ps.length c) ps.length (flat (revK ps k)) ∧ Below B w wr) (fun i _ _ => ps.length - (intOf i).toNat)
  case atStart => exact ⟨0, by omega, rfl, by simp, by rw [revK_zero]; exact hown, Below.refl _ _⟩
  case round =>
    clear hown
    obtain ⟨k, hk, rfl, rfl, hown, hB⟩ := hrel
    by_cases hlt : 2 * k + 1 < ps.length
    · obtain ⟨m, hm⟩ : ∃ m, m = ps.length - 1 - k := ⟨_, rfl⟩
      have hmi : (ps.length : Int) - 1 - (k : Int) = (m : Int) := by omega
      have hml : m < ps.length := by omega
      have hkl : k < ps.length := by omega
      have hkm : k < m := by omega
      obtain ⟨x1, x2⟩ := revK_at ps k hlt
      rw [← hm] at x2
      have HN : Hid (revK ps (k + 1) = ((revK ps k).set k (Geo.X ps m)).set m (Geo.X ps k)) := Lib.hid (by rw [revK_succ ps k hlt, ← hm])
      obtain ⟨f1, f2⟩ := flat_get (revK ps k) k (by rw [revK_len]; omega)
      obtain ⟨f3, f4⟩ := flat_get (revK ps k) m (by rw [revK_len]; omega)
      have q1 := hown.cellAt (k * 2) (by omega)
      have q2 := hown.cellAt (k * 2 + 1) (by omega)
      have q3 := hown.cellAt (m * 2) (by omega)
      have q4 := hown.cellAt (m * 2 + 1) (by omega)
      rw [f1, x1] at q1
      rw [f2, x1] at q2
      rw [f3, x2] at q3
      rw [f4, x2] at q4
      have r1 := hown.frozenAt (k * 2)
      have r2 := hown.frozenAt (k * 2 + 1)
      have r3 := hown.frozenAt (m * 2)
      have r4 := hown.frozenAt (m * 2 + 1)
      have HOWN := Lib.hid hown
      have HMM := Lib.hid hm
      rw [hmi]
      clear f1 f2 f3 f4 x1 x2 hown hm hmi
      have hd1 : ¬ k * 2 = m * 2 := by omega
      have hd2 : ¬ k * 2 + 1 = m * 2 := by omega
      have hd3 : ¬ k * 2 = m * 2 + 1 := by omega
      have hd4 : ¬ k * 2 + 1 = m * 2 + 1 := by omega
      go_wp2
      go_region
      have hown2 := ((((HOWN.out.stored (k * 2) (.int .i64 (Geo.X ps m).1)).1.stored (k * 2 + 1) (.int .i64 (Geo.X ps m).2)).1.stored (m * 2) (.int .i64 (Geo.X ps k).1)).1.stored (m * 2 + 1) (.int .i64 (Geo.X ps k).2)).1.drew
      rw [flat_set, flat_set, ← HN.out] at hown2
      have hB2 := ((((hB.setCell (p := ⟨g, k * 2, none⟩) hgB (.int .i64 (Geo.X ps m).1)).setCell (p := ⟨g, k * 2 + 1, none⟩) hgB (.int .i64 (Geo.X ps m).2)).setCell (p := ⟨g, m * 2, none⟩) hgB (.int .i64 (Geo.X ps k).1)).setCell (p := ⟨g, m * 2 + 1, none⟩) hgB (.int .i64 (Geo.X ps k).2)).drew
      clear q1 q2 q3 q4 r1 r2 r3 r4 hB
      generalize ((((wr.setCell ⟨g, k * 2, none⟩ (.int .i64 (Geo.X ps m).1)).setCell ⟨g, k * 2 + 1, none⟩ (.int .i64 (Geo.X ps m).2)).setCell ⟨g, m * 2, none⟩ (.int .i64 (Geo.X ps k).1)).setCell ⟨g, m * 2 + 1, none⟩ (.int .i64 (Geo.X ps k).2)).drew = W2 at *
      go_wp2
      go_roundw
      case rel => exact ⟨k + 1, by omega, by go_num, by have := HMM.out; congr 1; omega, hown2, hB2⟩
      case measure => simp [intOf]; omega
    · have hd : revK ps k = ps.reverse := revK_done ps k (by omega)
      rw [hd] at hown
      have hn : ¬ ((k : Int) < (ps.length : Int) - 1 - (k : Int)) := by omega
      clear hd
      go_wp2
      refine ⟨rfl, .tuple #[], by simp [results, Try.f75], rfl, hown, hB⟩
end Go.Proofs.Ytflkhjicgojcbaa
