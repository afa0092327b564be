/- Merged: L7 Z1 M4 M5 M6 M7 M8 L17 A5 L6 L8 L9 L11 G2 G3 L15 L16. -/
import Derived.Test.YtlikmlhlfbdchaaBY
import Derived.Test.YtlikmlhlfbdchaaBX
import Derived.OrdersIn
import Derived.RangeFuncCalls
import Derived.Laws.MakeOwn
import Derived.Deep.RegionHeld3
namespace Go.Proofs.Ytlikmlhlfbdchaa
open Go.RowKit Go.Shelf

/-- ps with its first i and its last i places exchanged -/
def revK (ps : List Geo.XY) (i : Nat) : List Geo.XY := (List.range ps.length).map fun m => if m < i ∨ ps.length ≤ m + i then Geo.X ps (ps.length - 1 - m) else Geo.X ps m
theorem revK_len (ps : List Geo.XY) (i : Nat) : (revK ps i).length = ps.length := by simp [revK]
theorem revK_get (ps : List Geo.XY) (i m : Nat) (h : m < ps.length) : (revK ps i)[m]? = some (if m < i ∨ ps.length ≤ m + i then Geo.X ps (ps.length - 1 - m) else Geo.X ps m) := by simp [revK, h]
theorem X_get {ps : List Geo.XY} {m : Nat} (h : m < ps.length) : ps[m]? = some (Geo.X ps m) := by
  unfold Geo.X; rw [List.getElem?_eq_getElem h]; rfl
theorem revK_zero (ps : List Geo.XY) : revK ps 0 = ps := by
  refine List.ext_getElem? fun m => ?_
  by_cases h : m < ps.length
  · rw [revK_get ps 0 m h, X_get h, if_neg (by omega)]
  · rw [List.getElem?_eq_none (by rw [revK_len]; omega), List.getElem?_eq_none (by omega)]
theorem revK_done (ps : List Geo.XY) (i : Nat) (h : ps.length ≤ 2 * i + 1) : revK ps i = ps.reverse := by
  refine List.ext_getElem? fun m => ?_
  by_cases hm : m < ps.length
  · rw [revK_get ps i m hm, List.getElem?_reverse hm, X_get (show ps.length - 1 - m < ps.length by omega)]
    by_cases hc : m < i ∨ ps.length ≤ m + i
    · rw [if_pos hc]
    · rw [if_neg hc, show ps.length - 1 - m = m by omega]
  · rw [List.getElem?_eq_none (by rw [revK_len]; omega), List.getElem?_eq_none (by rw [List.length_reverse]; omega)]
theorem revK_at (ps : List Geo.XY) (i : Nat) (hi : 2 * i + 1 < ps.length) : Geo.X (revK ps i) i = Geo.X ps i ∧ Geo.X (revK ps i) (ps.length - 1 - i) = Geo.X ps (ps.length - 1 - i) := by
  have h1 := revK_get ps i i (by omega)
  have h2 := revK_get ps i (ps.length - 1 - i) (by omega)
  rw [if_neg (by omega)] at h1 h2
  unfold Geo.X
  rw [h1, h2]
  exact ⟨rfl, rfl⟩
theorem revK_succ (ps : List Geo.XY) (i : Nat) (hi : 2 * i + 1 < ps.length) : revK ps (i + 1) = ((revK ps i).set i (Geo.X ps (ps.length - 1 - i))).set (ps.length - 1 - i) (Geo.X ps i) := by
  refine List.ext_getElem? fun m => ?_
  by_cases hm : m < ps.length
  · rw [revK_get ps (i + 1) m hm, List.getElem?_set, List.length_set, revK_len, List.getElem?_set, revK_len]
    by_cases e1 : ps.length - 1 - i = m
    · rw [if_pos e1, if_pos (by omega), if_pos (by omega), show ps.length - 1 - m = i by omega]
    · rw [if_neg e1]
      by_cases e2 : i = m
      · rw [if_pos e2, if_pos (by omega), if_pos (by omega), e2]
      · rw [if_neg e2, revK_get ps i m hm]
        by_cases hc : m < i ∨ ps.length ≤ m + i
        · rw [if_pos hc, if_pos (by omega)]
        · rw [if_neg hc, if_neg (by omega)]
  · rw [List.getElem?_eq_none (by rw [revK_len]; omega), List.getElem?_eq_none (by rw [List.length_set, List.length_set, revK_len]; omega)]
theorem flat_set (ps : List Geo.XY) (k : Nat) (p : Geo.XY) : ((flat ps).set (k * 2) (.int .i64 p.1)).set (k * 2 + 1) (.int .i64 p.2) = flat (ps.set k p) := by
  induction ps generalizing k with
  | nil => simp [flat]
  | cons q ps ih =>
    cases k with
    | zero => simp [flat]
    | succ k =>
      have := ih k
      rw [show (k + 1) * 2 = k * 2 + 1 + 1 by omega]
      simp only [flat, List.set_cons_succ, this]

theorem pts_of_owns' {W : World} {base : Nat} {v : Value} {ps : List Geo.XY} (h : W.ownsRow base 76 2 v ps.length (flat ps)) : ∃ A c, v = .slice A ps.length c ∧ Pts W A ps ∧ ps.length ≤ c := by
  obtain ⟨A, c, rfl, hp⟩ := pts_of_owns h
  refine ⟨A, c, rfl, hp, ?_⟩
  rcases h with ⟨_, ⟨h1, h0⟩ | ⟨g, cap, cur, h1, _, _, hle, _⟩⟩
  · omega
  · cases h1; exact hle

set_option maxRecDepth 100000 in
set_option maxHeartbeats 4000000 in
theorem reverse_any (B g c : Nat) (ps : List Geo.XY) (h64 : ps.length ≤ 64) (h0 : 0 < ps.length) (w : World) (hown : w.ownsRow B 76 2 (.slice (some ⟨g, 0, none⟩) ps.length c) ps.length (flat ps)) :
    Calls Try.prog 124 #[.slice (some ⟨g, 0, none⟩) ps.length c] w fun e w' => e = .returned (.tuple #[]) ∧ w'.ownsRow B 76 2 (.slice (some ⟨g, 0, none⟩) ps.length c) ps.length (flat ps.reverse) ∧ Below B w w' := by
  have hgB : B ≤ g := (hown.lt g rfl).1
  go_enter Try.func124, Try.ntmps124
  go_wp2
  go_loopw [2, 3] (fun i j wr => ∃ k : Nat, 2 * k ≤ ps.length ∧ i = .int .i64 k ∧ j = .int .i64 ((ps.length : Int) - 1 - k) ∧ wr.ownsRow B 76 2 (.slice (some ⟨g, 0, none⟩) ps.length c) ps.length (flat (revK ps k)) ∧ Below B w wr) (fun i _ _ => ps.length - (intOf i).toNat)
  case atStart => exact ⟨0, by omega, rfl, by simp, by rw [revK_zero]; exact hown, Below.refl _ _⟩
  case round =>
    clear hown
    obtain ⟨k, hk, rfl, rfl, hown, hB⟩ := hrel
    by_cases hlt : 2 * k + 1 < ps.length
    · obtain ⟨m, hm⟩ : ∃ m, m = ps.length - 1 - k := ⟨_, rfl⟩
      have hmi : (ps.length : Int) - 1 - (k : Int) = (m : Int) := by omega
      have hml : m < ps.length := by omega
      have hkl : k < ps.length := by omega
      have hkm : k < m := by omega
      obtain ⟨x1, x2⟩ := revK_at ps k hlt
      rw [← hm] at x2
      have HN : Hid (revK ps (k + 1) = ((revK ps k).set k (Geo.X ps m)).set m (Geo.X ps k)) := Lib.hid (by rw [revK_succ ps k hlt, ← hm])
      obtain ⟨f1, f2⟩ := flat_get (revK ps k) k (by rw [revK_len]; omega)
      obtain ⟨f3, f4⟩ := flat_get (revK ps k) m (by rw [revK_len]; omega)
      have q1 := hown.cellAt (k * 2) (by omega)
      have q2 := hown.cellAt (k * 2 + 1) (by omega)
      have q3 := hown.cellAt (m * 2) (by omega)
      have q4 := hown.cellAt (m * 2 + 1) (by omega)
      rw [f1, x1] at q1
      rw [f2, x1] at q2
      rw [f3, x2] at q3
      rw [f4, x2] at q4
      have r1 := hown.frozenAt (k * 2)
      have r2 := hown.frozenAt (k * 2 + 1)
      have r3 := hown.frozenAt (m * 2)
      have r4 := hown.frozenAt (m * 2 + 1)
      have HOWN := Lib.hid hown
      have HMM := Lib.hid hm
      rw [hmi]
      clear f1 f2 f3 f4 x1 x2 hown hm hmi
      have hd1 : ¬ k * 2 = m * 2 := by omega
      have hd2 : ¬ k * 2 + 1 = m * 2 := by omega
      have hd3 : ¬ k * 2 = m * 2 + 1 := by omega
      have hd4 : ¬ k * 2 + 1 = m * 2 + 1 := by omega
      go_wp2
      go_region
      have hown2 := ((((HOWN.out.stored (k * 2) (.int .i64 (Geo.X ps m).1)).1.stored (k * 2 + 1) (.int .i64 (Geo.X ps m).2)).1.stored (m * 2) (.int .i64 (Geo.X ps k).1)).1.stored (m * 2 + 1) (.int .i64 (Geo.X ps k).2)).1.drew
      rw [flat_set, flat_set, ← HN.out] at hown2
      have hB2 := ((((hB.setCell (p := ⟨g, k * 2, none⟩) hgB (.int .i64 (Geo.X ps m).1)).setCell (p := ⟨g, k * 2 + 1, none⟩) hgB (.int .i64 (Geo.X ps m).2)).setCell (p := ⟨g, m * 2, none⟩) hgB (.int .i64 (Geo.X ps k).1)).setCell (p := ⟨g, m * 2 + 1, none⟩) hgB (.int .i64 (Geo.X ps k).2)).drew
      clear q1 q2 q3 q4 r1 r2 r3 r4 hB
      generalize ((((wr.setCell ⟨g, k * 2, none⟩ (.int .i64 (Geo.X ps m).1)).setCell ⟨g, k * 2 + 1, none⟩ (.int .i64 (Geo.X ps m).2)).setCell ⟨g, m * 2, none⟩ (.int .i64 (Geo.X ps k).1)).setCell ⟨g, m * 2 + 1, none⟩ (.int .i64 (Geo.X ps k).2)).drew = W2 at *
      go_wp2
      go_roundw
      case rel => exact ⟨k + 1, by omega, by go_num, by have := HMM.out; congr 1; omega, hown2, hB2⟩
      case measure => simp [intOf]; omega
    · have hd : revK ps k = ps.reverse := revK_done ps k (by omega)
      rw [hd] at hown
      have hn : ¬ ((k : Int) < (ps.length : Int) - 1 - (k : Int)) := by omega
      clear hd
      go_wp2
      refine ⟨rfl, .tuple #[], by simp [results, Try.f124], rfl, hown, hB⟩
end Go.Proofs.Ytlikmlhlfbdchaa
namespace Go.Proofs.Ytlikmlhlfbdchaa
open Go.RowKit
end Go.Proofs.Ytlikmlhlfbdchaa
namespace Go.Proofs.Ytlikmlhlfbdchaa
open Go.RowKit Go.Shelf

/-- the bit that is tried when j bits are left -/
def bitOf (j : Nat) : Nat := if j = 0 then 0 else 2 ^ (j - 1)
theorem bitOf_half (i : Nat) : (bitOf (i + 1) : Nat) / 2 = bitOf i := by
  unfold bitOf
  rw [if_neg (by omega)]
  cases i with
  | zero => rfl
  | succ i => rw [if_neg (by omega)]; simp only [Nat.add_sub_cancel]; rw [Nat.pow_succ]; omega
theorem rootK_step (n i r : Nat) : Geo.rootK n (i + 1) r = Geo.rootK n i (if (r + bitOf (i + 1)) * (r + bitOf (i + 1)) ≤ n then r + bitOf (i + 1) else r) := rfl
theorem pow_bit (i : Nat) : 2 ^ (i + 1) = 2 ^ i + bitOf (i + 1) := by
  have : bitOf (i + 1) = 2 ^ i := rfl
  rw [this, Nat.pow_succ]; omega
theorem bitOf_pos (i : Nat) : 0 < bitOf (i + 1) := by
  have : bitOf (i + 1) = 2 ^ i := rfl
  rw [this]; exact Nat.two_pow_pos i

theorem val_max (a b : Nat) : Value.int .i64 (if a < b then (b : Int) else (a : Int)) = .int .i64 ((max a b : Nat) : Int) := by
  congr 1; split <;> omega

/-- the reference's diameter of the first k corners -/
def dmK (l : List Geo.XY) : Nat → Nat
  | 0 => 0
  | k + 1 => max (dmK l k) (Geo.csq (4 * ((Geo.X l k).1 * (Geo.X l k).1 + (Geo.X l k).2 * (Geo.X l k).2).toNat))
theorem dmK_far (l : List Geo.XY) (k : Nat) : dmK l k = Geo.csq (4 * farK l k) := by
  induction k with
  | zero => rw [dmK, farK, Nat.mul_zero, Geo.csq_zero]
  | succ k ih =>
    rw [dmK, farK, ih]
    generalize ((Geo.X l k).1 * (Geo.X l k).1 + (Geo.X l k).2 * (Geo.X l k).2).toNat = s
    rcases Nat.le_total (farK l k) s with h | h
    · have := Geo.csq_mono (show 4 * farK l k ≤ 4 * s by omega)
      rw [Nat.max_eq_right h, Nat.max_eq_right this]
    · have := Geo.csq_mono (show 4 * s ≤ 4 * farK l k by omega)
      rw [Nat.max_eq_left h, Nat.max_eq_left this]

/-- the square of the length of side k -/
def sdSq (l : List Geo.XY) (k : Nat) : Nat := (((Geo.X l k).1 - (Geo.X l ((k + 1) % l.length)).1) * ((Geo.X l k).1 - (Geo.X l ((k + 1) % l.length)).1) + ((Geo.X l k).2 - (Geo.X l ((k + 1) % l.length)).2) * ((Geo.X l k).2 - (Geo.X l ((k + 1) % l.length)).2)).toNat
theorem sq_bd2 {x : Int} (h1 : -10000 ≤ x) (h2 : x ≤ 10000) : 0 ≤ x * x ∧ x * x ≤ 100000000 := by
  have := mul_bd (a := x) (b := x) (A := 10000) (B := 10000) (by omega) (by omega) (by omega) (by omega)
  have h3 : 0 ≤ x * x := by
    rcases Int.le_total 0 x with h | h
    · exact Int.mul_nonneg h h
    · exact Int.mul_nonneg_of_nonpos_of_nonpos h h
  omega
theorem sdSq_val {l : List Geo.XY} (h : AllIn l) (k : Nat) : ((Geo.X l k).1 - (Geo.X l ((k + 1) % l.length)).1) * ((Geo.X l k).1 - (Geo.X l ((k + 1) % l.length)).1) + ((Geo.X l k).2 - (Geo.X l ((k + 1) % l.length)).2) * ((Geo.X l k).2 - (Geo.X l ((k + 1) % l.length)).2) = (sdSq l k : Int) ∧ sdSq l k ≤ 200000000 := by
  obtain ⟨a1, a2, a3, a4⟩ := in_all h k
  obtain ⟨a5, a6, a7, a8⟩ := in_all h ((k + 1) % l.length)
  have s1 := sq_bd2 (x := (Geo.X l k).1 - (Geo.X l ((k + 1) % l.length)).1) (by omega) (by omega)
  have s2 := sq_bd2 (x := (Geo.X l k).2 - (Geo.X l ((k + 1) % l.length)).2) (by omega) (by omega)
  unfold sdSq
  omega
theorem root_bd (n : Nat) (h : n ≤ 200000000) : Geo.fsq n ≤ 20000 ∧ Geo.csq n ≤ 20000 := ⟨Geo.fsq_le n 20000 (by omega), Geo.csq_le n 20000 (by omega)⟩
/-- the two bounds of the length of the first k sides -/
def lowK (l : List Geo.XY) : Nat → Nat
  | 0 => 0
  | k + 1 => lowK l k + Geo.fsq (sdSq l k)
def highK (l : List Geo.XY) : Nat → Nat
  | 0 => 0
  | k + 1 => highK l k + Geo.csq (sdSq l k)
theorem lhK_bd {l : List Geo.XY} (h : AllIn l) (k : Nat) : lowK l k ≤ 20000 * k ∧ highK l k ≤ 20000 * k := by
  induction k with
  | zero => simp [lowK, highK]
  | succ k ih =>
    have := root_bd _ (sdSq_val h k).2
    rw [lowK, highK]
    omega
/-- three numbers: two values and an error -/
noncomputable def okOr3 (l : List Geo.XY) (a b : Value) : Ending := if validB l = true then .returned (.tuple #[a, b, .int .i64 0]) else .returned (.tuple #[.int .i64 0, .int .i64 0, .int .i64 10])
theorem okOr3_yes {l : List Geo.XY} (h : validB l = true) (a b : Value) : okOr3 l a b = .returned (.tuple #[a, b, .int .i64 0]) := if_pos h
theorem okOr3_no {l : List Geo.XY} (h : validB l = false) (a b : Value) : okOr3 l a b = .returned (.tuple #[.int .i64 0, .int .i64 0, .int .i64 10]) := by unfold okOr3; rw [h]; rfl

end Go.Proofs.Ytlikmlhlfbdchaa
namespace Go.Proofs.Ytlikmlhlfbdchaa
open Go.RowKit Go.Shelf
attribute [local go_sem] Oper.semAt_some

theorem sdSq_val' {l : List Geo.XY} (h : AllIn l) (k : Nat) : ((Geo.X l ((k + 1) % l.length)).1 - (Geo.X l k).1) * ((Geo.X l ((k + 1) % l.length)).1 - (Geo.X l k).1) + ((Geo.X l ((k + 1) % l.length)).2 - (Geo.X l k).2) * ((Geo.X l ((k + 1) % l.length)).2 - (Geo.X l k).2) = (sdSq l k : Int) := by
  rw [← (sdSq_val h k).1]
  generalize Geo.X l k = a
  generalize Geo.X l ((k + 1) % l.length) = b
  have e1 : b.1 - a.1 = -(a.1 - b.1) := by omega
  have e2 : b.2 - a.2 = -(a.2 - b.2) := by omega
  rw [e1, e2, Int.neg_mul_neg, Int.neg_mul_neg]
def loSt (l : List Geo.XY) (pre : List Nat) : Nat := pre.foldl (fun s k => s + Geo.fsq (sdSq l k)) 0
def hiSt (l : List Geo.XY) (pre : List Nat) : Nat := pre.foldl (fun s k => s + Geo.csq (sdSq l k)) 0
theorem loSt_snoc (l : List Geo.XY) (pre : List Nat) (k : Nat) : loSt l (pre ++ [k]) = loSt l pre + Geo.fsq (sdSq l k) := by unfold loSt; rw [List.foldl_append]; rfl
theorem hiSt_snoc (l : List Geo.XY) (pre : List Nat) (k : Nat) : hiSt l (pre ++ [k]) = hiSt l pre + Geo.csq (sdSq l k) := by unfold hiSt; rw [List.foldl_append]; rfl
theorem loSt_range (l : List Geo.XY) (k : Nat) : loSt l (List.range k) = lowK l k ∧ hiSt l (List.range k) = highK l k := by
  induction k with
  | zero => exact ⟨rfl, rfl⟩
  | succ k ih => rw [List.range_succ, loSt_snoc, hiSt_snoc, lowK, highK, ih.1, ih.2]; exact ⟨rfl, rfl⟩
def LhOk (l : List Geo.XY) (pre : List Nat) : Prop := loSt l pre ≤ 20000 * pre.length ∧ hiSt l pre ≤ 20000 * pre.length
theorem LhOk.snoc {l : List Geo.XY} (h : AllIn l) {pre : List Nat} (hp : LhOk l pre) (k : Nat) : LhOk l (pre ++ [k]) := by
  have := root_bd _ (sdSq_val h k).2
  unfold LhOk at *
  rw [loSt_snoc, hiSt_snoc, List.length_append, List.length_singleton]
  omega

end Go.Proofs.Ytlikmlhlfbdchaa
namespace Go.Proofs.Ytlikmlhlfbdchaa
open Go.RowKit Go.Shelf

def mnP (a b : Geo.XY) : Geo.XY := (if b.1 < a.1 then b.1 else a.1, if b.2 < a.2 then b.2 else a.2)
def mxP (a b : Geo.XY) : Geo.XY := (if a.1 < b.1 then b.1 else a.1, if a.2 < b.2 then b.2 else a.2)
def lowP (l : List Geo.XY) : Nat → Geo.XY
  | 0 => Geo.X l 0
  | k + 1 => mnP (lowP l k) (Geo.X l k)
def highP (l : List Geo.XY) : Nat → Geo.XY
  | 0 => Geo.X l 0
  | k + 1 => mxP (highP l k) (Geo.X l k)

end Go.Proofs.Ytlikmlhlfbdchaa
namespace Go.Proofs.Ytlikmlhlfbdchaa
open Go.RowKit Go.Shelf

set_option maxRecDepth 100000 in
set_option maxHeartbeats 2000000 in
theorem ends_any (b off cap : Nat) (l : List Geo.XY) (h0 : 0 < l.length) (h64 : l.length ≤ 64) (w : World) (hb : b < w.heap.size)
    (hc : ∀ k, k < l.length → w.cell? ⟨b, off + k * 2, none⟩ = some (.int .i64 (Geo.X l k).1) ∧ w.cell? ⟨b, off + k * 2 + 1, none⟩ = some (.int .i64 (Geo.X l k).2)) :
    Calls Try.prog 63 #[.slice (some ⟨b, off, none⟩) l.length cap] w fun e w' =>
      e = .returned (.tuple #[.agg #[.int .i64 (lowP l l.length).1, .int .i64 (lowP l l.length).2], .agg #[.int .i64 (highP l l.length).1, .int .i64 (highP l l.length).2]]) ∧ Below w.heap.size w w' := by
  have HC := Lib.hid hc
  have c1 := (hc 0 h0).1
  have c2 := (hc 0 h0).2
  simp only [Nat.zero_mul, Nat.add_zero] at c1 c2
  clear hc
  go_enter Try.func63, Try.ntmps63
  go_wp2
  go_region
  have bL := ((Blk.new w 76 (xyA (Geo.X l 0))).alloc (.cells (xyA (Geo.X l 0)) 76)).drew
  have bH := (Blk.new (w.alloc (.cells (xyA (Geo.X l 0)) 76)) 76 (xyA (Geo.X l 0))).drew
  rw [World.size_alloc] at bH
  have hB0 : Below w.heap.size w ((w.alloc (.cells (xyA (Geo.X l 0)) 76)).alloc (.cells (xyA (Geo.X l 0)) 76)).drew := (((Below.refl _ w).alloc (Nat.le_refl _) _).alloc (by simp) _).drew
  unfold xyA at bL bH hB0
  generalize ((w.alloc (.cells #[.int .i64 (Geo.X l 0).1, .int .i64 (Geo.X l 0).2] 76)).alloc (.cells #[.int .i64 (Geo.X l 0).1, .int .i64 (Geo.X l 0).2] 76)).drew = W0 at *
  clear c1 c2
  go_wp2
  go_loopw [14] (fun i wr => ∃ k : Nat, k ≤ l.length ∧ i = .int .i64 k ∧ (Blk wr w.heap.size 76 #[.int .i64 (lowP l k).1, .int .i64 (lowP l k).2] ∧ Blk wr (w.heap.size + 1) 76 #[.int .i64 (highP l k).1, .int .i64 (highP l k).2]) ∧ Below w.heap.size w wr) (fun i _ => l.length - (intOf i).toNat)
  case atStart => exact ⟨0, Nat.zero_le _, rfl, ⟨bL, bH⟩, hB0⟩
  case round =>
    clear bL bH hB0
    obtain ⟨k, hk, rfl, ⟨bL, bH⟩, hB⟩ := hrel
    by_cases hlt : k < l.length
    · have c1 : wr.cell? ⟨b, off + k * 2, none⟩ = some (.int .i64 (Geo.X l k).1) := (hB.cell (p := ⟨b, off + k * 2, none⟩) hb).trans (HC.out k hlt).1
      have c2 : wr.cell? ⟨b, off + k * 2 + 1, none⟩ = some (.int .i64 (Geo.X l k).2) := (hB.cell (p := ⟨b, off + k * 2 + 1, none⟩) hb).trans (HC.out k hlt).2
      have q1 := bL.cell 0
      have q2 := bL.cell 1
      have q3 := bL.frozen 0
      have q4 := bL.frozen 1
      have r1 := bH.cell 0
      have r2 := bH.cell 1
      have r3 := bH.frozen 0
      have r4 := bH.frozen 1
      have hl1 := bL.lt
      have hl2 := bH.lt
      simp only [List.getElem?_toArray, List.getElem?_cons_zero, List.getElem?_cons_succ] at q1 q2 r1 r2
      have hbl : b < wr.heap.size := Nat.lt_of_lt_of_le hb hB.size
      go_wp2
      go_roundw
      case rel =>
        refine ⟨k + 1, by omega, by go_num, ⟨?_, ?_⟩, ?_⟩
        · exact ((((bL.set_ 0 _).set_ 1 _).far (p := ⟨w.heap.size + 1, 0, none⟩) (by simp) _).far (p := ⟨w.heap.size + 1, 1, none⟩) (by simp) _).alloc _
        · exact ((((bH.far (p := ⟨w.heap.size, 0, none⟩) (by simp) _).far (p := ⟨w.heap.size, 1, none⟩) (by simp) _).set_ 0 _).set_ 1 _).alloc _
        · exact ((((hB.setCell (p := ⟨w.heap.size, 0, none⟩) (by simp) _).setCell (p := ⟨w.heap.size, 1, none⟩) (by simp) _).setCell (p := ⟨w.heap.size + 1, 0, none⟩) (by simp) _).setCell (p := ⟨w.heap.size + 1, 1, none⟩) (by simp) _).alloc (by simp; exact hB.size) _
      case measure => simp [intOf]; omega
    · obtain rfl : k = l.length := by omega
      have q1 := bL.cell 0
      have q2 := bL.cell 1
      have q3 := bL.frozen 0
      have q4 := bL.frozen 1
      have r1 := bH.cell 0
      have r2 := bH.cell 1
      have r3 := bH.frozen 0
      have r4 := bH.frozen 1
      have hl1 := bL.lt
      have hl2 := bH.lt
      simp only [List.getElem?_toArray, List.getElem?_cons_zero, List.getElem?_cons_succ] at q1 q2 r1 r2
      go_wp2
      go_region
      go_wp2
      refine ⟨rfl, .tuple #[.agg #[.int .i64 (lowP l l.length).1, .int .i64 (lowP l l.length).2], .agg #[.int .i64 (highP l l.length).1, .int .i64 (highP l l.length).2]], ?_, ?_⟩
      · simp [results, Try.f63, go_sem, q1, q2, r1, r2]
      · exact ⟨rfl, ((((hB.setCell (p := ⟨w.heap.size, 0, none⟩) (by simp) _).setCell (p := ⟨w.heap.size, 1, none⟩) (by simp) _).setCell (p := ⟨w.heap.size + 1, 0, none⟩) (by simp) _).setCell (p := ⟨w.heap.size + 1, 1, none⟩) (by simp) _).drew⟩

theorem lowP_bd {l : List Geo.XY} (h : AllIn l) (k : Nat) : Geo.In (lowP l k) := by
  induction k with
  | zero => exact in_all h 0
  | succ k ih =>
    have := in_all h k
    unfold Geo.In at *
    rw [lowP]; unfold mnP
    dsimp only
    split <;> split <;> omega
theorem highP_bd {l : List Geo.XY} (h : AllIn l) (k : Nat) : Geo.In (highP l k) := by
  induction k with
  | zero => exact in_all h 0
  | succ k ih =>
    have := in_all h k
    unfold Geo.In at *
    rw [highP]; unfold mxP
    dsimp only
    split <;> split <;> omega

def boxA (l : List Geo.XY) : Int := (highP l l.length).1 - (lowP l l.length).1
def boxB (l : List Geo.XY) : Int := (highP l l.length).2 - (lowP l l.length).2

noncomputable def blankV (l : List Geo.XY) (br pu : Int) : Int × Int :=
  if validB l = true then (if (0 ≤ br ∧ br ≤ 20000) ∧ (0 ≤ pu ∧ pu ≤ 20000) then ((Geo.csq (4 * farK l l.length) : Int) + (if boxA l + br - pu < -(boxA l + br - pu) then -(boxA l + br - pu) else boxA l + br - pu) + 200, 0) else (0, 2)) else (0, 10)
theorem blankV_no {l : List Geo.XY} (h : validB l = false) (br pu : Int) : blankV l br pu = (0, 10) := by unfold blankV; rw [h]; rfl
theorem blankV_arg {l : List Geo.XY} (h : validB l = true) {br pu : Int} (hn : ¬ ((0 ≤ br ∧ br ≤ 20000) ∧ (0 ≤ pu ∧ pu ≤ 20000))) : blankV l br pu = (0, 2) := by unfold blankV; rw [if_pos h, if_neg hn]
theorem blankV_ok {l : List Geo.XY} (h : validB l = true) {br pu : Int} (hn : (0 ≤ br ∧ br ≤ 20000) ∧ (0 ≤ pu ∧ pu ≤ 20000)) : blankV l br pu = ((Geo.csq (4 * farK l l.length) : Int) + (if boxA l + br - pu < -(boxA l + br - pu) then -(boxA l + br - pu) else boxA l + br - pu) + 200, 0) := by unfold blankV; rw [if_pos h, if_pos hn]
end Go.Proofs.Ytlikmlhlfbdchaa
namespace Go.Proofs.Ytlikmlhlfbdchaa
open Go.RowKit Go.Shelf

theorem boxA_bd {l : List Geo.XY} (h : AllIn l) : -10000 ≤ boxA l ∧ boxA l ≤ 10000 := by
  obtain ⟨a1, a2, a3, a4⟩ := lowP_bd h l.length
  obtain ⟨a5, a6, a7, a8⟩ := highP_bd h l.length
  unfold boxA
  omega

theorem dia_bd {l : List Geo.XY} (h : AllIn l) : (0 : Int) ≤ (Geo.csq (4 * farK l l.length) : Int) ∧ (Geo.csq (4 * farK l l.length) : Int) ≤ 100000000 := by
  refine ⟨by omega, ?_⟩
  have := farK_le l h l.length
  have := Geo.csq_le (4 * farK l l.length) 100000000 (by omega)
  omega

end Go.Proofs.Ytlikmlhlfbdchaa
namespace Go.Proofs.Ytlikmlhlfbdchaa
open Go.RowKit Go.Shelf

theorem fanK_bd {l : List Geo.XY} (h : AllIn l) (k : Nat) : -(200000000 * (k : Int)) ≤ Geo.fanK l k ∧ Geo.fanK l k ≤ 200000000 * (k : Int) := by
  induction k with
  | zero => simp [Geo.fanK]
  | succ k ih =>
    obtain ⟨a1, a2, a3, a4⟩ := in_all h 0
    obtain ⟨b1, b2, b3, b4⟩ := in_all h (k + 1)
    obtain ⟨c1, c2, c3, c4⟩ := in_all h (k + 2)
    rw [Geo.fanK]
    have m1 := mul_bd (a := (Geo.X l (k + 1)).1 - (Geo.X l 0).1) (b := (Geo.X l (k + 2)).2 - (Geo.X l 0).2) (A := 10000) (B := 10000) (by omega) (by omega) (by omega) (by omega)
    have m2 := mul_bd (a := (Geo.X l (k + 1)).2 - (Geo.X l 0).2) (b := (Geo.X l (k + 2)).1 - (Geo.X l 0).1) (A := 10000) (B := 10000) (by omega) (by omega) (by omega) (by omega)
    unfold Geo.Cross
    omega

set_option maxRecDepth 100000 in
set_option maxHeartbeats 4000000 in
theorem twice_any (b off c : Nat) (l : List Geo.XY) (h2 : 2 ≤ l.length) (h64 : l.length ≤ 64) (hin : AllIn l) (w : World) (hb : b < w.heap.size)
    (hc : ∀ k, k < l.length → w.cell? ⟨b, off + k * 2, none⟩ = some (.int .i64 (Geo.X l k).1) ∧ w.cell? ⟨b, off + k * 2 + 1, none⟩ = some (.int .i64 (Geo.X l k).2)) :
    Calls Try.prog 70 #[.slice (some ⟨b, off, none⟩) l.length c] w fun e w' => e = .returned (.int .i64 (Geo.areaK l l.length)) ∧ Below w.heap.size w w' := by
  have HC := Lib.hid hc
  have HIN := Lib.hid hin
  have HA := Lib.hid (Geo.area_fan l h2)
  rw [HA.out]
  obtain ⟨x1, x2, x3, x4⟩ := in_all hin 0
  clear hc hin
  go_enter Try.func70, Try.ntmps70
  go_wp2
  go_loopw [3, 4] (fun s i wr => ∃ k : Nat, k + 2 ≤ l.length ∧ i = .int .i64 (k + 2 : Nat) ∧ s = .int .i64 (Geo.fanK l k) ∧ Below w.heap.size w wr) (fun _ i _ => l.length - (intOf i).toNat)
  case atStart => exact ⟨0, by omega, rfl, rfl, Below.refl _ _⟩
  case round =>
    obtain ⟨k, hk, rfl, rfl, hB⟩ := hrel
    obtain ⟨f1, f2⟩ := fanK_bd HIN.out k
    by_cases hlt : k + 2 < l.length
    · have c1 : wr.cell? ⟨b, off, none⟩ = some (.int .i64 (Geo.X l 0).1) := (hB.cell (p := ⟨b, off, none⟩) hb).trans (by have := (HC.out 0 (by omega)).1; rwa [Nat.zero_mul, Nat.add_zero] at this)
      have c2 : wr.cell? ⟨b, off + 1, none⟩ = some (.int .i64 (Geo.X l 0).2) := (hB.cell (p := ⟨b, off + 1, none⟩) hb).trans (by have := (HC.out 0 (by omega)).2; rwa [Nat.zero_mul, Nat.add_zero] at this)
      have c3 : wr.cell? ⟨b, off + (k + 1) * 2, none⟩ = some (.int .i64 (Geo.X l (k + 1)).1) := (hB.cell (p := ⟨b, off + (k + 1) * 2, none⟩) hb).trans (HC.out (k + 1) (by omega)).1
      have c4 : wr.cell? ⟨b, off + (k + 1) * 2 + 1, none⟩ = some (.int .i64 (Geo.X l (k + 1)).2) := (hB.cell (p := ⟨b, off + (k + 1) * 2 + 1, none⟩) hb).trans (HC.out (k + 1) (by omega)).2
      have c5 : wr.cell? ⟨b, off + (k + 2) * 2, none⟩ = some (.int .i64 (Geo.X l (k + 2)).1) := (hB.cell (p := ⟨b, off + (k + 2) * 2, none⟩) hb).trans (HC.out (k + 2) (by omega)).1
      have c6 : wr.cell? ⟨b, off + (k + 2) * 2 + 1, none⟩ = some (.int .i64 (Geo.X l (k + 2)).2) := (hB.cell (p := ⟨b, off + (k + 2) * 2 + 1, none⟩) hb).trans (HC.out (k + 2) (by omega)).2
      obtain ⟨y1, y2, y3, y4⟩ := in_all HIN.out (k + 1)
      obtain ⟨z1, z2, z3, z4⟩ := in_all HIN.out (k + 2)
      have HF : Hid (Geo.fanK l (k + 1) = Geo.fanK l k + ((((Geo.X l (k + 1)).1 - (Geo.X l 0).1) * ((Geo.X l (k + 2)).2 - (Geo.X l 0).2)) - (((Geo.X l (k + 1)).2 - (Geo.X l 0).2) * ((Geo.X l (k + 2)).1 - (Geo.X l 0).1)))) := Lib.hid rfl
      have hF := fanK_bd HIN.out (k + 1)
      rw [HF.out] at hF
      have HW : Hid (wrap64 (Geo.fanK l k + ((((Geo.X l (k + 1)).1 - (Geo.X l 0).1) * ((Geo.X l (k + 2)).2 - (Geo.X l 0).2)) - (((Geo.X l (k + 1)).2 - (Geo.X l 0).2) * ((Geo.X l (k + 2)).1 - (Geo.X l 0).1)))) = Geo.fanK l (k + 1)) := Lib.hid (by rw [HF.out]; exact IntWalk.wrap64_in _ ⟨by omega, by omega⟩)
      clear hF
      have hB0 := hB
      go_wp2
      have d1 := fun s : Ext wr => s.cell c1
      have d2 := fun s : Ext wr => s.cell c2
      have d3 := fun s : Ext wr => s.cell c3
      have d4 := fun s : Ext wr => s.cell c4
      have d5 := fun s : Ext wr => s.cell c5
      have d6 := fun s : Ext wr => s.cell c6
      have g1 : IntKind.i64.wrap (((k + 2 : Nat) : Int) - 1) = ((k + 1 : Nat) : Int) := by rw [IntWalk.i64_in _ (by omega)]; omega
      have g2 : (0 : Int) ≤ ((k + 1 : Nat) : Int) := by omega
      have g3 : ((k + 1 : Nat) : Int) < (l.length : Int) := by omega
      have g4 : (0 : Int) ≤ ((k + 2 : Nat) : Int) := by omega
      have g5 : ((k + 2 : Nat) : Int) < (l.length : Int) := by omega
      have g6 : (0 : Int) < (l.length : Int) := by omega
      have g7 : 0 < l.length := by omega
      have g8 : k + 1 < l.length := by omega
      refine wp_region_ext (by kernel_rfl) (by kernel_rfl) ?_
      repeat (go_big_quiet_step ((go_at_call 84; refine calls_ext (cross_any _ _ _ _ _ _ (by omega) (by omega) (by omega) (by omega) (by omega) (by omega) (by omega) (by omega) (by omega) (by omega) (by omega) (by omega) _))))
      refine wpQuiet_nil ?_
      rintro _ ⟨s, rfl⟩
      rw [HW.out]
      clear g1 g2 g3 g4 g5 g6 g7 g8 d1 d2 d3 d4 d5 d6
      go_wp2
      go_roundw
      case rel => exact ⟨k + 1, by omega, by go_num, rfl, hB0.trans (s.h.mono hB0.size)⟩
      case measure => simp [intOf]; omega
    · obtain rfl : l.length - 2 = k := by omega
      go_wp2
      go_ret
      exact ⟨rfl, hB⟩

end Go.Proofs.Ytlikmlhlfbdchaa
namespace Go.Proofs.Ytlikmlhlfbdchaa
open Go.RowKit

/-- no operation of the region defers -/
def noDefer (l : List Oper) : Bool := l.all fun o => match o.op with | .defer _ => false | _ => true

theorem noDefer_spec {l : List Oper} (h : noDefer l = true) {i : Nat} {o : Oper} (ho : l.toArray[i]? = some o) : ∀ c, o.op ≠ .defer c := by
  intro c hc
  unfold noDefer at h
  rw [List.all_eq_true] at h
  have := h o (by simp at ho; exact List.mem_of_getElem? ho)
  simp [hc] at this

section
variable {lp n : Nat} {P : Program} {C : World → Prop} {md : Region.Mode}

theorem wpIn_of_quiet_round {o : Oper} {a : Act} {K : Act → Prop} {K' : Act → World → Prop} {Q' : Exit → Act → World → Prop} {w : World} (hd : ∀ c, o.op ≠ .defer c) (hw : C w) (h : ∀ a w', C w' → K a → K' a w')
    (hh : o.quiet P a C K) : o.wpIn (Fence.wide.inRound lp) n P a w K' Q' := by
  obtain ⟨v, h1, h2⟩ := hh
  have h3 := h1 w hw
  unfold Oper.quietAt at h3
  unfold Oper.wpIn
  refine ⟨fun _ _ => trivial, ?_⟩
  rw [Fence.inRound_round, Oper.semAt_some _ _ _ hd]
  generalize (execOp a.eval o).run P w = r at *
  cases r with
  | ok x w' =>
    cases x <;> simp only [Oper.quietUpon] at h3 <;> simp only [Oper.uponIn]
    case value u =>
      obtain ⟨e1, e2⟩ := h3
      rw [e1, e2]
      exact h _ _ hw h2
    case skip =>
      obtain ⟨e1, e2⟩ := h3
      rw [e1, ← e2]
      exact h _ _ hw h2
    case enter f args =>
      obtain ⟨e1, hc⟩ := h3
      rw [e1]
      exact ⟨fun hx => by simp [Fence.wide] at hx, CallsIn.inRound lp (callsIn_wide.2 (hc.mono fun e w'' ⟨he, hw''⟩ => by subst he; exact h _ _ hw'' h2))⟩
  | halt x w' => simp only [Oper.quietUpon] at h3

theorem wpOpIn_of_qOp_round {l : List Oper} (hD : noDefer l = true) {i : Nat} {a : Act} {K : Act → Prop} {K' : Act → World → Prop} {Q' : Exit → Act → World → Prop} {w : World} (hC : C w) (h : ∀ a w', C w' → K a → K' a w')
    (hh : qOp P l.toArray C i K a) : wpOpIn (Fence.wide.inRound lp) n P l.toArray Q' i K' a w := by
  unfold qOp at hh
  unfold wpOpIn
  split
  · rename_i ho; simp only [ho] at hh; exact h _ _ hC hh
  · rename_i o ho
    simp only [ho] at hh
    split
    · rename_i hw; simp only [hw, if_true] at hh; exact wpIn_of_quiet_round (noDefer_spec hD ho) hC h hh
    · rename_i hw; simp only [hw] at hh; exact ⟨fun _ _ => trivial, h _ _ hC hh⟩

theorem wpAnyIn_of_quiet_round {l : List Oper} (hD : noDefer l = true) {Q : Act → Prop} {Q' : Exit → Act → World → Prop} (hQ : ∀ a w, C w → Q a → Q' .normal a w) : ∀ (fuel : Nat) (listed : Array Bool) (a : Act) (w : World), C w →
    wpAnyQ P md l.toArray C Q fuel listed a → wpAnyIn (Fence.wide.inRound lp) n P md l.toArray Q' fuel listed a w
  | 0, _, _, _, hw, h => ⟨h.1, hQ _ _ hw h.2⟩
  | fuel + 1, _, _, _, hw, h => ⟨fun h0 => hQ _ _ hw (h.1 h0), fun i hi => wpOpIn_of_qOp_round hD hw (fun a' w' hw' => wpAnyIn_of_quiet_round hD hQ fuel _ a' w' hw') (h.2 i hi)⟩

/-- a region that draws, in a round: one walk of the lexical order -/
theorem wpIn_region_ext {id : Nat} {Q : Exit → Act → World → Prop} {a : Act} {w : World} {l : List Oper} (hm : P.follows .mixedOrders = true) (hB : Region.lexB .any l.toArray = true) (hD : noDefer l = true)
    (h : wpQuiet P l.toArray (fun w' => ∃ s : Ext w, w' = s.w) (fun a' => ∀ w', (∃ s : Ext w, w' = s.w) → Q .normal a' w') l a) : (Code.region id l.toArray true).wpIn (Fence.wide.inRound lp) n P Q a w := by
  simp only [Region.lexB, Bool.and_eq_true] at hB
  refine wpIn_region_any hm (wpAnyIn_of_quiet_round hD (C := fun w' => ∃ s : Ext w, w' = s.w) (Q := fun a' => ∀ w', (∃ s : Ext w, w' = s.w) → Q .normal a' w') (fun _ w' hw' h => h w' hw') _ _ _ _ ⟨⟨w.drew, (Below.refl _ w).drew⟩, rfl⟩ ?_)
  have := wpAnyQ_lex (C := fun w' => ∃ s : Ext w, w' = s.w) (md := .any) hB.1 l 0 (Array.replicate l.toArray.size false) a (by simp) (by simpa using hB.2) h
  simpa using this
end

end Go.Proofs.Ytlikmlhlfbdchaa
namespace Go.Proofs.Ytlikmlhlfbdchaa
open Go.RowKit Go.Shelf

theorem take_x (l : List Geo.XY) (k : Nat) (h : k < l.length) : l.take (k + 1) = l.take k ++ [Geo.X l k] := by
  rw [List.take_add_one, List.getElem?_eq_getElem h]
  simp [Geo.X, h]
def negXY (p : Geo.XY) : Geo.XY := (-p.1, -p.2)
def mirXY (p : Geo.XY) : Geo.XY := (-p.1, p.2)
def addXY (q p : Geo.XY) : Geo.XY := (p.1 + q.1, p.2 + q.2)
def subXY (q p : Geo.XY) : Geo.XY := (p.1 - q.1, p.2 - q.2)

set_option maxHeartbeats 400000 in
theorem clo76 (p : Geo.XY) (h : Geo.In p) (w : World) : Calls Try.prog 117 #[.agg #[.int .i64 p.1, .int .i64 p.2]] w fun e w' =>
    e = .returned (.agg #[.int .i64 (negXY p).1, .int .i64 (negXY p).2]) ∧ Below w.heap.size w w' := by
  obtain ⟨h1, h2, h3, h4⟩ := h
  go_enter Try.func117, Try.ntmps117
  go_wp2
  refine bodyPost_ret (v := .agg #[.int .i64 (-p.1), .int .i64 (-p.2)]) (by simp [results, Try.results117, go_sem]) rfl ⟨rfl, ?_⟩
  exact ((Below.refl _ _).alloc (Nat.le_refl _) _).alloc (by simp) _
set_option maxHeartbeats 400000 in
theorem clo74 (p : Geo.XY) (h : Geo.In p) (w : World) : Calls Try.prog 123 #[.agg #[.int .i64 p.1, .int .i64 p.2]] w fun e w' =>
    e = .returned (.agg #[.int .i64 (mirXY p).1, .int .i64 (mirXY p).2]) ∧ Below w.heap.size w w' := by
  obtain ⟨h1, h2, h3, h4⟩ := h
  go_enter Try.func123, Try.ntmps123
  go_wp2
  refine bodyPost_ret (v := .agg #[.int .i64 (-p.1), .int .i64 p.2]) (by simp [results, Try.results123, go_sem]) rfl ⟨rfl, ?_⟩
  exact ((Below.refl _ _).alloc (Nat.le_refl _) _).alloc (by simp) _
theorem own_keep {w w' : World} {B : Nat} {v : Value} {n : Nat} {xs : List Value} (h : w.ownsRow B 76 2 v n xs) (hb : Below w.heap.size w w') : w'.ownsRow B 76 2 v n xs := by
  refine h.kept (row := none) ⟨hb.os, hb.tape, hb.output, hb.size, fun k hk _ => hb.block k hk⟩ ?_
  rcases hv : v.ownBlock with _ | g
  · exact .inl rfl
  · exact .inr (by simp)

set_option maxRecDepth 100000 in
set_option maxHeartbeats 2000000 in
theorem changed76 (b off c : Nat) (l : List Geo.XY) (h64 : l.length ≤ 64) (hin : AllIn l) (w : World) (hb : b < w.heap.size)
    (hc : ∀ k, k < l.length → w.cell? ⟨b, off + k * 2, none⟩ = some (.int .i64 (Geo.X l k).1) ∧ w.cell? ⟨b, off + k * 2 + 1, none⟩ = some (.int .i64 (Geo.X l k).2)) :
    Calls Try.prog 116 #[.slice (some ⟨b, off, none⟩) l.length c, .func (.func 117) #[] #[]] w fun e w' => ∃ v, e = .returned v ∧ w'.ownsRow w.heap.size 76 2 v (l.map (negXY)).length (flat (l.map (negXY))) ∧ Below w.heap.size w w' := by
  have HC := Lib.hid hc
  have HIN := Lib.hid hin
  clear hc hin
  obtain ⟨i0, hi, hz0, hz1, hz2⟩ := info_parts info38'
  go_enter Try.func116, Try.ntmps116
  go_wp2_with (at_make; refine wpList_make_own _ rfl _ _ 22 rfl w.heap.size 76 i0 _ 2 Try.underlying22 hi hz0 hz1 .i64 .i64 _ l.length rfl rfl rfl (by rw [hz2]; omega) (by unfold maxLen; omega) (Nat.le_refl _) ?_; intro w0 hown0 hgrow0)
  have hB0 : Below w.heap.size w w0 := (Below.refl _ w).grown hgrow0 (Nat.le_refl _) (fun k e => by cases e)
  clear hgrow0
  go_loopw [5, 13] (fun v i wr => ∃ k : Nat, k ≤ l.length ∧ i = .int .i64 k ∧ wr.ownsRow w.heap.size 76 2 v k (flat ((l.take k).map (negXY))) ∧ Below w.heap.size w wr) (fun _ i _ => l.length - (intOf i).toNat)
  case atStart => exact ⟨0, Nat.zero_le _, rfl, hown0, hB0⟩
  case round =>
    clear hown0 hB0
    obtain ⟨k, hk, rfl, hown, hB⟩ := hrel
    by_cases hlt : k < l.length
    · have c1 : wr.cell? ⟨b, off + k * 2, none⟩ = some (.int .i64 (Geo.X l k).1) := (hB.cell (p := ⟨b, off + k * 2, none⟩) hb).trans (HC.out k hlt).1
      have c2 : wr.cell? ⟨b, off + k * 2 + 1, none⟩ = some (.int .i64 (Geo.X l k).2) := (hB.cell (p := ⟨b, off + k * 2 + 1, none⟩) hb).trans (HC.out k hlt).2
      have HM : Hid ((l.take (k + 1)).map (negXY) = (l.take k).map (negXY) ++ [(negXY) (Geo.X l k)]) := Lib.hid (by rw [take_x l k hlt, List.map_append]; rfl)
      have hBa := hB.alloc hB.size (.cells #[.int .i64 (Geo.X l k).1, .int .i64 (Geo.X l k).2] 76)
      go_wp2_with fail
      refine (clo76 (Geo.X l k) (in_all HIN.out k) _).mono ?_
      rintro e w1 ⟨rfl, hb1⟩
      have hB1 := hBa.trans (hb1.mono hBa.size)
      have hown1 := own_keep hown (Below.trans ((Below.refl wr.heap.size wr).alloc (Nat.le_refl _) (.cells #[.int .i64 (Geo.X l k).1, .int .i64 (Geo.X l k).2] 76)) (hb1.mono (by simp)))
      generalize (negXY) (Geo.X l k) = fp at *
      clear hown hb1 hBa
      go_wp2_with (at_builtin; refine wpList_append_own _ rfl _ _ 22 rfl w.heap.size 76 i0 _ 2 16 Try.underlying22 hi hz0 hz1 hz2 rfl (by decide) _ _ _ rfl (hown1.alloc _) ⟨w1.heap.size, 0, none⟩ 1 1 [.int .i64 fp.1, .int .i64 fp.2] rfl rfl ?c1 ?c2 ?c3 ?c4 ?c5 ?_)
      case c1 => exact new_cells _ _ _
      case c2 => exact one_two _ _
      case c3 => unfold maxLen; omega
      case c4 => omega
      case c5 => have := hB1.size; simp; omega
      intro v' w2 hown' hgrow _
      have hB' : Below w.heap.size w w2 := (hB1.alloc hB1.size _).grown hgrow (by have := hB1.size; simp; omega) (fun k e => (hown1.lt k e).1)
      clear hown1 hgrow
      go_wp2
      go_roundw
      case rel => exact ⟨k + 1, by omega, by go_num, by rw [HM.out, flat_append, List.map_take]; exact hown', hB'⟩
      case measure => simp [intOf]; omega
    · obtain rfl : k = l.length := by omega
      rw [List.take_length] at hown
      go_wp2
      go_ret
      exact ⟨_, rfl, by rw [List.length_map]; exact hown, hB⟩

set_option maxRecDepth 100000 in
set_option maxHeartbeats 2000000 in
theorem changed74 (b off c : Nat) (l : List Geo.XY) (h64 : l.length ≤ 64) (hin : AllIn l) (w : World) (hb : b < w.heap.size)
    (hc : ∀ k, k < l.length → w.cell? ⟨b, off + k * 2, none⟩ = some (.int .i64 (Geo.X l k).1) ∧ w.cell? ⟨b, off + k * 2 + 1, none⟩ = some (.int .i64 (Geo.X l k).2)) :
    Calls Try.prog 116 #[.slice (some ⟨b, off, none⟩) l.length c, .func (.func 123) #[] #[]] w fun e w' => ∃ v, e = .returned v ∧ w'.ownsRow w.heap.size 76 2 v (l.map (mirXY)).length (flat (l.map (mirXY))) ∧ Below w.heap.size w w' := by
  have HC := Lib.hid hc
  have HIN := Lib.hid hin
  clear hc hin
  obtain ⟨i0, hi, hz0, hz1, hz2⟩ := info_parts info38'
  go_enter Try.func116, Try.ntmps116
  go_wp2_with (at_make; refine wpList_make_own _ rfl _ _ 22 rfl w.heap.size 76 i0 _ 2 Try.underlying22 hi hz0 hz1 .i64 .i64 _ l.length rfl rfl rfl (by rw [hz2]; omega) (by unfold maxLen; omega) (Nat.le_refl _) ?_; intro w0 hown0 hgrow0)
  have hB0 : Below w.heap.size w w0 := (Below.refl _ w).grown hgrow0 (Nat.le_refl _) (fun k e => by cases e)
  clear hgrow0
  go_loopw [5, 13] (fun v i wr => ∃ k : Nat, k ≤ l.length ∧ i = .int .i64 k ∧ wr.ownsRow w.heap.size 76 2 v k (flat ((l.take k).map (mirXY))) ∧ Below w.heap.size w wr) (fun _ i _ => l.length - (intOf i).toNat)
  case atStart => exact ⟨0, Nat.zero_le _, rfl, hown0, hB0⟩
  case round =>
    clear hown0 hB0
    obtain ⟨k, hk, rfl, hown, hB⟩ := hrel
    by_cases hlt : k < l.length
    · have c1 : wr.cell? ⟨b, off + k * 2, none⟩ = some (.int .i64 (Geo.X l k).1) := (hB.cell (p := ⟨b, off + k * 2, none⟩) hb).trans (HC.out k hlt).1
      have c2 : wr.cell? ⟨b, off + k * 2 + 1, none⟩ = some (.int .i64 (Geo.X l k).2) := (hB.cell (p := ⟨b, off + k * 2 + 1, none⟩) hb).trans (HC.out k hlt).2
      have HM : Hid ((l.take (k + 1)).map (mirXY) = (l.take k).map (mirXY) ++ [(mirXY) (Geo.X l k)]) := Lib.hid (by rw [take_x l k hlt, List.map_append]; rfl)
      have hBa := hB.alloc hB.size (.cells #[.int .i64 (Geo.X l k).1, .int .i64 (Geo.X l k).2] 76)
      go_wp2_with fail
      refine (clo74 (Geo.X l k) (in_all HIN.out k) _).mono ?_
      rintro e w1 ⟨rfl, hb1⟩
      have hB1 := hBa.trans (hb1.mono hBa.size)
      have hown1 := own_keep hown (Below.trans ((Below.refl wr.heap.size wr).alloc (Nat.le_refl _) (.cells #[.int .i64 (Geo.X l k).1, .int .i64 (Geo.X l k).2] 76)) (hb1.mono (by simp)))
      generalize (mirXY) (Geo.X l k) = fp at *
      clear hown hb1 hBa
      go_wp2_with (at_builtin; refine wpList_append_own _ rfl _ _ 22 rfl w.heap.size 76 i0 _ 2 16 Try.underlying22 hi hz0 hz1 hz2 rfl (by decide) _ _ _ rfl (hown1.alloc _) ⟨w1.heap.size, 0, none⟩ 1 1 [.int .i64 fp.1, .int .i64 fp.2] rfl rfl ?c1 ?c2 ?c3 ?c4 ?c5 ?_)
      case c1 => exact new_cells _ _ _
      case c2 => exact one_two _ _
      case c3 => unfold maxLen; omega
      case c4 => omega
      case c5 => have := hB1.size; simp; omega
      intro v' w2 hown' hgrow _
      have hB' : Below w.heap.size w w2 := (hB1.alloc hB1.size _).grown hgrow (by have := hB1.size; simp; omega) (fun k e => (hown1.lt k e).1)
      clear hown1 hgrow
      go_wp2
      go_roundw
      case rel => exact ⟨k + 1, by omega, by go_num, by rw [HM.out, flat_append, List.map_take]; exact hown', hB'⟩
      case measure => simp [intOf]; omega
    · obtain rfl : k = l.length := by omega
      rw [List.take_length] at hown
      go_wp2
      go_ret
      exact ⟨_, rfl, by rw [List.length_map]; exact hown, hB⟩

end Go.Proofs.Ytlikmlhlfbdchaa
namespace Go.Proofs.Ytlikmlhlfbdchaa
open Go.RowKit Go.Shelf

theorem new_cells2 (W : World) (o : Obj) (x y : Value) : ∀ (j : Nat) (u : Value), [x, y][j]? = some u → ((W.alloc o).alloc (.cells #[x, y] 76)).cell? ((⟨W.heap.size + 1, 0, none⟩ : Addr).add j) = some u := by
  have := new_cells (W.alloc o) x y
  rwa [World.size_alloc] at this

set_option maxRecDepth 100000 in
set_option maxHeartbeats 2000000 in
theorem rshifted (b off c : Nat) (l : List Geo.XY) (dx dy : Int) (hq : (-20000 ≤ dx ∧ dx ≤ 20000) ∧ -20000 ≤ dy ∧ dy ≤ 20000) (h64 : l.length ≤ 64) (hin : AllIn l) (w : World) (hb : b < w.heap.size)
    (hc : ∀ k, k < l.length → w.cell? ⟨b, off + k * 2, none⟩ = some (.int .i64 (Geo.X l k).1) ∧ w.cell? ⟨b, off + k * 2 + 1, none⟩ = some (.int .i64 (Geo.X l k).2)) :
    Calls Try.prog 54 #[.slice (some ⟨b, off, none⟩) l.length c, .int .i64 dx, .int .i64 dy] w fun e w' => ∃ v, e = .returned v ∧ w'.ownsRow w.heap.size 76 2 v (l.map (addXY (dx, dy))).length (flat (l.map (addXY (dx, dy)))) ∧ Below w.heap.size w w' := by
  have HC := Lib.hid hc
  have HIN := Lib.hid hin
  clear hc hin
  obtain ⟨⟨k1, k2⟩, k3, k4⟩ := hq
  obtain ⟨i0, hi, hz0, hz1, hz2⟩ := info_parts info38'
  go_enter Try.func54, Try.ntmps54
  go_wp2
  go_loopw [7, 12] (fun v i wr => ∃ k : Nat, k ≤ l.length ∧ i = .int .i64 k ∧ wr.ownsRow w.heap.size 76 2 v k (flat ((l.take k).map (addXY (dx, dy)))) ∧ Below w.heap.size w wr) (fun _ i _ => l.length - (intOf i).toNat)
  case atStart => exact ⟨0, Nat.zero_le _, rfl, World.ownsRow_nil _ _ _ _, Below.refl _ _⟩
  case round =>
    obtain ⟨k, hk, rfl, hown, hB⟩ := hrel
    by_cases hlt : k < l.length
    · have c1 : wr.cell? ⟨b, off + k * 2, none⟩ = some (.int .i64 (Geo.X l k).1) := (hB.cell (p := ⟨b, off + k * 2, none⟩) hb).trans (HC.out k hlt).1
      have c2 : wr.cell? ⟨b, off + k * 2 + 1, none⟩ = some (.int .i64 (Geo.X l k).2) := (hB.cell (p := ⟨b, off + k * 2 + 1, none⟩) hb).trans (HC.out k hlt).2
      have HM : Hid ((l.take (k + 1)).map (addXY (dx, dy)) = (l.take k).map (addXY (dx, dy)) ++ [addXY (dx, dy) (Geo.X l k)]) := Lib.hid (by rw [take_x l k hlt, List.map_append]; rfl)
      obtain ⟨a1, a2, a3, a4⟩ := in_all HIN.out k
      go_wp2_with (at_builtin; refine wpList_append_own _ rfl _ _ 22 rfl w.heap.size 76 i0 _ 2 16 Try.underlying22 hi hz0 hz1 hz2 rfl (by decide) _ _ _ rfl ((hown.alloc _).alloc _) ⟨wr.heap.size + 1, 0, none⟩ 1 1 [.int .i64 ((Geo.X l k).1 + dx), .int .i64 ((Geo.X l k).2 + dy)] rfl rfl ?c1 ?c2 ?c3 ?c4 ?c5 ?_)
      case c1 => exact new_cells2 _ _ _ _
      case c2 => exact one_two _ _
      case c3 => unfold maxLen; omega
      case c4 => omega
      case c5 => have := hB.size; simp; omega
      intro v' w2 hown' hgrow _
      have hB' : Below w.heap.size w w2 := ((hB.alloc hB.size _).alloc (by have := hB.size; simp; omega) _).grown hgrow (by have := hB.size; simp; omega) (fun k e => (hown.lt k e).1)
      clear hown hgrow
      go_wp2
      go_roundw
      case rel => exact ⟨k + 1, by omega, by go_num, by rw [HM.out, flat_append, List.map_take]; exact hown', hB'⟩
      case measure => simp [intOf]; omega
    · obtain rfl : k = l.length := by omega
      rw [List.take_length] at hown
      go_wp2
      go_ret
      exact ⟨_, rfl, by rw [List.length_map]; exact hown, hB⟩

noncomputable def lstV (l m : List Geo.XY) : List Geo.XY × Int := if validB l = true then (Geo.canon m, 0) else ([], 10)
theorem lstV_ok {l m : List Geo.XY} (h : validB l = true) : lstV l m = (Geo.canon m, 0) := if_pos h
theorem lstV_no {l m : List Geo.XY} (h : validB l = false) : lstV l m = ([], 10) := by unfold lstV; rw [h]; rfl
def mirL (l : List Geo.XY) : List Geo.XY := (l.map mirXY).reverse
theorem mirL_len (l : List Geo.XY) : (mirL l).length = l.length := by simp [mirL]
theorem mirL_x (l : List Geo.XY) (k : Nat) (h : k < l.length) : Geo.X (mirL l) k = mirXY (Geo.X l (l.length - 1 - k)) := by
  have h1 : (mirL l)[k]? = some (mirXY (Geo.X l (l.length - 1 - k))) := by
    unfold mirL
    rw [List.getElem?_reverse (by rw [List.length_map]; exact h), List.length_map, List.getElem?_map, X_get (show l.length - 1 - k < l.length by omega)]
    rfl
  unfold Geo.X
  rw [h1]
  unfold Geo.X
  rfl

theorem rcanon_r (A : Option Addr) (l : List Geo.XY) (n c : Nat) (hn : l.length = n) (h0 : 0 < n) (h64 : n ≤ 64) (hcap : n ≤ c) (w : World) (hP : Pts w A l) :
    Calls Try.prog 53 #[.slice A n c] w fun e w' => ∃ v, e = .returned v ∧ w'.ownsRow w.heap.size 76 2 v (Geo.canon l).length (flat (Geo.canon l)) ∧ Below w.heap.size w w' := by
  subst hn; exact rcanon_p A l c h0 h64 hcap w hP
theorem dcanon_r (A : Option Addr) (l : List Geo.XY) (n c : Nat) (hn : l.length = n) (h0 : 0 < n) (h64 : n ≤ 64) (hcap : n ≤ c) (w : World) (hP : Pts w A l) :
    Calls Try.prog 115 #[.slice A n c] w fun e w' => ∃ v, e = .returned v ∧ w'.ownsRow w.heap.size 76 2 v (Geo.canon l).length (flat (Geo.canon l)) ∧ Below w.heap.size w w' := by
  subst hn; exact dcanon_p A l c h0 h64 hcap w hP

theorem owns_addr {W : World} {base n : Nat} {v : Value} {xs : List Value} (h : W.ownsRow base 76 2 v n xs) (h0 : 0 < n) : ∃ g cap, v = .slice (some ⟨g, 0, none⟩) n cap := by
  rcases h with ⟨_, ⟨h1, hn⟩ | ⟨g, cap, cur, h1, _⟩⟩
  · omega
  · exact ⟨g, cap, h1⟩
end Go.Proofs.Ytlikmlhlfbdchaa
namespace Go.Proofs.Ytlikmlhlfbdchaa
open Go.RowKit Go.Shelf

set_option maxRecDepth 100000 in
set_option maxHeartbeats 4000000 in
theorem rturned_any (A : Option Addr) (l : List Geo.XY) (c : Nat) (w : World) (hP : Pts w A l) :
    Calls Try.prog 16 #[.slice A l.length c] w fun e w' => ListErr w (lstV l (l.map negXY)).1 (lstV l (l.map negXY)).2 e w' := by
  have HP := Lib.hid hP
  cases hv : validB l with
  | false =>
    have HV := Lib.hid hv
    rw [lstV_no hv]
    clear hv hP
    unfold ListErr
    go_enter Try.func16, Try.ntmps16
    go_wp2_with (go_at_call 51; refine (rvalid_b _ _ _ _ HP.out false HV.out).mono ?_; rintro e w' ⟨rfl, hb'⟩)
    go_ret2
    exact ⟨_, rfl, own_nil' _ _, hb'⟩
  | true =>
    have HV := Lib.hid hv
    have hval := valid_of hv
    have h3 := hval.1
    have h64 := hval.2.1
    have HIN := Lib.hid hval.allin
    rw [lstV_ok hv]
    clear hv hval
    unfold ListErr
    obtain ⟨b, off, rfl, hb, hc⟩ := pts_open hP (by omega)
    have HC := Lib.hid hc
    clear hc hP
    obtain ⟨i0, hi, hz0, hz1, hz2⟩ := info_parts info38'
    go_enter Try.func16, Try.ntmps16
    go_wp2_with fail
    refine (rvalid_b _ _ _ _ HP.out true HV.out).mono ?_
    rintro e w1 ⟨rfl, hb1⟩
    go_wp2
    go_loopw [4, 12] (fun v i wr => ∃ k : Nat, k ≤ l.length ∧ i = .int .i64 k ∧ wr.ownsRow w.heap.size 76 2 v k (flat ((l.take k).map negXY)) ∧ Below w.heap.size w wr) (fun _ i _ => l.length - (intOf i).toNat)
    case atStart => exact ⟨0, Nat.zero_le _, rfl, World.ownsRow_nil _ _ _ _, hb1⟩
    case round =>
      clear hb1
      obtain ⟨k, hk, rfl, hown, hB⟩ := hrel
      by_cases hlt : k < l.length
      · have c1 : wr.cell? ⟨b, off + k * 2, none⟩ = some (.int .i64 (Geo.X l k).1) := (hB.cell (p := ⟨b, off + k * 2, none⟩) hb).trans (HC.out k hlt).1
        have c2 : wr.cell? ⟨b, off + k * 2 + 1, none⟩ = some (.int .i64 (Geo.X l k).2) := (hB.cell (p := ⟨b, off + k * 2 + 1, none⟩) hb).trans (HC.out k hlt).2
        have HM : Hid ((l.take (k + 1)).map negXY = (l.take k).map negXY ++ [negXY (Geo.X l k)]) := Lib.hid (by rw [take_x l k hlt, List.map_append]; rfl)
        obtain ⟨a1, a2, a3, a4⟩ := in_all HIN.out k
        go_wp2_with (at_builtin; refine wpList_append_own _ rfl _ _ 22 rfl w.heap.size 76 i0 _ 2 16 Try.underlying22 hi hz0 hz1 hz2 rfl (by decide) _ _ _ rfl ((hown.alloc _).alloc _) ⟨wr.heap.size + 1, 0, none⟩ 1 1 [.int .i64 (-(Geo.X l k).1), .int .i64 (-(Geo.X l k).2)] rfl rfl ?c1 ?c2 ?c3 ?c4 ?c5 ?_)
        case c1 => exact new_cells2 _ _ _ _
        case c2 => exact one_two _ _
        case c3 => unfold maxLen; omega
        case c4 => omega
        case c5 => have := hB.size; simp; omega
        intro v' w2 hown' hgrow _
        have hB' : Below w.heap.size w w2 := ((hB.alloc hB.size _).alloc (by have := hB.size; simp; omega) _).grown hgrow (by have := hB.size; simp; omega) (fun k e => (hown.lt k e).1)
        clear hown hgrow
        go_wp2
        go_roundw
        case rel => exact ⟨k + 1, by omega, by go_num, by rw [HM.out, flat_append, List.map_take]; exact hown', hB'⟩
        case measure => simp [intOf]; omega
      · obtain rfl : k = l.length := by omega
        rw [List.take_length] at hown
        have e : l.length = (l.map negXY).length := by rw [List.length_map]
        rw [e] at hown
        obtain ⟨A1, c1, rfl, hp1, hc1⟩ := pts_of_owns' hown
        rw [← e] at hc1 ⊢
        have HE := Lib.hid e.symm
        clear hown e
        go_wp2_with fail
        refine (rcanon_r A1 (l.map negXY) l.length c1 HE.out (by omega) h64 hc1 wr hp1).mono ?_
        rintro e w2 ⟨v, rfl, hown3, hb2⟩
        go_wp2
        go_ret2
        exact ⟨_, rfl, hown3.mono hB.size, hB.trans (hb2.mono hB.size)⟩
end Go.Proofs.Ytlikmlhlfbdchaa
namespace Go.Proofs.Ytlikmlhlfbdchaa
open Go.RowKit Go.Shelf

theorem reverse_r (B g c n : Nat) (ps : List Geo.XY) (e : ps.length = n) (h64 : n ≤ 64) (h0 : 0 < n) (w : World) (hown : w.ownsRow B 76 2 (.slice (some ⟨g, 0, none⟩) n c) n (flat ps)) :
    Calls Try.prog 124 #[.slice (some ⟨g, 0, none⟩) n c] w fun e w' => e = .returned (.tuple #[]) ∧ w'.ownsRow B 76 2 (.slice (some ⟨g, 0, none⟩) n c) n (flat ps.reverse) ∧ Below B w w' := by
  subst e; exact reverse_any B g c ps h64 h0 w hown

set_option maxRecDepth 100000 in
set_option maxHeartbeats 4000000 in
theorem dturned_any (A : Option Addr) (l : List Geo.XY) (c : Nat) (w : World) (hP : Pts w A l) :
    Calls Try.prog 95 #[.slice A l.length c] w fun e w' => ListErr w (lstV l (l.map negXY)).1 (lstV l (l.map negXY)).2 e w' := by
  have HP := Lib.hid hP
  cases hv : validB l with
  | false =>
    have HV := Lib.hid hv
    rw [lstV_no hv]
    clear hv hP
    unfold ListErr
    go_enter Try.func95, Try.ntmps95
    go_wp2_with (go_at_call 48; refine (dvalid_b _ _ _ _ HP.out false HV.out).mono ?_; rintro e w' ⟨rfl, hb'⟩)
    go_ret2
    exact ⟨_, rfl, own_nil' _ _, hb'⟩
  | true =>
    have HV := Lib.hid hv
    have hval := valid_of hv
    have h3 := hval.1
    have h64 := hval.2.1
    have HIN := Lib.hid hval.allin
    rw [lstV_ok hv]
    clear hv hval
    unfold ListErr
    obtain ⟨b, off, rfl, hb, hc⟩ := pts_open hP (by omega)
    have HC := Lib.hid hc
    clear hc hP
    obtain ⟨i0, hi, hz0, hz1, hz2⟩ := info_parts info38'
    go_enter Try.func95, Try.ntmps95
    go_wp2_with fail
    refine (dvalid_b _ _ _ _ HP.out true HV.out).mono ?_
    rintro e w1 ⟨rfl, hb1⟩
    go_wp2_with fail
    refine (changed76 b off c l h64 HIN.out w1 (Nat.lt_of_lt_of_le hb hb1.size) (fun k hk => ⟨(hb1.cell (p := ⟨b, off + k * 2, none⟩) hb).trans (HC.out k hk).1, (hb1.cell (p := ⟨b, off + k * 2 + 1, none⟩) hb).trans (HC.out k hk).2⟩)).mono ?_
    rintro e w2 ⟨v, rfl, hown, hb2⟩
    have hB2 := hb1.trans (hb2.mono hb1.size)
    obtain ⟨A1, c1, rfl, hp1, hc1⟩ := pts_of_owns' hown
    clear hown
    have e : (l.map negXY).length = l.length := by rw [List.length_map]
    rw [e] at hc1 ⊢
    go_wp2_with fail
    refine (dcanon_r A1 (l.map negXY) l.length c1 e (by omega) h64 hc1 w2 hp1).mono ?_
    rintro e w3 ⟨v, rfl, hown3, hb3⟩
    go_wp2
    go_ret2
    exact ⟨_, rfl, hown3.mono hB2.size, hB2.trans (hb3.mono hB2.size)⟩

set_option maxRecDepth 100000 in
set_option maxHeartbeats 4000000 in
theorem dmirror_any (A : Option Addr) (l : List Geo.XY) (c : Nat) (w : World) (hP : Pts w A l) :
    Calls Try.prog 108 #[.slice A l.length c] w fun e w' => ListErr w (lstV l (mirL l)).1 (lstV l (mirL l)).2 e w' := by
  have HP := Lib.hid hP
  cases hv : validB l with
  | false =>
    have HV := Lib.hid hv
    rw [lstV_no hv]
    clear hv hP
    unfold ListErr
    go_enter Try.func108, Try.ntmps108
    go_wp2_with (go_at_call 48; refine (dvalid_b _ _ _ _ HP.out false HV.out).mono ?_; rintro e w' ⟨rfl, hb'⟩)
    go_ret2
    exact ⟨_, rfl, own_nil' _ _, hb'⟩
  | true =>
    have HV := Lib.hid hv
    have hval := valid_of hv
    have h3 := hval.1
    have h64 := hval.2.1
    have HIN := Lib.hid hval.allin
    rw [lstV_ok hv]
    clear hv hval
    unfold ListErr
    obtain ⟨b, off, rfl, hb, hc⟩ := pts_open hP (by omega)
    have HC := Lib.hid hc
    clear hc hP
    obtain ⟨i0, hi, hz0, hz1, hz2⟩ := info_parts info38'
    go_enter Try.func108, Try.ntmps108
    go_wp2_with fail
    refine (dvalid_b _ _ _ _ HP.out true HV.out).mono ?_
    rintro e w1 ⟨rfl, hb1⟩
    go_wp2_with fail
    refine (changed74 b off c l h64 HIN.out w1 (Nat.lt_of_lt_of_le hb hb1.size) (fun k hk => ⟨(hb1.cell (p := ⟨b, off + k * 2, none⟩) hb).trans (HC.out k hk).1, (hb1.cell (p := ⟨b, off + k * 2 + 1, none⟩) hb).trans (HC.out k hk).2⟩)).mono ?_
    rintro e w2 ⟨v, rfl, hown, hb2⟩
    have hB2 := hb1.trans (hb2.mono hb1.size)
    have hml : 0 < (l.map mirXY).length := by rw [List.length_map]; omega
    obtain ⟨g, cap, rfl⟩ := owns_addr hown hml
    have e : (l.map mirXY).length = l.length := by rw [List.length_map]
    rw [e] at hown ⊢
    go_wp2_with fail
    refine (reverse_r w1.heap.size g cap l.length (l.map mirXY) e h64 (by omega) w2 hown).mono ?_
    rintro e w3 ⟨rfl, hown2, hb3⟩
    have hB3 := hB2.trans (hb3.mono hb1.size)
    clear hown
    have hown4 : w3.ownsRow w1.heap.size 76 2 (.slice (some ⟨g, 0, none⟩) l.length cap) (mirL l).length (flat (mirL l)) := by rw [mirL_len]; exact hown2
    obtain ⟨A1, c1, he, hp1, hc1⟩ := pts_of_owns' hown4
    rw [mirL_len] at he hc1
    cases he
    clear hown4 hown2
    go_wp2_with fail
    refine (dcanon_r _ (mirL l) l.length cap (mirL_len l) (by omega) h64 hc1 w3 hp1).mono ?_
    rintro e w4 ⟨v, rfl, hown3, hb4⟩
    go_wp2
    go_ret2
    exact ⟨_, rfl, hown3.mono hB3.size, hB3.trans (hb4.mono hB3.size)⟩
end Go.Proofs.Ytlikmlhlfbdchaa
/- Plain geometry: lists of corners that are begun elsewhere, mirrored, moved or turned. It imports nothing of the program. -/
namespace Go.Proofs.Ytlikmlhlfbdchaa.Geo

theorem list_ext {a b : List XY} (hl : a.length = b.length) (h : ∀ i, i < a.length → X a i = X b i) : a = b := by
  apply List.ext_getElem hl
  intro i h1 h2
  have := h i h1
  unfold X at this
  rw [List.getElem?_eq_getElem h1, List.getElem?_eq_getElem h2] at this
  simpa using this
theorem X_mem {o : List XY} {i : Nat} (h : i < o.length) : X o i ∈ o := by
  unfold X; rw [List.getElem?_eq_getElem h]; exact List.getElem_mem h
theorem mem_X {o : List XY} {p : XY} (h : p ∈ o) : ∃ i, i < o.length ∧ X o i = p := by
  obtain ⟨i, hi, he⟩ := List.getElem_of_mem h
  exact ⟨i, hi, by unfold X; rw [List.getElem?_eq_getElem hi]; exact he⟩
theorem At_congr (o : List XY) {i j : Nat} (h : i % o.length = j % o.length) : At o i = At o j := by
  rw [← At_mod o i, ← At_mod o j, h]
theorem At_X (o : List XY) (h0 : 0 < o.length) (i : Nat) : At o i = X o (i % o.length) := by
  rw [← At_mod o i, At_lt o (Nat.mod_lt _ h0)]

def Rot (o : List XY) (k : Nat) : List XY := o.drop k ++ o.take k
theorem Rot_length {o : List XY} {k : Nat} (h : k ≤ o.length) : (Rot o k).length = o.length := by unfold Rot; simp; omega
theorem mem_Rot {o : List XY} {k : Nat} {p : XY} : p ∈ Rot o k ↔ p ∈ o := by
  have h : p ∈ o ↔ p ∈ o.take k ++ o.drop k := by rw [List.take_append_drop]
  rw [h]; unfold Rot; rw [List.mem_append, List.mem_append]; exact Or.comm
theorem X_Rot {o : List XY} {k i : Nat} (hk : k ≤ o.length) (h : i < o.length) : X (Rot o k) i = At o (k + i) := by
  unfold X Rot At
  rw [List.getElem?_append]
  simp only [List.length_drop]
  by_cases c : i < o.length - k
  · rw [if_pos c, List.getElem?_drop, Nat.mod_eq_of_lt (by omega)]; simp
  · rw [if_neg c, List.getElem?_take, if_pos (by omega)]
    have : (k + i) % o.length = i - (o.length - k) := by
      rw [Nat.mod_eq_sub_mod (by omega), Nat.mod_eq_of_lt (by omega)]; omega
    rw [this]; simp
theorem At_Rot {o : List XY} {k : Nat} (hk : k ≤ o.length) (h0 : 0 < o.length) (i : Nat) : At (Rot o k) i = At o (k + i) := by
  rw [At_X _ (by rw [Rot_length hk]; exact h0), Rot_length hk, X_Rot hk (Nat.mod_lt _ h0)]
  apply At_congr
  rw [Nat.add_mod_mod]
theorem canon_is (o : List XY) : canon o = Rot o (lowIdx o o.length) := rfl
theorem lowIdx_le (o : List XY) : lowIdx o o.length ≤ o.length := by
  by_cases h : o.length = 0
  · rw [h]; simp [lowIdx]
  · have := lowIdx_lt o o.length (by omega); omega
theorem mem_canon {o : List XY} {p : XY} : p ∈ canon o ↔ p ∈ o := mem_Rot

/-- every corner has all others to the left of the side behind it -/
def RG (o : List XY) : Prop := ∀ i k, 2 ≤ k → k < o.length → 0 < Cross (At o i) (At o (i + 1)) (At o (i + k))
theorem mod_two {n i k : Nat} (h1 : i < n) (h2 : k < n) : (i + k) % n = if i + k < n then i + k else i + k - n := by
  split
  · exact Nat.mod_eq_of_lt (by assumption)
  · rw [Nat.mod_eq_sub_mod (by omega)]; exact Nat.mod_eq_of_lt (by omega)
theorem rglob_iff {o : List XY} (h3 : 3 ≤ o.length) : RGlob o ↔ RG o := by
  constructor
  · intro h i k h2 hk
    have hi := Nat.mod_lt i (show 0 < o.length by omega)
    have m1 := mod_two hi (show 1 < o.length by omega)
    have mk := mod_two hi hk
    have := h (i % o.length) hi ((i % o.length + k) % o.length) (Nat.mod_lt _ (by omega)) (by rw [mk]; split <;> omega) (by rw [mk, m1]; split <;> split <;> omega)
    rw [At_mod, At_mod, At_congr o (show (i % o.length + 1) % o.length = (i + 1) % o.length by rw [Nat.mod_add_mod]), At_congr o (show (i % o.length + k) % o.length = (i + k) % o.length by rw [Nat.mod_add_mod])] at this
    exact this
  · intro h i hi j hj h1 h2
    have m1 := mod_two hi (show 1 < o.length by omega)
    by_cases c : i < j
    · have := h i (j - i) (by split at m1 <;> omega) (by omega)
      rwa [show i + (j - i) = j by omega] at this
    · have := h i (j + o.length - i) (by split at m1 <;> omega) (by omega)
      rwa [show i + (j + o.length - i) = j + o.length by omega, At_per] at this

def Dist (o : List XY) : Prop := ∀ i j, i < o.length → j < o.length → X o i = X o j → i = j
theorem RG.dist {o : List XY} (h3 : 3 ≤ o.length) (h : RG o) : Dist o := by
  have key : ∀ i k, 0 < k → k < o.length → At o i ≠ At o (i + k) := by
    intro i k h0 hk he
    by_cases h1 : k = 1
    · subst h1
      have := h i 2 (by omega) (by omega)
      rw [← he] at this
      unfold Cross at this
      have e : ∀ a b c d : Int, (a - a) * b - (c - c) * d = 0 := by intro a b c d; simp
      rw [e] at this; omega
    · have := h i k (by omega) hk
      rw [← he] at this
      unfold Cross at this
      have e : ∀ a b c d : Int, (a - b) * (c - c) - (d - c) * (b - b) = 0 := by intro a b c d; simp
      rw [e] at this; omega
  intro i j hi hj he
  rcases Nat.lt_trichotomy i j with c | c | c
  · have := key i (j - i) (by omega) (by omega)
    rw [show i + (j - i) = j by omega, At_lt o hi, At_lt o hj] at this
    exact absurd he this
  · exact c
  · have := key j (i - j) (by omega) (by omega)
    rw [show j + (i - j) = i by omega, At_lt o hi, At_lt o hj] at this
    exact absurd he.symm this

theorem canon_Rot {o : List XY} (hd : Dist o) (h0 : 0 < o.length) {k : Nat} (hk : k ≤ o.length) : canon (Rot o k) = canon o := by
  have hl := Rot_length hk
  have hm := lowIdx_lt o o.length h0
  have hm' : lowIdx (Rot o k) (Rot o k).length < o.length := by have := lowIdx_lt (Rot o k) (Rot o k).length (by omega); omega
  obtain ⟨m, em⟩ : ∃ m, m = lowIdx o o.length := ⟨_, rfl⟩
  obtain ⟨m', em'⟩ : ∃ m', m' = lowIdx (Rot o k) (Rot o k).length := ⟨_, rfl⟩
  have l1 := lowIdx_least o o.length
  have l2 := lowIdx_least (Rot o k) (Rot o k).length
  rw [← em] at hm l1
  rw [← em'] at hm' l2
  have e1 : X (Rot o k) m' = X o ((k + m') % o.length) := by rw [X_Rot hk hm', At_X o h0]
  have e2 : X (Rot o k) ((m + o.length - k) % o.length) = X o m := by
    rw [X_Rot hk (Nat.mod_lt _ h0), ← At_lt o hm]
    apply At_congr
    rw [Nat.add_mod_mod, show k + (m + o.length - k) = m + o.length by omega, Nat.add_mod_right]
  have n1 := l1 ((k + m') % o.length) (Nat.mod_lt _ h0)
  have n2 := l2 ((m + o.length - k) % o.length) (by rw [hl]; exact Nat.mod_lt _ h0)
  rw [e2, e1] at n2
  have he : X o ((k + m') % o.length) = X o m := by
    rcases low_total (X o ((k + m') % o.length)) (X o m) with c | c | c
    · exact absurd c n1
    · exact c
    · exact absurd c n2
  have hi := hd _ _ (Nat.mod_lt _ h0) hm he
  apply list_ext
  · rw [canon_length, canon_length, hl]
  · intro i h
    rw [canon_length, hl] at h
    rw [canon_get _ _ (by rw [hl]; exact h), canon_get _ _ h, ← em, ← em', At_Rot hk h0]
    apply At_congr
    rw [← Nat.add_assoc, ← Nat.mod_add_mod, hi]
theorem canon_canon {o : List XY} (hd : Dist o) (h0 : 0 < o.length) : canon (canon o) = canon o := canon_Rot hd h0 (lowIdx_le o)

theorem RG.rot {o : List XY} (h : RG o) {k : Nat} (hk : k ≤ o.length) : RG (Rot o k) := by
  intro i j h2 hj
  rw [Rot_length hk] at hj
  have h0 : 0 < o.length := by omega
  rw [At_Rot hk h0, At_Rot hk h0, At_Rot hk h0, ← Nat.add_assoc, ← Nat.add_assoc]
  exact h _ _ h2 hj
theorem X_map {o : List XY} (f : XY → XY) {i : Nat} (h : i < o.length) : X (o.map f) i = f (X o i) := by
  unfold X; rw [List.getElem?_map, List.getElem?_eq_getElem h]; rfl
theorem At_map {o : List XY} (f : XY → XY) (h0 : 0 < o.length) (i : Nat) : At (o.map f) i = f (At o i) := by
  rw [At_X _ (by rw [List.length_map]; exact h0), List.length_map, X_map f (Nat.mod_lt _ h0), At_X o h0]
theorem RG.map {o : List XY} (h : RG o) (f : XY → XY) (hf : ∀ a b c, Cross (f a) (f b) (f c) = Cross a b c) : RG (o.map f) := by
  intro i k h2 hk
  rw [List.length_map] at hk
  rw [At_map f (by omega), At_map f (by omega), At_map f (by omega), hf]
  exact h i k h2 hk
theorem X_rev {o : List XY} {i : Nat} (h : i < o.length) : X o.reverse i = X o (o.length - 1 - i) := by
  unfold X; rw [List.getElem?_reverse h]
theorem At_rev {o : List XY} (h0 : 0 < o.length) (i : Nat) : At o.reverse i = At o (o.length - 1 - i % o.length) := by
  have := Nat.mod_lt i h0
  rw [At_X _ (by rw [List.length_reverse]; exact h0), List.length_reverse, X_rev this, At_lt o (by omega)]
theorem At_rev_k {o : List XY} (h0 : 0 < o.length) (i k : Nat) (hk : k < o.length) : At o.reverse (i + k) = At o (2 * o.length - 1 - i % o.length - k) := by
  rw [At_rev h0]
  have hi := Nat.mod_lt i h0
  have m := mod_two hi hk
  rw [Nat.mod_add_mod] at m
  rw [m]
  split
  · rw [show 2 * o.length - 1 - i % o.length - k = (o.length - 1 - (i % o.length + k)) + o.length by omega, At_per]
  · congr 1; omega
theorem Cross_swap (a b c : XY) : Cross b a c = - Cross a b c := by unfold Cross; grind
theorem RG.rev {o : List XY} (h : RG o) (f : XY → XY) (hf : ∀ a b c, Cross (f a) (f b) (f c) = - Cross a b c) : RG (o.map f).reverse := by
  intro i k h2 hk
  rw [List.length_reverse, List.length_map] at hk
  have h0 : 0 < (o.map f).length := by rw [List.length_map]; omega
  have hl : (o.map f).length = o.length := List.length_map _
  have hi := Nat.mod_lt i (show 0 < o.length by omega)
  have a1 := At_rev_k h0 i 0 (by omega)
  have a2 := At_rev_k h0 i 1 (by omega)
  have a3 := At_rev_k h0 i k (by omega)
  rw [hl, At_map f (by omega)] at a1 a2 a3
  rw [Nat.add_zero] at a1
  rw [a1, a2, a3, hf]
  obtain ⟨a, ha⟩ : ∃ a, a = 2 * o.length - 1 - i % o.length - 1 := ⟨_, rfl⟩
  have := h a (o.length + 1 - k) (by omega) (by omega)
  rw [show a + (o.length + 1 - k) = (2 * o.length - 1 - i % o.length - k) + o.length by omega, At_per] at this
  rw [show 2 * o.length - 1 - i % o.length - 0 = a + 1 by omega, ← ha, Cross_swap]
  omega

/-- a sum over the sides -/
def sumN (g : Nat → Int) : Nat → Int
  | 0 => 0
  | k + 1 => sumN g k + g k
theorem sumN_congr {g h : Nat → Int} (n : Nat) (e : ∀ i, i < n → g i = h i) : sumN g n = sumN h n := by
  induction n with
  | zero => rfl
  | succ n ih => rw [sumN, sumN, ih (fun i hi => e i (by omega)), e n (by omega)]
theorem sumN_first (g : Nat → Int) (n : Nat) : sumN g (n + 1) = g 0 + sumN (fun i => g (i + 1)) n := by
  induction n with
  | zero => simp [sumN]
  | succ n ih => rw [sumN, ih, sumN]; omega
theorem sumN_shift {g : Nat → Int} {n : Nat} (per : ∀ i, g (i + n) = g i) (k : Nat) : sumN (fun i => g (k + i)) n = sumN g n := by
  induction k with
  | zero => exact sumN_congr n fun i _ => by rw [Nat.zero_add]
  | succ k ih =>
    have h1 : sumN (fun i => g (k + i)) (n + 1) = sumN (fun i => g (k + i)) n + g (k + n) := rfl
    have h2 := sumN_first (fun i => g (k + i)) n
    have h3 : sumN (fun i => g (k + (i + 1))) n = sumN (fun i => g (k + 1 + i)) n := sumN_congr n fun i _ => by congr 1; omega
    have h4 := per k
    simp only [Nat.add_zero] at h2
    omega
theorem sumN_rev (g : Nat → Int) (n : Nat) : sumN (fun i => g (n - 1 - i)) n = sumN g n := by
  induction n generalizing g with
  | zero => rfl
  | succ n ih =>
    rw [sumN_first, sumN]
    have : sumN (fun i => g (n + 1 - 1 - (i + 1))) n = sumN (fun i => g (n - 1 - i)) n := sumN_congr n fun i _ => by congr 1; omega
    rw [this, ih]
    simp; omega
def sumE (F : XY → XY → Int) (o : List XY) : Int := sumN (fun i => F (At o i) (At o (i + 1))) o.length
theorem sumE_Rot (F : XY → XY → Int) {o : List XY} {k : Nat} (hk : k ≤ o.length) : sumE F (Rot o k) = sumE F o := by
  by_cases h0 : o.length = 0
  · unfold sumE; rw [Rot_length hk, h0]; rfl
  · unfold sumE
    rw [Rot_length hk, ← sumN_shift (g := fun i => F (At o i) (At o (i + 1))) (n := o.length) (fun i => by rw [show i + o.length + 1 = i + 1 + o.length by omega, At_per, At_per]) k]
    exact sumN_congr _ fun i _ => by rw [At_Rot hk (by omega), At_Rot hk (by omega), ← Nat.add_assoc]
theorem sumE_map (F G : XY → XY → Int) (f : XY → XY) (hF : ∀ a b, F (f a) (f b) = G a b) (o : List XY) : sumE F (o.map f) = sumE G o := by
  by_cases h0 : o.length = 0
  · unfold sumE; rw [List.length_map, h0]; rfl
  · unfold sumE
    rw [List.length_map]
    exact sumN_congr _ fun i _ => by rw [At_map f (by omega), At_map f (by omega), hF]
theorem sumE_rev (F G : XY → XY → Int) (hFG : ∀ a b, F a b = G b a) (o : List XY) : sumE F o.reverse = sumE G o := by
  by_cases h0 : o.length = 0
  · unfold sumE; rw [List.length_reverse, h0]; rfl
  · have h0 : 0 < o.length := by omega
    unfold sumE
    rw [List.length_reverse, ← sumN_shift (g := fun i => G (At o i) (At o (i + 1))) (n := o.length) (fun i => by rw [show i + o.length + 1 = i + 1 + o.length by omega, At_per, At_per]) (o.length - 1), ← sumN_rev]
    refine sumN_congr _ fun i hi => ?_
    obtain ⟨j, hj⟩ : ∃ j, j = o.length - 1 - i := ⟨_, rfl⟩
    rw [← hj, hFG]
    have hjl : j < o.length := by omega
    have a1 : At o.reverse j = At o (o.length - 1 + i + 1) := by
      have := At_rev_k h0 j 0 (by omega)
      rw [Nat.add_zero, Nat.mod_eq_of_lt hjl] at this
      rw [this]; congr 1; omega
    have a2 : At o.reverse (j + 1) = At o (o.length - 1 + i) := by
      by_cases c : 1 < o.length
      · rw [At_rev_k h0 j 1 c, Nat.mod_eq_of_lt hjl]; congr 1; omega
      · have : o.length = 1 := by omega
        rw [At_rev h0]; apply At_congr; rw [this]; omega
    rw [a1, a2]
theorem Rot_map (f : XY → XY) (o : List XY) (k : Nat) : (Rot o k).map f = Rot (o.map f) k := by
  unfold Rot; rw [List.map_append, List.map_drop, List.map_take]
theorem Rot_rev (o : List XY) {k : Nat} (hk : k ≤ o.length) : (Rot o k).reverse = Rot o.reverse (o.length - k) := by
  unfold Rot
  rw [List.reverse_append, List.drop_reverse, List.take_reverse, show o.length - (o.length - k) = k by omega]
/-- the greatest number f p of a list's places -/
def IsMax (l : List XY) (f : XY → Int) (m : Int) : Prop := (∀ p, p ∈ l → f p ≤ m) ∧ ∃ p, p ∈ l ∧ f p = m
theorem IsMax.unique {l : List XY} {f : XY → Int} {m n : Int} (h : IsMax l f m) (k : IsMax l f n) : m = n := by
  obtain ⟨h1, p, hp, rfl⟩ := h
  obtain ⟨k1, q, hq, rfl⟩ := k
  have := h1 q hq
  have := k1 p hp
  omega
theorem IsMax.of_mem {l l' : List XY} {f : XY → Int} {m : Int} (h : IsMax l f m) (hm : ∀ p, p ∈ l' ↔ p ∈ l) : IsMax l' f m := by
  obtain ⟨h1, p, hp, he⟩ := h
  exact ⟨fun q hq => h1 q ((hm q).1 hq), p, (hm p).2 hp, he⟩
theorem IsMax.map {l : List XY} {f g : XY → Int} {k : XY → XY} {m : Int} (h : IsMax l g m) (hf : ∀ p, f (k p) = g p) : IsMax (l.map k) f m := by
  obtain ⟨h1, p, hp, he⟩ := h
  refine ⟨fun q hq => ?_, k p, List.mem_map.2 ⟨p, hp, rfl⟩, by rw [hf]; exact he⟩
  obtain ⟨r, hr, rfl⟩ := List.mem_map.1 hq
  rw [hf]; exact h1 r hr
theorem IsMax.add {l : List XY} {f g : XY → Int} {m c : Int} (h : IsMax l f m) (hg : ∀ p, g p = f p + c) : IsMax l g (m + c) := by
  obtain ⟨h1, p, hp, he⟩ := h
  exact ⟨fun q hq => by rw [hg]; have := h1 q hq; omega, p, hp, by rw [hg, he]⟩
theorem areaK_sum (o : List XY) (k : Nat) : areaK o k = sumN (fun i => cr (At o i) (At o (i + 1))) k := by
  induction k with
  | zero => rfl
  | succ k ih => rw [areaK, sumN, ih]
theorem area_sumE (o : List XY) : areaK o o.length = sumE cr o := areaK_sum o _
end Go.Proofs.Ytlikmlhlfbdchaa.Geo
/- Outlines that are begun elsewhere, mirrored, moved or turned: they stay outlines, and what their measures are. -/
namespace Go.Proofs.Ytlikmlhlfbdchaa
open Go.RowKit

theorem valid_of_rg {l : List Geo.XY} (h3 : 3 ≤ l.length) (h64 : l.length ≤ 64) (hin : ∀ p, p ∈ l → Geo.In p) (h : Geo.RG l) : Valid l :=
  ⟨h3, h64, fun _ hk => hin _ (Geo.X_mem hk), (Geo.rglob_iff h3).2 h⟩
theorem Valid.rg {l : List Geo.XY} (h : Valid l) : Geo.RG l := (Geo.rglob_iff h.1).1 h.2.2.2
theorem Valid.mem_in {l : List Geo.XY} (h : Valid l) {p : Geo.XY} (hp : p ∈ l) : Geo.In p := by
  obtain ⟨i, hi, rfl⟩ := Geo.mem_X hp; exact h.2.2.1 i hi
theorem Valid.dist {l : List Geo.XY} (h : Valid l) : Geo.Dist l := h.rg.dist h.1
theorem Valid.rot {l : List Geo.XY} (h : Valid l) {k : Nat} (hk : k ≤ l.length) : Valid (Geo.Rot l k) :=
  valid_of_rg (by rw [Geo.Rot_length hk]; exact h.1) (by rw [Geo.Rot_length hk]; exact h.2.1) (fun _ hp => h.mem_in (Geo.mem_Rot.1 hp)) (h.rg.rot hk)
theorem Valid.canon {l : List Geo.XY} (h : Valid l) : Valid (Geo.canon l) := h.rot (Geo.lowIdx_le l)
theorem Valid.pos {l : List Geo.XY} (h : Valid l) : 0 < l.length := by have := h.1; omega
theorem Valid.neg {l : List Geo.XY} (h : Valid l) : Valid (l.map negXY) := by
  refine valid_of_rg (by rw [List.length_map]; exact h.1) (by rw [List.length_map]; exact h.2.1) (fun p hp => ?_) (h.rg.map negXY fun a b c => by unfold Geo.Cross negXY; grind)
  obtain ⟨q, hq, rfl⟩ := List.mem_map.1 hp
  have := h.mem_in hq
  unfold Geo.In negXY at *
  dsimp only
  omega
theorem Valid.mir {l : List Geo.XY} (h : Valid l) : Valid (mirL l) := by
  refine valid_of_rg (by rw [mirL_len]; exact h.1) (by rw [mirL_len]; exact h.2.1) (fun p hp => ?_) (h.rg.rev mirXY fun a b c => by unfold Geo.Cross mirXY; grind)
  obtain ⟨q, hq, rfl⟩ := List.mem_map.1 (List.mem_reverse.1 hp)
  have := h.mem_in hq
  unfold Geo.In mirXY at *
  dsimp only
  omega
theorem canon_same {l : List Geo.XY} (h : Valid l) : Geo.canon (Geo.canon l) = Geo.canon l := Geo.canon_canon h.dist h.pos
theorem canon_rot {l : List Geo.XY} (h : Valid l) {k : Nat} (hk : k ≤ l.length) : Geo.canon (Geo.Rot l k) = Geo.canon l := Geo.canon_Rot h.dist h.pos hk
theorem neg_neg_list (l : List Geo.XY) : (l.map negXY).map negXY = l := by
  rw [List.map_map]
  have : negXY ∘ negXY = id := by funext p; simp [negXY]
  rw [this, List.map_id]
theorem mir_mir_list (l : List Geo.XY) : mirL (mirL l) = l := by
  unfold mirL
  rw [List.map_reverse, List.reverse_reverse, List.map_map]
  have : mirXY ∘ mirXY = id := by funext p; simp [mirXY]
  rw [this, List.map_id]
theorem canon_neg_back {l : List Geo.XY} (h : Valid l) : Geo.canon ((Geo.canon (l.map negXY)).map negXY) = Geo.canon l := by
  have hk := Geo.lowIdx_le (l.map negXY)
  rw [Geo.canon_is (l.map negXY), Geo.Rot_map, neg_neg_list]
  rw [List.length_map] at hk ⊢
  exact canon_rot h hk
theorem canon_mir_back {l : List Geo.XY} (h : Valid l) : Geo.canon (mirL (Geo.canon (mirL l))) = Geo.canon l := by
  have hk := Geo.lowIdx_le (mirL l)
  rw [mirL_len] at hk
  have e : mirL (Geo.canon (mirL l)) = Geo.Rot l (l.length - Geo.lowIdx (mirL l) l.length) := by
    rw [Geo.canon_is, mirL_len]
    show ((Geo.Rot (mirL l) _).map mirXY).reverse = _
    rw [Geo.Rot_map, Geo.Rot_rev _ (by rw [List.length_map, mirL_len]; exact hk), List.length_map, mirL_len]
    show Geo.Rot (mirL (mirL l)) _ = _
    rw [mir_mir_list]
  rw [e]
  exact canon_rot h (by omega)

/- the measures -/
theorem area_canon (l : List Geo.XY) : Geo.areaK (Geo.canon l) (Geo.canon l).length = Geo.areaK l l.length := by
  rw [Geo.area_sumE, Geo.area_sumE, Geo.canon_is, Geo.sumE_Rot _ (Geo.lowIdx_le l)]
theorem area_neg (l : List Geo.XY) : Geo.areaK (l.map negXY) (l.map negXY).length = Geo.areaK l l.length := by
  rw [Geo.area_sumE, Geo.area_sumE]
  exact Geo.sumE_map _ _ _ (fun a b => by unfold Geo.cr negXY; grind) _
theorem area_mir (l : List Geo.XY) : Geo.areaK (mirL l) (mirL l).length = Geo.areaK l l.length := by
  rw [Geo.area_sumE, Geo.area_sumE]
  unfold mirL
  rw [Geo.sumE_rev Geo.cr (fun a b => Geo.cr b a) (fun _ _ => rfl)]
  exact Geo.sumE_map _ _ _ (fun a b => by unfold Geo.cr mirXY; grind) _

def sqE (a b : Geo.XY) : Nat := ((a.1 - b.1) * (a.1 - b.1) + (a.2 - b.2) * (a.2 - b.2)).toNat
theorem sqE_comm (a b : Geo.XY) : sqE a b = sqE b a := by unfold sqE; congr 1; grind
theorem low_sum (l : List Geo.XY) : (lowK l l.length : Int) = Geo.sumE (fun a b => (Geo.fsq (sqE a b) : Int)) l := by
  have : ∀ k, k ≤ l.length → (lowK l k : Int) = Geo.sumN (fun i => (Geo.fsq (sqE (Geo.At l i) (Geo.At l (i + 1))) : Int)) k := by
    intro k hk
    induction k with
    | zero => rfl
    | succ k ih =>
      have ih := ih (by omega)
      rw [lowK, Geo.sumN, ← ih, Geo.At_lt l (show k < l.length by omega), Geo.At_X l (by omega)]
      unfold sdSq sqE
      omega
  exact this _ (Nat.le_refl _)
theorem high_sum (l : List Geo.XY) : (highK l l.length : Int) = Geo.sumE (fun a b => (Geo.csq (sqE a b) : Int)) l := by
  have : ∀ k, k ≤ l.length → (highK l k : Int) = Geo.sumN (fun i => (Geo.csq (sqE (Geo.At l i) (Geo.At l (i + 1))) : Int)) k := by
    intro k hk
    induction k with
    | zero => rfl
    | succ k ih =>
      have ih := ih (by omega)
      rw [highK, Geo.sumN, ← ih, Geo.At_lt l (show k < l.length by omega), Geo.At_X l (by omega)]
      unfold sdSq sqE
      omega
  exact this _ (Nat.le_refl _)
theorem sumE_canon (F : Geo.XY → Geo.XY → Int) (l : List Geo.XY) : Geo.sumE F (Geo.canon l) = Geo.sumE F l := by
  rw [Geo.canon_is, Geo.sumE_Rot _ (Geo.lowIdx_le l)]
theorem around_canon (l : List Geo.XY) : lowK (Geo.canon l) (Geo.canon l).length = lowK l l.length ∧ highK (Geo.canon l) (Geo.canon l).length = highK l l.length := by
  constructor
  · have h1 := low_sum (Geo.canon l); rw [sumE_canon, ← low_sum] at h1; omega
  · have h1 := high_sum (Geo.canon l); rw [sumE_canon, ← high_sum] at h1; omega
theorem around_neg (l : List Geo.XY) : lowK (l.map negXY) (l.map negXY).length = lowK l l.length ∧ highK (l.map negXY) (l.map negXY).length = highK l l.length := by
  have e : ∀ a b, sqE (negXY a) (negXY b) = sqE a b := fun a b => by unfold sqE negXY; congr 1; grind
  constructor
  · have h1 := low_sum (l.map negXY)
    rw [Geo.sumE_map _ (fun a b => (Geo.fsq (sqE a b) : Int)) negXY (fun a b => by rw [e]) l, ← low_sum] at h1; omega
  · have h1 := high_sum (l.map negXY)
    rw [Geo.sumE_map _ (fun a b => (Geo.csq (sqE a b) : Int)) negXY (fun a b => by rw [e]) l, ← high_sum] at h1; omega
theorem around_mir (l : List Geo.XY) : lowK (mirL l) (mirL l).length = lowK l l.length ∧ highK (mirL l) (mirL l).length = highK l l.length := by
  have e : ∀ a b, sqE (mirXY a) (mirXY b) = sqE a b := fun a b => by unfold sqE mirXY; congr 1; grind
  constructor
  · have h1 := low_sum (mirL l)
    unfold mirL at h1 ⊢
    rw [Geo.sumE_rev _ (fun a b => (Geo.fsq (sqE a b) : Int)) (fun a b => by rw [sqE_comm]), Geo.sumE_map _ (fun a b => (Geo.fsq (sqE a b) : Int)) mirXY (fun a b => by rw [e]) l, ← low_sum] at h1; omega
  · have h1 := high_sum (mirL l)
    unfold mirL at h1 ⊢
    rw [Geo.sumE_rev _ (fun a b => (Geo.csq (sqE a b) : Int)) (fun a b => by rw [sqE_comm]), Geo.sumE_map _ (fun a b => (Geo.csq (sqE a b) : Int)) mirXY (fun a b => by rw [e]) l, ← high_sum] at h1; omega
theorem low_high (l : List Geo.XY) (k : Nat) : lowK l k ≤ highK l k ∧ highK l k ≤ lowK l k + k := by
  induction k with
  | zero => simp [lowK, highK]
  | succ k ih =>
    rw [lowK, highK]
    have h := Geo.fsq_of_csq (sdSq l k)
    have h2 : Geo.fsq (sdSq l k) ≤ Geo.csq (sdSq l k) ∧ Geo.csq (sdSq l k) ≤ Geo.fsq (sdSq l k) + 1 := by
      unfold Geo.csq; split <;> omega
    omega

/- the box -/
theorem low_max1 (l : List Geo.XY) (h0 : 0 < l.length) : Geo.IsMax l (fun p => -p.1) (-(lowP l l.length).1) := by
  have : ∀ k, k ≤ l.length → (∀ j, j < k → -(Geo.X l j).1 ≤ -(lowP l k).1) ∧ ∃ p, p ∈ l ∧ -p.1 = -(lowP l k).1 := by
    intro k hk
    induction k with
    | zero => exact ⟨fun j hj => by omega, Geo.X l 0, Geo.X_mem h0, rfl⟩
    | succ k ih =>
      obtain ⟨h1, p, hp, he⟩ := ih (by omega)
      rw [lowP]; unfold mnP
      dsimp only
      by_cases c : (Geo.X l k).1 < (lowP l k).1
      · rw [if_pos c]
        exact ⟨fun j hj => by by_cases e : j = k; (subst e; omega); (have := h1 j (by omega); omega), _, Geo.X_mem (by omega), rfl⟩
      · rw [if_neg c]
        exact ⟨fun j hj => by by_cases e : j = k; (subst e; omega); (have := h1 j (by omega); omega), p, hp, he⟩
  obtain ⟨h1, h2⟩ := this _ (Nat.le_refl _)
  exact ⟨fun p hp => by obtain ⟨i, hi, rfl⟩ := Geo.mem_X hp; exact h1 i hi, h2⟩
theorem low_max2 (l : List Geo.XY) (h0 : 0 < l.length) : Geo.IsMax l (fun p => -p.2) (-(lowP l l.length).2) := by
  have : ∀ k, k ≤ l.length → (∀ j, j < k → -(Geo.X l j).2 ≤ -(lowP l k).2) ∧ ∃ p, p ∈ l ∧ -p.2 = -(lowP l k).2 := by
    intro k hk
    induction k with
    | zero => exact ⟨fun j hj => by omega, Geo.X l 0, Geo.X_mem h0, rfl⟩
    | succ k ih =>
      obtain ⟨h1, p, hp, he⟩ := ih (by omega)
      rw [lowP]; unfold mnP
      dsimp only
      by_cases c : (Geo.X l k).2 < (lowP l k).2
      · rw [if_pos c]
        exact ⟨fun j hj => by by_cases e : j = k; (subst e; omega); (have := h1 j (by omega); omega), _, Geo.X_mem (by omega), rfl⟩
      · rw [if_neg c]
        exact ⟨fun j hj => by by_cases e : j = k; (subst e; omega); (have := h1 j (by omega); omega), p, hp, he⟩
  obtain ⟨h1, h2⟩ := this _ (Nat.le_refl _)
  exact ⟨fun p hp => by obtain ⟨i, hi, rfl⟩ := Geo.mem_X hp; exact h1 i hi, h2⟩
theorem high_max1 (l : List Geo.XY) (h0 : 0 < l.length) : Geo.IsMax l (fun p => p.1) ((highP l l.length).1) := by
  have : ∀ k, k ≤ l.length → (∀ j, j < k → (Geo.X l j).1 ≤ (highP l k).1) ∧ ∃ p, p ∈ l ∧ p.1 = (highP l k).1 := by
    intro k hk
    induction k with
    | zero => exact ⟨fun j hj => by omega, Geo.X l 0, Geo.X_mem h0, rfl⟩
    | succ k ih =>
      obtain ⟨h1, p, hp, he⟩ := ih (by omega)
      rw [highP]; unfold mxP
      dsimp only
      by_cases c : (highP l k).1 < (Geo.X l k).1
      · rw [if_pos c]
        exact ⟨fun j hj => by by_cases e : j = k; (subst e; omega); (have := h1 j (by omega); omega), _, Geo.X_mem (by omega), rfl⟩
      · rw [if_neg c]
        exact ⟨fun j hj => by by_cases e : j = k; (subst e; omega); (have := h1 j (by omega); omega), p, hp, he⟩
  obtain ⟨h1, h2⟩ := this _ (Nat.le_refl _)
  exact ⟨fun p hp => by obtain ⟨i, hi, rfl⟩ := Geo.mem_X hp; exact h1 i hi, h2⟩
theorem high_max2 (l : List Geo.XY) (h0 : 0 < l.length) : Geo.IsMax l (fun p => p.2) ((highP l l.length).2) := by
  have : ∀ k, k ≤ l.length → (∀ j, j < k → (Geo.X l j).2 ≤ (highP l k).2) ∧ ∃ p, p ∈ l ∧ p.2 = (highP l k).2 := by
    intro k hk
    induction k with
    | zero => exact ⟨fun j hj => by omega, Geo.X l 0, Geo.X_mem h0, rfl⟩
    | succ k ih =>
      obtain ⟨h1, p, hp, he⟩ := ih (by omega)
      rw [highP]; unfold mxP
      dsimp only
      by_cases c : (highP l k).2 < (Geo.X l k).2
      · rw [if_pos c]
        exact ⟨fun j hj => by by_cases e : j = k; (subst e; omega); (have := h1 j (by omega); omega), _, Geo.X_mem (by omega), rfl⟩
      · rw [if_neg c]
        exact ⟨fun j hj => by by_cases e : j = k; (subst e; omega); (have := h1 j (by omega); omega), p, hp, he⟩
  obtain ⟨h1, h2⟩ := this _ (Nat.le_refl _)
  exact ⟨fun p hp => by obtain ⟨i, hi, rfl⟩ := Geo.mem_X hp; exact h1 i hi, h2⟩
theorem canon_pos {l : List Geo.XY} (h0 : 0 < l.length) : 0 < (Geo.canon l).length := by rw [Geo.canon_length]; exact h0
theorem ends_canon {l : List Geo.XY} (h0 : 0 < l.length) : lowP (Geo.canon l) (Geo.canon l).length = lowP l l.length ∧ highP (Geo.canon l) (Geo.canon l).length = highP l l.length := by
  have a1 := (low_max1 _ (canon_pos h0)).unique ((low_max1 l h0).of_mem fun _ => Geo.mem_canon)
  have a2 := (low_max2 _ (canon_pos h0)).unique ((low_max2 l h0).of_mem fun _ => Geo.mem_canon)
  have a3 := (high_max1 _ (canon_pos h0)).unique ((high_max1 l h0).of_mem fun _ => Geo.mem_canon)
  have a4 := (high_max2 _ (canon_pos h0)).unique ((high_max2 l h0).of_mem fun _ => Geo.mem_canon)
  exact ⟨Prod.ext (by omega) (by omega), Prod.ext a3 a4⟩
theorem box_canon {l : List Geo.XY} (h0 : 0 < l.length) : boxA (Geo.canon l) = boxA l ∧ boxB (Geo.canon l) = boxB l := by
  unfold boxA boxB; rw [(ends_canon h0).1, (ends_canon h0).2]; exact ⟨rfl, rfl⟩
theorem box_neg {l : List Geo.XY} (h0 : 0 < l.length) : boxA (l.map negXY) = boxA l ∧ boxB (l.map negXY) = boxB l := by
  have h0' : 0 < (l.map negXY).length := by rw [List.length_map]; exact h0
  have a1 := (low_max1 _ h0').unique ((high_max1 l h0).map (f := fun p => -p.1) (k := negXY) fun p => by simp [negXY])
  have a2 := (low_max2 _ h0').unique ((high_max2 l h0).map (f := fun p => -p.2) (k := negXY) fun p => by simp [negXY])
  have a3 := (high_max1 _ h0').unique ((low_max1 l h0).map (f := fun p => p.1) (k := negXY) fun p => by simp [negXY])
  have a4 := (high_max2 _ h0').unique ((low_max2 l h0).map (f := fun p => p.2) (k := negXY) fun p => by simp [negXY])
  unfold boxA boxB; omega
theorem box_mir {l : List Geo.XY} (h0 : 0 < l.length) : boxA (mirL l) = boxA l ∧ boxB (mirL l) = boxB l := by
  have h0' : 0 < (mirL l).length := by rw [mirL_len]; exact h0
  have hm : ∀ p, p ∈ mirL l ↔ p ∈ l.map mirXY := fun p => List.mem_reverse
  have a1 := (low_max1 _ h0').unique (((high_max1 l h0).map (f := fun p => -p.1) (k := mirXY) fun p => by simp [mirXY]).of_mem hm)
  have a2 := (low_max2 _ h0').unique (((low_max2 l h0).map (f := fun p => -p.2) (k := mirXY) fun p => by simp [mirXY]).of_mem hm)
  have a3 := (high_max1 _ h0').unique (((low_max1 l h0).map (f := fun p => p.1) (k := mirXY) fun p => by simp [mirXY]).of_mem hm)
  have a4 := (high_max2 _ h0').unique (((high_max2 l h0).map (f := fun p => p.2) (k := mirXY) fun p => by simp [mirXY]).of_mem hm)
  unfold boxA boxB; omega
end Go.Proofs.Ytlikmlhlfbdchaa
namespace Go.Proofs.Ytlikmlhlfbdchaa
open Go.RowKit Go.Shelf

/-- the middle of the box, rounded down -/
def midP (l : List Geo.XY) : Geo.XY := (((lowP l l.length).1 + (highP l l.length).1) / 2, ((lowP l l.length).2 + (highP l l.length).2) / 2)

end Go.Proofs.Ytlikmlhlfbdchaa
namespace Go.Proofs.Ytlikmlhlfbdchaa
open Go.RowKit Go.Shelf

theorem sub_add (q : Geo.XY) : subXY q = addXY (-q.1, -q.2) := by
  funext p; unfold subXY addXY; ext <;> simp <;> omega
theorem rshifted_r (b off c : Nat) (l m : List Geo.XY) (dx dy : Int) (hm : l.map (addXY (dx, dy)) = m) (hq : (-20000 ≤ dx ∧ dx ≤ 20000) ∧ -20000 ≤ dy ∧ dy ≤ 20000) (h64 : l.length ≤ 64) (hin : AllIn l) (w : World) (hb : b < w.heap.size)
    (hc : ∀ k, k < l.length → w.cell? ⟨b, off + k * 2, none⟩ = some (.int .i64 (Geo.X l k).1) ∧ w.cell? ⟨b, off + k * 2 + 1, none⟩ = some (.int .i64 (Geo.X l k).2)) :
    Calls Try.prog 54 #[.slice (some ⟨b, off, none⟩) l.length c, .int .i64 dx, .int .i64 dy] w fun e w' => ∃ v, e = .returned v ∧ w'.ownsRow w.heap.size 76 2 v m.length (flat m) ∧ Below w.heap.size w w' := by
  subst hm; exact rshifted b off c l dx dy hq h64 hin w hb hc

end Go.Proofs.Ytlikmlhlfbdchaa
