/- ways, of the program. -/
import Derived.Test.YtfkhlglagokodaaA2
import Derived.Test.YtfkhlglagokodaaF1
import Derived.Laws.MakeOwn
namespace Go.Proofs.Ytfkhlglagokodaa
open Go.RowKit Go.Shelf

/-- block g is a row of n values said by a function f -/
def StF {α : Type} (t : TypeId) (mk : α → Value) (W : World) (g n : Nat) (f : Nat → α) : Prop := ∃ arr : Array Value, Blk W g t arr ∧ arr.size = n ∧ ∀ q, q < n → arr[q]? = some (mk (f q))
section
variable {α : Type} {t : TypeId} {mk : α → Value} {W W' : World} {g n : Nat} {f f' : Nat → α}
theorem StF.lt (h : StF t mk W g n f) : g < W.heap.size := by obtain ⟨arr, h1, _⟩ := h; exact h1.lt
theorem StF.cell (h : StF t mk W g n f) {q : Nat} (hq : q < n) : W.cell? ⟨g, q, none⟩ = some (mk (f q)) := by
  obtain ⟨arr, h1, h2, h3⟩ := h
  rw [h1.cell q, h3 q hq]
theorem StF.frozen (h : StF t mk W g n f) (q : Nat) : W.frozen? ⟨g, q, none⟩ = false := by obtain ⟨arr, h1, _⟩ := h; exact h1.frozen q
theorem StF.below {B : Nat} (h : StF t mk W g n f) (hb : Below B W W') (hg : g < B) : StF t mk W' g n f := by
  obtain ⟨arr, h1, h2, h3⟩ := h
  exact ⟨arr, h1.below hb hg, h2, h3⟩
theorem StF.alloc (h : StF t mk W g n f) (o : Obj) : StF t mk (W.alloc o) g n f := by
  obtain ⟨arr, h1, h2, h3⟩ := h
  exact ⟨arr, h1.alloc o, h2, h3⟩
theorem StF.set (h : StF t mk W g n f) (k : Nat) (v : α) (hv : ∀ q, q < n → f' q = if q = k then v else f q) : StF t mk (W.setCell ⟨g, k, none⟩ (mk v)) g n f' := by
  obtain ⟨arr, h1, h2, h3⟩ := h
  refine ⟨_, h1.set_ k _, by simpa using h2, fun q hq => ?_⟩
  rw [Array.getElem?_setIfInBounds, hv q hq]
  by_cases e : k = q
  · subst e
    rw [if_pos rfl, if_pos (by omega), if_pos rfl]
  · rw [if_neg e, h3 q hq, if_neg (fun e' => e e'.symm)]
theorem StF.far (h : StF t mk W g n f) {p : Addr} (hp : g ≠ p.block) (u : Value) : StF t mk (W.setCell p u) g n f := by
  obtain ⟨arr, h1, h2, h3⟩ := h
  exact ⟨arr, h1.far hp u, h2, h3⟩
theorem StF.congr (h : StF t mk W g n f) (hv : ∀ q, q < n → f' q = f q) : StF t mk W g n f' := by
  obtain ⟨arr, h1, h2, h3⟩ := h
  exact ⟨arr, h1, h2, fun q hq => by rw [h3 q hq, hv q hq]⟩
theorem StF.new (w : World) (n : Nat) (t : TypeId) (mk : α → Value) (z : α) : StF t mk (w.alloc (.cells (madeCells #[mk z] n) t)) w.heap.size n (fun _ => z) := by
  refine ⟨_, Blk.new w _ _, size_madeCells _ _, fun q hq => ?_⟩
  rw [Array.getElem?_eq_getElem (by rw [size_madeCells]; exact hq)]
  simp [madeCells, Nat.mod_one]
end
abbrev StN := StF 3 (fun n : Nat => Value.int .i64 (n : Int))
abbrev StB := StF 4 Value.bool
theorem info3f : (Try.prog.info? 3).map (fun i => (i.zero, i.size, i.bytes)) = some (some (.int .i64 0), 1, 8) := by kernel_rfl
theorem info4f : (Try.prog.info? 4).map (fun i => (i.zero, i.size, i.bytes)) = some (some (.bool false), 1, 1) := by kernel_rfl
theorem info_parts {e : TypeId} {z : Value} {s b : Nat} (h : (Try.prog.info? e).map (fun i => (i.zero, i.size, i.bytes)) = some (some z, s, b)) : ∃ i, Try.prog.info? e = some i ∧ i.zero = some z ∧ i.size = s ∧ i.bytes = b := by
  cases hi : Try.prog.info? e with
  | none => rw [hi] at h; cases h
  | some i =>
    rw [hi] at h
    simp at h
    exact ⟨i, rfl, h.1, h.2.1, h.2.2⟩

set_option maxRecDepth 100000 in
set_option maxHeartbeats 4000000 in
theorem ways_b (L b s : Nat) (hL : L ≤ 60) (hb : b ≤ L) (hs : s ≤ L) (w : World) :
    Calls Try.prog 50 #[.int .i64 L, .int .i64 b, .int .i64 s] w fun e w' => ∃ g, w.heap.size ≤ g ∧ e = .returned (.slice (some ⟨g, 0, none⟩) (s + 1) (s + 1)) ∧ StN w' g (s + 1) (Pl.wy b (L - b) s) ∧ Below w.heap.size w w' := by
  obtain ⟨m, hm⟩ : ∃ m, L = b + m := ⟨L - b, by omega⟩
  have e1 : L - b = m := by omega
  rw [e1]
  have HC := Lib.hid (fun (n : Nat) (hn : n ≤ 60) (k : Nat) (w' : World) => choose_b n hn k _ (chz_nat n k) w')
  have HM := Lib.hid hm
  clear e1
  obtain ⟨i0, hi0, hz0, hn0, hy0⟩ := info_parts info3f
  have k0 : IntKind.i64.wrap ((s : Int) + 1) = ((s + 1 : Nat) : Int) := by rw [IntWalk.i64_in _ (by omega)]; omega
  have hmk := run_make w 33 3 i0 (.int .i64 0) Try.underlying33 hi0 hz0 .i64 .i64 ((s + 1 : Nat) : Int) ((s + 1 : Nat) : Int) (by omega) (by omega) (by rw [hy0]; omega) (by omega)
  rw [Int.toNat_natCast, hn0, Nat.mul_one] at hmk
  have hst := StF.new w (s + 1) 3 (fun n : Nat => Value.int .i64 (n : Int)) 0
  have hB0 := (Below.refl w.heap.size w).alloc (Nat.le_refl _) (.cells (madeCells #[.int .i64 0] (s + 1)) 3)
  have hgb : w.heap.size ≤ w.heap.size := Nat.le_refl _
  change Sem.run _ _ _ = Result.ok _ (w.alloc (.cells (madeCells #[.int .i64 0] (s + 1)) 3)) at hmk
  change StN (w.alloc (.cells (madeCells #[.int .i64 0] (s + 1)) 3)) w.heap.size (s + 1) (fun _ => 0) at hst
  obtain ⟨s1, hs1⟩ : ∃ s1, s + 1 = s1 := ⟨_, rfl⟩
  have HS1 := Lib.hid hs1
  rw [hs1] at hmk hst hB0 k0 ⊢
  generalize w.alloc (.cells (madeCells #[.int .i64 0] s1) 3) = w3 at *
  generalize hg : w.heap.size = g at *
  clear hi0 hz0 hn0 hy0 hs1
  go_enter Try.func50, Try.ntmps50
  go_wp2
  clear hmk k0
  go_loopw [8, 14] (fun _ j wr => ∃ i : Nat, ∃ u, i ≤ s1 ∧ j = .int .i64 i ∧ StN wr g s1 u ∧ Hid (∀ q, q < i → u q = Pl.wy b m s q) ∧ Below g w wr) (fun _ j _ => s1 - (intOf j).toNat)
  case atStart => exact ⟨0, _, Nat.zero_le _, rfl, hst, Lib.hid (fun q hq => absurd hq (Nat.not_lt_zero _)), hB0⟩
  case round =>
    clear hst hB0
    obtain ⟨i, u, hi, rfl, hst, hu, hB⟩ := hrel
    obtain ⟨wo, rfl⟩ : ∃ wo, wo = wr := ⟨_, rfl⟩
    by_cases hlt : i < s1
    · have hltI : (i : Int) < (s1 : Int) := by omega
      have his : i ≤ s := by have := HS1.out; omega
      have h60 : s1 ≤ 61 := by have := HS1.out; omega
      obtain ⟨r, hr⟩ : ∃ r, s = i + r := ⟨s - i, by omega⟩
      have HC1 := Lib.hid (HC.out b (by omega) i)
      have HC2 := Lib.hid (HC.out m (by omega) r)
      have hle := Pl.wy_le (b := b) (m := m) his
      have hbm := Pl.ch_le (n := b + m) (by omega) s
      have hW : Pl.wy b m s i = Pl.ch b i * Pl.ch m r := by show Pl.ch b i * Pl.ch m (s - i) = _; rw [show s - i = r from by omega]
      rw [hW] at hle
      have HW := Lib.hid hW
      generalize Pl.ch b i = X at *
      generalize Pl.ch m r = Y at *
      obtain ⟨Z, hZ⟩ : ∃ Z, X * Y = Z := ⟨_, rfl⟩
      rw [hZ] at hle HW
      have k1 : IntKind.i64.wrap ((L : Int) - (b : Int)) = (m : Int) := by rw [IntWalk.i64_in _ (by omega)]; omega
      have k2 : IntKind.i64.wrap ((s : Int) - (i : Int)) = (r : Int) := by rw [IntWalk.i64_in _ (by omega)]; omega
      have bZ : (Z : Int) ≤ 118264581564861424 := by omega
      have k3 : IntKind.i64.wrap ((X : Int) * (Y : Int)) = (Z : Int) := by rw [← Int.natCast_mul, hZ, IntWalk.i64_in _ (by omega)]
      clear hm hr hle hbm hW hZ
      go_wp2_with fail
      refine (HC1.out _).mono ?_
      rintro e w1 ⟨rfl, hb1⟩
      have hB1 := hB.trans (hb1.mono (by have := hB.size; omega))
      have hst1 := hst.below hb1 hst.lt
      go_wp2_with fail
      refine (HC2.out _).mono ?_
      rintro e w2 ⟨rfl, hb2⟩
      have hB2 := hB1.trans (hb2.mono (by have := hB1.size; omega))
      have hst2 := hst1.below hb2 hst1.lt
      have q0 := hst2.cell hlt
      have f0 := hst2.frozen i
      clear hst hst1 HC1 HC2 hb1 hb2 hB hB1
      go_wp2
      go_roundw
      case rel =>
        refine ⟨i + 1, fun q => if q = i then Z else u q, by omega, by go_num, hst2.set i Z (fun q _ => rfl), Lib.hid (fun q hq => ?_), hB2.setCell (p := ⟨g, i, none⟩) (Nat.le_refl _) _⟩
        show (if q = i then Z else u q) = _
        by_cases e : q = i
        · rw [if_pos e, e, HW.out]
        · rw [if_neg e]; exact hu.out q (by omega)
      case measure => simp [intOf]; omega
    · obtain rfl : i = s1 := by omega
      go_wp2
      go_ret
      refine ⟨g, Nat.le_of_eq (by omega), rfl, hst.congr fun q hq => (hu.out q hq).symm, hB⟩
end Go.Proofs.Ytfkhlglagokodaa
