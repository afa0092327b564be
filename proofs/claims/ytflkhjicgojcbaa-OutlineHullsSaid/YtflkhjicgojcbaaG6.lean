/- Plain geometry: the steps of an outline are in the order of their directions; what supports it. It imports nothing of the program. -/
import Derived.Test.YtflkhjicgojcbaaG4
namespace Go.Proofs.Ytflkhjicgojcbaa.Geo

/-- an outline that begins with its lowest corner -/
structure Std (o : List XY) : Prop where
  h3 : 3 ≤ o.length
  rg : RG o
  lo : ∀ j, j < o.length → ¬ low (X o j) (X o 0)
theorem Std.pos {o : List XY} (h : Std o) : 0 < o.length := by have := h.h3; omega
theorem Std.hl {o : List XY} (h : Std o) (i : Nat) : 0 < cr (edge (At o) i) (edge (At o) (i + 1)) := by
  have := h.rg i 2 (by omega) (by have := h.h3; omega)
  rw [← turn_eq] at this
  exact this
theorem Std.per {o : List XY} (_h : Std o) (i : Nat) : edge (At o) (i + o.length) = edge (At o) i := edge_per (P := At o) (At_per o) i
theorem Std.nz {o : List XY} (h : Std o) (i : Nat) : Nz (edge (At o) i) := (cr_ne (h.hl i)).1
theorem Std.low0 {o : List XY} (h : Std o) {j : Nat} (h0 : 0 < j) (hj : j < o.length) : low (X o 0) (X o j) := by
  rcases low_total (X o 0) (X o j) with c | c | c
  · exact c
  · have := h.rg.dist h.h3 0 j h.pos hj c; omega
  · exact absurd c (h.lo j hj)
theorem Std.up0 {o : List XY} (h : Std o) : up (edge (At o) 0) := by
  have := h.low0 (j := 1) (by omega) (by have := h.h3; omega)
  rw [low_up] at this
  unfold edge
  rw [At_lt o h.pos, At_lt o (i := 0 + 1) (by have := h.h3; omega)]
  exact this
theorem Std.upn {o : List XY} (h : Std o) : ¬ up (edge (At o) (o.length - 1)) := by
  have h3 := h.h3
  have := h.low0 (j := o.length - 1) (by omega) (by omega)
  rw [low_up] at this
  have e : edge (At o) (o.length - 1) = neg (sub (X o (o.length - 1)) (X o 0)) := by
    unfold edge
    rw [show o.length - 1 + 1 = 0 + o.length by omega, At_per, At_lt o h.pos, At_lt o (i := o.length - 1) (by omega)]
    unfold sub neg; ext <;> simp <;> omega
  rw [e]
  exact up_not_neg this
theorem Std.upN {o : List XY} (h : Std o) : up (edge (At o) o.length) := by
  have := h.per 0
  rw [Nat.zero_add] at this
  rw [this]; exact h.up0
theorem R_mono (P : Nat → XY) (i k : Nat) : R P i ≤ R P (i + k) := by
  induction k with
  | zero => exact Nat.le_refl _
  | succ k ih => rw [← Nat.add_assoc, R]; omega
theorem Std.R0 {o : List XY} (h : Std o) {k : Nat} (hk : k < o.length) : R (At o) k = 0 := by
  have h3 := h.h3
  have hr := ((valid_iff o h3).2 ((rglob_iff h3).2 h.rg)).2
  rw [rds_n (At_per o) h.pos] at hr
  obtain ⟨m, hm⟩ : ∃ m, o.length = m + 1 := ⟨o.length - 1, by omega⟩
  have h1 := h.upN
  have h2 := h.upn
  rw [hm] at hr h1 h2
  rw [Nat.add_sub_cancel] at h2
  rw [R, if_pos ⟨h1, h2⟩] at hr
  have := R_mono (At o) k (m - k)
  rw [show k + (m - k) = m by omega] at this
  omega
theorem Std.sorted {o : List XY} (h : Std o) {i j : Nat} (hij : i < j) (hj : j < o.length) : ang (edge (At o) i) (edge (At o) j) := by
  have r1 := h.R0 (k := i) (by omega)
  have r2 := h.R0 hj
  have hle := H_le (At o) i (j - i)
  rw [show i + (j - i) = j by omega] at hle
  by_cases ui : up (edge (At o) i) <;> by_cases uj : up (edge (At o) j)
  · refine .inr ⟨⟨fun _ => uj, fun _ => ui⟩, ?_⟩
    have := chain_cr h.hl i (j - i - 1) (by
      rw [show i + (j - i - 1 + 1) = j by omega]; unfold Hh; rw [if_pos ui, if_pos uj, r1, r2])
    rwa [show i + (j - i - 1 + 1) = j by omega] at this
  · exact .inl ⟨ui, uj⟩
  · unfold Hh at hle; rw [if_neg ui, if_pos uj, r1, r2] at hle; omega
  · refine .inr ⟨⟨fun h => absurd h ui, fun h => absurd h uj⟩, ?_⟩
    have := chain_cr h.hl i (j - i - 1) (by
      rw [show i + (j - i - 1 + 1) = j by omega]; unfold Hh; rw [if_neg ui, if_neg uj, r1, r2])
    rwa [show i + (j - i - 1 + 1) = j by omega] at this

/-- the steps -/
def stepsL (o : List XY) : List XY := (List.range o.length).map fun i => edge (At o) i
theorem stepsL_len (o : List XY) : (stepsL o).length = o.length := by simp [stepsL]
theorem stepsL_get (o : List XY) {i : Nat} (h : i < o.length) : (stepsL o)[i]? = some (edge (At o) i) := by simp [stepsL, h]
theorem stepsL_mem {o : List XY} {a : XY} (h : a ∈ stepsL o) : ∃ i, i < o.length ∧ a = edge (At o) i := by
  obtain ⟨i, hi, rfl⟩ := List.mem_map.1 h
  exact ⟨i, List.mem_range.1 hi, rfl⟩
theorem stepsL_drop (o : List XY) {i : Nat} (h : i < o.length) : (stepsL o).drop i = edge (At o) i :: (stepsL o).drop (i + 1) := by
  have h' : i < (stepsL o).length := by rw [stepsL_len]; exact h
  rw [List.drop_eq_getElem_cons h']
  congr 1
  have := stepsL_get o h
  rw [List.getElem?_eq_getElem h'] at this
  exact Option.some.inj this
theorem mem_drop_steps {o : List XY} {a : XY} {i : Nat} (h : a ∈ (stepsL o).drop i) : ∃ k, i ≤ k ∧ k < o.length ∧ a = edge (At o) k := by
  obtain ⟨k, hk, he⟩ := List.getElem_of_mem h
  rw [List.length_drop, stepsL_len] at hk
  rw [List.getElem_drop] at he
  refine ⟨i + k, by omega, by omega, ?_⟩
  have := stepsL_get o (i := i + k) (by omega)
  rw [List.getElem?_eq_getElem (by rw [stepsL_len]; omega)] at this
  rw [← he]; exact Option.some.inj this
theorem Std.pw {o : List XY} (h : Std o) : (stepsL o).Pairwise ang := by
  rw [List.pairwise_iff_getElem]
  intro i j hi hj hij
  rw [stepsL_len] at hi hj
  have a := stepsL_get o hi
  have b := stepsL_get o hj
  rw [List.getElem?_eq_getElem (by rw [stepsL_len]; omega)] at a b
  rw [Option.some.inj a, Option.some.inj b]
  exact h.sorted hij hj
theorem ch_of {l : List XY} (h : ∀ i a b, l[i]? = some a → l[i + 1]? = some b → 0 < cr a b) : Ch l := by
  induction l with
  | nil => trivial
  | cons a l ih =>
    refine Ch.cons (fun c hc => h 0 a c rfl (by rw [List.getElem?_cons_succ, ← List.head?_eq_getElem?]; exact hc)) (ih fun i x y hx hy => h (i + 1) x y (by rw [List.getElem?_cons_succ]; exact hx) (by rw [List.getElem?_cons_succ]; exact hy))
theorem Std.ch {o : List XY} (h : Std o) : Ch (stepsL o) := ch_of fun i a b ha hb => by
  have h1 : i + 1 < o.length := by
    have := (List.getElem?_eq_some_iff.1 hb).1
    rw [stepsL_len] at this; exact this
  rw [stepsL_get o (by omega)] at ha
  rw [stepsL_get o h1] at hb
  rw [← Option.some.inj ha, ← Option.some.inj hb]
  exact h.hl i
theorem Std.mg {o p : List XY} (h : Std o) (k : Std p) : Mg (stepsL o) (stepsL p) := by
  refine ⟨h.pw, k.pw, h.ch, k.ch, fun a ha => ?_, fun a ha => ?_, fun a b ha hb => ?_⟩
  · obtain ⟨i, _, rfl⟩ := stepsL_mem ha; exact h.nz i
  · obtain ⟨i, _, rfl⟩ := stepsL_mem ha; exact k.nz i
  · rw [List.head?_eq_getElem?, stepsL_get o h.pos] at ha
    rw [List.head?_eq_getElem?, stepsL_get p k.pos] at hb
    have u1 := h.up0
    have u2 := k.up0
    rw [Option.some.inj ha] at u1
    rw [Option.some.inj hb] at u2
    exact ⟨fun _ h => absurd u2 h, fun _ h => absurd u1 h⟩

/-- corner i supports the outline in the direction z: all of it lies to the left -/
def Sup (o : List XY) (i : Nat) (z : XY) : Prop := ∀ q, q ∈ o → 0 ≤ cr z (sub q (At o i))
theorem cone {e0 e1 d z : XY} (hc : 0 < cr e0 e1) (h0 : 0 ≤ cr e0 d) (h1 : 0 ≤ cr e1 d) (f0 : 0 ≤ cr e0 z) (f1 : 0 ≤ cr z e1) : 0 ≤ cr z d := by
  have key : cr z d * cr e0 e1 = cr e0 d * cr z e1 + cr e1 d * cr e0 z := by unfold cr; grind
  have a := Int.mul_nonneg h0 f1
  have b := Int.mul_nonneg h1 f0
  refine Decidable.byContradiction fun hn => ?_
  have := Int.mul_neg_of_neg_of_pos (show cr z d < 0 by omega) hc
  omega
theorem RG.left {o : List XY} (h : RG o) (h3 : 3 ≤ o.length) (i : Nat) {q : XY} (hq : q ∈ o) : 0 ≤ cr (edge (At o) i) (sub q (At o i)) := by
  obtain ⟨j, hj, rfl⟩ := mem_X hq
  rw [← At_lt o hj]
  have hi := Nat.mod_lt i (show 0 < o.length by omega)
  obtain ⟨k, hk, he⟩ : ∃ k, k < o.length ∧ At o j = At o (i + k) := by
    by_cases c : i % o.length ≤ j
    · refine ⟨j - i % o.length, by omega, At_congr o ?_⟩
      rw [← Nat.mod_add_mod, show i % o.length + (j - i % o.length) = j by omega]
    · refine ⟨j + o.length - i % o.length, by omega, At_congr o ?_⟩
      rw [← Nat.mod_add_mod, show i % o.length + (j + o.length - i % o.length) = j + o.length by omega, Nat.add_mod_right]
  rw [he]
  by_cases k0 : k = 0
  · subst k0
    unfold sub cr; rw [Nat.add_zero]; simp
  · by_cases k1 : k = 1
    · subst k1
      unfold edge cr; simp only [Int.mul_comm]; omega
    · have := h i k (by omega) hk
      rw [Cross_cr] at this
      exact Int.le_of_lt this
theorem Std.sup {o : List XY} (h : Std o) {i : Nat} {z : XY} (f0 : 0 ≤ cr (edge (At o) (i + o.length - 1)) z) (f1 : 0 ≤ cr z (edge (At o) i)) : Sup o i z := by
  intro q hq
  have h3 := h.h3
  have hl := h.hl (i + o.length - 1)
  rw [show i + o.length - 1 + 1 = i + o.length by omega, h.per] at hl
  have l1 := h.rg.left h3 i hq
  have l2 := h.rg.left h3 (i + o.length - 1) hq
  refine cone hl ?_ l1 f0 f1
  have e : cr (edge (At o) (i + o.length - 1)) (sub q (At o (i + o.length - 1))) = cr (edge (At o) (i + o.length - 1)) (sub q (At o i)) + cr (edge (At o) (i + o.length - 1)) (edge (At o) (i + o.length - 1)) := by
    have e2 : edge (At o) (i + o.length - 1) = sub (At o i) (At o (i + o.length - 1)) := by
      unfold edge; rw [show i + o.length - 1 + 1 = i + o.length by omega, At_per]
    rw [e2]; unfold cr sub; grind
  rw [cr_self] at e
  omega
/-- the corner behind the steps ahead of z, in front of those behind it, supports it -/
theorem Std.sup_ale {o : List XY} (h : Std o) {i : Nat} (hi : i ≤ o.length) {z : XY} (nz : Nz z) (f0 : 0 < i → ale (edge (At o) (i - 1)) z) (f1 : i < o.length → ale z (edge (At o) i)) : Sup o i z := by
  have h3 := h.h3
  have hl := h.hl (i + o.length - 1)
  rw [show i + o.length - 1 + 1 = i + o.length by omega, h.per] at hl
  have n0 := h.nz (i + o.length - 1)
  have n1 := h.nz i
  obtain ⟨e0, he0⟩ : ∃ e, e = edge (At o) (i + o.length - 1) := ⟨_, rfl⟩
  obtain ⟨e1, he1⟩ : ∃ e, e = edge (At o) i := ⟨_, rfl⟩
  have g0 : 0 < i → ale e0 z := by
    intro h0
    rw [he0, show i + o.length - 1 = i - 1 + o.length by omega, h.per]
    exact f0 h0
  have d0 : i = 0 → ¬ up e0 := by
    rintro rfl
    rw [he0, Nat.zero_add]; exact h.upn
  have u1 : i = 0 → up e1 := by
    rintro rfl
    rw [he1]; exact h.up0
  have dn : i = o.length → ¬ up e0 ∧ up e1 := by
    intro hin
    refine ⟨?_, by rw [he1, hin]; exact h.upN⟩
    rw [he0, show i + o.length - 1 = o.length - 1 + o.length by omega, h.per]; exact h.upn
  suffices hs : 0 ≤ cr e0 z ∧ 0 ≤ cr z e1 from h.sup (by rw [← he0]; exact hs.1) (by rw [← he1]; exact hs.2)
  rw [← he0, ← he1] at hl
  rw [← he0] at n0
  rw [← he1] at n1 f1
  by_cases i0 : i = 0
  · have a1 := f1 (by omega)
    have b0 := d0 i0
    have b1 := u1 i0
    rcases a1 with ⟨_, a⟩ | ⟨a, c⟩
    · exact absurd b1 a
    · have uz := a.2 b1
      exact ⟨Int.le_of_lt (opp3 n1 nz n0 ⟨fun _ => uz, fun _ => b1⟩ ⟨fun _ => b0, fun _ => b1⟩ c hl), c⟩
  · have a0 := g0 (by omega)
    by_cases ino : i = o.length
    · obtain ⟨b0, b1⟩ := dn ino
      rcases a0 with ⟨a, _⟩ | ⟨a, c⟩
      · exact absurd a b0
      · have uz : ¬ up z := fun hz => b0 (a.2 hz)
        exact ⟨c, Int.le_of_lt (opp n0 nz n1 a ⟨fun h => absurd h b0, fun h => absurd b1 h⟩ c hl)⟩
    · have a1 := f1 (by omega)
      rcases a0 with ⟨a, b⟩ | ⟨a, c⟩
      · rcases a1 with ⟨a', b'⟩ | ⟨a', c'⟩
        · exact absurd a' b
        · have b1 : ¬ up e1 := fun h => b (a'.2 h)
          exact ⟨Int.le_of_lt (opp3 n1 nz n0 a'.symm ⟨fun h => absurd h b1, fun h => absurd a h⟩ c' hl), c'⟩
      · rcases a1 with ⟨a', b'⟩ | ⟨a', c'⟩
        · have b0 := a.2 a'
          exact ⟨c, Int.le_of_lt (opp n0 nz n1 a ⟨fun _ => b', fun _ => b0⟩ c hl)⟩
        · exact ⟨c, c'⟩
end Go.Proofs.Ytflkhjicgojcbaa.Geo
