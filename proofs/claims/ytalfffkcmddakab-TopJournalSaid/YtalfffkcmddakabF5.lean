/- Rows that a call owns: an element is set, the row is cut, the rest is cleared; differences and pairs as values. -/
import Derived.Test.YtalfffkcmddakabF4
import Derived.Test.YtalfffkcmddakabE2
import Derived.Test.YtalfffkcmddakabJP
namespace Go.Proofs.Ytalfffkcmddakab
open Go.RowKit Go.Shelf

/-- cells set one after the other -/
def setL : List Value → Nat → List Value → List Value
  | xs, _, [] => xs
  | xs, o, v :: r => setL (xs.set o v) (o + 1) r
theorem setL_len : ∀ (vs xs : List Value) (o : Nat), (setL xs o vs).length = xs.length
  | [], _, _ => rfl
  | v :: r, xs, o => by rw [setL, setL_len r, List.length_set]
theorem setL_get : ∀ (vs xs : List Value) (o t : Nat), t < xs.length → (setL xs o vs)[t]? = if o ≤ t ∧ t < o + vs.length then vs[t - o]? else xs[t]?
  | [], xs, o, t, _ => by rw [setL, if_neg (by simp)]
  | v :: r, xs, o, t, ht => by
    rw [setL, setL_get r _ _ _ (by rw [List.length_set]; exact ht), List.length_cons]
    by_cases h1 : t = o
    · subst h1
      rw [if_neg (by omega), if_pos (by omega), Nat.sub_self, List.getElem?_set_self ht]; rfl
    · by_cases h2 : o + 1 ≤ t ∧ t < o + 1 + r.length
      · rw [if_pos h2, if_pos (by omega), show t - o = (t - (o + 1)) + 1 by omega, List.getElem?_cons_succ]
      · rw [if_neg h2, if_neg (by omega), List.getElem?_set_ne (by omega)]
theorem setL_ge : ∀ (vs xs : List Value) (o : Nat), xs.length ≤ o → setL xs o vs = xs
  | [], _, _, _ => rfl
  | v :: r, xs, o, h => by rw [setL, List.set_eq_of_length_le h, setL_ge r xs (o + 1) (by omega)]
theorem Only.setCells (g : Nat) : ∀ (vs : List Value) (o : Nat) (w : World), Only g w (w.setCells g o vs)
  | [], _, w => Only.refl g w
  | v :: r, o, w => (Only.setCell g w o v).trans (Only.setCells g r (o + 1) _)
section
variable {α : Type} {enc : α → List Value} {k : Nat}
theorem setL_flt (E : Enc enc k) (X : List α) (i : Nat) (hi : i < X.length) (x : α) : setL (flt enc X) (i * k) (enc x) = flt enc (X.set i x) := by
  have hk := E.pos
  apply List.ext_getElem?
  intro t
  by_cases ht : t < X.length * k
  · rw [setL_get _ _ _ _ (by rw [flt_len E]; exact ht), E.len]
    have h1 : t / k < X.length := Nat.div_lt_of_lt_mul (by rw [Nat.mul_comm]; exact ht)
    have h2 : t % k < k := Nat.mod_lt _ hk
    have h3 : t / k * k + t % k = t := by rw [Nat.mul_comm]; exact Nat.div_add_mod t k
    have e1 := flt_get E (X.set i x) (t / k) (t % k) (by rw [List.length_set]; exact h1) h2
    have e2 := flt_get E X (t / k) (t % k) h1 h2
    rw [h3] at e1 e2
    rw [e1]
    by_cases h4 : i = t / k
    · subst h4
      rw [if_pos (by omega)]
      rw [List.getElem_set_self]
      congr 1; omega
    · rw [if_neg (fun h => h4 (by
        have h5 : t / k * k ≤ t := by omega
        rcases Nat.lt_or_ge i (t / k) with h' | h'
        · have : (i + 1) * k ≤ t / k * k := Nat.mul_le_mul_right k h'
          rw [Nat.add_mul] at this; omega
        · have h'' : t / k < i := by omega
          have : (t / k + 1) * k ≤ i * k := Nat.mul_le_mul_right k h''
          rw [Nat.add_mul] at this; omega)), e2]
      rw [List.getElem_set_ne h4]
  · rw [List.getElem?_eq_none (by rw [setL_len, flt_len E]; omega), List.getElem?_eq_none (by rw [flt_len E, List.length_set]; omega)]
theorem own_setCells {B g n c sz : Nat} {t : TypeId} : ∀ (vs : List Value) (o : Nat) (xs : List Value) (w : World), w.ownsRow B t sz (.slice (some ⟨g, 0, none⟩) n c) n xs → (w.setCells g o vs).ownsRow B t sz (.slice (some ⟨g, 0, none⟩) n c) n (setL xs o vs)
  | [], _, _, _, h => h
  | v :: r, o, _, _, h => own_setCells r (o + 1) _ _ (h.stored o v).1
/-- an element of an own row is set -/
theorem own_setK (E : Enc enc k) {w : World} {B g n c : Nat} {t : TypeId} {X : List α} (h : w.ownsRow B t k (.slice (some ⟨g, 0, none⟩) n c) n (flt enc X)) (hX : X.length = n) {i : Nat} (hi : i < n) (x : α) :
    (w.setCells g (i * k) (enc x)).ownsRow B t k (.slice (some ⟨g, 0, none⟩) n c) n (flt enc (X.set i x)) := by
  rw [← setL_flt E X i (by omega) x]
  exact own_setCells _ _ _ _ h
/-- the first elements of an own row -/
theorem own_take (E : Enc enc k) {w : World} {B g n c : Nat} {t : TypeId} {X : List α} (h : w.ownsRow B t k (.slice (some ⟨g, 0, none⟩) n c) n (flt enc X)) (hX : X.length = n) {i : Nat} (hi : i ≤ n) :
    w.ownsRow B t k (.slice (some ⟨g, 0, none⟩) i c) i (flt enc (X.take i)) := by
  obtain ⟨h0, h1⟩ := h
  rcases h1 with ⟨he, _⟩ | ⟨g', cap, cur, he, hg, hb, h1, h2, h3, h4⟩
  · cases he
  · cases he
    have hl : (flt enc (X.take i)).length = i * k := by rw [flt_len E, List.length_take]; congr 1; omega
    refine ⟨hl, .inr ⟨g, c, cur, rfl, hg, hb, by omega, h2, h3, ?_⟩⟩
    have e1 : flt enc X = flt enc (X.take i) ++ flt enc (X.drop i) := by rw [← flt_append, List.take_append_drop]
    have e2 : i * k ≤ n * k := Nat.mul_le_mul_right k hi
    have e3 : cur.toList.take (i * k) = (cur.toList.take (n * k)).take (i * k) := by rw [List.take_take, Nat.min_eq_left e2]
    rw [e3, h4, e1, ← hl, List.take_left]
/-- cells behind an own row -/
theorem own_behind {w : World} {B g n c : Nat} {t : TypeId} {X : List α} (h : w.ownsRow B t k (.slice (some ⟨g, 0, none⟩) n c) n (flt enc X)) (vs : List Value) : (w.setCells g (n * k) vs).ownsRow B t k (.slice (some ⟨g, 0, none⟩) n c) n (flt enc X) := by
  have := own_setCells vs (n * k) _ _ h
  rwa [setL_ge _ _ _ (by rw [h.1]; exact Nat.le_refl _)] at this
theorem own_there {w : World} {B g n c : Nat} {t : TypeId} {X : List α} (h : w.ownsRow B t k (.slice (some ⟨g, 0, none⟩) n c) n (flt enc X)) {o m : Nat} (hm : o + m ≤ n * k) : w.there g o m := fun j hj => by
  refine ⟨?_, h.frozenAt _⟩
  rw [h.cellAt (o + j) (by omega), List.getElem?_eq_getElem (by rw [h.1]; omega)]
  rfl
theorem own_rangeAt (E : Enc enc k) {w : World} {B g n c : Nat} {t : TypeId} {X : List α} (h : w.ownsRow B t k (.slice (some ⟨g, 0, none⟩) n c) n (flt enc X)) (hX : X.length = n) {i : Nat} (hi : i < n) : w.rangeAt g (i * k) (enc (X[i]'(by omega))) := fun j v hj => by
  have hjk : j < k := by
    rcases Nat.lt_or_ge j k with e | e
    · exact e
    · rw [List.getElem?_eq_none (by rw [E.len]; exact e)] at hj; cases hj
  have h1 : (i + 1) * k ≤ n * k := Nat.mul_le_mul_right k hi
  rw [Nat.add_mul] at h1
  rw [h.cellAt (i * k + j) (by omega), flt_get E X i j (by omega) hjk]
  exact hj
end
theorem rep_get {k j : Nat} (v : Value) (h : j < k) : (Array.replicate k v)[j]! = v := by
  rw [getElem!_pos _ _ (by simpa using h)]; simp
/-- clear of a slice whose elements are made of numbers alone -/
theorem run_clear_ints {P : Program} (w : World) (t e ty : TypeId) (zc : Array Value) (k : Nat) (ht : P.underlying t = some (.slice e)) (hv : ∀ w, (zeroValue e).run P w = .ok (.agg zc) w) (hz : zc = Array.replicate k (.int .i64 0)) (b o n c : Nat) (hn : 0 < n) (hth : w.there b o (n * k)) :
    (Builtin.clear_ #[t] ty #[.slice (some ⟨b, o, none⟩) n c]).run P w = .ok (.tuple #[]) (w.setCells b o (List.replicate (n * k) (.int .i64 0))) := by
  have hzc : (Builtin.zeroCells zc n).toList = List.replicate (n * k) (.int .i64 0) := by
    rw [hz]
    apply List.ext_getElem
    · simp [Builtin.zeroCells]
    · intro i h1 h2
      have hk : 0 < k := by
        rcases Nat.eq_zero_or_pos k with h | h
        · subst h; simp at h2
        · exact h
      simp [Builtin.zeroCells]
      exact rep_get _ (Nat.mod_lt _ hk)
  have hst := run_storeCells_cells (P := P) b o (List.replicate (n * k) (.int .i64 0)) 0 w (fun j hj => by simpa using (hth j (by simpa using hj)).1) (fun j hj => by simpa using (hth j (by simpa using hj)).2) (by intro v hv'; rw [List.eq_of_mem_replicate hv']; rfl)
  simp only [Nat.add_zero] at hst
  obtain ⟨m, rfl⟩ : ∃ m, n = m + 1 := ⟨n - 1, by omega⟩
  simp [Builtin.clear_, run_underlying ht, hv, Value.cells, hzc, hst]

/-- differences -/
abbrev dfA (d : Pl.Df) : Array Value := #[.int .i64 d.k, .int .i64 d.m.k, .int .i64 d.m.r, .int .i64 d.m.d, .int .i64 d.m.c, .int .i64 d.t.k, .int .i64 d.t.r, .int .i64 d.t.d, .int .i64 d.t.c]
abbrev dfL (d : Pl.Df) : List Value := [.int .i64 d.k, .int .i64 d.m.k, .int .i64 d.m.r, .int .i64 d.m.d, .int .i64 d.m.c, .int .i64 d.t.k, .int .i64 d.t.r, .int .i64 d.t.d, .int .i64 d.t.c]
theorem encDf : Enc dfL 9 where
  pos := by decide
  len _ := rfl
  one x v hv := by simp [dfL] at hv; rcases hv with rfl | rfl | rfl | rfl | rfl | rfl | rfl | rfl | rfl <;> rfl
theorem df_all (k : Pl.Df) : (dfA k).all (·.oneCell') = true := by simp [Value.oneCell']
theorem dfL_one (d : Pl.Df) : ∀ v ∈ dfL d, v.oneCell' = true := encDf.one d
section
variable {ops : Array Oper} {rest : List Oper} {o : Oper} {a : Act} {w : World} {Q : Exit → Act → World → Prop} {b off : Nat}
end
/-- pairs of numbers -/
abbrev prA (d : Int × Int) : Array Value := #[.int .i64 d.1, .int .i64 d.2]
abbrev prL (d : Int × Int) : List Value := [.int .i64 d.1, .int .i64 d.2]
theorem encPr : Enc prL 2 where
  pos := by decide
  len _ := rfl
  one x v hv := by simp [prL] at hv; rcases hv with rfl | rfl <;> rfl
theorem prL_one (d : Int × Int) : ∀ v ∈ prL d, v.oneCell' = true := encPr.one d
end Go.Proofs.Ytalfffkcmddakab
