/- Rows of elements of k cells each: as a list of cells, in memory, owned. -/
import Derived.Test.YtbdnocijhbkclaaGreatDoorH0
import Derived.OwnWalk
namespace Go.Proofs.YtbdnocijhbkclaaGreatDoor
open Go.RowKit Go.Shelf

/-- nothing has turned but block g, and no block is new -/
structure Only (g : Nat) (w w' : World) : Prop where
  os : w'.os = w.os
  tape : w'.tape = w.tape
  output : w'.output = w.output
  size : w'.heap.size = w.heap.size
  block : ∀ k, k ≠ g → w'.heap[k]? = w.heap[k]?
theorem Only.refl (g : Nat) (w : World) : Only g w w := ⟨rfl, rfl, rfl, rfl, fun _ _ => rfl⟩
theorem Only.trans {g : Nat} {w w' w'' : World} (h : Only g w w') (k : Only g w' w'') : Only g w w'' := ⟨k.os.trans h.os, k.tape.trans h.tape, k.output.trans h.output, k.size.trans h.size, fun j hj => (k.block j hj).trans (h.block j hj)⟩
theorem Only.setRow (g : Nat) (w : World) (cs : Array Value) : Only g w (w.setRow g cs) := ⟨rfl, rfl, rfl, by simp [World.setRow], fun k hk => setRow_other w g k cs hk⟩
theorem Only.setCell (g : Nat) (w : World) (i : Nat) (u : Value) : Only g w (w.setCell ⟨g, i, none⟩ u) := ⟨rfl, rfl, rfl, by simp [World.setCell], fun k hk => Below.heap_setCell w ⟨g, i, none⟩ u k hk⟩
theorem Only.below {g B : Nat} {w w' : World} (h : Only g w w') (hB : B ≤ g) : Below B w w' := ⟨h.os, h.tape, h.output, by rw [h.size]; exact Nat.le_refl _, fun k hk => h.block k (by omega)⟩

section
variable {α : Type} (enc : α → List Value) (k : Nat)
/-- how elements are written: k cells each, each of one cell -/
structure Enc : Prop where
  pos : 0 < k
  len : ∀ x, (enc x).length = k
  one : ∀ x, ∀ v ∈ enc x, v.oneCell' = true
/-- the cells of a list -/
def flt (xs : List α) : List Value := xs.flatMap enc
end
section
variable {α : Type} {enc : α → List Value} {k : Nat}
theorem flt_nil : flt enc [] = [] := rfl
theorem flt_append (xs ys : List α) : flt enc (xs ++ ys) = flt enc xs ++ flt enc ys := List.flatMap_append
theorem flt_cons (x : α) (ys : List α) : flt enc (x :: ys) = enc x ++ flt enc ys := List.flatMap_cons
theorem flt_one (x : α) : flt enc [x] = enc x := by simp [flt]
theorem flt_len (E : Enc enc k) (xs : List α) : (flt enc xs).length = xs.length * k := by
  induction xs with
  | nil => simp [flt]
  | cons x xs ih => rw [flt_cons, List.length_append, ih, E.len, List.length_cons, Nat.add_mul]; omega
theorem flt_get (E : Enc enc k) : ∀ (xs : List α) (i j : Nat) (hi : i < xs.length), j < k → (flt enc xs)[i * k + j]? = (enc xs[i])[j]?
  | x :: xs, 0, j, _, hj => by
    rw [flt_cons, List.getElem?_append_left (by rw [E.len]; omega), Nat.zero_mul, Nat.zero_add]; rfl
  | x :: xs, i + 1, j, hi, hj => by
    rw [flt_cons, List.getElem?_append_right (by rw [E.len, Nat.add_mul]; omega), E.len, show (i + 1) * k + j - k = i * k + j from by rw [Nat.add_mul]; omega]
    exact flt_get E xs i j (by simpa using hi) hj
theorem flt_one' (E : Enc enc k) (xs : List α) : ∀ u ∈ flt enc xs, u.oneCell' = true := by
  intro u hu
  obtain ⟨x, _, hx⟩ := List.mem_flatMap.1 hu
  exact E.one x u hx
/-- a slice that lies in memory -/
def Rows (enc : α → List Value) (k : Nat) (W : World) (A : Option Addr) (xs : List α) : Prop :=
  xs = [] ∨ ∃ b off, A = some ⟨b, off, none⟩ ∧ b < W.heap.size ∧ ∀ (i : Nat) (hi : i < xs.length), W.rangeAt b (off + i * k) (enc xs[i])
theorem Rows.nil (W : World) (A : Option Addr) : Rows enc k W A [] := .inl rfl
theorem Rows.below {W W' : World} {A : Option Addr} {xs : List α} (h : Rows enc k W A xs) (hb : Below W.heap.size W W') : Rows enc k W' A xs := by
  rcases h with h | ⟨b, off, h1, h2, h3⟩
  · exact .inl h
  · exact .inr ⟨b, off, h1, Nat.lt_of_lt_of_le h2 hb.size, fun i hi => rangeAt_below (h3 i hi) h2 hb⟩
theorem Rows.open {W : World} {A : Option Addr} {xs : List α} (h : Rows enc k W A xs) (h0 : 0 < xs.length) :
    ∃ b off, A = some ⟨b, off, none⟩ ∧ b < W.heap.size ∧ ∀ (i : Nat) (hi : i < xs.length), W.rangeAt b (off + i * k) (enc xs[i]) := by
  rcases h with h | h
  · rw [h] at h0; simp at h0
  · exact h
/-- the rest behind the first -/
theorem Rows.tail {W : World} {b off : Nat} {x : α} {xs : List α} (h : Rows enc k W (some ⟨b, off, none⟩) (x :: xs)) : Rows enc k W (some ⟨b, off + k, none⟩) xs := by
  rcases h with h | ⟨b', off', h1, h2, h3⟩
  · cases h
  · cases h1
    refine .inr ⟨b, off + k, rfl, h2, fun i hi => ?_⟩
    have := h3 (i + 1) (by simp; omega)
    rw [show off + (i + 1) * k = off + k + i * k from by rw [Nat.add_mul]; omega] at this
    exact this
theorem rows_of_owns (E : Enc enc k) {W : World} {base : Nat} {t : TypeId} {v : Value} {xs : List α} (h : W.ownsRow base t k v xs.length (flt enc xs)) :
    ∃ A c, v = .slice A xs.length c ∧ Rows enc k W A xs ∧ xs.length ≤ c ∧ c ≤ maxLen := by
  have hh := h
  rcases h with ⟨_, ⟨rfl, h0⟩ | ⟨g, cap, cur, rfl, hg, hcell, hle, hcm, _⟩⟩
  · exact ⟨none, 0, by rw [h0], .inl (List.length_eq_zero_iff.1 h0), by omega, by unfold maxLen; omega⟩
  · refine ⟨some ⟨g, 0, none⟩, cap, rfl, .inr ⟨g, 0, rfl, ?_, fun i hi j u hj => ?_⟩, hle, hcm⟩
    · rcases Nat.lt_or_ge g W.heap.size with h | h
      · exact h
      · rw [Array.getElem?_eq_none h] at hcell; cases hcell
    · have hjk : j < k := by
        rcases Nat.lt_or_ge j k with e | e
        · exact e
        · rw [List.getElem?_eq_none (by rw [E.len]; exact e)] at hj; cases hj
      have hlt : i * k + j < xs.length * k := by
        have : (i + 1) * k ≤ xs.length * k := Nat.mul_le_mul_right k hi
        rw [Nat.add_mul] at this
        omega
      have c1 := hh.cellAt (i * k + j) hlt
      rw [flt_get E xs i j hi hjk] at c1
      rw [Nat.zero_add]
      exact c1.trans hj
theorem rows_cells (E : Enc enc k) {W : World} {b off : Nat} {xs : List α} (h : ∀ (i : Nat) (hi : i < xs.length), W.rangeAt b (off + i * k) (enc xs[i])) : ∀ j u, (flt enc xs)[j]? = some u → W.cell? ((⟨b, off, none⟩ : Addr).add j) = some u := by
  intro j u hj
  have hlt : j < xs.length * k := by
    rw [← flt_len E xs]
    rcases Nat.lt_or_ge j (flt enc xs).length with e | e
    · exact e
    · rw [List.getElem?_eq_none e] at hj; cases hj
  have hk := E.pos
  have h1 : j / k < xs.length := Nat.div_lt_of_lt_mul (by rw [Nat.mul_comm]; exact hlt)
  have h2 : j % k < k := Nat.mod_lt _ hk
  have h3 : j / k * k + j % k = j := by rw [Nat.mul_comm]; exact Nat.div_add_mod j k
  rw [← h3, flt_get E xs _ _ h1 h2] at hj
  have h4 := h _ h1 _ _ hj
  rw [Nat.add_assoc, h3] at h4
  rw [show (⟨b, off, none⟩ : Addr).add j = ⟨b, off + j, none⟩ from by cases j <;> simp [Addr.add]]
  exact h4
theorem new_cells (W : World) (t : TypeId) (cs : List Value) : ∀ j u, cs[j]? = some u → (W.alloc (.cells cs.toArray t)).cell? ((⟨W.heap.size, 0, none⟩ : Addr).add j) = some u := by
  intro j u hj
  rw [show (⟨W.heap.size, 0, none⟩ : Addr).add j = ⟨W.heap.size, j, none⟩ from by cases j <;> simp [Addr.add], (Blk.new W t cs.toArray).cell j]
  simpa using hj
theorem new_cells' {n : Nat} (W : World) (t : TypeId) (cs : List Value) (hn : W.heap.size = n) : ∀ j u, cs[j]? = some u → (W.alloc (.cells cs.toArray t)).cell? ((⟨n, 0, none⟩ : Addr).add j) = some u := by
  subst hn; exact new_cells W t cs
theorem own_keep {w w' : World} {B : Nat} {t : TypeId} {v : Value} {n : Nat} {xs : List Value} (h : w.ownsRow B t k v n xs) (hb : Below w.heap.size w w') : w'.ownsRow B t k v n xs :=
  h.kept (grown_none hb) (by cases v.ownBlock <;> simp)

end
/-- the cell of a number -/
abbrev irc (i : Nat) : List Value := [.int .i64 i]
theorem encIr : Enc irc 1 where
  pos := by decide
  len _ := rfl
  one x v hv := by simp [irc] at hv; rw [hv]; rfl
/-- a number, a truth value as it came in -/
abbrev inL (x : Int) : List Value := [.int .i64 x]
theorem encIn : Enc inL 1 where
  pos := by decide
  len _ := rfl
  one x v hv := by simp [inL] at hv; subst hv; rfl
abbrev boL (x : Bool) : List Value := [.bool x]
theorem encBo : Enc boL 1 where
  pos := by decide
  len _ := rfl
  one x v hv := by simp [boL] at hv; subst hv; rfl
theorem own_mono {w : World} {B C : Nat} {t : TypeId} {k n : Nat} {v : Value} {xs : List Value} (h : w.ownsRow B t k v n xs) (hb : C ≤ B) : w.ownsRow C t k v n xs := by
  obtain ⟨h0, h1⟩ := h
  rcases h1 with h1 | ⟨g, cap, cur, he, hg, h2⟩
  · exact ⟨h0, .inl h1⟩
  · exact ⟨h0, .inr ⟨g, cap, cur, he, Nat.le_trans hb hg, h2⟩⟩
end Go.Proofs.YtbdnocijhbkclaaGreatDoor
