/- Lists of lists that the call makes: one more list, one more element in a list. -/
import Derived.Test.YtlfbfdhdkccaeaaGreatW1
import Derived.Maps.AppendAt
import Derived.Laws.AppendOwnNone
namespace Go.Proofs.YtlfbfdhdkccaeaaGreat
open Go.RowKit Go.Shelf

/-- append to what the call has made, with the word on where the result lies -/
theorem wpList_append_at {P : Program} {w : World} {ops : Array Oper} {rest : List Oper} {o : Oper} {a : Act} {Q : Exit → Act → World → Prop} (hgd : o.guard = none) (s x : Operand) (t : TypeId)
    (ho : o.op = .call { callee := .builtin .append, args := #[s, x], argTypes := #[t, t] })
    (base : Nat) (e : TypeId) (i : TypeInfo) (z : Value) (size bytes : Nat) (ht : P.underlying t = some (.slice e)) (hi : P.info? e = some i) (hz : i.zero = some z)
    (hsize : i.size = size) (hby : i.bytes = bytes) (hzs : z.cells.size = size) (hsz : 0 < size)
    (v : Value) (n : Nat) (xs : List Value) (hs : a.eval s = v) (hown : w.ownsRow base e size v n xs)
    (ad : Addr) (m c : Nat) (news : List Value) (hx : a.eval x = .slice (some ad) m c) (hl : news.length = m * size) (hnews : ∀ j u, news[j]? = some u → w.cell? (ad.add j) = some u) (h1 : ∀ u ∈ news, u.oneCell' = true)
    (h63 : n + m ≤ maxLen) (hbytes : (n + m) * bytes ≤ 140737488355328) (hbase : base ≤ w.heap.size)
    (h : ∀ v' w', w'.ownsRow base e size v' (n + m) (xs ++ news) → w.grownBy w' v.ownBlock → (v'.ownBlock = v.ownBlock ∨ v'.ownBlock = some w.heap.size) → wpList P ops Q rest (a.put o.dst v') w') : wpList P ops Q (o :: rest) a w := by
  refine wpList_plain hgd fun K hK => ?_
  obtain ⟨v', w', hr, h2, h3, _, h4⟩ := run_append_own_at (P := P) w base t o.type e i z size bytes ht hi hz hsize hby hzs hsz v n xs hown ad m c news hl hnews h1 h63 hbytes hbase
  unfold Oper.wp
  simp [execOp, ho, resolve, invoke, builtin, hs, hx, hr, Result.andThen]
  exact hK _ _ (h v' w' h2 h3 h4)

section
variable {α : Type} (to ti : TypeId) (enc : α → List Value) (k : Nat)
/-- the call's own list v of lists: list j is the slice f j -/
structure Rws (W : World) (B : Nat) (v : Value) (f : Nat → Value) (rows : List (List α)) : Prop where
  own : W.ownsRow B to 1 v rows.length ((List.range rows.length).map f)
  row : ∀ j, j < rows.length → W.ownsRow B ti k (f j) (rows.getD j []).length (flt enc (rows.getD j []))
  apart : ∀ i j, i < rows.length → j < rows.length → i ≠ j → (f i).ownBlock = none ∨ (f i).ownBlock ≠ (f j).ownBlock
  far : ∀ j, j < rows.length → (f j).ownBlock = none ∨ (f j).ownBlock ≠ v.ownBlock
end
section
variable {α : Type} {to ti : TypeId} {enc : α → List Value} {k : Nat} {W W1 W2 : World} {B : Nat} {v v' : Value} {f : Nat → Value} {rows : List (List α)}
theorem Rws.kept {W' : World} {b : Option Nat} (h : Rws to ti enc k W B v f rows) (hg : W.grownBy W' b) (h0 : v.ownBlock = none ∨ v.ownBlock ≠ b) (h1 : ∀ j, j < rows.length → (f j).ownBlock = none ∨ (f j).ownBlock ≠ b) : Rws to ti enc k W' B v f rows :=
  ⟨h.own.kept hg h0, fun j hj => (h.row j hj).kept hg (h1 j hj), h.apart, h.far⟩
theorem Rws.below {W' : World} (h : Rws to ti enc k W B v f rows) (hb : Below W.heap.size W W') : Rws to ti enc k W' B v f rows :=
  ⟨own_keep h.own hb, fun j hj => own_keep (h.row j hj) hb, h.apart, h.far⟩
theorem Rws.nil (W : World) (B : Nat) (f : Nat → Value) : Rws to ti enc k W B (.slice none 0 0) f ([] : List (List α)) :=
  ⟨World.ownsRow_nil _ _ _ _, fun _ hj => absurd hj (Nat.not_lt_zero _), fun _ _ hi => absurd hi (Nat.not_lt_zero _), fun _ hj => absurd hj (Nat.not_lt_zero _)⟩
theorem Rws.mono {C : Nat} (h : Rws to ti enc k W B v f rows) (hb : C ≤ B) : Rws to ti enc k W C v f rows :=
  ⟨own_mono h.own hb, fun j hj => own_mono (h.row j hj) hb, h.apart, h.far⟩
/-- one more list, with nothing in it -/
theorem Rws.push (h : Rws to ti enc k W B v f rows) {n : Nat} (hn : rows.length = n) (ho : W1.ownsRow B to 1 v' (n + 1) ((List.range n).map f ++ [.slice none 0 0])) (hg : W.grownBy W1 v.ownBlock) (hl : v'.ownBlock = v.ownBlock ∨ v'.ownBlock = some W.heap.size) :
    Rws to ti enc k W1 B v' (fun j => if j = n then .slice none 0 0 else f j) (rows ++ [[]]) := by
  subst hn
  have hlen : (rows ++ [([] : List α)]).length = rows.length + 1 := by simp
  refine ⟨?_, fun j hj => ?_, fun i j hi hj hne => ?_, fun j hj => ?_⟩
  · rw [hlen, List.range_succ, List.map_append]
    have e : (List.range rows.length).map (fun j => if j = rows.length then Value.slice none 0 0 else f j) = (List.range rows.length).map f := List.map_congr_left fun j hj => if_neg (by have := List.mem_range.1 hj; omega)
    rw [e]
    simpa using ho
  · rw [hlen] at hj
    by_cases e : j = rows.length
    · subst e
      simp only [if_true]
      rw [List.getD_eq_getElem?_getD, List.getElem?_append_right (Nat.le_refl _), Nat.sub_self]
      exact World.ownsRow_nil _ _ _ _
    · simp only [if_neg e]
      rw [List.getD_eq_getElem?_getD, List.getElem?_append_left (by omega), ← List.getD_eq_getElem?_getD]
      exact (h.row j (by omega)).kept hg (h.far j (by omega))
  · rw [hlen] at hi hj
    by_cases e : i = rows.length
    · simp [e, Value.ownBlock]
    · simp only [if_neg e]
      by_cases e2 : j = rows.length
      · simp only [if_pos e2]
        cases hb : (f i).ownBlock with
        | none => exact .inl rfl
        | some s => exact .inr (by simp [Value.ownBlock])
      · simp only [if_neg e2]
        exact h.apart i j (by omega) (by omega) hne
  · rw [hlen] at hj
    by_cases e : j = rows.length
    · simp [e, Value.ownBlock]
    · simp only [if_neg e]
      rcases hl with hl | hl
      · rw [hl]; exact h.far j (by omega)
      · cases hb : (f j).ownBlock with
        | none => exact .inl rfl
        | some s =>
          refine .inr ?_
          rw [hl]
          intro e2
          cases e2
          have := ((h.row j (by omega)).lt _ hb).2
          omega
/-- one more element in list q -/
theorem Rws.grow {g cap n : Nat} (h : Rws to ti enc k W B (.slice (some ⟨g, 0, none⟩) n cap) f rows) (hn : rows.length = n) {q : Nat} (hq : q < n) {x : α} {u : Value}
    (ho : W1.ownsRow B ti k u ((rows.getD q []).length + 1) (flt enc (rows.getD q []) ++ enc x)) (hg : W.grownBy W1 (f q).ownBlock) (hl : u.ownBlock = (f q).ownBlock ∨ u.ownBlock = some W.heap.size) :
    Rws to ti enc k (W1.setCell ⟨g, q, none⟩ u) B (.slice (some ⟨g, 0, none⟩) n cap) (fun j => if j = q then u else f j) (rows.set q (rows.getD q [] ++ [x])) ∧ Below B W (W1.setCell ⟨g, q, none⟩ u) := by
  subst hn
  have hv : (Value.slice (some ⟨g, 0, none⟩) rows.length cap).ownBlock = some g := rfl
  have hgW : B ≤ g ∧ g < W.heap.size := h.own.lt g rfl
  have hfq : (f q).ownBlock = none ∨ (f q).ownBlock ≠ some g := by have := h.far q hq; rwa [hv] at this
  have h1 : W1.ownsRow B to 1 (.slice (some ⟨g, 0, none⟩) rows.length cap) rows.length ((List.range rows.length).map f) := h.own.kept hg (.inr (by
    rw [hv]
    rcases hfq with e | e
    · rw [e]; simp
    · exact fun e2 => e e2.symm))
  obtain ⟨h2, h3⟩ := h1.stored q u
  have hug : u.ownBlock = none ∨ u.ownBlock ≠ some g := by
    rcases hl with e | e
    · rw [e]; exact hfq
    · rw [e]; exact .inr (fun e2 => by cases e2; omega)
  refine ⟨⟨?_, fun j hj => ?_, fun i j hi hj hne => ?_, fun j hj => ?_⟩, ?_⟩
  · rw [List.length_set]
    have e : (List.range rows.length).map (fun j => if j = q then u else f j) = ((List.range rows.length).map f).set q u := by
      apply List.ext_getElem?
      intro j
      rw [List.getElem?_set, List.getElem?_map, List.getElem?_map]
      by_cases c : j < rows.length
      · rw [List.getElem?_range c]
        by_cases e : q = j
        · subst e; simp [hq]
        · simp [e, Ne.symm e]
      · rw [List.getElem?_eq_none (by simp; omega)]
        rw [if_neg (by omega)]
        rfl
    rw [e]
    exact h2
  · rw [List.length_set] at hj
    by_cases e : j = q
    · subst e
      simp only [if_true]
      rw [List.getD_eq_getElem?_getD, List.getElem?_set_self (by omega)]
      show (W1.setCell ⟨g, j, none⟩ u).ownsRow B ti k u (rows.getD j [] ++ [x]).length (flt enc (rows.getD j [] ++ [x]))
      rw [flt_append, flt_one, List.length_append]
      exact ho.kept h3 hug
    · simp only [if_neg e]
      rw [List.getD_eq_getElem?_getD, List.getElem?_set_ne (fun h => e h.symm), ← List.getD_eq_getElem?_getD]
      have h4 := (h.row j hj).kept hg (h.apart j q hj hq e)
      exact h4.kept h3 (by have := h.far j hj; rwa [hv] at this)
  · rw [List.length_set] at hi hj
    have hs : ∀ i, i < rows.length → i ≠ q → (f i).ownBlock = none ∨ (f i).ownBlock ≠ u.ownBlock := fun i hi e => by
      rcases hl with c | c
      · rw [c]; exact h.apart i q hi hq e
      · cases hb : (f i).ownBlock with
        | none => exact .inl rfl
        | some s =>
          refine .inr ?_
          rw [c]
          intro e2
          cases e2
          have := ((h.row i hi).lt _ hb).2
          omega
    by_cases e : i = q
    · have e2 : ¬ j = q := by omega
      simp only [if_pos e, if_neg e2]
      rcases hs j hj e2 with c | c
      · cases hb : u.ownBlock with
        | none => exact .inl rfl
        | some s => rw [c]; exact .inr (by simp)
      · exact .inr (fun e3 => c e3.symm)
    · by_cases e2 : j = q
      · simp only [if_neg e, if_pos e2]
        exact hs i hi e
      · simp only [if_neg e, if_neg e2]
        exact h.apart i j hi hj hne
  · rw [List.length_set] at hj
    rw [hv]
    by_cases e : j = q
    · simp only [if_pos e]; exact hug
    · simp only [if_neg e]
      have := h.far j hj
      rwa [hv] at this
  · have hBW : B ≤ W.heap.size := by omega
    have h5 := (Below.refl B W).grown hg hBW (fun s e => ((h.row q hq).lt s e).1)
    exact h5.grown h3 (by have := hg.size; omega) (fun s e => by cases e; exact hgW.1)
theorem Rws.len {n : Nat} {A : Option Addr} {c : Nat} (h : Rws to ti enc k W B (.slice A n c) f rows) : n = rows.length := by
  rcases h.own.2 with ⟨e, h0⟩ | ⟨g, cap, cur, e, _⟩
  · cases e; exact h0.symm
  · cases e; rfl
/-- as a slice that is read -/
theorem Rws.open (E : Enc enc k) (h : Rws to ti enc k W B v f rows) : ∃ A c, v = .slice A rows.length c ∧ RR enc k W A rows ∧ rows.length ≤ c ∧ c ≤ maxLen ∧ (A = none → rows.length = 0) ∧ ∀ b, A = some b → b.off = 0 ∧ b.spot = none := by
  have hh := h.own
  rcases h.own.2 with ⟨e, h0⟩ | ⟨g, cap, cur, e, hg, hcell, hle, hcm, _⟩
  · exact ⟨none, 0, by rw [e, h0], .inl (List.length_eq_zero_iff.1 h0), by omega, by unfold maxLen; omega, (fun _ => h0), (fun b hb => by cases hb)⟩
  · subst e
    refine ⟨some ⟨g, 0, none⟩, cap, rfl, .inr ⟨g, 0, rfl, ?_, fun j hj => ?_⟩, hle, hcm, (fun e => by cases e), (fun b hb => by cases hb; exact ⟨rfl, rfl⟩)⟩
    · rcases Nat.lt_or_ge g W.heap.size with h | h
      · exact h
      · rw [Array.getElem?_eq_none h] at hcell; cases hcell
    · obtain ⟨A, c, h1, h2, h3, h4⟩ := rows_of_owns E (h.row j hj)
      refine ⟨A, c, ?_, h2, h3, h4⟩
      have c1 := hh.cellAt j (by omega)
      rw [Nat.zero_add, c1, List.getElem?_map, List.getElem?_range hj, ← h1]; rfl
end
end Go.Proofs.YtlfbfdhdkccaeaaGreat

