/- Plain: how the document finds the next batch and its row. -/
import Derived.Test.YtlfbfdhdkccaeaaP3
namespace Go.Proofs.Ytlfbfdhdkccaeaa.Pl

theorem mem_take_succ {l : List Bt} {k : Nat} (hk : k < l.length) (q : Nat) : q ∈ (ord l).take (k + 1) ↔ q ∈ (ord l).take k ∨ q = nx l k := by
  have hk' : k < (ord l).length := by rw [ord_len]; exact hk
  rw [List.take_succ_eq_append_getElem hk', List.mem_append, List.mem_singleton]
  have : nx l k = (ord l)[k] := by unfold nx; rw [List.getD_eq_getElem?_getD, List.getElem?_eq_getElem hk']; rfl
  rw [this]
theorem nx_newT {l : List Bt} {k : Nat} (hk : k < l.length) : nx l k ∉ (ord l).take k := by
  have hk' : k < (ord l).length := by rw [ord_len]; exact hk
  have : nx l k = (ord l)[k] := by unfold nx; rw [List.getD_eq_getElem?_getD, List.getElem?_eq_getElem hk']; rfl
  rw [this]
  intro h
  obtain ⟨i, hi, e⟩ := List.mem_iff_getElem.1 h
  rw [List.length_take] at hi
  rw [List.getElem_take] at e
  have := (List.getElem_inj (ord_nodup l)).1 e
  omega
/-- what is not yet put comes behind the next one -/
theorem nx_lowN {l : List Bt} (h : Ok l) {k q : Nat} (hk : k < l.length) (hq : q < l.length) (hn : q ∉ (ord l).take k) : q = nx l k ∨ Low (at' l (nx l k)) (at' l q) := by
  have hk' : k < (ord l).length := by rw [ord_len]; exact hk
  have e : nx l k = (ord l)[k] := by unfold nx; rw [List.getD_eq_getElem?_getD, List.getElem?_eq_getElem hk']; rfl
  obtain ⟨p, hp, rfl⟩ := List.mem_iff_getElem.1 (ord_mem.2 hq)
  rw [e]
  rcases Nat.lt_trichotomy p k with h1 | rfl | h1
  · exact absurd (List.mem_iff_getElem.2 ⟨p, by rw [List.length_take]; omega, by rw [List.getElem_take]⟩) hn
  · exact .inl rfl
  · exact .inr (List.pairwise_iff_getElem.1 (ord_rise h) k p hk' hp h1)
/-- the least of those that are not yet put -/
def Lst' (l : List Bt) (k i b : Nat) : Prop := b < i ∧ b ∉ (ord l).take k ∧ ∀ q, q < i → q ∉ (ord l).take k → q = b ∨ Low (at' l b) (at' l q)
theorem lst_end {l : List Bt} (h : Ok l) {k b : Nat} (hk : k < l.length) (hb : Lst' l k l.length b) : b = nx l k := by
  obtain ⟨h1, h2, h3⟩ := hb
  rcases nx_lowN h hk h1 h2 with e | e
  · exact e
  · rcases h3 (nx l k) (nx_lt hk) (nx_newT hk) with e2 | e2
    · exact e2.symm
    · exact absurd (low_trans e e2) (low_irrefl _)
/-- where the document's search for the row stands -/
def At' (l : List Bt) (rows : List (List Nat)) (b : Bt) (k : Nat) (a : Int) : Prop :=
  (a = -1 ∧ rfs l rows b k = (rows.length, -1)) ∨ ∃ p : Nat, p < k ∧ a = p ∧ rfs l rows b k = (p, (le l rows p).grain)
theorem at_zero {l : List Bt} {rows : List (List Nat)} {b : Bt} : At' l rows b 0 (-1) := .inl ⟨rfl, rfl⟩
theorem at_no {l : List Bt} {rows : List (List Nat)} {b : Bt} {k : Nat} {a : Int} (h : At' l rows b k a) (hm : may (le l rows k) b = false) : At' l rows b (k + 1) a := by
  have e : rfs l rows b (k + 1) = rfs l rows b k := by rw [rfs, if_neg (by rw [hm]; simp)]
  unfold At'
  rw [e]
  rcases h with h | ⟨p, h1, h2⟩
  · exact .inl h
  · exact .inr ⟨p, by omega, h2⟩
theorem at_first {l : List Bt} {rows : List (List Nat)} {b : Bt} {k : Nat} (h : At' l rows b k (-1)) (hm : may (le l rows k) b = true) (hg : 0 ≤ (le l rows k).grain) : At' l rows b (k + 1) k := by
  have h1 : (rfs l rows b k).2 = -1 := by
    rcases h with ⟨_, e⟩ | ⟨p, _, e, _⟩
    · rw [e]
    · omega
  refine .inr ⟨k, by omega, rfl, ?_⟩
  rw [rfs, if_pos ⟨hm, by omega⟩]
theorem at_next {l : List Bt} {rows : List (List Nat)} {b : Bt} {k p : Nat} (h : At' l rows b k p) (hm : may (le l rows k) b = true) :
    (le l rows p).grain < (le l rows k).grain → At' l rows b (k + 1) k := by
  intro hg
  have h1 : (rfs l rows b k).2 = (le l rows p).grain := by
    rcases h with ⟨e, _⟩ | ⟨p', _, e, e2⟩
    · omega
    · obtain rfl : p' = p := by omega
      rw [e2]
  refine .inr ⟨k, by omega, rfl, ?_⟩
  rw [rfs, if_pos ⟨hm, by omega⟩]
theorem at_stay {l : List Bt} {rows : List (List Nat)} {b : Bt} {k p : Nat} (h : At' l rows b k p) (hg : ¬ (le l rows p).grain < (le l rows k).grain) : At' l rows b (k + 1) p := by
  have h1 : rfs l rows b k = (p, (le l rows p).grain) ∧ p < k := by
    rcases h with ⟨e, _⟩ | ⟨p', h0, e, e2⟩
    · omega
    · obtain rfl : p' = p := by omega
      exact ⟨e2, h0⟩
  refine .inr ⟨p, by omega, rfl, ?_⟩
  rw [rfs, if_neg (by rw [h1.1]; exact fun hh => hg hh.2)]
  exact h1.1
theorem at_end {l : List Bt} {k : Nat} {a : Int} (h : At' l (gr l k) (at' l (nx l k)) (gr l k).length a) : (a = -1 ∧ rw l k = (gr l k).length) ∨ ∃ p : Nat, p < (gr l k).length ∧ a = p ∧ rw l k = p := by
  rcases h with ⟨h1, h2⟩ | ⟨p, h1, h2, h3⟩
  · exact .inl ⟨h1, by show (rfs _ _ _ _).1 = _; rw [h2]⟩
  · exact .inr ⟨p, h1, h2, by show (rfs _ _ _ _).1 = _; rw [h3]⟩
end Go.Proofs.Ytlfbfdhdkccaeaa.Pl
