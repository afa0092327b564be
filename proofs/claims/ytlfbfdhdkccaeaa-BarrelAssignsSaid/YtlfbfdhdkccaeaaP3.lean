/- Plain: batches that are apart and rows; the list of the proof; one more batch. -/
import Derived.Test.YtlfbfdhdkccaeaaP2
namespace Go.Proofs.Ytlfbfdhdkccaeaa.Pl

/-- the rows of all batches -/
def R (l : List Bt) : List (List Nat) := gr l l.length
/-- how many they are -/
def nr (l : List Bt) : Nat := (R l).length
theorem gd {l : List Bt} (h : Ok l) : Gd l l.length := Gd.all h _ (Nat.le_refl _)
theorem every {l : List Bt} (h : Ok l) {i : Nat} (hi : i < l.length) : ∃ j, j < nr l ∧ i ∈ (R l).getD j [] :=
  ((gd h).mem i).2 (by rw [List.take_of_length_le (by rw [ord_len]; exact Nat.le_refl _)]; exact ord_mem.2 hi)
theorem row_idx {l : List Bt} (h : Ok l) {i j : Nat} (hi : i ∈ (R l).getD j []) : i < l.length :=
  ord_mem.1 (List.mem_of_mem_take (((gd h).mem i).1 ⟨j, row_lt hi, hi⟩))
/-- any two of them are apart -/
def Ap (bs : List Bt) : Prop := bs.Pairwise fun a b => apt a b = true
/-- no batches that are apart are more than rows in which all are, and each row's batches may follow each other -/
theorem ap_le {l : List Bt} {rows : List (List Nat)} (hc : ∀ i, i < l.length → ∃ j, j < rows.length ∧ i ∈ rows.getD j [])
    (hr : ∀ j i i', i ∈ rows.getD j [] → i' ∈ rows.getD j [] → may (at' l i) (at' l i') = true ∨ may (at' l i') (at' l i) = true)
    {bs : List Bt} (hb : ∀ b, b ∈ bs → b ∈ l) (ha : Ap bs) : bs.length ≤ rows.length := by
  have hx : ∀ b : Bt, ∃ j, b ∈ l → j < rows.length ∧ ∃ i, at' l i = b ∧ i ∈ rows.getD j [] := fun b => by
    by_cases e : b ∈ l
    · obtain ⟨i, hi, rfl⟩ := List.mem_iff_getElem.1 e
      obtain ⟨j, h1, h2⟩ := hc i hi
      exact ⟨j, fun _ => ⟨h1, i, at_lt hi, h2⟩⟩
    · exact ⟨0, fun h => absurd h e⟩
  obtain ⟨f, hf⟩ := Classical.axiomOfChoice hx
  have h1 : (bs.map f).Nodup := by
    unfold List.Nodup
    rw [List.pairwise_map]
    refine List.Pairwise.imp_of_mem (fun {a b} hA hB hab e => ?_) ha
    obtain ⟨_, i, e1, h1⟩ := hf a (hb a hA)
    obtain ⟨_, i', e2, h2⟩ := hf b (hb b hB)
    rw [e] at h1
    have h3 := hr _ i i' h1 h2
    rw [e1, e2] at h3
    unfold apt at hab
    rw [Bool.and_eq_true, Bool.not_eq_true', Bool.not_eq_true'] at hab
    rcases h3 with h3 | h3
    · rw [h3] at hab; exact absurd hab.1 (by simp)
    · rw [h3] at hab; exact absurd hab.2 (by simp)
  have h2 : bs.map f ⊆ List.range rows.length := fun x hx => by
    obtain ⟨b, h3, rfl⟩ := List.mem_map.1 hx
    exact List.mem_range.2 (hf b (hb b h3)).1
  have := List.Nodup.length_le_of_subset h1 h2
  simpa using this
theorem chain_two {l : List Bt} {r : List Nat} (h : r.Pairwise (fun a b => may (at' l a) (at' l b) = true)) {i i' : Nat} (hi : i ∈ r) (hi' : i' ∈ r) : may (at' l i) (at' l i') = true ∨ may (at' l i') (at' l i) = true := by
  obtain ⟨p, hp, rfl⟩ := List.mem_iff_getElem.1 hi
  obtain ⟨q, hq, rfl⟩ := List.mem_iff_getElem.1 hi'
  have := List.pairwise_iff_getElem.1 h
  rcases Nat.lt_trichotomy p q with h1 | rfl | h1
  · exact .inl (this p q hp hq h1)
  · exact .inl (may_refl _)
  · exact .inr (this q p hq hp h1)
theorem ap_nr {l : List Bt} (h : Ok l) {bs : List Bt} (hb : ∀ b, b ∈ bs → b ∈ l) (ha : Ap bs) : bs.length ≤ nr l :=
  ap_le (fun _ hi => every h hi) (fun j _ _ => chain_two ((gd h).chain j)) hb ha

/-- the batches that bar each other, from i on -/
def chn (b : Nat → Option Nat) : Nat → Nat → List Nat
  | 0, i => [i]
  | n + 1, i => i :: (match b i with
    | none => []
    | some p => chn b n p)
theorem chn_ok {l : List Bt} {k : Nat} (G : Gd l k) : ∀ (n j i : Nat), j ≤ n → i ∈ row l k j →
    (chn (br l k) n i).length = j + 1 ∧ (∀ x, x ∈ chn (br l k) n i → (∃ j', x ∈ row l k j') ∧ (at' l x).dark ≤ (at' l i).dark ∧ (at' l i).grain ≤ (at' l x).grain) ∧
    (chn (br l k) n i).Pairwise (fun a b => (at' l b).dark < (at' l a).dark ∧ (at' l a).grain < (at' l b).grain)
  | 0, j, i, hj, hi => by
    obtain rfl : j = 0 := by omega
    refine ⟨rfl, fun x hx => ?_, by simp [chn]⟩
    obtain rfl := List.mem_singleton.1 hx
    exact ⟨⟨_, hi⟩, Int.le_refl _, Int.le_refl _⟩
  | n + 1, j, i, hj, hi => by
    rcases Nat.eq_zero_or_pos j with rfl | h0
    · rw [chn, G.b0 i hi]
      refine ⟨rfl, fun x hx => ?_, by simp⟩
      obtain rfl := List.mem_singleton.1 hx
      exact ⟨⟨_, hi⟩, Int.le_refl _, Int.le_refl _⟩
    · obtain ⟨p, hp, hpm, hd, hg⟩ := G.bs i j h0 hi
      obtain ⟨h1, h2, h3⟩ := chn_ok G n (j - 1) p (by omega) hpm
      rw [chn, hp]
      refine ⟨by simp only [List.length_cons]; omega, fun x hx => ?_, List.pairwise_cons.2 ⟨fun x hx => ?_, h3⟩⟩
      · rcases List.mem_cons.1 hx with rfl | hx
        · exact ⟨⟨_, hi⟩, Int.le_refl _, Int.le_refl _⟩
        · obtain ⟨a, b, c⟩ := h2 x hx
          exact ⟨a, by omega, by omega⟩
      · obtain ⟨a, b, c⟩ := h2 x hx
        omega
/-- the list of the proof, from the last row on -/
def pf (l : List Bt) : List Nat := if nr l = 0 then [] else chn (br l l.length) 40 (lst ((R l).getD (nr l - 1) []))
theorem nr_le {l : List Bt} (h : Ok l) : nr l ≤ l.length := by
  have hx : ∀ j, ∃ i, j < nr l → i ∈ (R l).getD j [] := fun j => by
    by_cases e : j < nr l
    · exact ⟨_, fun _ => lst_mem ((gd h).ne j e)⟩
    · exact ⟨0, fun h => absurd h e⟩
  obtain ⟨f, hf⟩ := Classical.axiomOfChoice hx
  have h1 : ((List.range (nr l)).map f).Nodup := by
    unfold List.Nodup
    rw [List.pairwise_map]
    refine List.Pairwise.imp_of_mem (fun {a b} hA hB hab e => hab ?_) List.nodup_range
    have h1 := hf a (List.mem_range.1 hA)
    have h2 := hf b (List.mem_range.1 hB)
    rw [e] at h1
    exact (gd h).one _ a b h1 h2
  have h2 : (List.range (nr l)).map f ⊆ List.range l.length := fun x hx => by
    obtain ⟨j, h3, rfl⟩ := List.mem_map.1 hx
    exact List.mem_range.2 (row_idx h (hf j (List.mem_range.1 h3)))
  have := List.Nodup.length_le_of_subset h1 h2
  simpa using this
structure PfOk (l : List Bt) (p : List Nat) : Prop where
  len : p.length = nr l
  lt : ∀ x, x ∈ p → x < l.length
  ap : p.Pairwise fun a b => apt (at' l a) (at' l b) = true
theorem pf_ok {l : List Bt} (h : Ok l) : PfOk l (pf l) := by
  unfold pf
  split
  · rename_i e
    exact ⟨e.symm, (fun x hx => by cases hx), List.Pairwise.nil⟩
  · rename_i e
    have hl := nr_le h
    have h4 := h.len
    obtain ⟨h1, h2, h3⟩ := chn_ok (gd h) 40 (nr l - 1) _ (by omega) (lst_mem ((gd h).ne (nr l - 1) (show nr l - 1 < nr l by omega)))
    exact ⟨by rw [show nr l = nr l - 1 + 1 from by omega]; exact h1, fun x hx => by obtain ⟨⟨j, hj⟩, _⟩ := h2 x hx; exact row_idx h hj, h3.imp fun {a b} hab => apt_true.2 (.inr hab)⟩
theorem PfOk.batches {l : List Bt} {p : List Nat} (h : PfOk l p) : (∀ b, b ∈ p.map (at' l) → b ∈ l) ∧ Ap (p.map (at' l)) ∧ (p.map (at' l)).length = nr l :=
  ⟨fun b hb => by obtain ⟨x, hx, rfl⟩ := List.mem_map.1 hb; exact at_mem (h.lt x hx), List.pairwise_map.2 h.ap, by rw [List.length_map, h.len]⟩
theorem apt_irrefl (a : Bt) : apt a a = false := by unfold apt; rw [may_refl]; rfl
theorem PfOk.nodup {l : List Bt} {p : List Nat} (h : PfOk l p) : p.Nodup := h.ap.imp fun {a b} hab e => by rw [e, apt_irrefl] at hab; cases hab

/-- more batches need no fewer rows -/
theorem nr_mono {l l' : List Bt} (h : Ok l) (h' : Ok l') (hs : ∀ b, b ∈ l → b ∈ l') : nr l ≤ nr l' := by
  obtain ⟨h1, h2, h3⟩ := (pf_ok h).batches
  rw [← h3]
  exact ap_nr h' (fun b hb => hs b (h1 b hb)) h2
theorem nr_more {l l' : List Bt} {m : Bt} (h : Ok l) (h' : Ok l') (hs : ∀ b, b ∈ l' → b ∈ l ∨ b = m) : nr l' ≤ nr l + 1 := by
  obtain ⟨h1, h2, h3⟩ := (pf_ok h').batches
  rw [← h3]
  generalize (pf l').map (at' l') = bs at *
  have h4 : Ap (bs.filter fun b => decide (b ≠ m)) := List.Pairwise.sublist List.filter_sublist h2
  have h5 := ap_nr h (bs := bs.filter fun b => decide (b ≠ m)) (fun b hb => by
    obtain ⟨h6, h7⟩ := List.mem_filter.1 hb
    rcases hs b (h1 b h6) with h8 | h8
    · exact h8
    · simp [h8] at h7) h4
  have hnd : bs.Nodup := h2.imp fun {a b} hab e => by rw [e, apt_irrefl] at hab; cases hab
  have : ∀ bs : List Bt, bs.Nodup → bs.length ≤ (bs.filter fun b => decide (b ≠ m)).length + 1 := fun bs => by
    induction bs with
    | nil => intro _; simp
    | cons a bs ih =>
      intro hn
      obtain ⟨ha, hn⟩ := List.nodup_cons.1 hn
      by_cases e : a = m
      · subst e
        rw [List.filter_cons_of_neg (by simp), List.filter_eq_self.2 (fun b hb => by simp; exact fun e => ha (e ▸ hb))]
        simp
      · rw [List.filter_cons_of_pos (by simpa using e)]
        have := ih hn
        simp only [List.length_cons]; omega
  have := this bs hnd
  omega
theorem nr_twin {l l' : List Bt} {m t : Bt} (h : Ok l) (h' : Ok l') (hs : ∀ b, b ∈ l' → b ∈ l ∨ b = m) (ht : t ∈ l) (hd : t.dark = m.dark) (hg : t.grain = m.grain) : nr l' ≤ nr l := by
  obtain ⟨h1, h2, h3⟩ := (pf_ok h').batches
  rw [← h3]
  generalize (pf l').map (at' l') = bs at *
  have h4 : Ap (bs.map fun b => if b = m then t else b) := by
    unfold Ap
    rw [List.pairwise_map]
    refine h2.imp fun {a b} hab => ?_
    rw [apt_true] at hab ⊢
    have e1 : ∀ a : Bt, (if a = m then t else a).dark = a.dark := fun a => by split <;> simp_all
    have e2 : ∀ a : Bt, (if a = m then t else a).grain = a.grain := fun a => by split <;> simp_all
    rw [e1, e1, e2, e2]
    exact hab
  have h5 := ap_nr h (bs := bs.map fun b => if b = m then t else b) (fun b hb => by
    obtain ⟨a, ha, rfl⟩ := List.mem_map.1 hb
    rcases hs a (h1 a ha) with h8 | h8
    · split
      · exact ht
      · exact h8
    · rw [if_pos h8]; exact ht) h4
  simpa using h5
end Go.Proofs.Ytlfbfdhdkccaeaa.Pl
