/- Plain: the order of entries as a comparison, over indexes; sorting a list whose names differ. -/
import Derived.Test.YtalfffkcmddakaaP1
namespace Go.Proofs.Ytalfffkcmddakaa.Pl

def cmpI (a b : Int) : Int := if a < b then -1 else if b < a then 1 else 0
theorem cmpI_lt {a b : Int} (h : a < b) : cmpI a b = -1 := if_pos h
theorem cmpI_gt {a b : Int} (h : b < a) : cmpI a b = 1 := by unfold cmpI; rw [if_neg (by omega), if_pos h]
theorem cmpI_eq {a b : Int} (h : a = b) : cmpI a b = 0 := by unfold cmpI; rw [if_neg (by omega), if_neg (by omega)]
def orI (a b : Int) : Int := if a = 0 then b else a
/-- what inOrder answers -/
def cmpE (e f : En) : Int := orI (cmpI e.k f.k) (cmpI e.r f.r)
theorem cmpE_lt (e f : En) : cmpE e f < 0 ↔ lt e f = true := by
  rw [lt_iff]
  unfold cmpE orI cmpI
  by_cases h1 : e.k < f.k
  · simp [h1]
  · by_cases h2 : f.k < e.k
    · simp [h1, h2]; omega
    · have h3 : e.k = f.k := by omega
      by_cases h4 : e.r < f.r
      · simp [h3, h4]
      · by_cases h5 : f.r < e.r <;> simp [h3, h4, h5]
/-- the entry at an index; beyond the end one of its own -/
def at' (l : List En) (i : Nat) : En := if h : i < l.length then l[i] else ⟨1000 + i, 0, 0, 0⟩
theorem at_lt {l : List En} {i : Nat} (h : i < l.length) : at' l i = l[i] := dif_pos h
theorem at_ge {l : List En} {i : Nat} (h : ¬ i < l.length) : at' l i = ⟨1000 + i, 0, 0, 0⟩ := dif_neg h
structure Ok (l : List En) : Prop where
  len : l.length ≤ 1000
  k : ∀ e, e ∈ l → e.k ≤ 4
  dif : (l.map nm).Nodup
theorem Vb.ok {l : List En} (h : Vb l) : Ok l := ⟨by have := h.len; omega, fun e he => (ve_iff.1 (h.each e he)).k4, h.dif⟩
theorem ok_inj {l : List En} (h : Ok l) {i j : Nat} (e : nm (at' l i) = nm (at' l j)) : i = j := by
  have e1 := nm_eq.1 e
  by_cases hi : i < l.length <;> by_cases hj : j < l.length
  · rw [at_lt hi, at_lt hj] at e
    have h1 := h.dif
    have h2 : (l.map nm)[i]'(by simpa using hi) = (l.map nm)[j]'(by simpa using hj) := by simpa using e
    exact (List.getElem_inj h1).1 h2
  · rw [at_lt hi, at_ge hj] at e1
    have := h.k _ (List.getElem_mem hi)
    have := e1.1
    simp at this
    omega
  · rw [at_ge hi, at_lt hj] at e1
    have := h.k _ (List.getElem_mem hj)
    have := e1.1
    simp at this
    omega
  · rw [at_ge hi, at_ge hj] at e1
    have := e1.1
    simp at this
    omega
theorem map_at (l : List En) : (List.range l.length).map (at' l) = l := by
  apply List.ext_getElem
  · simp
  · intro i h1 h2
    simp [at_lt h2]
def ord (l : List En) : List Nat := (List.range l.length).mergeSort fun i j => !lt (at' l j) (at' l i)
theorem ord_perm (l : List En) : (ord l).Perm (List.range l.length) := List.mergeSort_perm ..
theorem ord_len (l : List En) : (ord l).length = l.length := by rw [(ord_perm l).length_eq, List.length_range]
theorem lt_irr (a : En) : lt a a = false := by rw [lt_iff']; omega
theorem lt_tr {a b c : En} (h1 : lt a b = true) (h2 : lt b c = true) : lt a c = true := by rw [lt_iff] at *; omega
theorem lt_nt {a b c : En} (h1 : lt a b = false) (h2 : lt b c = false) : lt a c = false := by rw [lt_iff'] at *; omega
theorem ord_srt {l : List En} (h : Ok l) : (ord l).map (at' l) = srt l := by
  refine asc_uniq ?_ (srt_asc h.dif) ?_
  · have h1 := List.pairwise_mergeSort (le := fun i j => !lt (at' l j) (at' l i)) (fun a b c h1 h2 => by
      simp only [Bool.not_eq_true'] at *
      exact lt_nt h2 h1) (fun a b => by
      cases e : lt (at' l b) (at' l a)
      · simp
      · have : lt (at' l a) (at' l b) = false := by rw [lt_iff'] ; rw [lt_iff] at e; omega
        simp [this]) (List.range l.length)
    have h2 : (ord l).Pairwise (fun i j => i ≠ j) := (ord_perm l).nodup_iff.2 List.nodup_range
    unfold Asc
    rw [List.pairwise_map]
    refine (h1.and h2).imp fun {i j} hij => ?_
    obtain ⟨h3, h4⟩ := hij
    rcases lt_total (e := at' l i) (f := at' l j) (fun e => h4 (ok_inj h e)) with h5 | h5
    · exact h5
    · simp [h5] at h3
  · have := (ord_perm l).map (at' l)
    rw [map_at] at this
    exact this.trans (srt_perm l).symm
end Go.Proofs.Ytalfffkcmddakaa.Pl
