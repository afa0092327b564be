/- Plain: a list turned round and backwards, and one more batch. -/
import Derived.Test.YtlfbfdhdkccaeaaP4
namespace Go.Proofs.Ytlfbfdhdkccaeaa.Pl

theorem mod_two {n i r : Nat} (hi : i < n) (hr : r < n) : (i + r) % n = if i + r < n then i + r else i + r - n := by
  split
  · exact Nat.mod_eq_of_lt (by assumption)
  · rw [Nat.mod_eq_sub_mod (by omega), Nat.mod_eq_of_lt (by omega)]
/-- where the i-th of the turned list comes from -/
def gt (n t i : Nat) : Nat := n - 1 - (i + t) % n
theorem gt_eq {n t i : Nat} (hi : i < n) : gt n t i = n - 1 - (if i + t % n < n then i + t % n else i + t % n - n) := by
  have hn : 0 < n := by omega
  unfold gt
  rw [← mod_two hi (Nat.mod_lt t hn), Nat.add_mod_mod]
theorem gt_lt {n t i : Nat} (hi : i < n) : gt n t i < n := by unfold gt; omega
theorem gt_inj {n t i j : Nat} (hi : i < n) (hj : j < n) (h : gt n t i = gt n t j) : i = j := by
  have := Nat.mod_lt t (show 0 < n by omega)
  rw [gt_eq hi, gt_eq hj] at h
  split at h <;> split at h <;> omega
/-- its inverse -/
def gi (n t i : Nat) : Nat := if n - 1 - i < t % n then n - 1 - i + n - t % n else n - 1 - i - t % n
theorem gi_lt {n t i : Nat} (hi : i < n) : gi n t i < n := by
  have := Nat.mod_lt t (show 0 < n by omega)
  unfold gi; split <;> omega
theorem gt_gi {n t i : Nat} (hi : i < n) : gt n t (gi n t i) = i := by
  have := Nat.mod_lt t (show 0 < n by omega)
  rw [gt_eq (gi_lt hi)]
  unfold gi
  split <;> split <;> omega
/-- the first k of the turned list -/
def trk (l : List Bt) (t k : Nat) : List Bt := (List.range k).map fun i => at' l (gt l.length t i)
theorem trk_len (l : List Bt) (t k : Nat) : (trk l t k).length = k := by simp [trk]
theorem trk_succ (l : List Bt) (t k : Nat) : trk l t (k + 1) = trk l t k ++ [at' l (gt l.length t k)] := by simp [trk, List.range_succ]
def trn (l : List Bt) (t : Nat) : List Bt := trk l t l.length
theorem trn_len (l : List Bt) (t : Nat) : (trn l t).length = l.length := trk_len l t _
theorem trn_at {l : List Bt} {t i : Nat} (hi : i < l.length) : at' (trn l t) i = at' l (gt l.length t i) := by
  rw [at_lt (by rw [trn_len]; exact hi)]
  simp [trn, trk]
theorem vs_trn {l : List Bt} (h : Ok l) (t : Nat) : vs (trn l t) = true := by
  have hl := trn_len l t
  refine vs_mk (by rw [hl]; exact h.len) (fun i hi => ?_) (fun i j hi hj e => ?_)
  · rw [hl] at hi
    rw [trn_at hi]
    exact h.vb _ (gt_lt hi)
  · rw [hl] at hi hj
    rw [trn_at hi, trn_at hj] at e
    exact gt_inj hi hj (h.num _ _ e)
theorem trn_mem {l : List Bt} {t : Nat} {b : Bt} : b ∈ trn l t ↔ b ∈ l := by
  unfold trn trk
  rw [List.mem_map]
  constructor
  · rintro ⟨i, hi, rfl⟩
    exact at_mem (gt_lt (List.mem_range.1 hi))
  · intro h
    obtain ⟨i, hi, rfl⟩ := List.mem_iff_getElem.1 h
    exact ⟨gi l.length t i, List.mem_range.2 (gi_lt hi), by rw [gt_gi hi, at_lt hi]⟩
theorem Rs_len {l : List Bt} (h : vs l = true) : (Rs l).length = nr l := by rw [Rs_ok h]; rfl
theorem nr_trn {l : List Bt} (h : vs l = true) (t : Nat) : (Rs (trn l t)).length = (Rs l).length := by
  have hok := ok_of h
  have h2 := vs_trn hok t
  rw [Rs_len h, Rs_len h2]
  exact Nat.le_antisymm (nr_mono (ok_of h2) hok (fun b hb => trn_mem.1 hb)) (nr_mono hok (ok_of h2) (fun b hb => trn_mem.2 hb))
/-- one of the first k is like m -/
def tw (l : List Bt) (m : Bt) (k : Nat) : Bool := (List.range k).any fun i => decide ((at' l i).dark = m.dark) && decide ((at' l i).grain = m.grain)
theorem tw_succ (l : List Bt) (m : Bt) (k : Nat) : tw l m (k + 1) = (tw l m k || (decide ((at' l k).dark = m.dark) && decide ((at' l k).grain = m.grain))) := by
  unfold tw; rw [List.range_succ, List.any_append]; simp
/-- one more batch -/
theorem nr_plus {l : List Bt} (h : vs l = true) (t : Nat) (m : Bt) (h2 : vs (trn l t ++ [m]) = true) :
    (Rs (trn l t ++ [m])).length = (Rs l).length ∨ ((Rs (trn l t ++ [m])).length = (Rs l).length + 1 ∧ tw l m l.length = false) := by
  have hok := ok_of h
  have hok2 := ok_of h2
  rw [Rs_len h, Rs_len h2]
  have a1 : nr l ≤ nr (trn l t ++ [m]) := nr_mono hok hok2 (fun b hb => List.mem_append_left _ (trn_mem.2 hb))
  have hs : ∀ b, b ∈ trn l t ++ [m] → b ∈ l ∨ b = m := fun b hb => by
    rcases List.mem_append.1 hb with hb | hb
    · exact .inl (trn_mem.1 hb)
    · exact .inr (List.mem_singleton.1 hb)
  have a2 := nr_more hok hok2 hs
  cases htw : tw l m l.length with
  | false =>
    rcases Nat.lt_or_ge (nr l) (nr (trn l t ++ [m])) with c | c
    · exact .inr ⟨by omega, rfl⟩
    · exact .inl (by omega)
  | true =>
    unfold tw at htw
    obtain ⟨i, hi, hh⟩ := List.any_eq_true.1 htw
    rw [Bool.and_eq_true, decide_eq_true_iff, decide_eq_true_iff] at hh
    have := nr_twin hok hok2 hs (at_mem (List.mem_range.1 hi)) hh.1 hh.2
    exact .inl (by omega)
end Go.Proofs.Ytlfbfdhdkccaeaa.Pl
