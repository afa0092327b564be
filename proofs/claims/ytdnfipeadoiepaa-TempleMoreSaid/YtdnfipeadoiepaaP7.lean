/- Plain: a list turned round and backwards; what TempleMore says. -/
import Derived.Test.YtdnfipeadoiepaaP6
namespace Go.Proofs.Ytdnfipeadoiepaa.Pl

theorem mod_two {n i r : Nat} (hi : i < n) (hr : r < n) : (i + r) % n = if i + r < n then i + r else i + r - n := by
  split
  · exact Nat.mod_eq_of_lt (by assumption)
  · rw [Nat.mod_eq_sub_mod (by omega), Nat.mod_eq_of_lt (by omega)]
/-- where the i-th of the turned list comes from -/
def gt (n t i : Nat) : Nat := n - 1 - (i + t) % n
theorem gt_eq {n t i : Nat} (hi : i < n) : gt n t i = n - 1 - (if i + t % n < n then i + t % n else i + t % n - n) := by
  have hn : 0 < n := by omega
  unfold gt
  rw [← mod_two hi (Nat.mod_lt t hn), Nat.add_mod_mod]
theorem gt_lt {n t i : Nat} (hi : i < n) : gt n t i < n := by unfold gt; omega
theorem gt_inj {n t i j : Nat} (hi : i < n) (hj : j < n) (h : gt n t i = gt n t j) : i = j := by
  have := Nat.mod_lt t (show 0 < n by omega)
  rw [gt_eq hi, gt_eq hj] at h
  split at h <;> split at h <;> omega
/-- its inverse -/
def gi (n t i : Nat) : Nat := if n - 1 - i < t % n then n - 1 - i + n - t % n else n - 1 - i - t % n
theorem gi_lt {n t i : Nat} (hi : i < n) : gi n t i < n := by
  have := Nat.mod_lt t (show 0 < n by omega)
  unfold gi; split <;> omega
theorem gt_gi {n t i : Nat} (hi : i < n) : gt n t (gi n t i) = i := by
  have := Nat.mod_lt t (show 0 < n by omega)
  rw [gt_eq (gi_lt hi)]
  unfold gi
  split <;> split <;> omega
/-- the first k of the turned list -/
def trk (l : List Tm) (t k : Nat) : List Tm := (List.range k).map fun i => at' l (gt l.length t i)
theorem trk_len (l : List Tm) (t k : Nat) : (trk l t k).length = k := by simp [trk]
theorem trk_succ (l : List Tm) (t k : Nat) : trk l t (k + 1) = trk l t k ++ [at' l (gt l.length t k)] := by simp [trk, List.range_succ]
def trn (l : List Tm) (t : Nat) : List Tm := trk l t l.length
theorem trn_len (l : List Tm) (t : Nat) : (trn l t).length = l.length := trk_len l t _
theorem trn_at {l : List Tm} {t i : Nat} (hi : i < l.length) : at' (trn l t) i = at' l (gt l.length t i) := by
  rw [at_lt (by rw [trn_len]; exact hi)]
  simp [trn, trk]
theorem vs_mk {l : List Tm} (h1 : l.length ≤ 60) (h2 : ∀ i, i < l.length → Vt (at' l i)) (h3 : ∀ i j, i < l.length → j < l.length → (at' l i).num = (at' l j).num → i = j) : vs l = true := by
  refine vs_iff.2 ⟨h1, fun t ht => ?_, ?_⟩
  · obtain ⟨i, hi, rfl⟩ := List.mem_iff_getElem.1 ht
    rw [← at_lt hi]
    exact h2 i hi
  · rw [List.pairwise_iff_getElem]
    intro i j hi hj hij e
    rw [← at_lt hi, ← at_lt hj] at e
    have := h3 i j hi hj e
    omega
theorem vs_trn {l : List Tm} (h : Ok l) (t : Nat) : vs (trn l t) = true := by
  have hl := trn_len l t
  refine vs_mk (by rw [hl]; exact h.len) (fun i hi => ?_) (fun i j hi hj e => ?_)
  · rw [hl] at hi
    rw [trn_at hi]
    exact h.vt _ (gt_lt hi)
  · rw [hl] at hi hj
    rw [trn_at hi, trn_at hj] at e
    exact gt_inj hi hj (h.num _ _ e)
theorem mt_trn {l : List Tm} (h : Ok l) (t : Nat) (tol : Int) : (mt (trn l t) tol).length = (mt l tol).length := by
  have hl := trn_len l t
  have h1 := mt_turn (l := l) (l' := trn l t) h (tol := tol) (gt l.length t) (fun i hi => by rw [hl] at hi; exact ⟨gt_lt hi, trn_at hi⟩) (fun i j hi hj e => by rw [hl] at hi hj; exact gt_inj hi hj e)
  have h2 := mt_turn (l := trn l t) (l' := l) (ok_of (vs_trn h t)) (tol := tol) (gi l.length t) (fun i hi => ⟨by rw [hl]; exact gi_lt hi, by rw [trn_at (gi_lt hi), gt_gi hi]⟩) (fun i j hi hj e => by
    have := congrArg (gt l.length t) e
    rw [gt_gi hi, gt_gi hj] at this
    exact this)
  omega
theorem ck_mk {l : List Tm} {tol : Int} (h : vs l = true) (h1 : 0 ≤ tol) (h2 : tol ≤ 1000) : ck l tol = 0 := by
  unfold ck
  rw [if_pos h, if_pos (inB_true.2 ⟨h1, h2⟩)]
theorem Mt_ok {l : List Tm} {tol : Int} (h : vs l = true) (h1 : 0 ≤ tol) (h2 : tol ≤ 1000) : Mt l tol = mt l tol := if_pos (ck_mk h h1 h2)
end Go.Proofs.Ytdnfipeadoiepaa.Pl
