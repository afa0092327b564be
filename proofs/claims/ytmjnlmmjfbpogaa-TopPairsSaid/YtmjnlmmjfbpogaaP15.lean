/- Plain: what TopPairs asks. -/
import Derived.Test.YtmjnlmmjfbpogaaP14
import Derived.Test.YtmjnlmmjfbpogaaP9
namespace Go.Proofs.Ytmjnlmmjfbpogaa.Pl

/-- the list of the other sanity check -/
def sp : List Tm := [⟨1, 1, 10, 1⟩, ⟨2, 2, 10, 1⟩]
theorem sp_c : ck sp 0 = 0 := by decide
theorem sp_len : (Mt sp 0).length = 1 := by
  have ho : Ok sp := ok_of (by decide)
  have hM : Mch (Ed sp 0) [(0, 1)] := Mch.cons (Mch.nil _) ⟨by decide, by decide, rfl, rfl, by decide⟩ (fun _ h => by cases h) (fun _ h => by cases h)
  have h1 := mt_max ho hM
  have h2 := rs_count (mt_mch sp 0)
  have h3 : sp.length = 2 := rfl
  unfold Mt
  rw [if_pos sp_c]
  simp only [List.length_cons, List.length_nil] at h1
  omega
theorem wsf_le {l : List Tm} {tol : Int} : ∀ {ps : List (Nat × Nat)} {m : Int}, m ≤ tol → (∀ p, p ∈ ps → far l p ≤ tol ∧ -far l p ≤ tol) → wsf l ps m ≤ tol
  | [], _, h, _ => h
  | p :: ps, m, h, hp => by
    rw [wsf]
    obtain ⟨h1, h2⟩ := hp p List.mem_cons_self
    exact wsf_le (by omega) (fun q hq => hp q (List.mem_cons_of_mem _ hq))
theorem ws_mt {l : List Tm} {tol : Int} (hv : vs l = true) (h0 : 0 ≤ tol) (h1 : tol ≤ 1000) :
    wsE l ((mt l tol).map fun e => ((e.1 : Int), (e.2 : Int))) = 0 ∧ wsV l ((mt l tol).map fun e => ((e.1 : Int), (e.2 : Int))) ≤ tol := by
  have hM := mt_mch l tol
  have hM2 : Mch (Ed l 2000) (mt l tol) := hM.imp fun e _ h => ⟨h.a, h.b, h.s1, h.s2, by
    obtain ⟨h3, h4, h5⟩ := can_iff'.1 h.can
    exact can_iff'.2 ⟨h3, by omega, by omega⟩⟩
  have hmap : ((mt l tol).map fun e => ((e.1 : Int), (e.2 : Int))).map nat2 = mt l tol := by
    rw [List.map_map]
    have : (nat2 ∘ fun e : Nat × Nat => ((e.1 : Int), (e.2 : Int))) = id := by funext e; rfl
    rw [this, List.map_id]
  have hE : wsE l ((mt l tol).map fun e => ((e.1 : Int), (e.2 : Int))) = 0 := by
    unfold wsE jd
    rw [if_pos hv, if_pos]
    · rw [hmap]
      exact jgn_mch hM2 (fun _ _ => ⟨rfl, rfl⟩)
    · rw [List.all_eq_true]
      intro x hx
      obtain ⟨e, he, rfl⟩ := List.mem_map.1 hx
      obtain ⟨h3, h4, _⟩ := mt_idx l tol he
      unfold pok
      rw [Bool.and_eq_true, decide_eq_true_iff, decide_eq_true_iff]
      exact ⟨⟨by omega, by simp only; omega⟩, by omega, by simp only; omega⟩
  refine ⟨hE, ?_⟩
  unfold wsV
  rw [if_pos hE, hmap]
  refine wsf_le h0 fun p hp => ?_
  obtain ⟨_, h4, h5⟩ := can_iff'.1 (hM.rel p hp).can
  unfold far
  exact ⟨by omega, by omega⟩
theorem tp_le {l : List Tm} {k t e tol : Int} (hv : vs l = true) (h0 : 0 ≤ tol) (h1 : tol ≤ 1000) (hk : 0 ≤ k) (hm : k ≤ ((mt l tol).length : Int)) (h : Tp l k t e) : e = 0 ∧ t ≤ tol := by
  have hg := mt_tol (ok_of hv) h1
  rcases h with ⟨a, _⟩ | ⟨_, a, _⟩ | ⟨_, _, a, _⟩ | ⟨_, _, a, b⟩
  · rw [hv] at a; cases a
  · omega
  · omega
  · refine ⟨b, ?_⟩
    apply Classical.byContradiction
    intro hn
    have := a.2.2.2 tol h0 (by omega)
    omega
/-- how many of the first i are on a side and of a colour -/
def csc (l : List Tm) (s c : Int) (i : Nat) : Nat := ((List.range i).filter fun q => decide ((at' l q).side = s) && decide ((at' l q).col = c)).length
theorem csc_yes {l : List Tm} {s c : Int} {i : Nat} (h1 : (at' l i).side = s) (h2 : (at' l i).col = c) : csc l s c (i + 1) = csc l s c i + 1 := by
  unfold csc
  rw [List.range_succ, List.filter_append, List.length_append]
  simp [h1, h2]
theorem csc_no {l : List Tm} {s c : Int} {i : Nat} (h : ¬ ((at' l i).side = s ∧ (at' l i).col = c)) : csc l s c (i + 1) = csc l s c i := by
  unfold csc
  rw [List.range_succ, List.filter_append, List.length_append]
  by_cases h1 : (at' l i).side = s
  · have h2 : ¬ (at' l i).col = c := fun e => h ⟨h1, e⟩
    simp [h1, h2]
  · simp [h1]
theorem csc_le {l : List Tm} {s c : Int} {i : Nat} : csc l s c i ≤ i := by
  have := List.length_filter_le (fun q => decide ((at' l q).side = s) && decide ((at' l q).col = c)) (List.range i)
  rw [List.length_range] at this
  exact this
theorem grp_csc {l : List Tm} {s c : Int} : (grp l s c).length = csc l s c l.length := by
  unfold grp csc
  exact ((ord_perm l).filter _).length_eq
theorem mc_len2 {l : List Tm} {tol : Int} : ∀ {p q : List Nat}, (mc l tol p q).length ≤ q.length
  | [], _ => by rw [mc]; exact Nat.zero_le _
  | _ :: _, [] => by rw [mc]; exact Nat.le_refl _
  | i :: p, j :: q => by
    rw [mc]
    split
    · have := mc_len2 (l := l) (tol := tol) (p := p) (q := q)
      simp only [List.length_cons]; omega
    · split
      · exact mc_len2 (l := l) (tol := tol) (p := p) (q := j :: q)
      · have := mc_len2 (l := l) (tol := tol) (p := i :: p) (q := q)
        simp only [List.length_cons]; omega
termination_by p q => p.length + q.length
/-- the temples of the lesser side, of the colours from 1 to n -/
def mo (l : List Tm) : Nat → Nat
  | 0 => 0
  | n + 1 => mo l n + min (csc l 1 ((n : Int) + 1) l.length) (csc l 2 ((n : Int) + 1) l.length)
theorem mo_le {l : List Tm} : ∀ {n : Nat}, mo l n ≤ n * l.length
  | 0 => by rw [mo]; exact Nat.zero_le _
  | n + 1 => by
    have := mo_le (l := l) (n := n)
    have h := csc_le (l := l) (s := 1) (c := (n : Int) + 1) (i := l.length)
    rw [mo, Nat.add_mul]
    omega
theorem mtn_mo {l : List Tm} {tol : Int} : ∀ n, (mtn l tol n).length ≤ mo l n
  | 0 => Nat.le_refl _
  | n + 1 => by
    have h0 := mtn_mo (l := l) (tol := tol) n
    have h1 := mc_len (l := l) (tol := tol) (p := grp l 1 (n + 1)) (q := grp l 2 (n + 1))
    have h2 := mc_len2 (l := l) (tol := tol) (p := grp l 1 (n + 1)) (q := grp l 2 (n + 1))
    rw [grp_csc] at h1 h2
    rw [mtn, mo, List.length_append]
    omega
theorem mt_mo (l : List Tm) (tol : Int) : (mt l tol).length ≤ mo l 9 := mtn_mo 9
theorem tp_end {l : List Tm} {t e : Int} (hv : vs l = true) (h : Tp l ((mo l 9 : Nat) + 1) t e) : e = 4 := by
  rcases h with ⟨a, _⟩ | ⟨_, a, _⟩ | ⟨_, _, _, _, a⟩ | ⟨_, _, a, _⟩
  · rw [hv] at a; cases a
  · omega
  · exact a
  · have := a.2.2.1
    have := mt_mo l t
    omega
end Go.Proofs.Ytmjnlmmjfbpogaa.Pl
