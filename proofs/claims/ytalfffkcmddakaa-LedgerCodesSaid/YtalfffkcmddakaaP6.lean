/- Plain: what was paid for an invoice; which invoices are due. -/
import Derived.Test.YtalfffkcmddakaaP5
namespace Go.Proofs.Ytalfffkcmddakaa.Pl

/-- paid or credited for an invoice up to a day -/
def isp (r d : Int) (e : En) : Bool := decide (e.r = r) && (decide (e.d ≤ d) && (decide (e.k = 2) || decide (e.k = 3)))
def pd (r d : Int) (l : List En) : Int := l.foldl (fun s e => if isp r d e = true then s + e.c else s) 0
theorem pd_nil (r d : Int) : pd r d [] = 0 := rfl
theorem pd_snoc (r d : Int) (l : List En) (e : En) : pd r d (l ++ [e]) = if isp r d e = true then pd r d l + e.c else pd r d l := by unfold pd; rw [List.foldl_append]; rfl
theorem pd_step {r d : Int} {l : List En} {k : Nat} (hk : k < l.length) : pd r d (l.take (k + 1)) = if isp r d l[k] = true then pd r d (l.take k) + l[k].c else pd r d (l.take k) := by
  rw [List.take_succ_eq_append_getElem hk, pd_snoc]
theorem ve_c {e : En} (h : vE e = true) : 0 ≤ e.c ∧ e.c ≤ 1000000000 := by
  unfold vE vC at h
  simp only [Bool.and_eq_true, Bool.or_eq_true, inB_true, decide_eq_true_iff] at h
  omega
theorem pd_bound (r d : Int) {l : List En} (h : ∀ e, e ∈ l → vE e = true) : ∀ k, k ≤ l.length → 0 ≤ pd r d (l.take k) ∧ pd r d (l.take k) ≤ k * 1000000000
  | 0, _ => by rw [List.take_zero, pd_nil]; omega
  | k + 1, hk => by
    have ih := pd_bound r d h k (by omega)
    have hc := ve_c (h _ (List.getElem_mem (show k < l.length by omega)))
    rw [pd_step (show k < l.length by omega)]
    split <;> omega
/-- an invoice is settled on a day -/
def stl (l : List En) (v : En) (d : Int) : Bool := decide (v.c ≤ pd v.r d l)
/-- what Settled answers -/
def stE (l : List En) (r d : Int) : Int := if !vB l then 90 else if !inB 0 d 100000 then 2 else if (fnd l (1, r)).isSome then 0 else 5
def stV (l : List En) (r d : Int) : Bool := if stE l r d = 0 then stl l ((fnd l (1, r)).getD z0) d else false
/-- due -/
def isd (l : List En) (d a : Int) (e : En) : Bool := decide (e.k = 1) && (decide (e.d ≤ d - a) && !stl l e d)
def dul (l m : List En) (d a : Int) : List Int := (m.filter (isd l d a)).map (·.r)
theorem dul_step {l m : List En} {d a : Int} {k : Nat} (hk : k < m.length) : dul l (m.take (k + 1)) d a = if isd l d a m[k] = true then dul l (m.take k) d a ++ [m[k].r] else dul l (m.take k) d a := by
  unfold dul
  rw [List.take_succ_eq_append_getElem hk, List.filter_append]
  by_cases h : isd l d a m[k] = true
  · rw [if_pos h, List.filter_cons_of_pos h, List.filter_nil, List.map_append]; rfl
  · rw [if_neg h, List.filter_cons_of_neg h, List.filter_nil, List.append_nil]
theorem dul_len (l m : List En) (d a : Int) : (dul l m d a).length ≤ m.length := by
  unfold dul; rw [List.length_map]; exact List.length_filter_le _ _
theorem dul_take (l m : List En) (d a : Int) (k : Nat) : (dul l (m.take k) d a).length ≤ k := Nat.le_trans (dul_len _ _ _ _) (by rw [List.length_take]; omega)
theorem dul_sort {l : List En} (h : (l.map nm).Nodup) (d a : Int) : (dul l l d a).mergeSort (fun x y => decide (x ≤ y)) = dul l (srt l) d a := by
  have hp : (dul l l d a).Perm (dul l (srt l) d a) := ((srt_perm l).symm.filter _).map _
  refine List.Perm.eq_of_pairwise (le := fun x y : Int => x ≤ y) (fun a b _ _ h1 h2 => by omega) ?_ ?_ ((List.mergeSort_perm _ _).trans hp)
  · have := List.pairwise_mergeSort (le := fun x y : Int => decide (x ≤ y)) (fun a b c h1 h2 => by simp at *; omega) (fun a b => by simp; omega) (dul l l d a)
    exact this.imp fun h => of_decide_eq_true h
  · unfold dul
    rw [List.pairwise_map]
    have hf : ((srt l).filter (isd l d a)).Pairwise (fun x y => lt x y = true) := List.Pairwise.filter _ (srt_asc h)
    refine List.Pairwise.imp_of_mem (fun {x y} hx hy hxy => ?_) hf
    have h1 := (List.mem_filter.1 hx).2
    have h2 := (List.mem_filter.1 hy).2
    unfold isd at h1 h2
    simp only [Bool.and_eq_true, decide_eq_true_iff] at h1 h2
    rw [lt_iff] at hxy
    omega
/-- what Due answers -/
def duE (l : List En) (d a : Int) : Int := if !vB l then 90 else if !inB 0 d 100000 then 2 else if !inB 0 a 1000 then 2 else 0
def duV (l : List En) (d a : Int) : List Int := if duE l d a = 0 then dul l (srt l) d a else []
end Go.Proofs.Ytalfffkcmddakaa.Pl
