/- Plain: what an entry does to the balance; the balance on a day. -/
import Derived.Test.YtalfffkcmddakaaP6
namespace Go.Proofs.Ytalfffkcmddakaa.Pl

def ef (e : En) : Int := if e.k = 1 then e.c else if e.k = 2 ∨ e.k = 3 then -e.c else 0
def bal (d : Int) (l : List En) : Int := l.foldl (fun s e => if e.d ≤ d then s + ef e else s) 0
theorem bal_nil (d : Int) : bal d [] = 0 := rfl
theorem bal_snoc (d : Int) (l : List En) (e : En) : bal d (l ++ [e]) = if e.d ≤ d then bal d l + ef e else bal d l := by unfold bal; rw [List.foldl_append]; rfl
theorem bal_step {d : Int} {l : List En} {k : Nat} (hk : k < l.length) : bal d (l.take (k + 1)) = if l[k].d ≤ d then bal d (l.take k) + ef l[k] else bal d (l.take k) := by
  rw [List.take_succ_eq_append_getElem hk, bal_snoc]
theorem ef_bound {e : En} (h : vE e = true) : -1000000000 ≤ ef e ∧ ef e ≤ 1000000000 := by
  have := ve_c h
  unfold ef
  split
  · omega
  · split <;> omega
theorem bal_bound (d : Int) {l : List En} (h : ∀ e, e ∈ l → vE e = true) : ∀ k, k ≤ l.length → -(k * 1000000000) ≤ bal d (l.take k) ∧ bal d (l.take k) ≤ k * 1000000000
  | 0, _ => by rw [List.take_zero, bal_nil]; omega
  | k + 1, hk => by
    have ih := bal_bound d h k (by omega)
    have hc := ef_bound (h _ (List.getElem_mem (show k < l.length by omega)))
    rw [bal_step (show k < l.length by omega)]
    split <;> omega
/-- what Balance answers -/
def baE (l : List En) (d : Int) : Int := if !vB l then 90 else if !inB 0 d 100000 then 2 else 0
def baV (l : List En) (d : Int) : Int := if baE l d = 0 then bal d l else 0
end Go.Proofs.Ytalfffkcmddakaa.Pl
