/- Plain: the bytes of a book. -/
import Derived.Test.YtalfffkcmddakaaP11
import Derived.Test.YtalfffkcmddakaaP2
namespace Go.Proofs.Ytalfffkcmddakaa.Pl

/-- the bytes of an entry -/
def enc1 (e : En) : Bs := [UInt8.ofNat e.k.toNat] ++ four e.r.toNat ++ four e.d.toNat ++ four e.c.toNat
def encL (l : List En) : Bs := l.flatMap enc1
theorem encL_snoc (l : List En) (e : En) : encL (l ++ [e]) = encL l ++ enc1 e := by unfold encL; simp
theorem encL_take {l : List En} {k : Nat} (hk : k < l.length) : encL (l.take (k + 1)) = encL (l.take k) ++ enc1 l[k] := by rw [List.take_succ_eq_append_getElem hk, encL_snoc]
theorem enc1_len (e : En) : (enc1 e).length = 13 := rfl
theorem encL_len (l : List En) : (encL l).length = 13 * l.length := by
  refine snoc_ind (P := fun l => (encL l).length = 13 * l.length) rfl ?_ l
  intro l e ih
  rw [encL_snoc, List.length_append, ih, enc1_len, List.length_append]
  simp
  omega
/-- what Encode answers -/
def cdE (l : List En) : Int := if vB l then 0 else 90
def cdV (l : List En) : Bs := if vB l then encL (srt l) else []
theorem cd_ok {l : List En} (h : Vb l) : cdE l = 0 ∧ cdV l = encL (srt l) := by unfold cdE cdV; rw [vb_iff.2 h]; exact ⟨rfl, rfl⟩
/-- a valid entry's numbers are natural numbers -/
theorem nat_en {e : En} (h : vE e = true) : ∃ k r d c : Nat, e = ⟨k, r, d, c⟩ ∧ k ≤ 4 := by
  have h := ve_iff.1 h
  refine ⟨e.k.toNat, e.r.toNat, e.d.toNat, e.c.toNat, ?_, ?_⟩
  · obtain ⟨k, r, d, c⟩ := e
    have h1 := h.k1
    have h2 := h.r1
    have h3 := h.d0
    have h4 := h.c0
    simp only [En.mk.injEq] at *
    omega
  · have := h.k4
    omega
end Go.Proofs.Ytalfffkcmddakaa.Pl
