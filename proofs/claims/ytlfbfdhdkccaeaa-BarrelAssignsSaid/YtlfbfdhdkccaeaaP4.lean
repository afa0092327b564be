/- Plain: what Rows and Fewest answer; the list of the sanity check. -/
import Derived.Test.YtlfbfdhdkccaeaaP3
namespace Go.Proofs.Ytlfbfdhdkccaeaa.Pl

/-- the error of a list -/
def E (l : List Bt) : Int := if vs l = true then 0 else 60
/-- Rows -/
def Rs (l : List Bt) : List (List Nat) := if vs l = true then R l else []
theorem E_ok {l : List Bt} (h : vs l = true) : E l = 0 := if_pos h
theorem E_no {l : List Bt} (h : vs l = false) : E l = 60 := if_neg (by rw [h]; simp)
theorem Rs_ok {l : List Bt} (h : vs l = true) : Rs l = R l := if_pos h
theorem Rs_no {l : List Bt} (h : vs l = false) : Rs l = [] := if_neg (by rw [h]; simp)
def sl : List Bt := [⟨1, 1, 5, 0, 0, 0, 0⟩, ⟨2, 2, 3, 0, 0, 0, 0⟩]
theorem sl_vs : vs sl = true := by decide
theorem sl_ord : ord sl = [0, 1] := by
  have h1 := ord_perm sl
  have h2 := ord_rise (l := sl) (ok_of (by decide))
  have h3 : (ord sl).length = 2 := ord_len sl
  match ho : ord sl, h3 with
  | [a, b], _ =>
    rw [ho] at h1 h2
    have ha : a < 2 := List.mem_range.1 (h1.mem_iff.1 (by simp))
    have hb : b < 2 := List.mem_range.1 (h1.mem_iff.1 (by simp))
    have hab := (List.pairwise_cons.1 h2).1 b (by simp)
    match a, b, ha, hb with
    | 0, 0, _, _ => exact absurd hab (low_irrefl _)
    | 1, 1, _, _ => exact absurd hab (low_irrefl _)
    | 1, 0, _, _ => exact absurd hab (by decide)
    | 0, 1, _, _ => rfl
theorem sl_Rs : Rs sl = [[0], [1]] := by
  rw [Rs_ok sl_vs]
  show gr sl 2 = _
  unfold gr gr gr
  rw [sl_ord]
  decide
/-- the list of the other sanity check -/
def sr : List Bt := [⟨1, 0, 0, 0, 0, 0, 0⟩, ⟨2, 0, 0, 0, 0, 0, 0⟩]
theorem sr_vs : vs sr = true := by decide
theorem sr_ord : ord sr = [0, 1] := by
  have h1 := ord_perm sr
  have h2 := ord_rise (l := sr) (ok_of (by decide))
  have h3 : (ord sr).length = 2 := ord_len sr
  match ho : ord sr, h3 with
  | [a, b], _ =>
    rw [ho] at h1 h2
    have ha : a < 2 := List.mem_range.1 (h1.mem_iff.1 (by simp))
    have hb : b < 2 := List.mem_range.1 (h1.mem_iff.1 (by simp))
    have hab := (List.pairwise_cons.1 h2).1 b (by simp)
    match a, b, ha, hb with
    | 0, 0, _, _ => exact absurd hab (low_irrefl _)
    | 1, 1, _, _ => exact absurd hab (low_irrefl _)
    | 1, 0, _, _ => exact absurd hab (by decide)
    | 0, 1, _, _ => rfl
theorem sr_Rs : Rs sr = [[0, 1]] := by
  rw [Rs_ok sr_vs]
  show gr sr 2 = _
  unfold gr gr gr
  rw [sr_ord]
  decide
end Go.Proofs.Ytlfbfdhdkccaeaa.Pl
