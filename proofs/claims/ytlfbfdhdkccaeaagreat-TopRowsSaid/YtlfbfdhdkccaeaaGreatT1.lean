/- bounded: what is judged right does not end before the bound. -/
import Derived.Test.YtlfbfdhdkccaeaaGreatJ8
import Derived.Test.YtlfbfdhdkccaeaaGreatJ5
import Derived.Test.YtlfbfdhdkccaeaaGreatE1
import Derived.Test.YtlfbfdhdkccaeaaGreatN1
import Derived.Test.YtlfbfdhdkccaeaaGreatPZ
namespace Go.Proofs.YtlfbfdhdkccaeaaGreat.Pl

theorem Rg.up {l : List Bt} {cl : Int} {list : List Rn} (h : ∀ j, j < list.length → Rg l cl list j) {j : Nat} : ∀ i, j ≤ i → i < list.length → (list.getD j zr).t ≤ (list.getD i zr).t := by
  intro i hij
  induction i with
  | zero => intro _; obtain rfl : j = 0 := by omega
            exact Int.le_refl _
  | succ i ih =>
    intro hi
    rcases Nat.lt_or_ge i j with c | c
    · obtain rfl : j = i + 1 := by omega
      exact Int.le_refl _
    · have h1 := ih c (by omega)
      have h2 := (h (i + 1) hi).chain (Nat.succ_pos i)
      have h3 := (h (i + 1) hi).fit.1
      rw [Nat.add_sub_cancel] at h2
      omega
theorem made_rw {l : List Bt} {rows : List (List Int)} {b cl : Int} (hck : ckE l rows = 0) (hs' : shop b cl = true) (hlen : ∀ m, m < rows.length → (rows.getD m []).length ≤ 60) (hm : rows.length ≤ 60) : ∀ r, r ∈ asV l rows b cl → ∀ y, y ∈ r → Rw y := by
  obtain ⟨hv, hr⟩ := Rr.of hck
  have ho := ok_of hv
  have hS := shop_true.1 hs'
  have I := iv_all ho hS.2.1 (b := b.toNat) (by omega) hr rows.length (Nat.le_refl _)
  have hbd := asg_bd ho hS.2.1 hS.2.2 (b := b.toNat) (rows := rows) (fun m hm => ⟨hr.ix m hm, hlen m hm⟩) rows.length (Nat.le_refl _)
  rw [asV_ok (asE_ok hck hs')]
  generalize (asg l cl b.toNat rows rows.length).2 = out at *
  generalize (asg l cl b.toNat rows rows.length).1 = f at *
  have ho4 := ho.len
  intro r hr' y hy
  obtain ⟨k, hk, rfl⟩ := List.getElem_of_mem hr'
  have hk' : k < b.toNat := by rw [← I.len]; exact hk
  have e1 : out.getD k [] = out[k] := by rw [List.getD_eq_getElem?_getD, List.getElem?_eq_getElem hk]; rfl
  have hrg := I.rg k hk'
  have hfl := I.fl k hk'
  rw [e1] at hrg hfl
  obtain ⟨j, hj, rfl⟩ := List.getElem_of_mem hy
  have e2 : (out[k]).getD j zr = (out[k])[j] := by rw [List.getD_eq_getElem?_getD, List.getElem?_eq_getElem hj]; rfl
  have h1 := hrg j hj
  have h2 := Rg.up hrg (j := j) ((out[k]).length - 1) (by omega) (by omega)
  have h3 := hfl (by omega)
  have h4 := hbd k
  have h5 := h1.b0
  have h6 := h1.b1
  have h7 := h1.f0
  have h8 := h1.fit.1
  rw [e2] at h2 h5 h6 h7 h8
  have h9 : (l.length : Int) ≤ 40 := by omega
  have h10 : (rows.length : Int) ≤ 60 := by omega
  unfold Rw W64
  omega
end Go.Proofs.YtlfbfdhdkccaeaaGreat.Pl

namespace Go.Proofs.YtlfbfdhdkccaeaaGreat
open Go.RowKit Go.Shelf Go.Sort

theorem Pl.isJ_zero {l : List Pl.Bt} {cl : Int} {runs : List (List Pl.Rn)} {a b : Int} (h : Pl.IsJ l cl runs a b 0) : Pl.vs l = true ∧ Pl.inB 0 cl 100 = true ∧ Pl.cwd runs = false ∧ Pl.Jok l cl runs runs.length 0 ∧ Pl.cov l.length (runs.flatten.map (·.b)) = true := by
  unfold Pl.IsJ at h
  split at h
  · rename_i hv
    split at h
    · rename_i hb
      rcases h with ⟨k, j, _, _, _, h4, _, _, h7⟩ | ⟨h1, _, _, h4⟩
      · exact absurd h7.symm h4
      · refine ⟨hv, hb.1, hb.2, h1, ?_⟩
        cases e : Pl.cov l.length (runs.flatten.map (·.b))
        · rw [e] at h4; cases h4
        · rfl
    · have := h.2.2; cases this
  · have := h.2.2; cases this

end Go.Proofs.YtlfbfdhdkccaeaaGreat

