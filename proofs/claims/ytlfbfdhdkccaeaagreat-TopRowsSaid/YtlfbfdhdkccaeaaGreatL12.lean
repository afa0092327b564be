/- BarrelTimes. -/
import Derived.Test.YtlfbfdhdkccaeaaGreatT1
import Derived.Test.YtlfbfdhdkccaeaaGreatA2
import Derived.Test.YtlfbfdhdkccaeaaGreatPZ
namespace Go.Proofs.YtlfbfdhdkccaeaaGreat
open Go.RowKit Go.Shelf

theorem rows_zJ {W : World} {A : Option Addr} {xs : List Nat} (h : Rows irc 1 W A xs) : Rows inL 1 W A (Pl.zI xs) := by
  rcases h with h | ⟨b, off, h1, h2, h3⟩
  · exact .inl (by rw [h]; rfl)
  · refine .inr ⟨b, off, h1, h2, fun i hi => ?_⟩
    rw [Pl.zI_at hi]
    exact h3 i (by rw [Pl.zI_len] at hi; exact hi)
theorem rr_zJ {W : World} {A : Option Addr} {rows : List (List Nat)} (h : RR irc 1 W A rows) : RR inL 1 W A (rows.map Pl.zI) := by
  rcases h with h | ⟨b, off, h1, h2, h3⟩
  · exact .inl (by rw [h]; rfl)
  · refine .inr ⟨b, off, h1, h2, fun j hj => ?_⟩
    obtain ⟨A', c, h4, h5, h6⟩ := h3 j (by simpa using hj)
    refine ⟨A', c, ?_⟩
    rw [Pl.getD_zI, Pl.zI_len]
    exact ⟨h4, rows_zJ h5, h6⟩
/-- what is given of the rows that are made -/
theorem Pl.times_facts {l : List Pl.Bt} {x y : Int} (hv : Pl.vs l = true) (hs : Pl.shop x y = true) :
    (Pl.rI l).length ≤ 60 ∧ (∀ k, k < (Pl.rI l).length → ((Pl.rI l).getD k []).length ≤ 60) ∧ Pl.asE l (Pl.rI l) x y = 0 ∧ ((Pl.asV l (Pl.rI l) x y).length : Int) = x ∧ Pl.cngV (Pl.asV l (Pl.rI l) x y) = ((Pl.rI l).length : Nat) ∧ Pl.cngE (Pl.asV l (Pl.rI l) x y) = 0 ∧ Pl.cwd (Pl.asV l (Pl.rI l) x y) = false ∧
      Pl.Jok l y (Pl.asV l (Pl.rI l) x y) (Pl.asV l (Pl.rI l) x y).length 0 ∧ Pl.cov l.length ((Pl.asV l (Pl.rI l) x y).flatten.map (·.b)) = true ∧ (∀ r, r ∈ Pl.asV l (Pl.rI l) x y → ∀ z, z ∈ r → Pl.Rw z) := by
  have hck := Pl.ck_made hv
  have hok := Pl.ok_of hv
  have h4 := hok.len
  have hS := Pl.shop_true.1 hs
  have e : Pl.rI l = (Pl.R l).map Pl.zI := by unfold Pl.rI; rw [Pl.Rs_ok hv]
  have hl : (Pl.rI l).length = (Pl.R l).length := by rw [e, List.length_map]
  have h1 := Pl.gr_len (l := l) l.length
  have hl2 : (Pl.rI l).length ≤ 60 := by rw [hl]; unfold Pl.R; omega
  have hlen : ∀ k, k < (Pl.rI l).length → ((Pl.rI l).getD k []).length ≤ 60 := fun k hk => by
    rw [hl] at hk
    rw [e, Pl.getD_zI, Pl.zI_len]
    have := (Pl.row_facts hok (Nat.le_refl _) (j := k) hk).2.1
    have : ((Pl.R l).getD k []).length ≤ 40 := this
    omega
  obtain ⟨a, b, c, d, f, _⟩ := Pl.made_judged hck hs
  refine ⟨hl2, hlen, Pl.asE_ok hck hs, by rw [a]; omega, ?_, ?_, c, d, f, Pl.made_rw hck hs hlen hl2⟩
  · unfold Pl.cngV; rw [if_neg (by rw [c]; simp), b]
  · unfold Pl.cngE; rw [if_neg (by rw [c]; simp)]

end Go.Proofs.YtlfbfdhdkccaeaaGreat

