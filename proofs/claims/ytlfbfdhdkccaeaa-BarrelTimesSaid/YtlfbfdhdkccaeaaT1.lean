/- bounded: what is judged right does not end before the bound. -/
import Derived.Test.YtlfbfdhdkccaeaaJ8
import Derived.Test.YtlfbfdhdkccaeaaJ5
import Derived.Test.YtlfbfdhdkccaeaaE1
import Derived.Test.YtlfbfdhdkccaeaaN1
import Derived.Test.YtlfbfdhdkccaeaaP18
namespace Go.Proofs.Ytlfbfdhdkccaeaa.Pl

theorem Rg.up {l : List Bt} {cl : Int} {list : List Rn} (h : ∀ j, j < list.length → Rg l cl list j) {j : Nat} : ∀ i, j ≤ i → i < list.length → (list.getD j zr).t ≤ (list.getD i zr).t := by
  intro i hij
  induction i with
  | zero => intro _; obtain rfl : j = 0 := by omega
            exact Int.le_refl _
  | succ i ih =>
    intro hi
    rcases Nat.lt_or_ge i j with c | c
    · obtain rfl : j = i + 1 := by omega
      exact Int.le_refl _
    · have h1 := ih c (by omega)
      have h2 := (h (i + 1) hi).chain (Nat.succ_pos i)
      have h3 := (h (i + 1) hi).fit.1
      rw [Nat.add_sub_cancel] at h2
      omega
theorem made_rw {l : List Bt} {rows : List (List Int)} {b cl : Int} (hck : ckE l rows = 0) (hs' : shop b cl = true) (hlen : ∀ m, m < rows.length → (rows.getD m []).length ≤ 60) (hm : rows.length ≤ 60) : ∀ r, r ∈ asV l rows b cl → ∀ y, y ∈ r → Rw y := by
  obtain ⟨hv, hr⟩ := Rr.of hck
  have ho := ok_of hv
  have hS := shop_true.1 hs'
  have I := iv_all ho hS.2.1 (b := b.toNat) (by omega) hr rows.length (Nat.le_refl _)
  have hbd := asg_bd ho hS.2.1 hS.2.2 (b := b.toNat) (rows := rows) (fun m hm => ⟨hr.ix m hm, hlen m hm⟩) rows.length (Nat.le_refl _)
  rw [asV_ok (asE_ok hck hs')]
  generalize (asg l cl b.toNat rows rows.length).2 = out at *
  generalize (asg l cl b.toNat rows rows.length).1 = f at *
  have ho4 := ho.len
  intro r hr' y hy
  obtain ⟨k, hk, rfl⟩ := List.getElem_of_mem hr'
  have hk' : k < b.toNat := by rw [← I.len]; exact hk
  have e1 : out.getD k [] = out[k] := by rw [List.getD_eq_getElem?_getD, List.getElem?_eq_getElem hk]; rfl
  have hrg := I.rg k hk'
  have hfl := I.fl k hk'
  rw [e1] at hrg hfl
  obtain ⟨j, hj, rfl⟩ := List.getElem_of_mem hy
  have e2 : (out[k]).getD j zr = (out[k])[j] := by rw [List.getD_eq_getElem?_getD, List.getElem?_eq_getElem hj]; rfl
  have h1 := hrg j hj
  have h2 := Rg.up hrg (j := j) ((out[k]).length - 1) (by omega) (by omega)
  have h3 := hfl (by omega)
  have h4 := hbd k
  have h5 := h1.b0
  have h6 := h1.b1
  have h7 := h1.f0
  have h8 := h1.fit.1
  rw [e2] at h2 h5 h6 h7 h8
  have h9 : (l.length : Int) ≤ 40 := by omega
  have h10 : (rows.length : Int) ≤ 60 := by omega
  unfold Rw W64
  omega
end Go.Proofs.Ytlfbfdhdkccaeaa.Pl

namespace Go.Proofs.Ytlfbfdhdkccaeaa
open Go.RowKit Go.Shelf Go.Sort

theorem Pl.isJ_zero {l : List Pl.Bt} {cl : Int} {runs : List (List Pl.Rn)} {a b : Int} (h : Pl.IsJ l cl runs a b 0) : Pl.vs l = true ∧ Pl.inB 0 cl 100 = true ∧ Pl.cwd runs = false ∧ Pl.Jok l cl runs runs.length 0 ∧ Pl.cov l.length (runs.flatten.map (·.b)) = true := by
  unfold Pl.IsJ at h
  split at h
  · rename_i hv
    split at h
    · rename_i hb
      rcases h with ⟨k, j, _, _, _, h4, _, _, h7⟩ | ⟨h1, _, _, h4⟩
      · exact absurd h7.symm h4
      · refine ⟨hv, hb.1, hb.2, h1, ?_⟩
        cases e : Pl.cov l.length (runs.flatten.map (·.b))
        · rw [e] at h4; cases h4
        · rfl
    · have := h.2.2; cases this
  · have := h.2.2; cases this

set_option maxRecDepth 100000 in
set_option maxHeartbeats 4000000 in
theorem bounded_b (A : Option Addr) (l : List Pl.Bt) (c n : Nat) (hn : l.length = n) (b cl : Int) (hs : Pl.shop b cl = true) (AR : Option Addr) (runs : List (List Pl.Rn)) (cr m : Nat) (hm : runs.length = m) (hrw : ∀ r, r ∈ runs → ∀ y, y ∈ r → Pl.Rw y) (hmb : (m : Int) ≤ b)
    (hv : Pl.vs l = true) (hcw : Pl.cwd runs = false) (hJ : Pl.Jok l cl runs m 0) (hcv : Pl.cov l.length (runs.flatten.map (·.b)) = true) (w : World) (hI : Bts w A l) (hR : RR rnL 4 w AR runs) (hNz : Nz w AR m) :
    Calls Try.prog 46 #[.slice A n c, .int .i64 b, .int .i64 cl, .slice AR m cr] w fun e w' => e = .returned (.bool true) ∧ Below w.heap.size w w' := by
  have HI := Lib.hid hI
  have HR := Lib.hid hR
  have hlt : ∀ b' off, AR = some ⟨b', off, none⟩ → 0 < runs.length → b' < w.heap.size := fun b off e h0 => by
    obtain ⟨b', off', e', h, _⟩ := hR.open h0
    rw [e] at e'; cases e'; exact h
  have HNz : Hid (∀ W, Below w.heap.size w W → Nz W AR m) := Lib.hid (fun W hB b off j e hj hb c' hc => by
    have hb' := hlt b off e (by omega)
    exact hNz b off j e hj hb' c' (by rw [← hB.cell (p := ⟨b, off + j, none⟩) hb']; exact hc))
  have hJr : Pl.Jok l cl runs runs.length 0 := by rw [hm]; exact hJ
  have hIJ : Pl.IsJ l cl runs 0 0 0 := Pl.isJ_end hv ⟨Pl.inB_true.2 (Pl.shop_true.1 hs).2, hcw⟩ hJr (by rw [if_pos hcv])
  have HU : Hid (∀ x y z, Pl.IsJ l cl runs x y z → z = 0) := Lib.hid (fun x y z h => (hIJ.uniq h).2.2.symm)
  have HBD : Hid (∀ v r, Pl.EndR runs v r → r = 0 ∧ Pl.bdV l b cl ≤ v) := Lib.hid (fun v r h => by
    unfold Pl.EndR at h
    rw [if_neg (by rw [hcw]; simp)] at h
    exact ⟨h.1, Pl.bound_le hv hs (by rw [hm]; exact hmb) hJr hcv h.2⟩)
  have HBE : Hid (Pl.bdE l b cl = 0) := Lib.hid (Pl.bdE_ok hv hs)
  have H1 := Lib.hid (fun W hI hR => Judge_any A l c n hn cl AR runs cr m hm hrw W hI hR)
  have H2 := Lib.hid (fun W hR hN => End_any AR runs cr m hm W hR hN)
  have H3 := Lib.hid (fun W hI => Bound_any A l c n hn b cl W hI)
  generalize Pl.bdV l b cl = BV at *
  generalize Pl.bdE l b cl = BE at *
  obtain rfl : BE = 0 := HBE.out
  clear hI hR hNz hlt hJr hIJ hn hm hrw hmb hv hcw hJ hcv hs HBE
  go_enter Try.func46, Try.ntmps46
  go_wp2_with fail
  refine (H1.out _ HI.out HR.out).mono ?_
  rintro e w1 ⟨x1, y1, z1, rfl, hj1, hB1⟩
  obtain rfl : 0 = z1 := (HU.out _ _ _ hj1).symm
  have HI1 := Lib.hid (HI.out.below hB1)
  have HR1 := Lib.hid (HR.out.below hB1)
  have HN1 := Lib.hid (HNz.out w1 hB1)
  clear hj1
  go_wp2_with fail
  refine (H2.out _ HR1.out HN1.out).mono ?_
  rintro e w2 ⟨v2, r2, rfl, hd2, hb2⟩
  obtain ⟨h2, hle⟩ := HBD.out _ _ hd2
  subst h2
  have hB2 := hB1.trans (hb2.mono hB1.size)
  have HI2 := Lib.hid (HI1.out.below hb2)
  clear hd2 hb2 HI1 HR1 HN1
  go_wp2_with fail
  refine (H3.out _ HI2.out).mono ?_
  rintro e w3 ⟨rfl, hb3⟩
  have hB3 := hB2.trans (hb3.mono hB2.size)
  clear hb3 hB1 hB2
  go_wp2
  go_ret
  exact ⟨rfl, hB3⟩
end Go.Proofs.Ytlfbfdhdkccaeaa
