/- rowed; judged. -/
import Derived.Test.YtlfbfdhdkccaeaaGreatU1
import Derived.Test.YtlfbfdhdkccaeaaGreatJ8
import Derived.Test.YtlfbfdhdkccaeaaGreatJ5
import Derived.Test.YtlfbfdhdkccaeaaGreatE1
import Derived.Test.YtlfbfdhdkccaeaaGreatN1
namespace Go.Proofs.YtlfbfdhdkccaeaaGreat
open Go.RowKit Go.Shelf Go.Sort

set_option maxRecDepth 100000 in
set_option maxHeartbeats 4000000 in
theorem rowed_any (w : World) : Calls Tryz.prog 5 #[] w fun e w' => e = .returned (.bool true) ∧ Below w.heap.size w w' := by
  have hl : Pl.sr.length = 2 := rfl
  have HN := Lib.hid (fun (w' : World) A c (hI : Bts w' A Pl.sr) => Fewest_any A Pl.sr c 2 hl w' hI)
  rw [Pl.sr_Rs, Pl.E_ok Pl.sr_vs] at HN
  have hB := (Below.refl w.heap.size w).alloc (Nat.le_refl _) (.cells (((btA ⟨1, 0, 0, 0, 0, 0, 0⟩).toList ++ (btA ⟨2, 0, 0, 0, 0, 0, 0⟩).toList).toArray) 48)
  have HT := Lib.hid (bts_two w ⟨1, 0, 0, 0, 0, 0, 0⟩ ⟨2, 0, 0, 0, 0, 0, 0⟩)
  clear hl
  go_enter Tryz.func5, Tryz.ntmps5
  go_wp2_with fail
  refine (HN.out _ _ _ HT.out).mono ?_
  rintro e w1 ⟨rfl, hb1⟩
  have hB1 := hB.trans (hb1.mono hB.size)
  clear hb1 hB HT
  go_wp2
  go_ret
  exact ⟨rfl, hB1⟩

set_option maxRecDepth 100000 in
set_option maxHeartbeats 4000000 in
theorem judged_b (A : Option Addr) (l : List Pl.Bt) (c n : Nat) (hn : l.length = n) (b cl : Int) (hs : Pl.shop b cl = true) (AR : Option Addr) (runs : List (List Pl.Rn)) (cr m : Nat) (hm : runs.length = m) (hrw : ∀ r, r ∈ runs → ∀ y, y ∈ r → Pl.Rw y) (hmb : (m : Int) ≤ b)
    (hv : Pl.vs l = true) (hcw : Pl.cwd runs = false) (hJ : Pl.Jok l cl runs m 0) (hcv : Pl.cov l.length (runs.flatten.map (·.b)) = true) (rl : Nat) (hcl : Pl.cngV runs = (rl : Nat)) (hce : Pl.cngE runs = 0) (sum : Int) (hs0 : 0 ≤ sum) (hsum : ∀ r, r ∈ runs.flatten → r.t ≤ sum) (hmc : m ≤ cr) (hcm : cr ≤ maxLen)
    (w : World) (hI : Bts w A l) (hR : RR rnL 4 w AR runs) (hNz : Nz w AR m) :
    Calls Tryz.prog 14 #[.slice A n c, .int .i64 b, .int .i64 cl, .slice AR m cr, .int .i64 rl, .int .i64 sum] w fun e w' => e = .returned (.bool true) ∧ Below w.heap.size w w' := by
  have HI := Lib.hid hI
  have HR := Lib.hid hR
  have hlt : ∀ b' off, AR = some ⟨b', off, none⟩ → 0 < runs.length → b' < w.heap.size := fun b off e h0 => by
    obtain ⟨b', off', e', h, _⟩ := hR.open h0
    rw [e] at e'; cases e'; exact h
  have HNz : Hid (∀ W, Below w.heap.size w W → Nz W AR m) := Lib.hid (fun W hB b off j e hj hb c' hc => by
    have hb' := hlt b off e (by omega)
    exact hNz b off j e hj hb' c' (by rw [← hB.cell (p := ⟨b, off + j, none⟩) hb']; exact hc))
  have hJr : Pl.Jok l cl runs runs.length 0 := by rw [hm]; exact hJ
  have hIJ : Pl.IsJ l cl runs 0 0 0 := Pl.isJ_end hv ⟨Pl.inB_true.2 (Pl.shop_true.1 hs).2, hcw⟩ hJr (by rw [if_pos hcv])
  have HU : Hid (∀ x y z, Pl.IsJ l cl runs x y z → z = 0) := Lib.hid (fun x y z h => (hIJ.uniq h).2.2.symm)
  have HBD : Hid (∀ v r, Pl.EndR runs v r → r = 0 ∧ Pl.bdV l b cl ≤ v ∧ v ≤ sum) := Lib.hid (fun v r h => by
    unfold Pl.EndR at h
    rw [if_neg (by rw [hcw]; simp)] at h
    refine ⟨h.1, Pl.bound_le hv hs (by rw [hm]; exact hmb) hJr hcv h.2, ?_⟩
    rcases h.2 with ⟨_, h2⟩ | ⟨⟨r, h1, h2⟩, _⟩
    · omega
    · have := hsum r h1; omega)
  have HBE : Hid (Pl.bdE l b cl = 0) := Lib.hid (Pl.bdE_ok hv hs)
  have hcrw : Pl.crw runs = false := by
    obtain ⟨h1, h2⟩ := Pl.cwd_no hcw
    unfold Pl.crw
    rw [Pl.anyR_all (p := fun r => decide (110 < r.length)) (fun i hi => decide_eq_false (by have := h2 i hi; omega)), decide_eq_false (by omega)]; rfl
  have H1 := Lib.hid (fun W hI hR => Judge_any A l c n hn cl AR runs cr m hm hrw W hI hR)
  have H2 := Lib.hid (fun W hR hN => Cleanings_any AR runs cr m hm W hR hN)
  rw [hcl, hce] at H2
  have H3 := Lib.hid (fun W hR hN => End_any AR runs cr m hm W hR hN)
  have H4 := Lib.hid (fun W hI => Bound_any A l c n hn b cl W hI)
  have H5 := Lib.hid (fun W hR => crw_b AR runs cr m hm hmc hcm false hcrw W hR)
  generalize Pl.bdV l b cl = BV at *
  generalize Pl.bdE l b cl = BE at *
  obtain rfl : BE = 0 := HBE.out
  clear hI hR hNz hlt hJr hIJ hn hm hrw hmb hv hcw hJ hcv hs HBE hcl hce hsum hcrw hmc hcm
  go_enter Tryz.func14, Tryz.ntmps14
  go_wp2_with fail
  refine (H1.out _ HI.out HR.out).mono ?_
  rintro e w1 ⟨x1, y1, z1, rfl, hj1, hB1⟩
  obtain rfl : 0 = z1 := (HU.out _ _ _ hj1).symm
  have HR1 := Lib.hid (HR.out.below hB1)
  have HN1 := Lib.hid (HNz.out w1 hB1)
  clear hj1
  go_wp2_with fail
  refine (H2.out _ HR1.out HN1.out).mono ?_
  rintro e w2 ⟨rfl, hb2⟩
  have hB2 := hB1.trans (hb2.mono hB1.size)
  have HR2 := Lib.hid (HR.out.below hB2)
  have HN2 := Lib.hid (HNz.out w2 hB2)
  clear hb2 hB1 HR1 HN1
  go_wp2_with fail
  refine (H3.out _ HR2.out HN2.out).mono ?_
  rintro e w3 ⟨v3, r3, rfl, hd3, hb3⟩
  obtain ⟨h3, hle1, hle2⟩ := HBD.out _ _ hd3
  subst h3
  have hB3 := hB2.trans (hb3.mono hB2.size)
  have HI3 := Lib.hid (HI.out.below hB3)
  clear hd3 hb3 hB2 HR2 HN2
  go_wp2_with fail
  refine (H4.out _ HI3.out).mono ?_
  rintro e w4 ⟨rfl, hb4⟩
  have hB4 := hB3.trans (hb4.mono hB3.size)
  have HR4 := Lib.hid (HR.out.below hB4)
  clear hb4 hB3 HI3
  go_wp2_with (go_at_call 37; refine (H5.out _ HR4.out).mono ?_; rintro e w5 ⟨rfl, rfl⟩)
  go_ret
  exact ⟨rfl, hB4⟩
end Go.Proofs.YtlfbfdhdkccaeaaGreat

