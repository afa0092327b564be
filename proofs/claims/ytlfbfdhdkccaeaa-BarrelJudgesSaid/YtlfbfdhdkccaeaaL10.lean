/- BarrelJudges. -/
import Derived.Test.YtlfbfdhdkccaeaaJ9
import Derived.Test.YtlfbfdhdkccaeaaN1
namespace Go.Proofs.Ytlfbfdhdkccaeaa
open Go.RowKit Go.Shelf

set_option maxRecDepth 100000 in
set_option maxHeartbeats 8000000 in
theorem law_judges (A : Option Addr) (l : List Pl.Bt) (c : Nat) (cl : Int) (AR : Option Addr) (runs : List (List Pl.Rn)) (cr : Nat) (hmc : runs.length ≤ cr) (hcm : cr ≤ maxLen) (hrw : ∀ r, r ∈ runs → ∀ y, y ∈ r → Pl.Rw y) (w : World) (hI : Bts w A l) (hR : RR rnL 4 w AR runs) (hNz : Nz w AR runs.length) :
    Calls Try.prog 11 #[.slice A l.length c, .int .i64 cl, .slice AR runs.length cr] w fun e w' => e = .returned (.bool true) ∧ Below w.heap.size w w' := by
  have HI := Lib.hid hI
  have HR := Lib.hid hR
  have HS := Lib.hid sane_any
  have hlt : ∀ b off, AR = some ⟨b, off, none⟩ → 0 < runs.length → b < w.heap.size := fun b off e h0 => by
    obtain ⟨b', off', e', h, _⟩ := hR.open h0
    rw [e] at e'; cases e'; exact h
  have HNz : Hid (∀ W, Below w.heap.size w W → Nz W AR runs.length) := Lib.hid (fun W hB b off j e hj hb c' hc => by
    have hb' := hlt b off e (by omega)
    exact hNz b off j e hj hb' c' (by rw [← hB.cell (p := ⟨b, off + j, none⟩) hb']; exact hc))
  obtain ⟨n, hn⟩ : ∃ n, l.length = n := ⟨_, rfl⟩
  obtain ⟨m, hm⟩ : ∃ m, runs.length = m := ⟨_, rfl⟩
  obtain ⟨v, hv⟩ : ∃ v, Pl.crw runs = v := ⟨_, rfl⟩
  have HL := Lib.hid (fun W hR => crw_b AR runs cr m hm (by omega) hcm v hv W hR)
  have H1 := Lib.hid (fun W hI hR => Judge_any A l c n hn cl AR runs cr m hm hrw W hI hR)
  have H2 := Lib.hid (fun W hI hR => rJudge_any A l c n hn cl AR runs cr m hm hrw W hI hR)
  rw [hm] at HNz
  have H3 := Lib.hid (fun W hR hN => End_any AR runs cr m hm W hR hN)
  have H4 := Lib.hid (fun W hR => rEnd_any AR runs cr m hm W hR)
  have H5 := Lib.hid (fun W hR hN => Cleanings_any AR runs cr m hm W hR hN)
  have H6 := Lib.hid (fun W hR => rCleanings_any AR runs cr m hm W hR)
  rw [hn, hm]
  generalize Pl.cngV runs = CV at *
  generalize Pl.cngE runs = CE at *
  clear hI hR hn hm hmc hcm hv hrw hNz hlt
  by_cases hw : (50 : Int) < (n : Int)
  · have HW := Lib.hid (wide_b A n c 50 true (by simp [hw]))
    go_enter Try.func11, Try.ntmps11
    go_wp2_with fail
    refine (HW.out _).mono ?_
    rintro e w3 ⟨rfl, rfl⟩
    go_wp2_with fail
    refine (HS.out _).mono ?_
    rintro e w4 ⟨rfl, hb⟩
    go_wp2
    go_ret
    exact ⟨rfl, hb⟩
  have HW := Lib.hid (wide_b A n c 50 false (by simp [hw]))
  clear hw
  go_enter Try.func11, Try.ntmps11
  go_wp2_with fail
  refine (HW.out _).mono ?_
  rintro e w3 ⟨rfl, hw3⟩
  obtain rfl : w = w3 := hw3.symm
  go_wp2_with fail
  refine (HL.out _ HR.out).mono ?_
  rintro e w3 ⟨rfl, hw3⟩
  obtain rfl : w = w3 := hw3.symm
  cases v
  rotate_left
  · go_wp2_with fail
    refine (HS.out _).mono ?_
    rintro e w4 ⟨rfl, hb⟩
    go_wp2
    go_ret
    exact ⟨rfl, hb⟩
  go_wp2_with fail
  refine (H1.out _ HI.out HR.out).mono ?_
  rintro e w1 ⟨x1, y1, z1, rfl, hj1, hB1⟩
  have HI1 := Lib.hid (HI.out.below hB1)
  have HR1 := Lib.hid (HR.out.below hB1)
  have HJ1 := Lib.hid hj1
  clear hj1
  go_wp2_with fail
  refine (H2.out _ HI1.out HR1.out).mono ?_
  rintro e w2 ⟨x2, y2, z2, rfl, hj2, hb2⟩
  obtain ⟨e1, e2, e3⟩ := HJ1.out.uniq hj2
  subst e1 e2 e3
  have hB2 := hB1.trans (hb2.mono hB1.size)
  have HR2 := Lib.hid (HR1.out.below hb2)
  have HN2 := Lib.hid (HNz.out w2 hB2)
  clear hj2 hb2 HI1 HR1 HJ1
  go_wp2_with fail
  refine (H3.out _ HR2.out HN2.out).mono ?_
  rintro e w3 ⟨v3, r3, rfl, hd3, hb3⟩
  have hB3 := hB2.trans (hb3.mono hB2.size)
  have HR3 := Lib.hid (HR2.out.below hb3)
  have HN3 := Lib.hid (HNz.out w3 hB3)
  have HD3 := Lib.hid hd3
  clear hd3 hb3 HR2 HN2
  go_wp2_with fail
  refine (H4.out _ HR3.out).mono ?_
  rintro e w4 ⟨v4, r4, rfl, hd4, hw4⟩
  obtain rfl : w3 = w4 := hw4.symm
  obtain ⟨e1, e2⟩ := HD3.out.uniq hd4
  subst e1 e2
  clear hd4 HD3
  go_wp2_with fail
  refine (H5.out _ HR3.out HN3.out).mono ?_
  rintro e w5 ⟨rfl, hb5⟩
  have hB5 := hB3.trans (hb5.mono hB3.size)
  have HR5 := Lib.hid (HR3.out.below hb5)
  clear hb5 HR3 HN3
  go_wp2_with fail
  refine (H6.out _ HR5.out).mono ?_
  rintro e w6 ⟨rfl, hw6⟩
  obtain rfl : w5 = w6 := hw6.symm
  clear HR5 hB1 hB2 hB3
  go_wp2_with fail
  refine (HS.out _).mono ?_
  rintro e w7 ⟨rfl, hb⟩
  have hB7 := hB5.trans (hb.mono hB5.size)
  go_wp2
  go_ret
  exact ⟨rfl, hB7⟩
end Go.Proofs.Ytlfbfdhdkccaeaa
