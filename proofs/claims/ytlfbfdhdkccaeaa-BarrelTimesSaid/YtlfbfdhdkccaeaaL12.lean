/- BarrelTimes. -/
import Derived.Test.YtlfbfdhdkccaeaaT1
import Derived.Test.YtlfbfdhdkccaeaaA2
import Derived.Test.YtlfbfdhdkccaeaaP12
namespace Go.Proofs.Ytlfbfdhdkccaeaa
open Go.RowKit Go.Shelf

theorem rows_zJ {W : World} {A : Option Addr} {xs : List Nat} (h : Rows irc 1 W A xs) : Rows inL 1 W A (Pl.zI xs) := by
  rcases h with h | ⟨b, off, h1, h2, h3⟩
  · exact .inl (by rw [h]; rfl)
  · refine .inr ⟨b, off, h1, h2, fun i hi => ?_⟩
    rw [Pl.zI_at hi]
    exact h3 i (by rw [Pl.zI_len] at hi; exact hi)
theorem rr_zJ {W : World} {A : Option Addr} {rows : List (List Nat)} (h : RR irc 1 W A rows) : RR inL 1 W A (rows.map Pl.zI) := by
  rcases h with h | ⟨b, off, h1, h2, h3⟩
  · exact .inl (by rw [h]; rfl)
  · refine .inr ⟨b, off, h1, h2, fun j hj => ?_⟩
    obtain ⟨A', c, h4, h5, h6⟩ := h3 j (by simpa using hj)
    refine ⟨A', c, ?_⟩
    rw [Pl.getD_zI, Pl.zI_len]
    exact ⟨h4, rows_zJ h5, h6⟩
/-- what is given of the rows that are made -/
theorem Pl.times_facts {l : List Pl.Bt} {x y : Int} (hv : Pl.vs l = true) (hs : Pl.shop x y = true) :
    (Pl.rI l).length ≤ 60 ∧ (∀ k, k < (Pl.rI l).length → ((Pl.rI l).getD k []).length ≤ 60) ∧ Pl.asE l (Pl.rI l) x y = 0 ∧ ((Pl.asV l (Pl.rI l) x y).length : Int) = x ∧ Pl.cngV (Pl.asV l (Pl.rI l) x y) = ((Pl.rI l).length : Nat) ∧ Pl.cngE (Pl.asV l (Pl.rI l) x y) = 0 ∧ Pl.cwd (Pl.asV l (Pl.rI l) x y) = false ∧
      Pl.Jok l y (Pl.asV l (Pl.rI l) x y) (Pl.asV l (Pl.rI l) x y).length 0 ∧ Pl.cov l.length ((Pl.asV l (Pl.rI l) x y).flatten.map (·.b)) = true ∧ (∀ r, r ∈ Pl.asV l (Pl.rI l) x y → ∀ z, z ∈ r → Pl.Rw z) := by
  have hck := Pl.ck_made hv
  have hok := Pl.ok_of hv
  have h4 := hok.len
  have hS := Pl.shop_true.1 hs
  have e : Pl.rI l = (Pl.R l).map Pl.zI := by unfold Pl.rI; rw [Pl.Rs_ok hv]
  have hl : (Pl.rI l).length = (Pl.R l).length := by rw [e, List.length_map]
  have h1 := Pl.gr_len (l := l) l.length
  have hl2 : (Pl.rI l).length ≤ 60 := by rw [hl]; unfold Pl.R; omega
  have hlen : ∀ k, k < (Pl.rI l).length → ((Pl.rI l).getD k []).length ≤ 60 := fun k hk => by
    rw [hl] at hk
    rw [e, Pl.getD_zI, Pl.zI_len]
    have := (Pl.row_facts hok (Nat.le_refl _) (j := k) hk).2.1
    have : ((Pl.R l).getD k []).length ≤ 40 := this
    omega
  obtain ⟨a, b, c, d, f, _⟩ := Pl.made_judged hck hs
  refine ⟨hl2, hlen, Pl.asE_ok hck hs, by rw [a]; omega, ?_, ?_, c, d, f, Pl.made_rw hck hs hlen hl2⟩
  · unfold Pl.cngV; rw [if_neg (by rw [c]; simp), b]
  · unfold Pl.cngE; rw [if_neg (by rw [c]; simp)]

set_option maxRecDepth 100000 in
set_option maxHeartbeats 16000000 in
theorem law_times (A : Option Addr) (l : List Pl.Bt) (c : Nat) (x y : Int) (AR : Option Addr) (runs : List (List Pl.Rn)) (cr : Nat) (hmc : runs.length ≤ cr) (hcm : cr ≤ maxLen) (hrw : ∀ r, r ∈ runs → ∀ y, y ∈ r → Pl.Rw y) (w : World) (hI : Bts w A l) (hR : RR rnL 4 w AR runs) (hNz : Nz w AR runs.length) :
    Calls Try.prog 12 #[.slice A l.length c, .agg #[.int .i64 x, .int .i64 y], .slice AR runs.length cr] w fun e w' => e = .returned (.bool true) ∧ Below w.heap.size w w' := by
  have hB0 := (Below.refl w.heap.size w).alloc (Nat.le_refl _) (.cells #[.int .i64 x, .int .i64 y] 52)
  have bP0 := Blk.new w 52 #[.int .i64 x, .int .i64 y]
  obtain ⟨wa, hwa⟩ : ∃ wa, wa = w.alloc (.cells #[.int .i64 x, .int .i64 y] 52) := ⟨_, rfl⟩
  rw [← hwa] at hB0 bP0
  have s0 := fun s : Ext wa => s.cell ((bP0.cell 0).trans rfl)
  have s1 := fun s : Ext wa => s.cell ((bP0.cell 1).trans rfl)
  have HI := Lib.hid hI
  have HR := Lib.hid hR
  have HS := Lib.hid sane_any
  have hlt : ∀ b off, AR = some ⟨b, off, none⟩ → 0 < runs.length → b < w.heap.size := fun b off e h0 => by
    obtain ⟨b', off', e', h, _⟩ := hR.open h0
    rw [e] at e'; cases e'; exact h
  have HNz : Hid (∀ W, Below w.heap.size w W → Nz W AR runs.length) := Lib.hid (fun W hB b off j e hj hb c' hc => by
    have hb' := hlt b off e (by omega)
    exact hNz b off j e hj hb' c' (by rw [← hB.cell (p := ⟨b, off + j, none⟩) hb']; exact hc))
  obtain ⟨n, hn⟩ : ∃ n, l.length = n := ⟨_, rfl⟩
  obtain ⟨m, hm⟩ : ∃ m, runs.length = m := ⟨_, rfl⟩
  obtain ⟨v, hv⟩ : ∃ v, Pl.crw runs = v := ⟨_, rfl⟩
  obtain ⟨vl, hvl⟩ : ∃ v, Pl.vs l = v := ⟨_, rfl⟩
  have HCR := Lib.hid (fun W hR => crw_b AR runs cr m hm (by omega) hcm v hv W hR)
  have HVA := Lib.hid (fun W hI => rvalid_any A l c W hI)
  rw [hvl, hn] at HVA
  have HRO := Lib.hid (fun W hI => Rows_any A l c n hn W hI)
  have HJU := Lib.hid (fun W hI hR => Judge_any A l c n hn y AR runs cr m hm hrw W hI hR)
  have HFA : Hid (vl = true → Pl.shop x y = true → Pl.vs l = true ∧ Pl.E l = 0 ∧ (Pl.rI l).length ≤ 60 ∧ (∀ k, k < (Pl.rI l).length → ((Pl.rI l).getD k []).length ≤ 60) ∧ Pl.asE l (Pl.rI l) x y = 0 ∧ ((Pl.asV l (Pl.rI l) x y).length : Int) = x ∧ Pl.cngV (Pl.asV l (Pl.rI l) x y) = ((Pl.rI l).length : Nat) ∧ Pl.cngE (Pl.asV l (Pl.rI l) x y) = 0 ∧ Pl.cwd (Pl.asV l (Pl.rI l) x y) = false ∧
      Pl.Jok l y (Pl.asV l (Pl.rI l) x y) (Pl.asV l (Pl.rI l) x y).length 0 ∧ Pl.cov l.length ((Pl.asV l (Pl.rI l) x y).flatten.map (·.b)) = true ∧ (∀ r, r ∈ Pl.asV l (Pl.rI l) x y → ∀ z, z ∈ r → Pl.Rw z)) := Lib.hid (fun h hs => ⟨hvl.trans h, Pl.E_ok (hvl.trans h), Pl.times_facts (hvl.trans h) hs⟩)
  have HRL : Hid ((Pl.rI l).length = (Pl.Rs l).length) := Lib.hid (by unfold Pl.rI; rw [List.length_map])
  have HAS := Lib.hid (fun AZ cz r (hr : (Pl.rI l).length = r) hr6 hl W hI hR => Assign_any A l c n hn AZ (Pl.rI l) cz r hr hr6 hl x y W hI hR)
  have HBO := Lib.hid (fun hs AZ rs cz r (hr : rs.length = r) hrw hmb hv hcw hJ hcv W hI hR hN => bounded_b A l c n hn x y hs AZ rs cz r hr hrw hmb hv hcw hJ hcv W hI hR hN)
  have HM := Lib.hid hm
  have HW64 := Lib.hid hrw
  rw [hn, hm]
  rw [hm] at HNz
  have HB0 := Lib.hid hB0
  clear hI hR hNz hn hm hmc hcm hv hrw hlt hvl bP0 hB0
  go_enter Try.func12, Try.ntmps12
  go_wp2_with fail
  rw [← hwa]
  clear hwa
  refine wp_region_ext (by kernel_rfl) (by kernel_rfl) ?_
  repeat (go_big_quiet_step (fail))
  refine wpQuiet_nil ?_
  rintro _ ⟨s, rfl⟩
  have hB := HB0.out.trans (s.h.mono HB0.out.size)
  clear s0 s1 HB0
  generalize s.w = w0 at *
  have HI0 := Lib.hid (HI.out.below hB)
  have HR0 := Lib.hid (HR.out.below hB)
  by_cases hw : (30 : Int) < (n : Int)
  · have HW := Lib.hid (wide_b A n c 30 true (by simp [hw]))
    go_wp2_with (first | (go_at_call 15; refine (HW.out _).mono ?_; rintro e w3 ⟨rfl, rfl⟩) | (go_at_call 16; refine (HS.out _).mono ?_; rintro e w4 ⟨rfl, hb⟩))
    go_ret
    exact ⟨rfl, hB.trans (hb.mono hB.size)⟩
  have HW := Lib.hid (wide_b A n c 30 false (by simp [hw]))
  clear hw
  cases v
  rotate_left
  · go_wp2_with (first | (go_at_call 15; refine (HW.out _).mono ?_; rintro e w3 ⟨rfl, rfl⟩) | (go_at_call 39; refine (HCR.out _ HR0.out).mono ?_; rintro e w3 ⟨rfl, rfl⟩) | (go_at_call 16; refine (HS.out _).mono ?_; rintro e w4 ⟨rfl, hb⟩))
    go_ret
    exact ⟨rfl, hB.trans (hb.mono hB.size)⟩
  cases vl
  · go_wp2_with (first | (go_at_call 15; refine (HW.out _).mono ?_; rintro e w3 ⟨rfl, rfl⟩) | (go_at_call 39; refine (HCR.out _ HR0.out).mono ?_; rintro e w3 ⟨rfl, rfl⟩) | (go_at_call 20; refine (HVA.out _ HI0.out).mono ?_; rintro e w1 ⟨rfl, hb1⟩) | (go_at_call 16; refine (HS.out _).mono ?_; rintro e w4 ⟨rfl, hb⟩))
    go_ret
    exact ⟨rfl, (hB.trans (hb1.mono hB.size)).trans (hb.mono (hB.trans (hb1.mono hB.size)).size)⟩
  by_cases h1 : x < 1
  · go_wp2_with (first | (go_at_call 15; refine (HW.out _).mono ?_; rintro e w3 ⟨rfl, rfl⟩) | (go_at_call 39; refine (HCR.out _ HR0.out).mono ?_; rintro e w3 ⟨rfl, rfl⟩) | (go_at_call 20; refine (HVA.out _ HI0.out).mono ?_; rintro e w1 ⟨rfl, hb1⟩) | (go_at_call 16; refine (HS.out _).mono ?_; rintro e w4 ⟨rfl, hb⟩))
    go_ret
    exact ⟨rfl, (hB.trans (hb1.mono hB.size)).trans (hb.mono (hB.trans (hb1.mono hB.size)).size)⟩
  have d1 : decide (x < 1) = false := decide_eq_false h1
  by_cases h2 : 8 < x
  · go_wp2_with (first | (go_at_call 15; refine (HW.out _).mono ?_; rintro e w3 ⟨rfl, rfl⟩) | (go_at_call 39; refine (HCR.out _ HR0.out).mono ?_; rintro e w3 ⟨rfl, rfl⟩) | (go_at_call 20; refine (HVA.out _ HI0.out).mono ?_; rintro e w1 ⟨rfl, hb1⟩) | (go_at_call 16; refine (HS.out _).mono ?_; rintro e w4 ⟨rfl, hb⟩))
    go_ret
    exact ⟨rfl, (hB.trans (hb1.mono hB.size)).trans (hb.mono (hB.trans (hb1.mono hB.size)).size)⟩
  have d2 : decide (8 < x) = false := decide_eq_false h2
  by_cases h3 : y < 0
  · go_wp2_with (first | (go_at_call 15; refine (HW.out _).mono ?_; rintro e w3 ⟨rfl, rfl⟩) | (go_at_call 39; refine (HCR.out _ HR0.out).mono ?_; rintro e w3 ⟨rfl, rfl⟩) | (go_at_call 20; refine (HVA.out _ HI0.out).mono ?_; rintro e w1 ⟨rfl, hb1⟩) | (go_at_call 16; refine (HS.out _).mono ?_; rintro e w4 ⟨rfl, hb⟩))
    go_ret
    exact ⟨rfl, (hB.trans (hb1.mono hB.size)).trans (hb.mono (hB.trans (hb1.mono hB.size)).size)⟩
  have d3 : decide (y < 0) = false := decide_eq_false h3
  by_cases h4 : 100 < y
  · go_wp2_with (first | (go_at_call 15; refine (HW.out _).mono ?_; rintro e w3 ⟨rfl, rfl⟩) | (go_at_call 39; refine (HCR.out _ HR0.out).mono ?_; rintro e w3 ⟨rfl, rfl⟩) | (go_at_call 20; refine (HVA.out _ HI0.out).mono ?_; rintro e w1 ⟨rfl, hb1⟩) | (go_at_call 16; refine (HS.out _).mono ?_; rintro e w4 ⟨rfl, hb⟩))
    go_ret
    exact ⟨rfl, (hB.trans (hb1.mono hB.size)).trans (hb.mono (hB.trans (hb1.mono hB.size)).size)⟩
  have d4 : decide (100 < y) = false := decide_eq_false h4
  have hsh : Pl.shop x y = true := Pl.shop_true.2 ⟨⟨by omega, by omega⟩, by omega, by omega⟩
  obtain ⟨g0, g1, g2, g3, g4, g5, g6, g7, g8, g9, g10, g11⟩ := HFA.out rfl hsh
  have HSH := Lib.hid hsh
  have G0 := Lib.hid g0
  have G3 := Lib.hid g3
  have G8 := Lib.hid g8
  have G9 := Lib.hid g9
  have G10 := Lib.hid g10
  have G11 := Lib.hid g11
  rw [g1] at HRO
  obtain ⟨rl, hrl⟩ : ∃ r, (Pl.rI l).length = r := ⟨_, rfl⟩
  have HA1 := Lib.hid (fun AZ cz W hI hR => HAS.out AZ cz rl hrl (by omega) (by rw [← hrl]; exact G3.out) W hI hR)
  rw [g4] at HA1
  have HRL2 : Hid ((Pl.Rs l).length = rl) := Lib.hid (by rw [← HRL.out, hrl])
  obtain ⟨made, hmade⟩ : ∃ r, Pl.asV l (Pl.rI l) x y = r := ⟨_, rfl⟩
  rw [hmade] at HA1 G8 G9 G10 G11 g5 g6 g7
  rw [hrl] at g6
  have HCV : Hid (Pl.cngV made = (rl : Nat) ∧ Pl.cngE made = 0) := Lib.hid ⟨g6, g7⟩
  obtain ⟨ml, hml⟩ : ∃ r, made.length = r := ⟨_, rfl⟩
  rw [hml] at g5 G9
  have HML := Lib.hid hml
  have hmx : (ml : Int) ≤ x := by omega
  have hne : ((ml : Int) != x) = false := by simp [g5]
  have hrr : ((rl : Int) != (rl : Int)) = false := by simp
  clear g0 g1 g2 g3 g4 g6 g7 g8 g9 g10 g11 hsh hrl hmade hml HFA HAS HRL
  go_wp2_with (first | (go_at_call 15; refine (HW.out _).mono ?_; rintro e w3 ⟨rfl, rfl⟩) | (go_at_call 39; refine (HCR.out _ HR0.out).mono ?_; rintro e w3 ⟨rfl, rfl⟩) | (go_at_call 20; refine (HVA.out _ HI0.out).mono ?_; rintro e w1 ⟨rfl, hb1⟩))
  have hB1 := hB.trans (hb1.mono hB.size)
  have HI1 := Lib.hid (HI.out.below hB1)
  clear hb1 hB HI0 HR0
  refine (HRO.out _ HI1.out).mono ?_
  rintro e w2 ⟨v2, f2, rfl, hR2, hb2⟩
  have hB2 := hB1.trans (hb2.mono hB1.size)
  have HI2 := Lib.hid (HI.out.below hB2)
  obtain ⟨A2, c2, hv2, ra, _⟩ := hR2.open encIr
  subst hv2
  have HRZ : Hid (RR inL 1 w2 A2 (Pl.rI l)) := Lib.hid (rr_zJ ra)
  rw [HRL2.out]
  clear hR2 ra hb2 hB1 HI1
  go_wp2_with fail
  refine (HA1.out _ _ _ HI2.out HRZ.out).mono ?_
  rintro e w3 ⟨v3, f3, rfl, hR3, hb3⟩
  have hB3 := hB2.trans (hb3.mono hB2.size)
  have HI3 := Lib.hid (HI.out.below hB3)
  obtain ⟨A3, c3, hv3, rm, _⟩ := hR3.open encRn
  subst hv3
  have hnz3 := nz_of_rws hR3
  rw [HML.out] at hnz3 ⊢
  have HRM := Lib.hid rm
  have HNZ3 := Lib.hid hnz3
  have HOWN := Lib.hid hR3
  rw [HML.out] at HOWN
  clear hR3 rm hb3 hB2 HI2 hnz3 HRZ
  have HBB := Lib.hid (HBO.out HSH.out A3 made c3 ml HML.out G11.out hmx G0.out G8.out G9.out G10.out w3 HI3.out HRM.out HNZ3.out)
  go_wp2_with fail
  refine HBB.out.mono ?_
  rintro e w4 ⟨rfl, hb4⟩
  have hB4 := hB3.trans (hb4.mono hB3.size)
  have HI4 := Lib.hid (HI.out.below hB4)
  have HR4 := Lib.hid (HRM.out.below hb4)
  have HN4 := Lib.hid (nz_of_rws (HOWN.out.below hb4))
  have HCL := Lib.hid (Cleanings_any A3 made c3 ml HML.out w4 HR4.out HN4.out)
  rw [HCV.out.1, HCV.out.2] at HCL
  clear hb4 hB3 HI3 HBB HRM HNZ3 HOWN
  go_wp2_with fail
  refine HCL.out.mono ?_
  rintro e w5 ⟨rfl, hb5⟩
  have hB5 := hB4.trans (hb5.mono hB4.size)
  have HI5 := Lib.hid (HI.out.below hB5)
  have HR5 := Lib.hid (HR.out.below hB5)
  clear hb5 hB4 HI4 HR4 HN4 HCL
  go_wp2_with fail
  refine (HJU.out _ HI5.out HR5.out).mono ?_
  rintro e w6 ⟨x6, y6, z6, rfl, hj6, hb6⟩
  have hB6 := hB5.trans (hb6.mono hB5.size)
  have HI6 := Lib.hid (HI.out.below hB6)
  have HR6 := Lib.hid (HR.out.below hB6)
  have HN6 := Lib.hid (HNz.out w6 hB6)
  clear hb6 hB5 HI5 HR5
  by_cases hz : z6 = 0
  · subst hz
    by_cases hmx2 : (m : Int) ≤ x
    · obtain ⟨k1, k2, k3, k4, k5⟩ := Pl.isJ_zero hj6
      rw [HM.out] at k4
      have HBB := Lib.hid (HBO.out HSH.out AR runs cr m HM.out HW64.out hmx2 k1 k3 k4 k5 w6 HI6.out HR6.out HN6.out)
      clear k1 k2 k3 k4 k5 hj6
      go_wp2_with (go_at_call 46; refine HBB.out.mono ?_; rintro e w7 ⟨rfl, hb7⟩)
      have hB7 := hB6.trans (hb7.mono hB6.size)
      clear hb7
      refine (HS.out _).mono ?_
      rintro e w8 ⟨rfl, hb⟩
      have hB8 := hB7.trans (hb.mono hB7.size)
      go_wp2
      go_ret
      exact ⟨rfl, hB8⟩
    · have dm : decide ((m : Int) ≤ x) = false := decide_eq_false hmx2
      clear hj6
      go_wp2_with fail
      refine (HS.out _).mono ?_
      rintro e w8 ⟨rfl, hb⟩
      have hB8 := hB6.trans (hb.mono hB6.size)
      go_wp2
      go_ret
      exact ⟨rfl, hB8⟩
  · have hz1 : (z6 == 0) = false := by simp [hz]
    clear hj6 hz
    go_wp2_with fail
    refine (HS.out _).mono ?_
    rintro e w8 ⟨rfl, hb⟩
    have hB8 := hB6.trans (hb.mono hB6.size)
    go_wp2
    go_ret
    exact ⟨rfl, hB8⟩
end Go.Proofs.Ytlfbfdhdkccaeaa
