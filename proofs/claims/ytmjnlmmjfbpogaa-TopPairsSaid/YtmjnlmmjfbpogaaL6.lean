/- TempleGuards. -/
import Derived.Test.YtmjnlmmjfbpogaaS14
import Derived.Test.YtmjnlmmjfbpogaaS9
import Derived.Test.YtmjnlmmjfbpogaaS6
namespace Go.Proofs.Ytmjnlmmjfbpogaa
open Go.RowKit Go.Shelf

theorem rows_int {W : World} {A : Option Addr} {l : List Nat} (h : Rows irc 1 W A l) : Rows iic 1 W A (l.map (fun n : Nat => (n : Int))) := by
  rcases h with rfl | ⟨b, off, h1, h2, h3⟩
  · exact .inl rfl
  · refine .inr ⟨b, off, h1, h2, fun i hi => ?_⟩
    rw [List.getElem_map]
    exact h3 i (by simpa using hi)

set_option maxRecDepth 100000 in
set_option maxHeartbeats 8000000 in
theorem law_guards (A : Option Addr) (l : List Pl.Tm) (c : Nat) (hnc : l.length ≤ c) (hcm : c ≤ maxLen) (tol : Int) (AL : Option Addr) (L : List Int) (cl : Nat) (w : World) (hI : Tms w A l) (hL : Rows iic 1 w AL L) :
    Calls Try.prog 6 #[.slice A l.length c, .int .i64 tol, .slice AL L.length cl] w fun e w' => e = .returned (.bool true) ∧ Below w.heap.size w w' := by
  have HI := Lib.hid hI
  have HL := Lib.hid hL
  have HS := Lib.hid sane_any
  have H1 := Lib.hid (fun (w' : World) m (hm : L.length = m) (hm6 : m ≤ 600) hI hL => IsGuard_any A l c _ rfl hnc hcm tol AL L cl m hm hm6 w' hI hL)
  have H2 := Lib.hid (fun (w' : World) m (hm : L.length = m) (hm6 : m ≤ 600) hI hL => rIsGuard_any A l c _ rfl tol AL L cl m hm hm6 w' hI hL)
  have H3 := Lib.hid (fun (w' : World) hI => Guard_any A l c _ rfl tol w' hI)
  have H4 := Lib.hid (fun (w' : World) hI => rMost_any A l c _ rfl tol w' hI)
  have H5 := Lib.hid (fun (w' : World) AG (g : List Nat) cg m (hm : g.length = m) (hm6 : m ≤ 600) hI hL => rIsGuard_any A l c _ rfl tol AG (g.map (fun n : Nat => (n : Int))) cg m (by rw [List.length_map]; exact hm) hm6 w' hI hL)
  have HG0 := Lib.hid (fun g (h : Pl.Gp l tol g) => (⟨h.len, h.small, h.ig, h.rise⟩ : g.length = (Pl.Mt l tol).length ∧ g.length ≤ l.length ∧ (Pl.ck l tol = 0 → Pl.igV l tol (g.map fun i : Nat => (i : Int)) = true ∧ Pl.igE l tol (g.map fun i : Nat => (i : Int)) = 0) ∧ ∀ k (h : k + 1 < g.length), g[k] < g[k + 1]))
  have HGZ : Hid (∀ r, Pl.ck l tol = r → r ≠ 0 → (Pl.Mt l tol).length = 0) := Lib.hid (fun r hr h0 => by unfold Pl.Mt; rw [if_neg (by rw [hr]; exact h0)]; rfl)
  generalize (Pl.Mt l tol).length = M at *
  generalize Pl.ck l tol = r at *
  generalize l.length = n at *
  obtain ⟨m, hm⟩ : ∃ m, L.length = m := ⟨_, rfl⟩
  rw [hm]
  have HM := Lib.hid hm
  clear hI hL hm hnc hcm
  have hB0 := Below.refl w.heap.size w
  by_cases hw : (40 : Int) < (n : Int)
  · have HW := Lib.hid (wide_b A n c 40 true (by simp [hw]))
    go_enter Try.func6, Try.ntmps6
    go_wp2_with fail
    refine (HW.out _).mono ?_
    rintro e w3 ⟨rfl, rfl⟩
    go_wp2_with fail
    refine (HS.out _).mono ?_
    rintro e w4 ⟨rfl, hb⟩
    go_wp2
    go_ret
    exact ⟨rfl, hB0.trans (hb.mono hB0.size)⟩
  have HW := Lib.hid (wide_b A n c 40 false (by simp [hw]))
  by_cases h6 : (60 : Int) < (m : Int)
  · go_enter Try.func6, Try.ntmps6
    go_wp2_with fail
    refine (HW.out _).mono ?_
    rintro e w3 ⟨rfl, rfl⟩
    go_wp2_with fail
    refine (HS.out _).mono ?_
    rintro e w4 ⟨rfl, hb⟩
    go_wp2
    go_ret
    exact ⟨rfl, hB0.trans (hb.mono hB0.size)⟩
  have HM6 : Hid (m ≤ 600) := Lib.hid (by omega)
  have hn40 : n ≤ 40 := by omega
  clear hw
  go_enter Try.func6, Try.ntmps6
  go_wp2_with fail
  refine (HW.out _).mono ?_
  rintro e w0 ⟨rfl, rfl⟩
  go_wp2_with fail
  refine (H1.out _ m HM.out HM6.out HI.out HL.out).mono ?_
  rintro e w1 ⟨rfl, hb⟩
  have hB1 := hB0.trans (hb.mono hB0.size)
  have HI1 := Lib.hid (HI.out.below hb)
  have HL1 := Lib.hid (HL.out.below hb)
  clear hb hB0 HI HL H1
  go_wp2_with fail
  refine (H2.out _ m HM.out HM6.out HI1.out HL1.out).mono ?_
  rintro e w2 ⟨rfl, hb⟩
  have hB2 := hB1.trans (hb.mono hB1.size)
  have HI2 := Lib.hid (HI1.out.below hb)
  clear hb hB1 HI1 HL1 H2
  generalize Pl.igV l tol L = y1 at *
  generalize Pl.igE l tol L = y2 at *
  go_wp2_with fail
  refine (H3.out _ HI2.out).mono ?_
  rintro e w3 ⟨v3, g, rfl, hg, hown, hb⟩
  obtain ⟨AG, cg, rfl, hr, hgc, _⟩ := rows_of_owns encIr hown
  have hB3 := hB2.trans (hb.mono hB2.size)
  have HI3 := Lib.hid (HI2.out.below hb)
  have HR3 := Lib.hid hr
  obtain ⟨g1, g2, g3, g4⟩ := HG0.out g hg
  have HG3 := Lib.hid g3
  have HG4 := Lib.hid g4
  obtain ⟨z, hz⟩ : ∃ z, g.length = z := ⟨_, rfl⟩
  have HZ := Lib.hid hz
  rw [hz] at g1 g2 hgc ⊢
  clear hown hb hB2 HI2 H3 hr hg g3 g4 HG0 hz
  subst g1
  go_wp2_with fail
  refine (H4.out _ HI3.out).mono ?_
  rintro e w4 ⟨rfl, hb⟩
  have hB4 := hB3.trans (hb.mono hB3.size)
  have HI4 := Lib.hid (HI3.out.below hb)
  have HR4 := Lib.hid (HR3.out.below hb)
  clear hb hB3 HI3 H4 HR3
  by_cases h0 : r = 0
  rotate_left
  · have hz0 : z = 0 := HGZ.out r rfl h0
    subst hz0
    have h1 : (r != 0) = true := by simp [h0]
    clear h0
    go_wp2_with fail
    refine (HS.out _).mono ?_
    rintro e w5 ⟨rfl, hb⟩
    go_wp2
    go_ret
    exact ⟨rfl, hB4.trans (hb.mono hB4.size)⟩
  subst h0
  have hig := HG3.out rfl
  have HV := Lib.hid hig.1
  have HE := Lib.hid hig.2
  clear hig
  go_wp2_with fail
  refine (H5.out _ AG g cg z HZ.out (by omega) HI4.out (rows_int HR4.out)).mono ?_
  rintro e w5 ⟨rfl, hb⟩
  rw [HV.out, HE.out]
  have hB5 := hB4.trans (hb.mono hB4.size)
  have HR5 := Lib.hid (HR4.out.below hb)
  clear hb hB4 HI4 H5 HR4
  go_wp2
  go_loopw [17] (fun j wr => ∃ k : Nat, 1 ≤ k ∧ j = .int .i64 k ∧ (k ≤ z ∨ k = 1) ∧ Below w5.heap.size w5 wr) (fun j _ => z - (intOf j).toNat)
  case atStart => exact ⟨1, Nat.le_refl _, rfl, .inr rfl, Below.refl _ _⟩
  case round =>
    obtain ⟨k, hk1, rfl, hk, hW⟩ := hrel
    obtain ⟨wo, rfl⟩ : ∃ wo, wo = wr := ⟨_, rfl⟩
    by_cases hlt : k < z
    · have hltI : (k : Int) < (z : Int) := by omega
      obtain ⟨k', rfl⟩ : ∃ k', k = k' + 1 := ⟨k - 1, by omega⟩
      have hkg : k' + 1 < g.length := by rw [HZ.out]; exact hlt
      have hrise := HG4.out k' hkg
      obtain ⟨bg, og, rfl, hbg, hcg⟩ := HR5.out.open (by omega)
      have q0 : wo.cell? ⟨bg, og + (k' + 1), none⟩ = some (.int .i64 (g[k' + 1] : Nat)) := by have := (rangeAt_below (hcg (k' + 1) hkg) hbg hW) 0 _ rfl; rwa [Nat.mul_one] at this
      have q1 : wo.cell? ⟨bg, og + k', none⟩ = some (.int .i64 (g[k'] : Nat)) := by have := (rangeAt_below (hcg k' (by omega)) hbg hW) 0 _ rfl; rwa [Nat.mul_one] at this
      clear hcg
      generalize g[k' + 1] = x1 at *
      generalize g[k'] = x0 at *
      have hriseI : ¬ (x1 : Int) ≤ (x0 : Int) := by omega
      have z1 := fun e : Ext wo => e.cell q0
      have z2 := fun e : Ext wo => e.cell q1
      clear q0 q1 hrise
      go_wp2
      refine wp_region_ext (by kernel_rfl) (by kernel_rfl) ?_
      repeat (go_big_quiet_step (fail))
      refine wpQuiet_nil ?_
      rintro _ ⟨s, rfl⟩
      have hW2 := hW.trans (s.h.mono hW.size)
      generalize s.w = w6 at *
      clear z1 z2 s
      go_wp2
      go_roundw
      case rel => exact ⟨k' + 1 + 1, by omega, by go_num, .inl (by omega), hW2⟩
      case measure => simp [intOf]; omega
    · have hlt' : ¬ (k : Int) < (z : Int) := by omega
      have hB6 := hB5.trans (hW.mono hB5.size)
      go_wp2_with fail
      refine (HS.out _).mono ?_
      rintro e w6 ⟨rfl, hb⟩
      go_wp2
      go_ret
      exact ⟨rfl, hB6.trans (hb.mono hB6.size)⟩
end Go.Proofs.Ytmjnlmmjfbpogaa
