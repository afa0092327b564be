/- The law of comparisons. -/
import Derived.Test.YtalfffkcmddakaaT2
import Derived.Test.YtalfffkcmddakaaZ8
namespace Go.Proofs.Ytalfffkcmddakaa
open Go.RowKit Go.Shelf

theorem Pl.cov_len (a b : List Pl.En) : (Pl.coV a b).length ≤ 400 := by
  unfold Pl.coV
  split
  · rename_i h
    obtain ⟨h1, h2⟩ := Pl.co_ok.1 h
    have := Pl.dif_len a b
    have := (Pl.vb_iff.1 h1).len
    have := (Pl.vb_iff.1 h2).len
    omega
  · simp
theorem Pl.agv_len (a b : List Pl.En) : (Pl.agV a b).length ≤ 200 := by
  unfold Pl.agV
  split
  · rename_i h
    obtain ⟨h1, h2⟩ := Pl.co_ok.1 h
    have := Pl.agr_len a b
    have := (Pl.vb_iff.1 h1).len
    omega
  · simp
theorem rows_ownF {W : World} {base : Nat} {v : Value} {xs : List Pl.Df} {n : Nat} (hn : xs.length = n) (h : W.ownsRow base 61 9 v n (flt dfL xs)) : ∃ A c, v = .slice A n c ∧ Rows dfL 9 W A xs := by
  subst hn
  obtain ⟨A, c, e, h1, _, _⟩ := rows_of_owns encDf h
  exact ⟨A, c, e, h1⟩
set_option maxRecDepth 100000 in
set_option maxHeartbeats 16000000 in
theorem law_compares (A1 A2 : Option Addr) (a b : List Pl.En) (n1 c1 n2 c2 : Nat) (hn1 : a.length = n1) (hn2 : b.length = n2) (w : World) (hc1 : n1 ≤ c1) (hc2 : n2 ≤ c2) (ht1 : c1 ≤ maxLen) (ht2 : c2 ≤ maxLen) (hx1 : A1 = none → c1 = 0) (hx2 : A2 = none → c2 = 0) (hI1 : Rows enL 4 w A1 a) (hI2 : Rows enL 4 w A2 b) :
    Calls Try.prog 6 #[.slice A1 n1 c1, .slice A2 n2 c2] w fun e w' => e = .returned (.bool true) ∧ Below w.heap.size w w' := by
  have hm1 : n1 ≤ maxLen := Nat.le_trans hc1 ht1
  have hm2 : n2 ≤ maxLen := Nat.le_trans hc2 ht2
  have H1 := Lib.hid (fun W (h : Below w.heap.size w W) => compare2_b A1 A2 a b n1 c1 n2 c2 hn1 hn2 hm1 hm2 hx1 hx2 W (hI1.below h) (hI2.below h))
  have H2 := Lib.hid (fun W (h : Below w.heap.size w W) => dcompare2_b A1 A2 a b n1 c1 n2 c2 hn1 hn2 hc1 hc2 hm1 hm2 W (hI1.below h) (hI2.below h))
  have H3 := Lib.hid (fun W (h : Below w.heap.size w W) => agreed2_b A1 A2 a b n1 c1 n2 c2 hn1 hn2 hm1 hm2 hx1 hx2 W (hI1.below h) (hI2.below h))
  have H4 := Lib.hid (fun W (h : Below w.heap.size w W) => dagreed2_b A1 A2 a b n1 c1 n2 c2 hn1 hn2 hc1 hc2 hm1 hm2 W (hI1.below h) (hI2.below h))
  have HB0 := Lib.hid (Below.refl w.heap.size w)
  have hlx := Pl.cov_len a b
  have hly := Pl.agv_len a b
  generalize Pl.coE a b = er at *
  generalize Pl.coV a b = X at *
  generalize Pl.agV a b = Y at *
  obtain ⟨m, hm⟩ : ∃ m, X.length = m := ⟨_, rfl⟩
  obtain ⟨p, hp⟩ : ∃ p, Y.length = p := ⟨_, rfl⟩
  rw [hm] at hlx H1 H2
  rw [hp] at hly H3 H4
  have HM := Lib.hid hm
  have HP := Lib.hid hp
  have n1' : (er != er) = false := by simp
  have n2' : (er == er) = true := by simp
  clear hm hp hI1 hI2 hx1 hx2 ht1 ht2 hc1 hc2 hn1 hn2 hm1 hm2
  go_enter Try.func6, Try.ntmps6
  go_wp2_with fail
  refine (H1.out _ HB0.out).mono ?_
  rintro e w1 ⟨v1, rfl, hO1, hb1⟩
  obtain ⟨Ax, cx, rfl, hRx⟩ := rows_ownF HM.out hO1
  have HRx := Lib.hid hRx
  clear hO1 hRx
  go_wp2_with fail
  refine (H2.out _ hb1).mono ?_
  rintro e w2 ⟨v2, rfl, hO2, hb2⟩
  obtain ⟨Ay, cy, rfl, hRy⟩ := rows_ownF HM.out hO2
  have HB2 := Lib.hid (hb1.trans (hb2.mono hb1.size))
  have HSD := Lib.hid (sameDiffs_eq Ax Ay X cx cy m HM.out (by omega) w2 (HRx.out.below hb2) hRy)
  clear hO2 hb1 hb2 hRy HRx
  go_wp2_with fail
  refine HSD.out.mono ?_
  rintro e w3 ⟨rfl, hb3⟩
  have HB3 := Lib.hid (HB2.out.trans (hb3.mono HB2.out.size))
  clear hb3 HSD
  go_wp2_with fail
  refine (H3.out _ HB3.out).mono ?_
  rintro e w4 ⟨v4, rfl, hO4, hb4⟩
  obtain ⟨Ag, cg, rfl, hRg, _, _, _⟩ := rows_own2 HP.out hO4
  have HB4 := Lib.hid (HB3.out.trans (hb4.mono HB3.out.size))
  have HRg := Lib.hid hRg
  clear hO4 hb4 hRg
  go_wp2_with fail
  refine (H4.out _ HB4.out).mono ?_
  rintro e w5 ⟨v5, rfl, hO5, hb5⟩
  obtain ⟨Ah, ch, rfl, hRh, _, _, _⟩ := rows_own2 HP.out hO5
  have HB5 := Lib.hid (HB4.out.trans (hb5.mono HB4.out.size))
  have HSE := Lib.hid (same_eq Ag Ah Y cg ch p HP.out (by omega) w5 (HRg.out.below hb5) hRh)
  clear hO5 hb5 hRh HRg
  go_wp2_with fail
  refine HSE.out.mono ?_
  rintro e w6 ⟨rfl, hb6⟩
  have HB6 := Lib.hid (HB5.out.trans (hb6.mono HB5.out.size))
  clear hb6 HSE
  go_wp2_with fail
  refine (awake_any w6).mono ?_
  rintro e w9 ⟨rfl, hb9⟩
  have HB9 := Lib.hid (HB6.out.trans (hb9.mono HB6.out.size))
  clear hb9
  go_wp2
  go_ret
  exact ⟨rfl, HB9.out⟩
end Go.Proofs.Ytalfffkcmddakaa
