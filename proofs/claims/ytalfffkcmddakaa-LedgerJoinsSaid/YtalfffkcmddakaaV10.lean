/- The law of joining. -/
import Derived.Test.YtalfffkcmddakaaT3
import Derived.Test.YtalfffkcmddakaaZ8
namespace Go.Proofs.Ytalfffkcmddakaa
open Go.RowKit Go.Shelf

theorem Pl.joe_ok {a b : List Pl.En} (h : Pl.joE a b = 0) : Pl.vB a = true ∧ Pl.vB b = true ∧ (Pl.jn a b).length ≤ 200 := by
  unfold Pl.joE at h
  cases h1 : Pl.vB a <;> cases h2 : Pl.vB b <;> simp [h1, h2] at h ⊢
  exact h
theorem Pl.jov_l (a b : List Pl.En) : (Pl.joV a b).length ≤ 200 := by
  unfold Pl.joV
  split
  · rename_i h; exact (Pl.joe_ok h).2.2
  · simp
theorem Pl.jod_l (a b : List Pl.En) : (Pl.joD a b).length ≤ 400 := by
  unfold Pl.joD
  split
  · rename_i h
    obtain ⟨h1, h2, _⟩ := Pl.joe_ok h
    have := Pl.oth_len a b
    have := (Pl.vb_iff.1 h1).len
    have := (Pl.vb_iff.1 h2).len
    omega
  · simp
theorem Pl.snv_l (a b : List Pl.En) : (Pl.snV a b).length ≤ 200 := by
  unfold Pl.snV
  split
  · rename_i h
    obtain ⟨_, h2⟩ := Pl.co_ok.1 h
    have := Pl.snc_len a b
    have := (Pl.vb_iff.1 h2).len
    omega
  · simp
theorem rows_ownJ {W : World} {base : Nat} {v : Value} {xs : List Pl.Df} {n : Nat} (hn : xs.length = n) (h : W.ownsRow base 61 9 v n (flt dfL xs)) : ∃ A c, v = .slice A n c ∧ Rows dfL 9 W A xs := by
  subst hn
  obtain ⟨A, c, e, h1, _, _⟩ := rows_of_owns encDf h
  exact ⟨A, c, e, h1⟩
set_option maxRecDepth 100000 in
set_option maxHeartbeats 16000000 in
theorem law_joins (A1 A2 : Option Addr) (a b : List Pl.En) (n1 c1 n2 c2 : Nat) (hn1 : a.length = n1) (hn2 : b.length = n2) (w : World) (hc1 : n1 ≤ c1) (hc2 : n2 ≤ c2) (ht1 : c1 ≤ maxLen) (ht2 : c2 ≤ maxLen) (hx1 : A1 = none → c1 = 0) (hx2 : A2 = none → c2 = 0) (hI1 : Rows enL 4 w A1 a) (hI2 : Rows enL 4 w A2 b) :
    Calls Try.prog 7 #[.slice A1 n1 c1, .slice A2 n2 c2] w fun e w' => e = .returned (.bool true) ∧ Below w.heap.size w w' := by
  have hm1 : n1 ≤ maxLen := Nat.le_trans hc1 ht1
  have hm2 : n2 ≤ maxLen := Nat.le_trans hc2 ht2
  have H1 := Lib.hid (fun W (h : Below w.heap.size w W) => join2_b A1 A2 a b n1 c1 n2 c2 hn1 hn2 hm1 hm2 hx1 hx2 W (hI1.below h) (hI2.below h))
  have H2 := Lib.hid (fun W (h : Below w.heap.size w W) => djoin2_b A1 A2 a b n1 c1 n2 c2 hn1 hn2 hc1 hc2 hm1 hm2 W (hI1.below h) (hI2.below h))
  have H3 := Lib.hid (fun W (h : Below w.heap.size w W) => since2_b A1 A2 a b n1 c1 n2 c2 hn1 hn2 hm1 hm2 hx1 hx2 W (hI1.below h) (hI2.below h))
  have H4 := Lib.hid (fun W (h : Below w.heap.size w W) => dsince2_b A1 A2 a b n1 c1 n2 c2 hn1 hn2 hc1 hc2 hm1 hm2 W (hI1.below h) (hI2.below h))
  have HB0 := Lib.hid (Below.refl w.heap.size w)
  have hlx := Pl.jov_l a b
  have hld := Pl.jod_l a b
  have hly := Pl.snv_l a b
  generalize Pl.joE a b = je at *
  generalize Pl.joV a b = X at *
  generalize Pl.joD a b = D at *
  generalize Pl.coE a b = er at *
  generalize Pl.snV a b = Y at *
  obtain ⟨m, hm⟩ : ∃ m, X.length = m := ⟨_, rfl⟩
  obtain ⟨q, hq⟩ : ∃ q, D.length = q := ⟨_, rfl⟩
  obtain ⟨p, hp⟩ : ∃ p, Y.length = p := ⟨_, rfl⟩
  rw [hm] at hlx H1 H2
  rw [hq] at hld H1 H2
  rw [hp] at hly H3 H4
  have HM := Lib.hid hm
  have HQ := Lib.hid hq
  have HP := Lib.hid hp
  have n1' : (je != je) = false := by simp
  have n2' : (er == er) = true := by simp
  clear hm hq hp hI1 hI2 hx1 hx2 ht1 ht2 hc1 hc2 hn1 hn2 hm1 hm2
  go_enter Try.func7, Try.ntmps7
  go_wp2_with fail
  refine (H1.out _ HB0.out).mono ?_
  rintro e w1 ⟨v1, vO1, rfl, hO1, hP1, hb1⟩
  obtain ⟨Ax, cx, rfl, hRx, _, _, _⟩ := rows_own2 HM.out hO1
  obtain ⟨Ad, cd, rfl, hRd⟩ := rows_ownJ HQ.out hP1
  have HRx := Lib.hid hRx
  have HRd := Lib.hid hRd
  clear hO1 hRx hP1 hRd
  go_wp2_with fail
  refine (H2.out _ hb1).mono ?_
  rintro e w2 ⟨v2, vO2, rfl, hO2, hP2, hb2⟩
  obtain ⟨Ay, cy, rfl, hRy, _, _, _⟩ := rows_own2 HM.out hO2
  obtain ⟨Af, cf, rfl, hRf⟩ := rows_ownJ HQ.out hP2
  have HB2 := Lib.hid (hb1.trans (hb2.mono hb1.size))
  have HSE := Lib.hid (same_eq Ax Ay X cx cy m HM.out (by omega) w2 (HRx.out.below hb2) hRy)
  have HRd2 := Lib.hid (HRd.out.below hb2)
  have HRf := Lib.hid hRf
  clear hO2 hb1 hb2 hRy HRx hP2 hRf HRd
  go_wp2_with fail
  refine HSE.out.mono ?_
  rintro e w3 ⟨rfl, hb3⟩
  have HB3 := Lib.hid (HB2.out.trans (hb3.mono HB2.out.size))
  have HSD := Lib.hid (sameDiffs_eq Ad Af D cd cf q HQ.out (by omega) w3 (HRd2.out.below hb3) (HRf.out.below hb3))
  clear hb3 HSE HRd2 HRf
  go_wp2_with fail
  refine HSD.out.mono ?_
  rintro e w3' ⟨rfl, hb3⟩
  have HB3' := Lib.hid (HB3.out.trans (hb3.mono HB3.out.size))
  clear hb3 HSD HB3
  go_wp2_with fail
  refine (H3.out _ HB3'.out).mono ?_
  rintro e w4 ⟨v4, rfl, hO4, hb4⟩
  obtain ⟨Ag, cg, rfl, hRg, _, _, _⟩ := rows_own2 HP.out hO4
  have HB4 := Lib.hid (HB3'.out.trans (hb4.mono HB3'.out.size))
  have HRg := Lib.hid hRg
  clear hO4 hb4 hRg
  go_wp2_with fail
  refine (H4.out _ HB4.out).mono ?_
  rintro e w5 ⟨v5, rfl, hO5, hb5⟩
  obtain ⟨Ah, ch, rfl, hRh, _, _, _⟩ := rows_own2 HP.out hO5
  have HB5 := Lib.hid (HB4.out.trans (hb5.mono HB4.out.size))
  have HSE := Lib.hid (same_eq Ag Ah Y cg ch p HP.out (by omega) w5 (HRg.out.below hb5) hRh)
  clear hO5 hb5 hRh HRg
  go_wp2_with fail
  refine HSE.out.mono ?_
  rintro e w6 ⟨rfl, hb6⟩
  have HB6 := Lib.hid (HB5.out.trans (hb6.mono HB5.out.size))
  clear hb6 HSE
  go_wp2_with fail
  refine (awake_any w6).mono ?_
  rintro e w9 ⟨rfl, hb9⟩
  have HB9 := Lib.hid (HB6.out.trans (hb9.mono HB6.out.size))
  clear hb9
  go_wp2
  go_ret
  exact ⟨rfl, HB9.out⟩
end Go.Proofs.Ytalfffkcmddakaa
