/- The law of two sides that take over. -/
import Derived.Test.YtalfffkcmddakaaW1
import Derived.Test.YtalfffkcmddakaaW2
import Derived.Test.YtalfffkcmddakaaW3
import Derived.Test.YtalfffkcmddakaaS6
namespace Go.Proofs.Ytalfffkcmddakaa
open Go.RowKit Go.Shelf

theorem rows_ownJ' {W : World} {base : Nat} {v : Value} {xs : List Pl.Df} {n : Nat} (hn : xs.length = n) (h : W.ownsRow base 61 9 v n (flt dfL xs)) : ∃ A c, v = .slice A n c ∧ Rows dfL 9 W A xs := by
  subst hn
  obtain ⟨A, c, e, h1, _, _⟩ := rows_of_owns encDf h
  exact ⟨A, c, e, h1⟩
theorem rows_own8 {W : World} {base : Nat} {v : Value} {l : Pl.Bs} {n : Nat} (hn : l.length = n) (h : W.ownsRow base 5 1 v n (flt u8L l)) : ∃ A c, v = .slice A n c ∧ Rows u8L 1 W A l := by
  subst hn
  obtain ⟨A, c, e, h1, _, _⟩ := rows_of_owns encU8 h
  exact ⟨A, c, e, h1⟩
theorem Pl.jo_cases {a b : List Pl.En} (ha : Pl.Vb a) (hb : Pl.Vb b) : Pl.joE a b = 4 ∨ Pl.joE a b = 0 ∧ (Pl.jn a b).length ≤ 200 ∧ Pl.joV a b = Pl.jn a b ∧ Pl.joD a b = Pl.oth a b := by
  by_cases h : 200 < (Pl.jn a b).length
  · exact .inl (by unfold Pl.joE; rw [Pl.vb_iff.2 ha, Pl.vb_iff.2 hb, if_pos h]; rfl)
  · have e : Pl.joE a b = 0 := by unfold Pl.joE; rw [Pl.vb_iff.2 ha, Pl.vb_iff.2 hb, if_neg h]; rfl
    exact .inr ⟨e, by omega, by unfold Pl.joV; rw [if_pos e], by unfold Pl.joD; rw [if_pos e]⟩
theorem Pl.jn_vb {a b : List Pl.En} (ha : Pl.Vb a) (hb : Pl.Vb b) (hl : (Pl.jn a b).length ≤ 200) : Pl.Vb (Pl.jn a b) :=
  ⟨hl, fun e he => ((Pl.jn_mem ha hb).1 he).1.elim (ha.each e) (hb.each e), Pl.asc_nodup (Pl.jn_asc a b)⟩
set_option maxRecDepth 100000 in
set_option maxHeartbeats 32000000 in
theorem law_topbooks (A1 A2 : Option Addr) (a b : List Pl.En) (n1 c1 n2 c2 : Nat) (day : Int) (hn1 : a.length = n1) (hn2 : b.length = n2) (w : World) (hc1 : n1 ≤ c1) (hc2 : n2 ≤ c2) (ht1 : c1 ≤ maxLen) (ht2 : c2 ≤ maxLen) (hx1 : A1 = none → c1 = 0) (hx2 : A2 = none → c2 = 0) (hI1 : Rows enL 4 w A1 a) (hI2 : Rows enL 4 w A2 b) :
    Calls Try.prog 12 #[.slice A1 n1 c1, .slice A2 n2 c2, .int .i64 day] w fun e w' => e = .returned (.bool true) ∧ Below w.heap.size w w' := by
  have hm1 : n1 ≤ maxLen := Nat.le_trans hc1 ht1
  have hm2 : n2 ≤ maxLen := Nat.le_trans hc2 ht2
  have H1 := Lib.hid (fun W (h : Below w.heap.size w W) => compare2_b A1 A2 a b n1 c1 n2 c2 hn1 hn2 hm1 hm2 hx1 hx2 W (hI1.below h) (hI2.below h))
  have HB0 := Lib.hid (Below.refl w.heap.size w)
  by_cases hco : Pl.coE a b = 0
  case neg =>
    have e0 : Pl.coE a b = 90 := by unfold Pl.coE at hco ⊢; split <;> simp_all
    have e1 : Pl.coV a b = [] := by unfold Pl.coV; rw [if_neg hco]
    rw [e0, e1] at H1
    clear e0 e1 hco hI1 hI2 hn1 hn2 hc1 hc2 hm1 hm2 ht1 ht2 hx1 hx2
    go_enter Try.func12, Try.ntmps12
    go_wp2_with fail
    refine (H1.out _ HB0.out).mono ?_
    rintro e w1 ⟨v1, rfl, hO1, hb1⟩
    obtain ⟨Ad, cd, rfl, _⟩ := rows_ownJ' (xs := []) (n := 0) rfl hO1
    clear hO1
    go_wp2_with fail
    refine (keeping_b w1).mono ?_
    rintro e w2 ⟨rfl, hb2⟩
    have HB2 := Lib.hid (hb1.trans (hb2.mono hb1.size))
    clear hb1 hb2
    go_wp2
    go_ret
    exact ⟨rfl, HB2.out⟩
  case pos =>
  obtain ⟨hva, hvb⟩ := Pl.co_ok.1 hco
  have ha := Pl.vb_iff.1 hva
  have hb := Pl.vb_iff.1 hvb
  have hl1 : n1 ≤ 200 := by rw [← hn1]; exact ha.len
  have hl2 : n2 ≤ 200 := by rw [← hn2]; exact hb.len
  obtain ⟨X, hX⟩ : ∃ X, Pl.dif a b = X := ⟨_, rfl⟩
  obtain ⟨m, hm⟩ : ∃ m, X.length = m := ⟨_, rfl⟩
  have hm400 : m ≤ 400 := by rw [← hm, ← hX]; have := Pl.dif_len a b; omega
  have e1 : Pl.coV a b = X := by unfold Pl.coV; rw [if_pos hco, hX]
  rw [hco, e1, hm] at H1
  have HM := Lib.hid hm
  by_cases hday : 0 ≤ day ∧ day ≤ 100000
  case neg =>
    clear e1 hm hX hco hva hvb ha hb hI1 hI2 hn1 hn2 hc1 hc2 hm1 hm2 ht1 ht2 hx1 hx2
    by_cases hd0 : day < 0
    · have d0 : decide (day < 0) = true := by simp [hd0]
      clear hday
      go_enter Try.func12, Try.ntmps12
      go_wp2_with fail
      refine (H1.out _ HB0.out).mono ?_
      rintro e w1 ⟨v1, rfl, hO1, hb1⟩
      obtain ⟨Ad, cd, rfl, _⟩ := rows_ownJ' HM.out hO1
      clear hO1
      go_wp2_with fail
      refine (keeping_b w1).mono ?_
      rintro e w2 ⟨rfl, hb2⟩
      have HB2 := Lib.hid (hb1.trans (hb2.mono hb1.size))
      clear hb1 hb2
      go_wp2
      go_ret
      exact ⟨rfl, HB2.out⟩
    · have hd1 : 100000 < day := by omega
      have d0 : decide (day < 0) = false := by simp; omega
      have d1 : decide (100000 < day) = true := by simp [hd1]
      clear hday
      go_enter Try.func12, Try.ntmps12
      go_wp2_with fail
      refine (H1.out _ HB0.out).mono ?_
      rintro e w1 ⟨v1, rfl, hO1, hb1⟩
      obtain ⟨Ad, cd, rfl, _⟩ := rows_ownJ' HM.out hO1
      clear hO1
      go_wp2_with fail
      refine (keeping_b w1).mono ?_
      rintro e w2 ⟨rfl, hb2⟩
      have HB2 := Lib.hid (hb1.trans (hb2.mono hb1.size))
      clear hb1 hb2
      go_wp2
      go_ret
      exact ⟨rfl, HB2.out⟩
  case pos =>
  have hd0 : ¬ day < 0 := by omega
  have hd1 : ¬ 100000 < day := by omega
  have d0 : decide (day < 0) = false := by simp; omega
  have d1 : decide (100000 < day) = false := by simp; omega
  have H2 := Lib.hid (fun A c W (h : Below w.heap.size w W) (hI : Rows dfL 9 W A (Pl.dif a b)) => adds_b A1 A2 A a b n1 c1 n2 c2 m c day hn1 hn2 (by rw [hX]; exact hm) ha hb hday hx1 hx2 W (hI1.below h) (hI2.below h) hI)
  rw [hX] at H2
  have H3 := Lib.hid (fun W (h : Below w.heap.size w W) => join2_b A1 A2 a b n1 c1 n2 c2 hn1 hn2 hm1 hm2 hx1 hx2 W (hI1.below h) (hI2.below h))
  rcases Pl.jo_cases ha hb with hj | ⟨hj, hjl, hjV, hjD⟩
  · rw [hj] at H3
    have e3 : Pl.joV a b = [] := by unfold Pl.joV; rw [hj]; rfl
    have e4 : Pl.joD a b = [] := by unfold Pl.joD; rw [hj]; rfl
    rw [e3, e4] at H3
    clear e1 e3 e4 hj hm hX hco hva hvb ha hb hI1 hI2 hn1 hn2 hc1 hc2 hm1 hm2 ht1 ht2 hx1 hx2 hday
    go_enter Try.func12, Try.ntmps12
    go_wp2_with fail
    refine (H1.out _ HB0.out).mono ?_
    rintro e w1 ⟨v1, rfl, hO1, hb1⟩
    obtain ⟨Ad, cd, rfl, hRd⟩ := rows_ownJ' HM.out hO1
    have HB1 := Lib.hid hb1
    have HRd := Lib.hid hRd
    clear hO1 hb1 hRd H1
    go_wp2_with fail
    refine (H2.out _ _ _ HB1.out HRd.out).mono ?_
    rintro e w2 ⟨rfl, hb2⟩
    have HB2 := Lib.hid (HB1.out.trans (hb2.mono HB1.out.size))
    clear hb2 HRd H2
    go_wp2_with fail
    refine (H3.out _ HB2.out).mono ?_
    rintro e w3 ⟨v3, v3O, rfl, _, _, hb3⟩
    have HB3 := Lib.hid (HB2.out.trans (hb3.mono HB2.out.size))
    clear hb3 H3
    go_wp2_with fail
    refine (keeping_b w3).mono ?_
    rintro e w4 ⟨rfl, hb4⟩
    have HB4 := Lib.hid (HB3.out.trans (hb4.mono HB3.out.size))
    clear hb4
    go_wp2
    go_ret
    exact ⟨rfl, HB4.out⟩
  rw [hj, hjV, hjD] at H3
  have hvj := Pl.jn_vb ha hb hjl
  have HSW := Lib.hid (Pl.jn_swap ha hb)
  have HOW := Lib.hid (Pl.oth_swap ha hb)
  obtain ⟨J, hJ⟩ : ∃ J, Pl.jn a b = J := ⟨_, rfl⟩
  obtain ⟨O, hO⟩ : ∃ O, Pl.oth a b = O := ⟨_, rfl⟩
  obtain ⟨j, hj'⟩ : ∃ j, J.length = j := ⟨_, rfl⟩
  obtain ⟨q, hq⟩ : ∃ q, O.length = q := ⟨_, rfl⟩
  have hqm : q ≤ m := by rw [← hq, ← hO, ← hm, ← hX]; exact List.length_filter_le _ _
  have hov1 := fun h => Pl.over ha hb hjl h
  have hov2 := fun h => Pl.over hb ha (by rw [← HSW.out]; exact hjl) h
  rw [← HSW.out] at hov2
  rw [hJ, hO] at H3
  rw [hO] at hov1
  rw [hJ] at hov1 hov2 hvj hjl
  have hoz : O = [] → Pl.oth b a = [] := fun h => List.length_eq_zero_iff.1 (by rw [← HOW.out, hO, h]; rfl)
  have hvJ := Pl.vb_iff.2 hvj
  have hc2' : Pl.coE a J = 0 := Pl.co_ok.2 ⟨hva, hvJ⟩
  have hc3 : Pl.coE b J = 0 := Pl.co_ok.2 ⟨hvb, hvJ⟩
  have hs1 : Pl.snV a J = Pl.snc a J := by unfold Pl.snV; rw [if_pos hc2']
  have hs2 : Pl.snV b J = Pl.snc b J := by unfold Pl.snV; rw [if_pos hc3]
  have hjm : j ≤ maxLen := by unfold maxLen; omega
  have H4 := Lib.hid (fun A c W (h : Below w.heap.size w W) (hx : A = none → c = 0) (hI : Rows enL 4 W A J) => since2_b A1 A a J n1 c1 j c hn1 hj' hm1 hjm hx1 hx W (hI1.below h) hI)
  have H5 := Lib.hid (fun A c W (h : Below w.heap.size w W) (hx : A = none → c = 0) (hI : Rows enL 4 W A J) => since2_b A2 A b J n2 c2 j c hn2 hj' hm2 hjm hx2 hx W (hI2.below h) hI)
  rw [hc2', hs1] at H4
  rw [hc3, hs2] at H5
  have hf1 := Pl.snc_len a J
  have hf2 := Pl.snc_len b J
  obtain ⟨F1, hF1⟩ : ∃ F, Pl.snc a J = F := ⟨_, rfl⟩
  obtain ⟨F2, hF2⟩ : ∃ F, Pl.snc b J = F := ⟨_, rfl⟩
  rw [hF1] at H4 hov1 hf1
  rw [hF2] at H5 hov2 hf2
  obtain ⟨f1, hff1⟩ : ∃ f, F1.length = f := ⟨_, rfl⟩
  obtain ⟨f2, hff2⟩ : ∃ f, F2.length = f := ⟨_, rfl⟩
  rw [hff1] at H4 hf1
  rw [hff2] at H5 hf2
  rw [hj', hq] at H3
  have HJ := Lib.hid hj'
  have HQ := Lib.hid hq
  have HF1 := Lib.hid hff1
  have HF2 := Lib.hid hff2
  by_cases hq0 : q = 0
  case neg =>
    have q0 : decide ((0 : Int) < (q : Int)) = true := by simp; omega
    have qI : (0 : Int) < (q : Int) := by omega
    have qm : decide ((q : Int) ≤ (m : Int)) = true := by simp; omega
    have qmI : (q : Int) ≤ (m : Int) := by omega
    clear e1 hm hX hco hva hvb ha hb hI1 hI2 hn1 hn2 hc1 hc2 hm1 hm2 ht1 ht2 hx1 hx2 hday hj hjV hjD hov1 hov2 hoz hvj hvJ hc2' hc3 hs1 hs2 hF1 hF2 hff1 hff2 hJ hO hj' hq
    go_enter Try.func12, Try.ntmps12
    go_wp2_with fail
    refine (H1.out _ HB0.out).mono ?_
    rintro e w1 ⟨v1, rfl, hO1, hb1⟩
    obtain ⟨Ad, cd, rfl, hRd⟩ := rows_ownJ' HM.out hO1
    have HB1 := Lib.hid hb1
    have HRd := Lib.hid hRd
    clear hO1 hb1 hRd
    go_wp2_with fail
    refine (H2.out _ _ _ HB1.out HRd.out).mono ?_
    rintro e w2 ⟨rfl, hb2⟩
    have HB2 := Lib.hid (HB1.out.trans (hb2.mono HB1.out.size))
    clear hb2 HRd H2
    go_wp2_with fail
    refine (H3.out _ HB2.out).mono ?_
    rintro e w3 ⟨v3, v3O, rfl, hO3, hP3, hb3⟩
    obtain ⟨Aj, cj, rfl, hRj, _, _, hnj⟩ := rows_own2 HJ.out hO3
    obtain ⟨Ao, co, rfl, _⟩ := rows_ownJ' HQ.out hP3
    have HB3 := Lib.hid (HB2.out.trans (hb3.mono HB2.out.size))
    have HRj := Lib.hid hRj
    have HNJ := Lib.hid hnj
    clear hb3 hO3 hP3 hRj hnj H3
    go_wp2_with fail
    refine (H4.out _ _ _ HB3.out HNJ.out HRj.out).mono ?_
    rintro e w4 ⟨v4, rfl, _, hb4⟩
    have HB4 := Lib.hid (HB3.out.trans (hb4.mono HB3.out.size))
    have HRj4 := Lib.hid (HRj.out.below hb4)
    clear hb4 HRj H4
    go_wp2_with fail
    refine (H5.out _ _ _ HB4.out HNJ.out HRj4.out).mono ?_
    rintro e w5 ⟨v5, rfl, _, hb5⟩
    have HB5 := Lib.hid (HB4.out.trans (hb5.mono HB4.out.size))
    clear hb5 HRj4 H5
    go_wp2_with fail
    refine (H1.out _ HB5.out).mono ?_
    rintro e w6 ⟨v6, rfl, hO6, hb6⟩
    obtain ⟨Ae, ce, rfl, _⟩ := rows_ownJ' HM.out hO6
    have HB6 := Lib.hid (HB5.out.trans (hb6.mono HB5.out.size))
    clear hb6 hO6 H1
    go_wp2_with fail
    refine (keeping_b w6).mono ?_
    rintro e w7 ⟨rfl, hb7⟩
    have HB7 := Lib.hid (HB6.out.trans (hb7.mono HB6.out.size))
    clear hb7
    go_wp2
    go_ret
    exact ⟨rfl, HB7.out⟩
  case pos =>
  have hOn : O = [] := List.length_eq_zero_iff.1 (by omega)
  obtain ⟨_, hk1, hv1, ht1'⟩ := hov1 hOn
  obtain ⟨_, hk2, hv2, ht2'⟩ := hov2 (hoz hOn)
  have H6 := Lib.hid (fun A c W (h : Below w.heap.size w W) (hI : Rows enL 4 W A F1) => taken_b A1 A a F1 n1 c1 f1 c hn1 hff1 (by omega) hm1 hk1 hv1 W (hI1.below h) hI)
  have H7 := Lib.hid (fun A c W (h : Below w.heap.size w W) (hI : Rows enL 4 W A F2) => taken_b A2 A b F2 n2 c2 f2 c hn2 hff2 (by omega) hm2 hk2 hv2 W (hI2.below h) hI)
  rw [ht1', hj'] at H6
  rw [ht2', hj'] at H7
  have H8 := Lib.hid (fun A B c d W (hA : Rows enL 4 W A J) (hB : Rows enL 4 W B J) => dSame_eq A B J c d j hj' (by omega) W hA hB)
  have H9 := Lib.hid (fun A c W (hI : Rows enL 4 W A J) => encode2_b A J c j hj' hjm W hI)
  rw [(Pl.cd_ok hvj).1] at H9
  have H10 := Lib.hid (fun A c W (hI : Rows enL 4 W A J) => balance2_b A J c j hj' hjm day W hI)
  have hba : Pl.baE J day = 0 := by unfold Pl.baE; rw [hvJ, Pl.inB_true.2 hday]; rfl
  rw [hba] at H10
  have H11 := Lib.hid (fun A B c d W (hx : A = none → c = 0) (hy : B = none → d = 0) (hA : Rows enL 4 W A J) (hB : Rows enL 4 W B J) => compare2_b A B J J j c j d hj' hj' hjm hjm hx hy W hA hB)
  have hcj : Pl.coE J J = 0 := Pl.co_ok.2 ⟨hvJ, hvJ⟩
  have hcv : Pl.coV J J = [] := by unfold Pl.coV; rw [if_pos hcj, Pl.dif_self]
  rw [hcj, hcv] at H11
  obtain ⟨p, hp⟩ : ∃ p, (Pl.cdV J).length = p := ⟨_, rfl⟩
  rw [hp] at H9
  have HP := Lib.hid hp
  generalize Pl.cdV J = C at *
  generalize Pl.baV J day = bv at *
  have zz : (bv == bv) = true := by simp
  have q0 : decide ((0 : Int) < (q : Int)) = false := by simp; omega
  have qI : ¬ (0 : Int) < (q : Int) := by omega
  clear e1 hm hX hco hva hvb ha hb hI1 hI2 hn1 hn2 hc1 hc2 hm1 hm2 ht1 ht2 hx1 hx2 hday hj hjV hjD hov1 hov2 hoz hvj hvJ hc2' hc3 hs1 hs2 hF1 hF2 hff1 hff2 hJ hO hj' hq hk1 hv1 ht1' hk2 hv2 ht2' hba hcj hcv hp hOn
  go_enter Try.func12, Try.ntmps12
  go_wp2_with fail
  refine (H1.out _ HB0.out).mono ?_
  rintro e w1 ⟨v1, rfl, hO1, hb1⟩
  obtain ⟨Ad, cd, rfl, hRd⟩ := rows_ownJ' HM.out hO1
  have HB1 := Lib.hid hb1
  have HRd := Lib.hid hRd
  clear hO1 hb1 hRd H1
  go_wp2_with fail
  refine (H2.out _ _ _ HB1.out HRd.out).mono ?_
  rintro e w2 ⟨rfl, hb2⟩
  have HB2 := Lib.hid (HB1.out.trans (hb2.mono HB1.out.size))
  clear hb2 HRd H2
  go_wp2_with fail
  refine (H3.out _ HB2.out).mono ?_
  rintro e w3 ⟨v3, v3O, rfl, hO3, hP3, hb3⟩
  obtain ⟨Aj, cj, rfl, hRj, _, _, hnj⟩ := rows_own2 HJ.out hO3
  obtain ⟨Ao, co, rfl, _⟩ := rows_ownJ' HQ.out hP3
  have HB3 := Lib.hid (HB2.out.trans (hb3.mono HB2.out.size))
  have HRj := Lib.hid hRj
  have HNJ := Lib.hid hnj
  clear hb3 hO3 hP3 hRj hnj H3
  go_wp2_with fail
  refine (H4.out _ _ _ HB3.out HNJ.out HRj.out).mono ?_
  rintro e w4 ⟨v4, rfl, hO4, hb4⟩
  obtain ⟨Af, cf, rfl, hRf, _, _, _⟩ := rows_own2 HF1.out hO4
  have HB4 := Lib.hid (HB3.out.trans (hb4.mono HB3.out.size))
  have HRj4 := Lib.hid (HRj.out.below hb4)
  have HRf := Lib.hid hRf
  clear hb4 HRj H4 hO4 hRf
  go_wp2_with fail
  refine (H5.out _ _ _ HB4.out HNJ.out HRj4.out).mono ?_
  rintro e w5 ⟨v5, rfl, hO5, hb5⟩
  obtain ⟨Ag, cg, rfl, hRg, _, _, _⟩ := rows_own2 HF2.out hO5
  have HB5 := Lib.hid (HB4.out.trans (hb5.mono HB4.out.size))
  have HRj5 := Lib.hid (HRj4.out.below hb5)
  have HRf5 := Lib.hid (HRf.out.below hb5)
  have HRg := Lib.hid hRg
  clear hb5 HRj4 H5 HRf hO5 hRg
  go_wp2_with fail
  refine (H6.out _ _ _ HB5.out HRf5.out).mono ?_
  rintro e w6 ⟨v6, rfl, hO6, hb6⟩
  obtain ⟨Ax, cx, rfl, hRx, _, _, hnx⟩ := rows_own2 HJ.out hO6
  have HB6 := Lib.hid (HB5.out.trans (hb6.mono HB5.out.size))
  have HRj6 := Lib.hid (HRj5.out.below hb6)
  have HRg6 := Lib.hid (HRg.out.below hb6)
  have HRx := Lib.hid hRx
  have HNX := Lib.hid hnx
  clear hb6 HRj5 HRf5 HRg H6 hO6 hRx hnx
  go_wp2_with fail
  refine (H7.out _ _ _ HB6.out HRg6.out).mono ?_
  rintro e w7 ⟨v7, rfl, hO7, hb7⟩
  obtain ⟨Ay, cy, rfl, hRy, _, _, hny⟩ := rows_own2 HJ.out hO7
  have HB7 := Lib.hid (HB6.out.trans (hb7.mono HB6.out.size))
  have HRj7 := Lib.hid (HRj6.out.below hb7)
  have HRx7 := Lib.hid (HRx.out.below hb7)
  have HRy := Lib.hid hRy
  have HNY := Lib.hid hny
  clear hb7 HRj6 HRg6 HRx H7 hO7 hRy hny
  go_wp2_with fail
  refine (H8.out _ _ _ _ _ HRx7.out HRj7.out).mono ?_
  rintro e w8 ⟨rfl, hb8⟩
  have HB8 := Lib.hid (HB7.out.trans (hb8.mono HB7.out.size))
  have HRj8 := Lib.hid (HRj7.out.below hb8)
  have HRx8 := Lib.hid (HRx7.out.below hb8)
  have HRy8 := Lib.hid (HRy.out.below hb8)
  clear hb8 HRj7 HRx7 HRy
  go_wp2_with fail
  refine (H8.out _ _ _ _ _ HRy8.out HRj8.out).mono ?_
  rintro e w9 ⟨rfl, hb9⟩
  have HB9 := Lib.hid (HB8.out.trans (hb9.mono HB8.out.size))
  have HRx9 := Lib.hid (HRx8.out.below hb9)
  have HRy9 := Lib.hid (HRy8.out.below hb9)
  clear hb9 HRj8 HRx8 HRy8 H8
  go_wp2_with fail
  refine (H9.out _ _ _ HRx9.out).mono ?_
  rintro e w10 ⟨v10, rfl, hO10, hb10⟩
  obtain ⟨Ap, cp, rfl, hRp⟩ := rows_own8 HP.out hO10
  have HB10 := Lib.hid (HB9.out.trans (hb10.mono HB9.out.size))
  have HRx10 := Lib.hid (HRx9.out.below hb10)
  have HRy10 := Lib.hid (HRy9.out.below hb10)
  have HRp := Lib.hid hRp
  clear hb10 HRx9 HRy9 hO10 hRp
  go_wp2_with fail
  refine (H9.out _ _ _ HRy10.out).mono ?_
  rintro e w11 ⟨v11, rfl, hO11, hb11⟩
  obtain ⟨Aq, cq, rfl, hRq⟩ := rows_own8 HP.out hO11
  have HB11 := Lib.hid (HB10.out.trans (hb11.mono HB10.out.size))
  have HRx11 := Lib.hid (HRx10.out.below hb11)
  have HRy11 := Lib.hid (HRy10.out.below hb11)
  have HRp11 := Lib.hid (HRp.out.below hb11)
  have HRq := Lib.hid hRq
  clear hb11 HRx10 HRy10 hO11 hRq HRp H9
  go_wp2_with fail
  refine (H10.out _ _ _ HRx11.out).mono ?_
  rintro e w12 ⟨rfl, hb12⟩
  have HB12 := Lib.hid (HB11.out.trans (hb12.mono HB11.out.size))
  have HRx12 := Lib.hid (HRx11.out.below hb12)
  have HRy12 := Lib.hid (HRy11.out.below hb12)
  have HRp12 := Lib.hid (HRp11.out.below hb12)
  have HRq12 := Lib.hid (HRq.out.below hb12)
  clear hb12 HRx11 HRy11 HRp11 HRq
  go_wp2_with fail
  refine (H10.out _ _ _ HRy12.out).mono ?_
  rintro e w13 ⟨rfl, hb13⟩
  have HB13 := Lib.hid (HB12.out.trans (hb13.mono HB12.out.size))
  have HRx13 := Lib.hid (HRx12.out.below hb13)
  have HRy13 := Lib.hid (HRy12.out.below hb13)
  have HRp13 := Lib.hid (HRp12.out.below hb13)
  have HRq13 := Lib.hid (HRq12.out.below hb13)
  clear hb13 HRx12 HRy12 HRp12 HRq12 H10
  go_wp2_with fail
  refine (H11.out _ _ _ _ _ HNX.out HNY.out HRx13.out HRy13.out).mono ?_
  rintro e w14 ⟨v14, rfl, hO14, hb14⟩
  obtain ⟨Az, cz, rfl, _⟩ := rows_ownJ' (xs := []) (n := 0) rfl hO14
  have HB14 := Lib.hid (HB13.out.trans (hb14.mono HB13.out.size))
  have cv1 := conv_rows (HRp13.out.below hb14) p cp HP.out
  have cv2 := conv_rows (HRq13.out.below hb14) p cq HP.out
  generalize str C = S at *
  have hSS : (S.toList == S.toList) = true := by simp
  clear hb14 HRx13 HRy13 HRp13 HRq13 H11 hO14
  go_wp2_with fail
  refine (keeping_b w14).mono ?_
  rintro e w15 ⟨rfl, hb15⟩
  have HB15 := Lib.hid (HB14.out.trans (hb15.mono HB14.out.size))
  clear hb15
  go_wp2
  go_ret
  exact ⟨rfl, HB15.out⟩
end Go.Proofs.Ytalfffkcmddakaa
