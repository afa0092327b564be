/- Split and Discount, of the document; two lists that are the same. -/
import Derived.Test.YtdihnbjmeppbcaaDoorWA
namespace Go.Proofs.YtdihnbjmeppbcaaDoor
open Go.RowKit Go.Shelf

theorem wok_iff {l : List Int} : Pl.wok l = true ↔ ∀ i, i < l.length → Pl.wt (Pl.el l i) = true := by
  unfold Pl.wok
  rw [List.all_eq_true]
  constructor
  · intro h i hi
    rw [Pl.el_get hi]
    exact h _ (List.getElem_mem hi)
  · intro h x hx
    obtain ⟨i, hi, rfl⟩ := List.getElem_of_mem hx
    rw [← Pl.el_get hi]
    exact h i hi
theorem cu_part {l : List Int} {k : Nat} (h : ∀ i, i < k → Pl.wt (Pl.el l i) = true) (hk : k ≤ 100) : 0 ≤ Pl.cu l k ∧ Pl.cu l k ≤ 1000000 := by
  have h1 : (k : Int) * 0 ≤ Pl.cu l k ∧ Pl.cu l k ≤ (k : Int) * 10000 := Pl.sm_bound (f := Pl.el l) (n := k) (fun i hi => Pl.inB_true.1 (h i hi))
  omega

set_option maxRecDepth 100000 in
set_option maxHeartbeats 2000000 in
theorem same_eq (A B : Option Addr) (xs : List Int) (c d n : Nat) (hn : xs.length = n) (hn4 : n ≤ 1000) (w : World) (hA : Rows inL 1 w A xs) (hB : Rows inL 1 w B xs) :
    Calls Tryd.prog 31 #[.slice A n c, .slice B n d] w fun e w' => e = .returned (.bool true) ∧ Below w.heap.size w w' := by
  have HA := Lib.hid hA
  have HBB := Lib.hid hB
  have HN := Lib.hid hn
  clear hA hB hn
  go_enter Tryd.func31, Tryd.ntmps31
  go_wp2
  go_loopw [5] (fun i wr => ∃ k : Nat, k ≤ n ∧ i = .int .i64 k ∧ Below w.heap.size w wr) (fun i _ => n - (intOf i).toNat)
  case atStart => exact ⟨0, Nat.zero_le _, rfl, Below.refl _ _⟩
  case round =>
    obtain ⟨k, hk, rfl, hW⟩ := hrel
    obtain ⟨wo, rfl⟩ : ∃ wo, wo = wr := ⟨_, rfl⟩
    by_cases hlt : k < n
    · have hltI : (k : Int) < (n : Int) := by omega
      have hkx : k < xs.length := by rw [HN.out]; exact hlt
      obtain ⟨ba, oa, rfl, hba, hca⟩ := HA.out.open (by omega)
      obtain ⟨bb, ob, rfl, hbb, hcb⟩ := HBB.out.open (by omega)
      have p0 := row_cell (mk := Value.int .i64) hba hca hW hkx
      have p1 := row_cell (mk := Value.int .i64) hbb hcb hW hkx
      clear hca hcb
      generalize xs[k] = x at *
      have y0 := fun s : Ext wo => s.cell (p := ⟨ba, oa + k, none⟩) p0
      have y1 := fun s : Ext wo => s.cell (p := ⟨bb, ob + k, none⟩) p1
      clear p0 p1
      go_wp2
      refine wp_region_ext (by kernel_rfl) (by kernel_rfl) ?_
      repeat (go_big_quiet_step (fail))
      refine wpQuiet_nil ?_
      rintro _ ⟨s, rfl⟩
      go_wp2
      go_roundw
      case rel => exact ⟨k + 1, by omega, by go_num, hW.trans (s.h.mono hW.size)⟩
      case measure => simp [intOf]; omega
    · obtain rfl : k = n := by omega
      go_wp2
      go_ret
      exact ⟨rfl, hW⟩

set_option maxRecDepth 100000 in
set_option maxHeartbeats 8000000 in
theorem rSplit_b (x : Int) (A : Option Addr) (l : List Int) (c m : Nat) (hm : l.length = m) (hm6 : m ≤ maxLen) (w : World) (hI : Rows inL 1 w A l) :
    Calls Tryd.prog 38 #[.int .i64 x, .slice A m c] w fun e w' => ∃ v, e = .returned (.tuple #[v, .int .i64 (Pl.spE x l)]) ∧ SpI x l w v w' := by
  have hm63 : m ≤ 9223372036854775807 := by unfold maxLen at hm6; omega
  have nilI : ∀ W, Pl.spE x l ≠ 0 → Below w.heap.size w W → SpI x l w (.slice none 0 0) W := fun W h hb => by
    unfold SpI; rw [spV_no h]; exact ⟨World.ownsRow_nil _ _ _ _, hb⟩
  have HN := Lib.hid nilI
  have hB := Below.refl w.heap.size w
  clear nilI
  by_cases h100 : 100 < m
  · have i1 : (100 : Int) < (m : Int) := by omega
    have HE := Lib.hid (Pl.spE_big (c := x) (by rw [hm]; exact h100))
    rw [HE.out]
    have HF := Lib.hid (HN.out w (by rw [HE.out]; decide) hB)
    clear HE hI hm hm6 h100
    go_enter Tryd.func38, Tryd.ntmps38
    go_wp2
    go_ret2
    exact ⟨_, rfl, HF.out⟩
  have i1 : ¬ (100 : Int) < (m : Int) := by omega
  have hl100 : l.length ≤ 100 := by omega
  have HI := Lib.hid hI
  have HM := Lib.hid hm
  have HEN : Hid (Pl.spOk x l = false → Pl.spE x l = 2) := Lib.hid (fun h => Pl.spE_no hl100 h)
  have HEO : Hid (Pl.spOk x l = true → Pl.spE x l = 0) := Lib.hid (fun h => Pl.spE_ok hl100 h)
  obtain ⟨E, hE⟩ : ∃ E, Pl.spE x l = E := ⟨_, rfl⟩
  rw [hE] at HEN HEO HN ⊢
  have HE := Lib.hid hE
  clear hI hm hm6 h100 hE
  obtain ⟨i0, hi, hz0, hz01, hz2⟩ := info_parts info3
  go_enter Tryd.func38, Tryd.ntmps38
  go_wp2
  go_loop [6, 7] (fun s i => ∃ k : Nat, k ≤ m ∧ i = .int .i64 k ∧ s = .int .i64 (Pl.cu l k) ∧ Hid (∀ i, i < k → Pl.wt (Pl.el l i) = true)) (fun _ i => m - (intOf i).toNat)
  case atStart => exact ⟨0, Nat.zero_le _, rfl, rfl, Lib.hid (fun i hi => absurd hi (Nat.not_lt_zero _))⟩
  case round =>
    obtain ⟨k, hk, rfl, rfl, hall⟩ := hrel
    by_cases hlt : k < m
    · have hltI : (k : Int) < (m : Int) := by omega
      have hkx : k < l.length := by rw [HM.out]; exact hlt
      obtain ⟨bx, ox, rfl, hbx, hcx⟩ := HI.out.open (by omega)
      have q0 := row_cell (mk := Value.int .i64) hbx hcx (Below.refl _ _) hkx
      rw [el_at hkx] at q0
      have HBAD : Hid (Pl.wt (Pl.el l k) = false → E = 2) := Lib.hid (fun h => HEN.out (by
        unfold Pl.spOk
        have hw : Pl.wok l = false := by
          rw [← Bool.not_eq_true, wok_iff]; intro h'; rw [h' k hkx] at h; cases h
        rw [hw]; simp))
      have HGOOD : Hid (Pl.wt (Pl.el l k) = true → ∀ i, i < k + 1 → Pl.wt (Pl.el l i) = true) := Lib.hid (fun h i hi => by
        rcases Nat.lt_succ_iff_lt_or_eq.1 hi with h' | rfl
        · exact hall.out i h'
        · exact h)
      have HWT : Hid (Pl.wt (Pl.el l k) = true ↔ 0 ≤ Pl.el l k ∧ Pl.el l k ≤ 10000) := Lib.hid Pl.inB_true
      have hcb := cu_part hall.out (by omega)
      have e1 : Pl.cu l k + Pl.el l k = Pl.cu l (k + 1) := rfl
      have E1 := Lib.hid e1
      clear hcx e1
      generalize Pl.cu l k = S at *
      generalize Pl.el l k = u at *
      by_cases hu0 : u < 0
      · have HF : Hid (E = 2) := Lib.hid (HBAD.out (by rw [← Bool.not_eq_true, HWT.out]; omega))
        have HFF := Lib.hid (HN.out w (by rw [HF.out]; decide) hB)
        have d1 : decide (u < 0) = true := decide_eq_true hu0
        go_wp2
        go_ret2
        exact ⟨_, by rw [HF.out]; rfl, HFF.out⟩
      · by_cases hu1 : u > 10000
        · have HF : Hid (E = 2) := Lib.hid (HBAD.out (by rw [← Bool.not_eq_true, HWT.out]; omega))
          have HFF := Lib.hid (HN.out w (by rw [HF.out]; decide) hB)
          have d1 : decide (u < 0) = false := decide_eq_false hu0
          go_wp2
          go_ret2
          exact ⟨_, by rw [HF.out]; rfl, HFF.out⟩
        · have HG := Lib.hid (HGOOD.out (HWT.out.2 (by omega)))
          have d1 : decide (u < 0) = false := decide_eq_false hu0
          have kS : IntKind.i64.wrap (S + u) = S + u := IntWalk.i64_in _ (by omega)
          go_wp2
          go_round
          case rel => exact ⟨k + 1, by omega, by go_num, by rw [E1.out], HG⟩
          case measure => simp [intOf]; omega
    · obtain rfl : k = m := by omega
      have hwok : Pl.wok l = true := wok_iff.2 (fun i hi => hall.out i (by rw [← HM.out]; exact hi))
      have hcb := cu_part hall.out (by omega)
      obtain ⟨a, ha⟩ : ∃ a, Pl.cu l k = a := ⟨_, rfl⟩
      have hal : Pl.al l = a := by rw [← ha, ← HM.out]; rfl
      rw [ha] at hcb ⊢
      obtain ⟨x1, h1⟩ : ∃ y, Pl.am x = y := ⟨_, rfl⟩
      have HOK : Hid (Pl.spOk x l = (x1 && decide (a ≠ 0))) := Lib.hid (by unfold Pl.spOk; rw [h1, hwok, hal]; rfl)
      have H1 := Lib.hid (fun w' : World => ram_b x x1 h1 w')
      have HA := Lib.hid hal
      clear hall ha hal hwok h1
      cases x1
      · have HF : Hid (E = 2) := Lib.hid (HEN.out (by rw [HOK.out]; rfl))
        have HFF := Lib.hid (HN.out w (by rw [HF.out]; decide) hB)
        go_wp2_with fail
        refine (H1.out _).mono ?_
        rintro e w1 ⟨rfl, hw1⟩
        subst hw1
        go_wp2
        go_ret2
        exact ⟨_, by rw [HF.out]; rfl, HFF.out⟩
      by_cases hz : a = 0
      · have HF : Hid (E = 2) := Lib.hid (HEN.out (by rw [HOK.out, hz]; rfl))
        have HFF := Lib.hid (HN.out w (by rw [HF.out]; decide) hB)
        subst hz
        go_wp2_with fail
        refine (H1.out _).mono ?_
        rintro e w1 ⟨rfl, hw1⟩
        subst hw1
        go_wp2
        go_ret2
        exact ⟨_, by rw [HF.out]; rfl, HFF.out⟩
      have HF : Hid (E = 0) := Lib.hid (HEO.out (by rw [HOK.out, decide_eq_true (show a ≠ 0 from hz)]; rfl))
      have HX := Lib.hid (Pl.Sp.of (HE.out.trans HF.out))
      have HVV : Hid (Pl.spV x l = Pl.tab (Pl.shr x l) k) := Lib.hid (by rw [spV_zero (HE.out.trans HF.out), HM.out])
      have ha1 : 1 ≤ a := by omega
      have HSH : Hid (∀ k, Pl.shr x l k = x * Pl.cu l (k + 1) / a - x * Pl.cu l k / a) := Lib.hid (fun k => by rw [← HA.out]; rfl)
      have HT := Lib.hid (fun j (hj : j ≤ k) => Pl.cu_top HX.out.w HX.out.len (k := j) (by rw [HM.out]; exact hj))
      have HP := Lib.hid (fun j (hj : j ≤ k) => HX.out.part (k := j) (by rw [HM.out]; exact hj))
      rw [HA.out] at HP
      have HXR : Hid (-1099511627776 ≤ x ∧ x ≤ 1099511627776) := Lib.hid ⟨HX.out.a1, HX.out.a2⟩
      have d2 : (a == 0) = false := by simpa using hz
      have d3 : decide (a = 0) = false := decide_eq_false hz
      clear HN HEN HEO HOK HE
      go_wp2_with fail
      refine (H1.out _).mono ?_
      rintro e w1 ⟨rfl, hw1⟩
      subst hw1
      go_wp2
      go_loopw [8, 9, 10, 11, 12, 13] (fun v t g i _ _ wr => ∃ j : Nat, j ≤ k ∧ i = .int .i64 j ∧ t = .int .i64 (Pl.cu l j) ∧ g = .int .i64 (x * Pl.cu l j / a) ∧ wr.ownsRow w1.heap.size 3 1 v j (flt inL (Pl.tab (Pl.shr x l) j)) ∧ Below w1.heap.size w1 wr) (fun _ _ _ i _ _ _ => k - (intOf i).toNat)
      case atStart => exact ⟨0, Nat.zero_le _, rfl, rfl, by simp [Pl.cu, Pl.sm], World.ownsRow_nil _ _ _ _, Below.refl _ _⟩
      case round =>
        obtain ⟨j, hj, rfl, rfl, rfl, hown, hW⟩ := hrel
        obtain ⟨wo, rfl⟩ : ∃ wo, wo = wr := ⟨_, rfl⟩
        by_cases hjt : j < k
        · have hltI : (j : Int) < (k : Int) := by omega
          have hkx : j < l.length := by rw [HM.out]; exact hjt
          obtain ⟨bx, ox, rfl, hbx, hcx⟩ := HI.out.open (by omega)
          have q0 := row_cell (mk := Value.int .i64) hbx hcx hW hkx
          rw [el_at hkx] at q0
          have e1 : Pl.cu l j + Pl.el l j = Pl.cu l (j + 1) := rfl
          have b1 := HT.out (j + 1) (by omega)
          have b2 := HP.out (j + 1) (by omega)
          have b3 := HP.out j (by omega)
          have E2 := Lib.hid (HSH.out j)
          have k1 : IntKind.i64.wrap (Pl.cu l j + Pl.el l j) = Pl.cu l (j + 1) := by rw [e1]; exact IntWalk.i64_in _ (by omega)
          obtain ⟨t, ht⟩ : ∃ t, Pl.cu l (j + 1) = t := ⟨_, rfl⟩
          rw [ht] at b1 b2 E2 k1
          have HT1 := Lib.hid ht
          clear ht e1 hcx
          obtain ⟨q, hq⟩ : ∃ q, x / a = q := ⟨_, rfl⟩
          have hq1 : -1099511627776 ≤ q ∧ q ≤ 1099511627776 := by rw [← hq]; exact Pl.div_in (by omega) HXR.out.1 HXR.out.2 (by decide)
          have hqb : x - q * a = x % a := by
            rw [← hq]; have := Int.emod_add_mul_ediv x a; rw [Int.mul_comm] at this; omega
          have hr0 : 0 ≤ x - q * a ∧ x - q * a < a := by
            rw [hqb]; exact ⟨Int.emod_nonneg _ (by omega), Int.emod_lt_of_pos _ (by omega)⟩
          have hqt := Pl.mul_le hq1.1 hq1.2 b1.1 b1.2 (by decide)
          have hqa := Pl.mul_le hq1.1 hq1.2 (show 0 ≤ a by omega) hcb.2 (by decide)
          have hrt : 0 ≤ (x - q * a) * t ∧ (x - q * a) * t ≤ 1000000 * 1000000 := ⟨Int.mul_nonneg hr0.1 b1.1, Int.mul_le_mul (by omega) b1.2 b1.1 (by decide)⟩
          obtain ⟨u, hu⟩ : ∃ u, (x - q * a) * t / a = u := ⟨_, rfl⟩
          have hsum : q * t + u = x * t / a := by rw [← hu, ← hq]; exact Pl.below_split (by omega)
          have hu1 : -1000000000000 ≤ u ∧ u ≤ 1000000000000 := by rw [← hu]; exact Pl.div_in (by omega) (by omega) (by omega) (by decide)
          have HD1 := Lib.hid (fun (w' : World) => below_b x a q ha1 (Lib.hid (by have := HXR.out; omega)) hq w')
          have HD2 := Lib.hid (fun (w' : World) => below_b ((x - q * a) * t) a u ha1 (Lib.hid (by omega)) hu w')
          obtain ⟨s, hs⟩ : ∃ s, x * t / a = s := ⟨_, rfl⟩
          rw [hs] at b2 E2 hsum
          have HSU := Lib.hid hs
          have j1 : IntKind.i64.wrap (q * t) = q * t := IntWalk.i64_in _ (by omega)
          have j2 : IntKind.i64.wrap (q * a) = q * a := IntWalk.i64_in _ (by omega)
          have j3 : IntKind.i64.wrap (x - q * a) = x - q * a := IntWalk.i64_in _ (by omega)
          have j4 : IntKind.i64.wrap ((x - q * a) * t) = (x - q * a) * t := IntWalk.i64_in _ (by omega)
          have j5 : IntKind.i64.wrap (q * t + u) = s := by rw [hsum]; exact IntWalk.i64_in _ (by omega)
          clear hs hu hqb hr0 hqt hqa hrt hq hsum hu1 hq1 b1
          generalize x * Pl.cu l j / a = g at *
          generalize Pl.cu l j = p at *
          generalize Pl.el l j = y at *
          have k3 : IntKind.i64.wrap (s - g) = s - g := IntWalk.i64_in _ (by omega)
          clear b2 b3
          have HOW := Lib.hid (hown.alloc (.cells (inL (s - g)).toArray 3))
          go_wp2_with fail
          refine (HD1.out _).mono ?_
          rintro e w2 ⟨rfl, hw2⟩
          subst hw2
          go_wp2_with fail
          refine (HD2.out _).mono ?_
          rintro e w2 ⟨rfl, hw2⟩
          subst hw2
          go_wp2_with (at_builtin; refine wpList_append_own _ rfl _ _ 46 rfl w1.heap.size 3 i0 _ 1 8 Tryd.underlying46 hi hz0 hz01 hz2 rfl (by decide) _ _ _ rfl HOW.out ⟨w2.heap.size, 0, none⟩ 1 1 (inL (s - g)) rfl rfl (new_cells' _ _ _ rfl) (encIn.one _) (by unfold maxLen; omega) (by omega) (by have := hW.size; simp; omega) ?_; intro v' w9 hown' hgrow _)
          have hB9 := (hW.alloc hW.size (.cells (inL (s - g)).toArray 3)).grown hgrow (hW.alloc hW.size _).size (fun s e => (hown.lt s e).1)
          go_roundw
          case rel => exact ⟨j + 1, by omega, by go_num, by rw [HT1.out], by rw [HT1.out, HSU.out], by rw [Pl.tab_succ, flt_append, flt_one, E2.out]; exact hown', hB9⟩
          case measure => simp [intOf]; omega
        · obtain rfl : j = k := by omega
          have HG : Hid (∀ v, wo.ownsRow w1.heap.size 3 1 v j (flt inL (Pl.tab (Pl.shr x l) j)) → SpI x l w1 v wo) := Lib.hid (fun v ho => by
            unfold SpI
            rw [HVV.out, Pl.tab_len]
            exact ⟨ho, hW⟩)
          have HGO := Lib.hid (HG.out _ hown)
          clear hown HG
          go_wp2
          go_ret2
          exact ⟨_, by rw [HF.out]; rfl, HGO.out⟩

set_option maxRecDepth 100000 in
set_option maxHeartbeats 1000000 in
theorem rDiscount_b (x y : Int) (w : World) :
    Calls Tryd.prog 40 #[.int .i64 x, .int .i64 y] w fun e w' => e = .returned (.tuple #[.int .i64 (Pl.dcV x y), .int .i64 (Pl.dcE x y)]) ∧ w' = w := by
  obtain ⟨x1, h1⟩ : ∃ z, Pl.am x = z := ⟨_, rfl⟩
  have H1 := Lib.hid (ram_b x x1 h1 w)
  unfold Pl.dcV Pl.dcE
  rw [h1]
  cases x1
  · clear h1
    go_enter Tryd.func40, Tryd.ntmps40
    go_wp2_with fail
    refine H1.out.mono ?_
    rintro e w1 ⟨rfl, rfl⟩
    go_wp2
    go_ret2
    exact ⟨rfl, rfl⟩
  have ha := Pl.inB_true.1 h1
  by_cases y0 : y < 0
  · have h2 : Pl.inB 0 y 1000 = false := Pl.inB_false.2 (by omega)
    rw [h2]
    have d1 : decide (y < 0) = true := decide_eq_true y0
    clear h1 h2 ha
    go_enter Tryd.func40, Tryd.ntmps40
    go_wp2_with fail
    refine H1.out.mono ?_
    rintro e w1 ⟨rfl, rfl⟩
    go_wp2
    go_ret2
    exact ⟨rfl, rfl⟩
  have d1 : decide (y < 0) = false := decide_eq_false y0
  by_cases y1 : y > 1000
  · have h2 : Pl.inB 0 y 1000 = false := Pl.inB_false.2 (by omega)
    rw [h2]
    clear h1 h2 ha
    go_enter Tryd.func40, Tryd.ntmps40
    go_wp2_with fail
    refine H1.out.mono ?_
    rintro e w1 ⟨rfl, rfl⟩
    go_wp2
    go_ret2
    exact ⟨rfl, rfl⟩
  have h2 : Pl.inB 0 y 1000 = true := Pl.inB_true.2 (by omega)
  rw [h2]
  have k1 : IntKind.i64.wrap (1000 - y) = 1000 - y := IntWalk.i64_in _ (by omega)
  have H3 := Lib.hid (rhalfup_b x (1000 - y) 1000 _ (by decide) (by decide) (by omega) (by omega) (Lib.hid ha) rfl w)
  generalize Pl.hu (x * (1000 - y)) 1000 = u at *
  clear h1 h2 ha
  go_enter Tryd.func40, Tryd.ntmps40
  go_wp2_with fail
  refine H1.out.mono ?_
  rintro e w1 ⟨rfl, rfl⟩
  go_wp2_with fail
  refine H3.out.mono ?_
  rintro e w1 ⟨rfl, rfl⟩
  go_wp2
  go_ret2
  exact ⟨rfl, rfl⟩
end Go.Proofs.YtdihnbjmeppbcaaDoor
