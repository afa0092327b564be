/- Credit, of the program. -/
import Derived.Test.YtdihnbjmeppbcaaDoorWA
import Derived.Test.YtdihnbjmeppbcaaDoorW5
import Derived.Test.YtdihnbjmeppbcaaDoorP6
import Derived.Test.YtdihnbjmeppbcaaDoorP8
namespace Go.Proofs.YtdihnbjmeppbcaaDoor
open Go.RowKit Go.Shelf

/-- what Credit gives -/
def CrI (a l : List Int) (w : World) (v : Value) (w' : World) : Prop := w'.ownsRow w.heap.size 3 1 v (Pl.crV a l).length (flt inL (Pl.crV a l)) ∧ Below w.heap.size w w'

set_option maxRecDepth 100000 in
theorem isIndexI_b (A : Option Addr) (n c : Nat) (hn : n ≤ maxLen) (i : Int) (v : Bool) (hv : decide (0 ≤ i ∧ i < (n : Int)) = v) (w : World) :
    Calls Tryd.prog 79 #[.slice A n c, .int .i64 i] w fun e w' => e = .returned (.bool v) ∧ w' = w := by
  have n63 : n ≤ 9223372036854775807 := by unfold maxLen at hn; omega
  have h1 : Pl.inB 0 i ((n : Int) - 1) = v := by
    rw [← hv, Bool.eq_iff_iff, Pl.inB_true, decide_eq_true_iff]; omega
  have HC := Lib.hid (within_b i 0 ((n : Int) - 1) v h1 w)
  have k1 : IntKind.i64.wrap ((n : Int) - 1) = (n : Int) - 1 := IntWalk.i64_in _ (by omega)
  clear hv hn h1
  go_enter Tryd.func79, Tryd.ntmps79
  go_wp2_with fail
  refine HC.out.mono ?_
  rintro e w1 ⟨rfl, rfl⟩
  go_wp2
  go_ret
  exact ⟨rfl, rfl⟩

set_option maxRecDepth 100000 in
set_option maxHeartbeats 16000000 in
theorem Credit_b (A : Option Addr) (a : List Int) (c m : Nat) (hm : a.length = m) (hm6 : m ≤ maxLen) (B : Option Addr) (l : List Int) (d n : Nat) (hn : l.length = n) (hok : ∀ x, x ∈ l → (Lit.int .i64 x).wf = true) (w : World) (hA : Rows inL 1 w A a) (hL : Rows inL 1 w B l) :
    Calls Tryd.prog 35 #[.slice A m c, .slice B n d] w fun e w' => ∃ v, e = .returned (.tuple #[v, .int .i64 (Pl.crS a l), .int .i64 (Pl.crE a l)]) ∧ CrI a l w v w' := by
  have HNO : Hid (∀ E W, Pl.crE a l = E → E ≠ 0 → Below w.heap.size w W → Pl.crS a l = 0 ∧ CrI a l w (.slice none 0 0) W) := Lib.hid (fun E W h hE hb => ⟨Pl.crS_no (by rw [h]; exact hE), by rw [Pl.crV_no (by rw [h]; exact hE)]; exact World.ownsRow_nil _ _ _ _, hb⟩)
  have hB := Below.refl w.heap.size w
  obtain ⟨S, hS⟩ : ∃ S, Pl.crS a l = S := ⟨_, rfl⟩
  obtain ⟨E, hE⟩ : ∃ E, Pl.crE a l = E := ⟨_, rfl⟩
  have HN2 : Hid (E ≠ 0 → ∀ W, Below w.heap.size w W → S = 0 ∧ CrI a l w (.slice none 0 0) W) := Lib.hid (fun h W hb => by
    rw [← hS]; exact HNO.out E W hE h hb)
  rw [hS, hE]
  by_cases b1 : (40 : Int) < (m : Int)
  · have e : E = 4 := by rw [← hE]; exact Pl.crE_big (by omega)
    subst e
    obtain ⟨s0, hc⟩ := HN2.out (by decide) w hB
    subst s0
    have HZ := Lib.hid hc
    clear hA hL HNO HN2 hS hE hm hn hm6 hok hc
    go_enter Tryd.func35, Tryd.ntmps35
    go_wp2
    exact bodyPost_ret (v := .tuple #[.slice none 0 0, .int .i64 0, .int .i64 4]) (by simp [results, Tryd.results35, go_sem]) rfl ⟨_, rfl, HZ.out⟩
  by_cases b2 : (40 : Int) < (n : Int)
  · have e : E = 4 := by rw [← hE]; exact Pl.crE_big (by omega)
    subst e
    obtain ⟨s0, hc⟩ := HN2.out (by decide) w hB
    subst s0
    have HZ := Lib.hid hc
    clear hA hL HNO HN2 hS hE hm hn hm6 hok hc
    go_enter Tryd.func35, Tryd.ntmps35
    go_wp2
    exact bodyPost_ret (v := .tuple #[.slice none 0 0, .int .i64 0, .int .i64 4]) (by simp [results, Tryd.results35, go_sem]) rfl ⟨_, rfl, HZ.out⟩
  have hm4 : m ≤ 40 := by omega
  have hn4 : n ≤ 40 := by omega
  have eg : ∀ args w, (callFunc 65 args).run Tryd.prog w = .ok (.enter 65 args) w := enters_of Tryd.func65 (by kernel_rfl) rfl
  obtain ⟨x1, h1⟩ : ∃ y, Pl.crA a = y := ⟨_, rfl⟩
  obtain ⟨x2, h2⟩ : ∃ y, Pl.crD l = y := ⟨_, rfl⟩
  have H1 := Lib.hid (every_i 65 eg A a c m hm hm6 Pl.am x1 h1 w hA (fun z hz W _ => (am_b z _ rfl W).mono fun e W' ⟨he, hw⟩ => ⟨he, by subst hw; exact Below.refl _ _⟩))
  have HL := Lib.hid hL
  have HA := Lib.hid hA
  have HM := Lib.hid hm
  have HN := Lib.hid hn
  have H2 := Lib.hid (fun W (hb : Below w.heap.size w W) => dist_i B l d n hn (by omega) hok x2 h2 W (HL.out.below hb))
  have HEA : Hid (x1 = false → E = 2) := Lib.hid (fun h => by rw [← hE]; exact Pl.crE_A (by omega) (by omega) (h1.trans h))
  have HED : Hid (x2 = false → E = 2) := Lib.hid (fun h => by rw [← hE]; exact Pl.crE_D (by omega) (by omega) (h2.trans h))
  have HEI : Hid (∀ k, k < n → ¬ Pl.crI a l k → E = 2) := Lib.hid (fun k hk h => by rw [← hE]; exact Pl.crE_I (by omega) (by omega) (by rw [hn]; exact hk) h)
  have HEO : Hid (x1 = true → x2 = true → (∀ k, k < n → Pl.crI a l k) → E = 0) := Lib.hid (fun u1 u2 h => by rw [← hE]; exact Pl.crE_ok (by omega) (by omega) (h1.trans u1) (h2.trans u2) (by rw [hn]; exact h))
  have HX1 := Lib.hid h1
  have HSE := Lib.hid hS
  have HEE := Lib.hid hE
  clear hA hL HNO hS hE hm hn hm6 hok h1 h2 eg
  cases x1
  · have e := HEA.out rfl
    subst e
    have HZ := Lib.hid (HN2.out (by decide))
    obtain ⟨s0, _⟩ := HZ.out w hB
    subst s0
    go_enter Tryd.func35, Tryd.ntmps35
    go_wp2_with fail
    refine H1.out.mono ?_
    rintro e w1 ⟨rfl, hb1⟩
    have HZ1 := Lib.hid (HZ.out w1 hb1).2
    go_wp2
    exact bodyPost_ret (v := .tuple #[.slice none 0 0, .int .i64 0, .int .i64 2]) (by simp [results, Tryd.results35, go_sem]) rfl ⟨_, rfl, HZ1.out⟩
  cases x2
  · have e := HED.out rfl
    subst e
    have HZ := Lib.hid (HN2.out (by decide))
    obtain ⟨s0, _⟩ := HZ.out w hB
    subst s0
    go_enter Tryd.func35, Tryd.ntmps35
    go_wp2_with fail
    refine H1.out.mono ?_
    rintro e w1 ⟨rfl, hb1⟩
    go_wp2_with fail
    refine (H2.out w1 hb1).mono ?_
    rintro e w2 ⟨rfl, hb2⟩
    have HZ1 := Lib.hid (HZ.out w2 (hb1.trans (hb2.mono hb1.size))).2
    go_wp2
    exact bodyPost_ret (v := .tuple #[.slice none 0 0, .int .i64 0, .int .i64 2]) (by simp [results, Tryd.results35, go_sem]) rfl ⟨_, rfl, HZ1.out⟩
  obtain ⟨i0, hi, hz0, hz01, hz2⟩ := info_parts info3
  have HAM : Hid (∀ k, k < m → -1099511627776 ≤ Pl.el a k ∧ Pl.el a k ≤ 1099511627776) := Lib.hid (fun k hk => Pl.crA_get HX1.out (by rw [HM.out]; exact hk))
  have HSU : Hid ((∀ k, k < n → Pl.crI a l k) → ∀ k, k ≤ n → -50000000000000 ≤ Pl.sm (Pl.crv a l) k ∧ Pl.sm (Pl.crv a l) k ≤ 50000000000000) := Lib.hid (fun h k hk => Pl.crv_sum HX1.out (by omega) (fun i hi => h i (by omega)))
  have HEK := Lib.hid (HEO.out rfl rfl)
  clear HEA HED HEO HX1
  go_enter Tryd.func35, Tryd.ntmps35
  go_wp2_with fail
  refine H1.out.mono ?_
  rintro e w1 ⟨rfl, hb1⟩
  go_wp2_with fail
  refine (H2.out w1 hb1).mono ?_
  rintro e w2 ⟨rfl, hb2⟩
  have hB2 := hb1.trans (hb2.mono hb1.size)
  have HB2 := Lib.hid hB2
  clear hb1 hb2 hB2 hB H1 H2
  go_wp2
  go_loopw [7, 28] (fun v i wr => ∃ k : Nat, k ≤ n ∧ i = .int .i64 k ∧ wr.ownsRow w2.heap.size 3 1 v k (flt inL (Pl.tab (Pl.crv a l) k)) ∧ Hid (∀ i, i < k → Pl.crI a l i) ∧ Below w2.heap.size w2 wr) (fun _ i _ => n - (intOf i).toNat)
  case atStart => exact ⟨0, Nat.zero_le _, rfl, World.ownsRow_nil _ _ _ _, Lib.hid (fun i hi => absurd hi (Nat.not_lt_zero _)), Below.refl _ _⟩
  case round =>
    obtain ⟨k, hk, rfl, hown, hall, hW⟩ := hrel
    obtain ⟨wo, rfl⟩ : ∃ wo, wo = wr := ⟨_, rfl⟩
    have hBo := HB2.out.trans (hW.mono HB2.out.size)
    by_cases hlt : k < n
    · have hltI : (k : Int) < (n : Int) := by omega
      have hkx : k < l.length := by rw [HN.out]; exact hlt
      obtain ⟨bx, ox, rfl, hbx, hcx⟩ := HL.out.open (by omega)
      have q0 := row_cell (mk := Value.int .i64) hbx hcx hBo hkx
      rw [el_at hkx] at q0
      have HBAD := Lib.hid (HEI.out k hlt)
      have HNX : Hid (Pl.crI a l k → ∀ i, i < k + 1 → Pl.crI a l i) := Lib.hid (fun h i hi => by
        rcases Nat.lt_succ_iff_lt_or_eq.1 hi with h' | rfl
        · exact hall.out i h'
        · exact h)
      have HCV : Hid (Pl.crv a l k = -(Pl.el a (Pl.el l k).toNat)) := Lib.hid rfl
      have HCI : Hid (Pl.crI a l k ↔ 0 ≤ Pl.el l k ∧ Pl.el l k < (m : Int)) := Lib.hid (by unfold Pl.crI; rw [HM.out])
      clear hcx hall
      generalize Pl.el l k = z at *
      by_cases hz : 0 ≤ z ∧ z < (m : Int)
      · have HI := Lib.hid (fun W : World => isIndexI_b A m c (by unfold maxLen; omega) z true (decide_eq_true hz) W)
        obtain ⟨p, rfl⟩ : ∃ p : Nat, z = (p : Int) := ⟨z.toNat, by omega⟩
        have hp : p < m := by omega
        have hpI : (p : Int) < (m : Int) := hz.2
        have hpx : p < a.length := by rw [HM.out]; exact hp
        obtain ⟨ba, oa, rfl, hba, hca⟩ := HA.out.open (by omega)
        have p0 := row_cell (mk := Value.int .i64) hba hca hBo hpx
        rw [el_at hpx] at p0
        have hr := HAM.out p hp
        have HN2' := Lib.hid (HNX.out (HCI.out.2 hz))
        have HU : Hid (Pl.crv a l k = -(Pl.el a p)) := Lib.hid (by rw [HCV.out, Int.toNat_natCast])
        clear hca hz HCV HCI HNX HBAD
        generalize Pl.el a p = y at *
        have kn : IntKind.i64.wrap (-y) = -y := IntWalk.i64_in _ (by omega)
        have HOW := Lib.hid (hown.alloc (.cells (inL (-y)).toArray 3))
        go_wp2_with fail
        refine (HI.out _).mono ?_
        rintro e w4 ⟨rfl, hw4⟩
        subst hw4
        go_wp2_with (at_builtin; refine wpList_append_own _ rfl _ _ 46 rfl w2.heap.size 3 i0 _ 1 8 Tryd.underlying46 hi hz0 hz01 hz2 rfl (by decide) _ _ _ rfl HOW.out ⟨w4.heap.size, 0, none⟩ 1 1 (inL (-y)) rfl rfl (new_cells' _ _ _ rfl) (encIn.one _) (by unfold maxLen; omega) (by omega) (by have := hW.size; simp; omega) ?_; intro v' w9 hown' hgrow _)
        go_roundw
        case rel => exact ⟨k + 1, by omega, by go_num, by rw [Pl.tab_succ, flt_append, flt_one, HU.out]; exact hown', HN2', (hW.alloc hW.size (.cells (inL (-y)).toArray 3)).grown hgrow (hW.alloc hW.size _).size (fun s e => (hown.lt s e).1)⟩
        case measure => simp [intOf]; omega
      · have HI := Lib.hid (fun W : World => isIndexI_b A m c (by unfold maxLen; omega) z false (decide_eq_false hz) W)
        have e := HBAD.out (fun h => hz (HCI.out.1 h))
        subst e
        obtain ⟨s0, hc⟩ := HN2.out (by decide) wo hBo
        subst s0
        have HZ := Lib.hid hc
        clear hc HBAD HCI HCV HNX hz
        go_wp2_with fail
        refine (HI.out _).mono ?_
        rintro e w4 ⟨rfl, hw4⟩
        subst hw4
        go_wp2
        exact bodyPost_ret (v := .tuple #[.slice none 0 0, .int .i64 0, .int .i64 2]) (by simp [results, Tryd.results35, go_sem]) rfl ⟨_, rfl, HZ.out⟩
    · obtain rfl : k = n := by omega
      have e1 : E = 0 := HEK.out hall.out
      subst e1
      have e2 : S = Pl.sm (Pl.crv a l) l.length := HSE.out.symm.trans (Pl.crS_yes HEE.out)
      have HZ1 : Hid (CrI a l w u7 wo) := Lib.hid ⟨by rw [Pl.crV_yes HEE.out, Pl.tab_len, HN.out]; exact own_mono hown HB2.out.size, hBo⟩
      have hT : (Pl.tab (Pl.crv a l) k).length = k := Pl.tab_len _ _
      have hown1 : wo.ownsRow w2.heap.size 3 1 u7 (Pl.tab (Pl.crv a l) k).length (flt inL (Pl.tab (Pl.crv a l) k)) := by rw [hT]; exact hown
      obtain ⟨A1, c1, rfl, hr1, _, _⟩ := rows_of_owns encIn hown1
      have HSU2 := Lib.hid (sum_b A1 (Pl.tab (Pl.crv a l) k) c1 k hT (by omega) (fun i hi => by
        rw [Pl.cu_tab _ _ hi]
        have := HSU.out hall.out i hi
        omega) S (by rw [Pl.cu_tab _ _ (Nat.le_refl _), e2, HN.out]) wo hr1)
      rw [hT] at *
      clear hown hown1 hr1 e2 HSU HN2 HEI HEK HSE HEE hall HAM
      go_wp2_with fail
      refine HSU2.out.mono ?_
      rintro e w3 ⟨rfl, hw3⟩
      subst hw3
      go_wp2
      exact bodyPost_ret (v := .tuple #[.slice A1 k c1, .int .i64 S, .int .i64 0]) (by simp [results, Tryd.results35, go_sem]) rfl ⟨_, rfl, HZ1.out⟩
end Go.Proofs.YtdihnbjmeppbcaaDoor
