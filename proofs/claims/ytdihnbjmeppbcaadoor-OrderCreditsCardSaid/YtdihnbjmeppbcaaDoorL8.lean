/- OrderCredits. -/
import Derived.Test.YtdihnbjmeppbcaaDoorWS
import Derived.Test.YtdihnbjmeppbcaaDoorWB
import Derived.Test.YtdihnbjmeppbcaaDoorWC
import Derived.Test.YtdihnbjmeppbcaaDoorP10
namespace Go.Proofs.YtdihnbjmeppbcaaDoor
open Go.RowKit Go.Shelf

theorem crV_len (a l : List Int) : (Pl.crV a l).length ≤ 1000 := by
  by_cases h : Pl.crE a l = 0
  · rw [Pl.crV_yes h, Pl.tab_len]
    have := (Pl.cr_of h).2.1
    omega
  · rw [Pl.crV_no h]; simp

set_option maxRecDepth 100000 in
set_option maxHeartbeats 16000000 in
theorem law_credits (A : Option Addr) (a : List Int) (c m : Nat) (hm : a.length = m) (hm6 : m ≤ maxLen) (B : Option Addr) (l : List Int) (d n : Nat) (hn : l.length = n) (hnd : n ≤ d) (hd6 : d ≤ maxLen) (hok : ∀ x, x ∈ l → (Lit.int .i64 x).wf = true) (hnil : B = none → n = 0 ∧ d = 0) (z : Nat) (hz : z ≤ 255) (w : World) (hA : Rows inL 1 w A a) (hL : Rows inL 1 w B l) :
    Calls Tryd.prog 9 #[.slice A m c, .slice B n d, .int .u8 z] w fun e w' => e = .returned (.bool true) ∧ Below w.heap.size w w' := by
  have m63 := max63 hm6
  have d63 := max63 hd6
  have hB := Below.refl w.heap.size w
  have HC := Lib.hid sane_any
  have HM := Lib.hid hm
  have HN := Lib.hid hn
  have HL := Lib.hid hL
  have HA := Lib.hid hA
  have HOK := Lib.hid hok
  have HNIL := Lib.hid hnil
  have H1 := Lib.hid (Credit_b A a c m hm hm6 B l d n hn hok w hA hL)
  have H2 := Lib.hid (fun W (hb : Below w.heap.size w W) => rCredit_b A a c m hm B l d n hn W (HA.out.below hb) (HL.out.below hb))
  have HVL := Lib.hid (crV_len a l)
  obtain ⟨E, hE⟩ : ∃ E, Pl.crE a l = E := ⟨_, rfl⟩
  obtain ⟨S, hS⟩ : ∃ S, Pl.crS a l = S := ⟨_, rfl⟩
  rw [hE, hS] at H1 H2
  have HE := Lib.hid hE
  have HS := Lib.hid hS
  clear hm hn hA hL hok hnil hE hS
  by_cases b1 : (60 : Int) < (m : Int)
  · go_enter Tryd.func9, Tryd.ntmps9
    go_wp2_with fail
    refine (HC.out _).mono ?_
    rintro e w3 ⟨rfl, hb3⟩
    go_wp2
    go_ret
    exact ⟨rfl, hb3⟩
  by_cases b2 : (60 : Int) < (n : Int)
  · go_enter Tryd.func9, Tryd.ntmps9
    go_wp2_with fail
    refine (HC.out _).mono ?_
    rintro e w3 ⟨rfl, hb3⟩
    go_wp2
    go_ret
    exact ⟨rfl, hb3⟩
  go_enter Tryd.func9, Tryd.ntmps9
  go_wp2_with fail
  refine H1.out.mono ?_
  rintro e w1 ⟨v1, rfl, ho1, hB1⟩
  obtain ⟨A1, c1, rfl, hr1, _, _⟩ := rows_of_owns encIn ho1
  have HR1 := Lib.hid hr1
  clear ho1 hr1 H1
  go_wp2_with fail
  refine (H2.out w1 hB1).mono ?_
  rintro e w2 ⟨v2, rfl, ho2, hb2⟩
  obtain ⟨A2, c2, rfl, hr2, _, _⟩ := rows_of_owns encIn ho2
  have hB2 := hB1.trans (hb2.mono hB1.size)
  have HSM := Lib.hid (same_eq A1 A2 (Pl.crV a l) c1 c2 _ rfl HVL.out w2 (HR1.out.below hb2) hr2)
  clear ho2 hr2 H2 hb2 HR1
  generalize (Pl.crV a l).length = n1 at *
  go_wp2_with fail
  refine HSM.out.mono ?_
  rintro e w3 ⟨rfl, hb3⟩
  have hB3 := hB2.trans (hb3.mono hB2.size)
  clear HSM hb3 hB1 hB2
  by_cases hE0 : E = 0
  rotate_left
  · have hne : (E == 0) = false := by simpa using hE0
    go_wp2_with fail
    refine (HC.out _).mono ?_
    rintro e w4 ⟨rfl, hb4⟩
    have hB4 := hB3.trans (hb4.mono hB3.size)
    go_wp2
    go_ret
    exact ⟨rfl, hB4⟩
  subst hE0
  have hof := Pl.cr_of HE.out
  have hm4 : m ≤ 40 := by rw [← HM.out]; exact hof.1
  have hn4 : n ≤ 40 := by rw [← HN.out]; exact hof.2.1
  obtain ⟨q, hq⟩ : ∃ q, z % (n + 1) = q := ⟨_, rfl⟩
  have hqn : q ≤ n := by have := Nat.mod_lt z (show 0 < n + 1 by omega); omega
  have kz : IntKind.i64.wrap (z : Int) = z := IntWalk.i64_in _ (by omega)
  have kq : (z : Int) % ((n : Int) + 1) = (q : Int) := by rw [← hq]; rfl
  have g2 : q ≤ d := by omega
  have HOF := Lib.hid hof
  have HRT : Hid (∀ W, Below w.heap.size w W → ∀ bd, B = some bd → ∀ j u, (flt inL (l.take q))[j]? = some u → W.cell? (bd.add j) = some u) := Lib.hid (fun W hb bd hbd => by
    rcases HL.out.below hb with h | ⟨b, off, h1, h2, h3⟩
    · intro j u hj; rw [h] at hj; simp [flt] at hj
    · rw [hbd] at h1; cases h1
      exact rows_cells (xs := l.take q) (b := b) (off := off) encIn (fun i hi => by
        have hi' : i < l.length := by rw [List.length_take] at hi; omega
        have := h3 i hi'
        rw [List.getElem_take]
        exact this))
  have HRD : Hid (∀ W, Below w.heap.size w W → ∀ bd, B = some bd → ∀ j u, (flt inL (l.drop q))[j]? = some u → W.cell? ((bd.add q).add j) = some u) := Lib.hid (fun W hb bd hbd => by
    rcases HL.out.below hb with h | ⟨b, off, h1, h2, h3⟩
    · intro j u hj; rw [h] at hj; simp [flt] at hj
    · rw [hbd] at h1; cases h1
      rw [show (⟨b, off, none⟩ : Addr).add q = ⟨b, off + q, none⟩ by simp [Addr.add]]
      exact rows_cells (xs := l.drop q) (b := b) (off := off + q) encIn (fun i hi => by
        have hi' : q + i < l.length := by rw [List.length_drop] at hi; omega
        have := h3 (q + i) hi'
        rw [List.getElem_drop, show off + q + i * 1 = off + (q + i) * 1 by omega]
        exact this))
  have HTL : Hid ((l.take q).length = q) := Lib.hid (by rw [List.length_take, HN.out]; omega)
  have HDL : Hid ((l.drop q).length = n - q) := Lib.hid (by rw [List.length_drop, HN.out])
  have HT0 := Lib.hid (Pl.cr_take HE.out (q := q) (by rw [HN.out]; exact hqn))
  have HD0 := Lib.hid (Pl.cr_drop HE.out (q := q) (by rw [HN.out]; exact hqn))
  have HCR := Lib.hid (fun W (hb : Below w.heap.size w W) (B' : Option Addr) (l' : List Int) (d' n' : Nat) (hn' : l'.length = n') (hok' : ∀ x, x ∈ l' → (Lit.int .i64 x).wf = true) (hr : Rows inL 1 W B' l') => Credit_b A a c m HM.out hm6 B' l' d' n' hn' hok' W (HA.out.below hb) hr)
  obtain ⟨i0, hi, hz0, hz01, hz2⟩ := info_parts info3
  have HSB : Hid (-50000000000000 ≤ S ∧ S ≤ 50000000000000) := Lib.hid (by
    rw [← HS.out, Pl.crS_yes HE.out]
    exact Pl.crv_sum hof.2.2.1 hof.2.1 hof.2.2.2.2)
  have HSI : Hid (∀ k, k ≤ m → -50000000000000 ≤ Pl.sm (Pl.el a) k ∧ Pl.sm (Pl.el a) k ≤ 50000000000000) := Lib.hid (fun k hk => Pl.sm_el_in hof.2.2.1 hof.1 (by rw [HM.out]; exact hk))
  have HAM : Hid (∀ k, k < m → -1099511627776 ≤ Pl.el a k ∧ Pl.el a k ≤ 1099511627776) := Lib.hid (fun k hk => Pl.crA_get hof.2.2.1 (by rw [HM.out]; exact hk))
  have HEV : Hid (Pl.crE a (Pl.every m) = 0 ∧ (∀ k, k < m → Pl.crv a (Pl.every m) k = -(Pl.el a k)) ∧ Pl.crS a (Pl.every m) = -(Pl.sm (Pl.el a) m)) := Lib.hid (by rw [← HM.out]; exact Pl.cr_every HE.out)
  have HS12 : Hid (Pl.sm (Pl.crv a l) q + Pl.crS a (l.drop q) = S) := Lib.hid (by rw [← HS.out]; exact HD0.out.2)
  clear hof
  cases B
  case' none =>
    obtain ⟨hn0, hd0⟩ := HNIL.out rfl
    subst hn0 hd0
    obtain rfl : q = 0 := by omega
    have hB4 := hB3.alloc hB3.size (.cells #[] 3)
    have H4 := Lib.hid (HCR.out _ hB4 (some ⟨w3.heap.size, 0, none⟩) (l.take 0) 0 0 (by simp) (fun x hx => by simp at hx) (.inl (by simp)))
    rw [HT0.out.1, HT0.out.2] at H4
    have hl0 : l = [] := List.eq_nil_of_length_eq_zero HN.out
    clear HRT HRD
    go_wp2_with fail
    refine H4.out.mono ?_
    rintro e w5 ⟨v5, rfl, _, hb5⟩
    have hB6 := hB4.trans (hb5.mono hB4.size)
    have hB7 := hB6.alloc hB6.size (.cells #[] 3)
    have H7 := Lib.hid (HCR.out _ hB7 (some ⟨w5.heap.size, 0, none⟩) (l.drop 0) 0 0 (by rw [hl0]; rfl) (fun x hx => by rw [hl0] at hx; cases hx) (.inl (by rw [hl0]; rfl)))
    rw [HD0.out.1] at H7
    clear H4 hb5 hl0
    generalize Pl.crS a (l.drop 0) = S2 at *
    generalize Pl.sm (Pl.crv a l) 0 = S1 at *
    go_wp2_with fail
    refine H7.out.mono ?_
    rintro e w8 ⟨v8, rfl, _, hb8⟩
    have hB8 := hB7.trans (hb8.mono hB7.size)
    clear hb8 hB7 H7
  case' some bd =>
    have HB3 := Lib.hid hB3
    have HO0 := Lib.hid (World.ownsRow_lit (base := w3.heap.size) (e := 3) (size := 1) w3 #[] 0 (Nat.le_refl _) (by unfold maxLen; omega) rfl)
    have hB4 := hB3.alloc hB3.size (.cells #[] 3)
    have HCT := Lib.hid (HRT.out _ hB4 bd rfl)
    go_wp2_with (at_builtin; refine wpList_append_own _ rfl _ _ 46 rfl w3.heap.size 3 i0 _ 1 8 Tryd.underlying46 hi hz0 hz01 hz2 rfl (by decide) _ 0 _ rfl HO0.out bd q d (flt inL (l.take q)) rfl (by rw [flt_len encIn, HTL.out]) HCT.out (flt_one' encIn _) (by unfold maxLen; omega) (by omega) (by simp) ?_; intro v4 w4 hown4 hg4 _)
    have hown5 : w4.ownsRow w3.heap.size 3 1 v4 (l.take q).length (flt inL (l.take q)) := by rw [HTL.out]; simpa using hown4
    have hB5 := hB4.grown hg4 hB4.size (fun s e => by cases e; exact HB3.out.size)
    obtain ⟨A4, c4, rfl, hr4, _, _⟩ := rows_of_owns encIn hown5
    rw [HTL.out]
    have H4 := Lib.hid (HCR.out w4 hB5 A4 (l.take q) c4 q HTL.out (fun x hx => HOK.out x (List.mem_of_mem_take hx)) hr4)
    rw [HT0.out.1, HT0.out.2] at H4
    clear hown4 hown5 hg4 hr4 hB4 HO0 HCT HRT
    generalize HST : Pl.sm (Pl.crv a l) q = S1 at *
    clear HST
    refine H4.out.mono ?_
    rintro e w5 ⟨v5, rfl, _, hb5⟩
    have hB6 := hB5.trans (hb5.mono hB5.size)
    have HB6 := Lib.hid hB6
    have HO1 := Lib.hid (World.ownsRow_lit (base := w5.heap.size) (e := 3) (size := 1) w5 #[] 0 (Nat.le_refl _) (by unfold maxLen; omega) rfl)
    have hB7 := hB6.alloc hB6.size (.cells #[] 3)
    have HCT := Lib.hid (HRD.out _ hB7 bd rfl)
    clear H4 hb5 hB5 HRD
    by_cases g3 : d = q
  case' pos =>
    have g4 : n = q := by omega
    have hl0 : l.drop q = [] := List.eq_nil_of_length_eq_zero (by rw [HDL.out]; omega)
    have H7 := Lib.hid (HCR.out _ hB7 (some ⟨w5.heap.size, 0, none⟩) (l.drop q) 0 0 (by rw [hl0]; rfl) (fun x hx => by rw [hl0] at hx; cases hx) (.inl hl0))
    rw [HD0.out.1] at H7
    clear hl0 HCT HO1
    generalize Pl.crS a (l.drop q) = S2 at *
    go_wp2_with fail
    refine H7.out.mono ?_
    rintro e w8 ⟨v8, rfl, _, hb8⟩
    have hB8 := hB7.trans (hb8.mono hB7.size)
    clear hb8 hB7 H7
  case' neg =>
    have g5 : ¬ q = d := fun e => g3 e.symm
    go_wp2_with (at_builtin; refine wpList_append_own _ rfl _ _ 46 rfl w5.heap.size 3 i0 _ 1 8 Tryd.underlying46 hi hz0 hz01 hz2 rfl (by decide) _ 0 _ rfl HO1.out (bd.add q) (n - q) (d - q) (flt inL (l.drop q)) rfl (by rw [flt_len encIn, HDL.out]) HCT.out (flt_one' encIn _) (by unfold maxLen; omega) (by omega) (by simp) ?_; intro v7 w7 hown7 hg7 _)
    have hown8 : w7.ownsRow w5.heap.size 3 1 v7 (l.drop q).length (flt inL (l.drop q)) := by rw [HDL.out]; simpa using hown7
    have hB9 := hB7.grown hg7 hB7.size (fun s e => by cases e; exact HB6.out.size)
    obtain ⟨A7, c7, rfl, hr7, _, _⟩ := rows_of_owns encIn hown8
    rw [HDL.out]
    have H7 := Lib.hid (HCR.out w7 hB9 A7 (l.drop q) c7 (n - q) HDL.out (fun x hx => HOK.out x (List.mem_of_mem_drop hx)) hr7)
    rw [HD0.out.1] at H7
    clear hown7 hown8 hg7 hr7 hB7 HO1 HCT
    generalize Pl.crS a (l.drop q) = S2 at *
    refine H7.out.mono ?_
    rintro e w8 ⟨v8, rfl, _, hb8⟩
    have hB8 := hB9.trans (hb8.mono hB9.size)
    clear hb8 hB9 H7
  all_goals
    have k12 : IntKind.i64.wrap (S1 + S2) = S := by rw [HS12.out]; exact IntWalk.i64_in _ (by have := HSB.out; omega)
    have HB8 := Lib.hid hB8
    clear hB3 hB6 hB8
    go_wp2
    go_loopw [20, 21, 22] (fun v t i wr => ∃ k : Nat, k ≤ m ∧ i = .int .i64 k ∧ t = .int .i64 (Pl.sm (Pl.el a) k) ∧ wr.ownsRow w8.heap.size 3 1 v k (flt inL (Pl.every k)) ∧ Below w8.heap.size w8 wr) (fun _ _ i _ => m - (intOf i).toNat)
    case' atStart => exact ⟨0, Nat.zero_le _, rfl, rfl, World.ownsRow_nil _ _ _ _, Below.refl _ _⟩
    case' round =>
      obtain ⟨k, hk, rfl, rfl, hown, hW⟩ := hrel
      obtain ⟨wo, rfl⟩ : ∃ wo, wo = wr := ⟨_, rfl⟩
      have hBo := HB8.out.trans (hW.mono HB8.out.size)
      by_cases hlt : k < m
      · have hltI : (k : Int) < (m : Int) := by omega
        have hkx : k < a.length := by rw [HM.out]; exact hlt
        obtain ⟨ba, oa, rfl, hba, hca⟩ := HA.out.open (by omega)
        have e1 : Pl.sm (Pl.el a) (k + 1) = Pl.sm (Pl.el a) k + Pl.el a k := rfl
        have b1 := HSI.out (k + 1) (by omega)
        have HCE : Hid (∀ W, Below w8.heap.size w8 W → W.cell? ⟨ba, oa + k, none⟩ = some (.int .i64 (Pl.el a k))) := Lib.hid (fun W hb => by
          have p0 := row_cell (mk := Value.int .i64) hba hca (HB8.out.trans (hb.mono HB8.out.size)) hkx
          rw [el_at hkx] at p0
          exact p0)
        obtain ⟨t1, ht1⟩ : ∃ t, Pl.sm (Pl.el a) (k + 1) = t := ⟨_, rfl⟩
        rw [ht1] at e1 b1
        have HT := Lib.hid ht1
        clear hca ht1
        generalize Pl.el a k = y at *
        generalize Pl.sm (Pl.el a) k = t0 at *
        have k1 : IntKind.i64.wrap (t0 + y) = t1 := by rw [← e1]; exact IntWalk.i64_in _ (by omega)
        have HOW := Lib.hid (hown.alloc (.cells (inL (k : Int)).toArray 3))
        clear b1 e1
        go_wp2_with (at_builtin; refine wpList_append_own _ rfl _ _ 46 rfl w8.heap.size 3 i0 _ 1 8 Tryd.underlying46 hi hz0 hz01 hz2 rfl (by decide) _ _ _ rfl HOW.out ⟨wo.heap.size, 0, none⟩ 1 1 (inL (k : Int)) rfl rfl (new_cells' _ _ _ rfl) (encIn.one _) (by unfold maxLen; omega) (by omega) (by have := hW.size; simp; omega) ?_; intro v' w9 hown' hgrow _; have hB9 := (hW.alloc hW.size (.cells (inL (k : Int)).toArray 3)).grown hgrow (hW.alloc hW.size _).size (fun s e => (hown.lt s e).1); have p9 := HCE.out w9 hB9)
        go_roundw
        case rel => exact ⟨k + 1, by omega, by go_num, by rw [HT.out], by rw [Pl.every_succ, flt_append, flt_one]; exact hown', hB9⟩
        case measure => simp [intOf]; omega
      · obtain rfl : k = m := by omega
        have hown1 : wo.ownsRow w8.heap.size 3 1 u20 (Pl.every k).length (flt inL (Pl.every k)) := by rw [Pl.every_len]; exact hown
        obtain ⟨A9, c9, rfl, hr9, _, _⟩ := rows_of_owns encIn hown1
        rw [Pl.every_len]
        have H9 := Lib.hid (HCR.out wo hBo A9 (Pl.every k) c9 k (Pl.every_len k) (fun x hx => by
          have := Pl.every_wf hm4 x hx
          simp [Lit.wf, IntKind.min, IntKind.max, IntKind.signed, IntKind.bits]
          omega) hr9)
        rw [HEV.out.1, HEV.out.2.2] at H9
        have HVE : Hid (Pl.crV a (Pl.every k) = Pl.tab (Pl.crv a (Pl.every k)) k) := Lib.hid (by rw [Pl.crV_yes HEV.out.1, Pl.every_len])
        have hs := HSI.out k (Nat.le_refl _)
        generalize Pl.sm (Pl.el a) k = T at *
        have kT : IntKind.i64.wrap (-T) = -T := IntWalk.i64_in _ (by omega)
        clear hown hown1 hr9 hs
        go_wp2_with fail
        refine H9.out.mono ?_
        rintro e w10 ⟨v10, rfl, ho10, hb10⟩
        rw [HVE.out] at ho10
        obtain ⟨A10, c10, rfl, hr10, _, _⟩ := rows_of_owns encIn ho10
        rw [Pl.tab_len]
        have hB10 := hBo.trans (hb10.mono hBo.size)
        have HR10 := Lib.hid hr10
        have HB10 := Lib.hid hB10
        have HE10 : Hid (∀ i (hi : i < (Pl.tab (Pl.crv a (Pl.every k)) k).length), (Pl.tab (Pl.crv a (Pl.every k)) k)[i] = -(Pl.el a i)) := Lib.hid (fun i hi => by
          rw [Pl.tab_get]
          exact HEV.out.2.1 i (by rw [Pl.tab_len] at hi; exact hi))
        have HL10 : Hid ((Pl.tab (Pl.crv a (Pl.every k)) k).length = k) := Lib.hid (Pl.tab_len _ _)
        generalize Pl.tab (Pl.crv a (Pl.every k)) k = T10 at *
        clear ho10 hr10 hb10 hB10 hBo hW H9 HVE HEV HCR
        go_wp2
        go_loopw [26] (fun i wr => ∃ j : Nat, j ≤ k ∧ i = .int .i64 j ∧ Below w10.heap.size w10 wr) (fun i _ => k - (intOf i).toNat)
        case' atStart => exact ⟨0, Nat.zero_le _, rfl, Below.refl _ _⟩
        case' round =>
          obtain ⟨j, hj, rfl, hW⟩ := hrel
          obtain ⟨wl, rfl⟩ : ∃ wl, wl = wr := ⟨_, rfl⟩
          by_cases hlj : j < k
          · have hljI : (j : Int) < (k : Int) := by omega
            have hja : j < a.length := by rw [HM.out]; exact hlj
            have hjt : j < T10.length := by rw [HL10.out]; exact hlj
            obtain ⟨ba, oa, rfl, hba, hca⟩ := HA.out.open (by omega)
            obtain ⟨bt, ot, rfl, hbt, hct⟩ := HR10.out.open (by omega)
            have p0 := row_cell (mk := Value.int .i64) hba hca (HB10.out.trans (hW.mono HB10.out.size)) hja
            rw [el_at hja] at p0
            have q0 := row_cell (mk := Value.int .i64) hbt hct hW hjt
            rw [HE10.out j hjt] at q0
            have hr := HAM.out j hlj
            clear hca hct
            generalize Pl.el a j = y at *
            have kn : IntKind.i64.wrap (-y) = -y := IntWalk.i64_in _ (by omega)
            have z0 := fun s : Ext wl => s.cell (p := ⟨ba, oa + j, none⟩) p0
            have z1 := fun s : Ext wl => s.cell (p := ⟨bt, ot + j, none⟩) q0
            clear p0 q0
            go_wp2
            refine wp_region_ext (by kernel_rfl) (by kernel_rfl) ?_
            repeat (go_big_quiet_step (fail))
            refine wpQuiet_nil ?_
            rintro _ ⟨s, rfl⟩
            have hV2 := hW.trans (s.h.mono hW.size)
            go_wp2
            go_roundw
            case rel => exact ⟨j + 1, by omega, by go_num, hV2⟩
            case measure => simp [intOf]; omega
          · obtain rfl : j = k := by omega
            have hBl := HB10.out.trans (hW.mono HB10.out.size)
            go_wp2_with fail
            refine (HC.out _).mono ?_
            rintro e w11 ⟨rfl, hb11⟩
            have hB11 := hBl.trans (hb11.mono hBl.size)
            go_wp2
            go_ret
            exact ⟨rfl, hB11⟩
end Go.Proofs.YtdihnbjmeppbcaaDoor
