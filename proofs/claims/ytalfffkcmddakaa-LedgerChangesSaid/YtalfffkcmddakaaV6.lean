/- The law of changes: what one more entry does. -/
import Derived.Test.YtalfffkcmddakaaV5
import Derived.Test.YtalfffkcmddakaaD2
import Derived.Test.YtalfffkcmddakaaE7
import Derived.Test.YtalfffkcmddakaaP10
namespace Go.Proofs.Ytalfffkcmddakaa
open Go.RowKit Go.Shelf

theorem ba_ok {l : List Pl.En} {d : Int} : Pl.baE l d = 0 ↔ Pl.vB l = true ∧ 0 ≤ d ∧ d ≤ 100000 := by
  unfold Pl.baE
  rw [← Pl.inB_true]
  cases h1 : Pl.vB l <;> cases h2 : Pl.inB 0 d 100000 <;> simp
theorem ba_v {l : List Pl.En} {d : Int} (h : Pl.baE l d = 0) : Pl.baV l d = Pl.bal d l := by unfold Pl.baV; rw [if_pos h]
theorem bal_b {l : List Pl.En} (h : Pl.Vb l) (d : Int) : -200000000000 ≤ Pl.bal d l ∧ Pl.bal d l ≤ 200000000000 := by
  have h1 := Pl.bal_bound d h.each l.length (Nat.le_refl _)
  rw [List.take_length] at h1
  have := h.len
  omega
set_option maxRecDepth 100000 in
set_option maxHeartbeats 16000000 in
theorem law_changes (A : Option Addr) (b : List Pl.En) (c n : Nat) (hn : b.length = n) (x : Pl.En) (day ref : Int) (wf : (Lit.int .i64 ref).wf = true) (w : World) (hnc : n ≤ c) (hm : c ≤ maxLen) (hI : Rows enL 4 w A b) :
    Calls Try.prog 9 #[.slice A n c, .agg (enA x), .int .i64 day, .int .i64 ref] w fun e w' => e = .returned (.bool true) ∧ Below w.heap.size w w' := by
  have hmn : n ≤ maxLen := Nat.le_trans hnc hm
  have hB0 := (Below.refl w.heap.size w).alloc (Nat.le_refl _) (.cells (enA x) 24)
  have bX := Blk.new w 24 (enA x)
  have hr := bX.range
  have H1 := Lib.hid (fun W (h : Below w.heap.size w W) => add_any A b c n hn hmn x W (hI.below h))
  have H2 := Lib.hid (fun W (h : Below w.heap.size w W) => balance2_b A b c n hn hmn day W (hI.below h))
  have H3 := Lib.hid (fun W (h : Below w.heap.size w W) => settled2_b A b c n hn hmn ref day wf W (hI.below h))
  have HB0 := Lib.hid hB0
  have HAD := Lib.hid (fun h : Pl.adE b x = 0 => Pl.more h)
  have HMB := Lib.hid (fun d => Pl.more_bal (b := b) (x := x) d)
  have HMS := Lib.hid (fun (h : Pl.adE b x = 0) h1 h2 => Pl.more_stl (x := x) h (r := ref) (d := day) h1 h2)
  have HLA := Lib.hid (fun (h : Pl.Vb (Pl.srt (b ++ [x]))) h1 h2 => Pl.later h (r := ref) (d := day) h1 h2)
  have HBV := Lib.hid (fun h => ba_v (l := b) (d := day) h)
  have HBO := Lib.hid (ba_ok (l := b) (d := day))
  have HWF := Lib.hid wf
  clear hn hnc hm hI hmn hB0 wf
  obtain ⟨ae, hae⟩ : ∃ q, Pl.adE b x = q := ⟨_, rfl⟩
  obtain ⟨be, hbe⟩ : ∃ q, Pl.baE b day = q := ⟨_, rfl⟩
  obtain ⟨av, hav⟩ : ∃ q, Pl.adV b x = q := ⟨_, rfl⟩
  obtain ⟨bv, hbv⟩ : ∃ q, Pl.baV b day = q := ⟨_, rfl⟩
  obtain ⟨se, hse⟩ : ∃ q, Pl.stE b ref day = q := ⟨_, rfl⟩
  obtain ⟨sv, hsv⟩ : ∃ q, Pl.stV b ref day = q := ⟨_, rfl⟩
  rw [hae, hav] at H1
  rw [hbe, hbv] at H2
  rw [hse, hsv] at H3
  rw [hae, hav] at HAD
  rw [hae, hse, hsv] at HMS
  rw [hbe, hbv] at HBV
  rw [hbe] at HBO
  clear hae hbe hav hbv hse hsv
  by_cases ha : ae = 0
  case neg =>
    have e1 : (ae != 0) = true := by simp [ha]
    clear ha HAD HMB HMS HLA HBV HBO H3
    go_enter Try.func9, Try.ntmps9
    go_wp2_with (have h9 := hr; refine ldm_en hr rfl _ rfl rfl ?_; clear h9)
    refine (H1.out _ HB0.out).mono ?_
    rintro e w1 ⟨v1, rfl, _, hb1⟩
    have hB1 := HB0.out.trans (hb1.mono HB0.out.size)
    clear hb1 hr bX
    go_wp2_with fail
    refine (H2.out _ hB1).mono ?_
    rintro e w2 ⟨rfl, hb2⟩
    have hB2 := hB1.trans (hb2.mono hB1.size)
    clear hb2
    go_wp2_with fail
    refine (awake_any w2).mono ?_
    rintro e w9 ⟨rfl, hb9⟩
    have hB9 := hB2.trans (hb9.mono hB2.size)
    go_wp2
    go_ret
    exact ⟨rfl, hB9⟩
  case pos =>
  subst ha
  by_cases hb : be = 0
  case neg =>
    have e2 : (be != 0) = true := by simp [hb]
    clear hb HAD HMB HMS HLA HBV HBO H3
    go_enter Try.func9, Try.ntmps9
    go_wp2_with (have h9 := hr; refine ldm_en hr rfl _ rfl rfl ?_; clear h9)
    refine (H1.out _ HB0.out).mono ?_
    rintro e w1 ⟨v1, rfl, _, hb1⟩
    have hB1 := HB0.out.trans (hb1.mono HB0.out.size)
    clear hb1 hr bX
    go_wp2_with fail
    refine (H2.out _ hB1).mono ?_
    rintro e w2 ⟨rfl, hb2⟩
    have hB2 := hB1.trans (hb2.mono hB1.size)
    clear hb2
    go_wp2_with fail
    refine (awake_any w2).mono ?_
    rintro e w9 ⟨rfl, hb9⟩
    have hB9 := hB2.trans (hb9.mono hB2.size)
    go_wp2
    go_ret
    exact ⟨rfl, hB9⟩
  case pos =>
  subst hb
  obtain ⟨hC1, hC2, hC3, hC4⟩ := HAD.out rfl
  obtain ⟨_, hd1, hd2⟩ := HBO.out.1 rfl
  have hbvb := HBV.out rfl
  have hbb := bal_b hC3 day
  rw [← hbvb] at hbb
  obtain ⟨E, hE⟩ : ∃ E, Pl.ef x = E := ⟨_, rfl⟩
  have heb := Pl.ef_bound hC4
  have HCC := Lib.hid (Pl.ve_c hC4)
  have HEF := Lib.hid (fun W => deffect_b x HCC.out E hE W)
  rw [hE] at heb
  have HM1 := HMB.out day
  rw [hE, ← hbvb] at HM1
  have kD : IntKind.i64.wrap (bv + E) = bv + E := IntWalk.i64_in _ (by omega)
  subst hC1
  obtain ⟨C, hCC⟩ : ∃ C, Pl.srt (b ++ [x]) = C := ⟨_, rfl⟩
  rw [hCC] at HMS HLA hC2 HM1 H1
  have HVC := Lib.hid hC2
  have HM1 := Lib.hid HM1
  have hcl : C.length ≤ 200 := hC2.len
  have H4 := Lib.hid (fun (A' : Option Addr) (c' : Nat) W (h : Rows enL 4 W A' C) => balance2_b A' C c' C.length rfl (by unfold maxLen; omega) day W h)
  have H5 := Lib.hid (fun (A' : Option Addr) (c' : Nat) W (h : Rows enL 4 W A' C) => settled2_b A' C c' C.length rfl (by unfold maxLen; omega) ref day HWF.out W h)
  have H6 := Lib.hid (fun (A' : Option Addr) (c' : Nat) W (h : Rows enL 4 W A' C) => settled2_b A' C c' C.length rfl (by unfold maxLen; omega) ref 100000 HWF.out W h)
  have H7 := Lib.hid (fun (A' : Option Addr) (c' : Nat) W (h : Rows enL 4 W A' C) => running2_b A' C c' C.length rfl (by unfold maxLen; omega) W h)
  have H8 := Lib.hid (fun (A' : Option Addr) (c' : Nat) W (h : Rows enL 4 W A' C) => balance2_b A' C c' C.length rfl (by unfold maxLen; omega) 100000 W h)
  have q1 : Pl.baE C day = 0 := ba_ok.2 ⟨Pl.vb_iff.2 hC2, hd1, hd2⟩
  have q2 : Pl.baE C 100000 = 0 := ba_ok.2 ⟨Pl.vb_iff.2 hC2, by omega, by omega⟩
  have q3 : Pl.ruE C = 0 := by unfold Pl.ruE; rw [Pl.vb_iff.2 hC2]; rfl
  rw [q1, ba_v q1] at H4
  rw [q2, ba_v q2] at H8
  rw [q3] at H7
  obtain ⟨te, hte⟩ : ∃ q, Pl.stE C ref day = q := ⟨_, rfl⟩
  obtain ⟨tv, htv⟩ : ∃ q, Pl.stV C ref day = q := ⟨_, rfl⟩
  obtain ⟨ue, hue⟩ : ∃ q, Pl.stE C ref 100000 = q := ⟨_, rfl⟩
  obtain ⟨uv, huv⟩ : ∃ q, Pl.stV C ref 100000 = q := ⟨_, rfl⟩
  have hmm := HMS.out rfl
  have hla := HLA.out hC2
  rw [hte, htv] at H5 hla
  rw [hue, huv] at H6
  rw [huv] at hla
  rw [hte, htv, hue] at hmm
  have HSS : Hid (se = 0 → sv = true → te = 0 ∧ tv = true ∧ ue = 0 ∧ uv = true) := Lib.hid (fun h1 h2 => by
    obtain ⟨k1, k2, k3⟩ := hmm h1 h2
    exact ⟨k1, k2, k3, hla k1 k2⟩)
  obtain ⟨L, hL⟩ : ∃ L, C.length = L := ⟨_, rfl⟩
  rw [hL] at hcl H4 H5 H6 H7 H8
  have HL := Lib.hid hL
  have HEN := Lib.hid (fun (h : Pl.IsDs C []) => Pl.end_nil hC2 h)
  have HEL := Lib.hid (fun (D : List Int) (h : Pl.IsDs C D) (k : Nat) (hk : D.length = k + 1) => Pl.end_last hC2 h hk)
  obtain ⟨Q, hQ⟩ : ∃ Q, Pl.bal 100000 C = Q := ⟨_, rfl⟩
  rw [hQ] at HEN HEL H8
  obtain ⟨M, hM⟩ : ∃ M, Pl.bal day C = M := ⟨_, rfl⟩
  rw [hM] at H4 HM1
  clear hmm hla hte htv hue huv HMS HLA q1 q2 q3 hC2 hC3 hC4 hCC heb hE HAD HMB HBV HBO hbvb hL hQ hM hbb hd1 hd2
  go_enter Try.func9, Try.ntmps9
  go_wp2_with (have h9 := hr; refine ldm_en hr rfl _ rfl rfl ?_; clear h9)
  refine (H1.out _ HB0.out).mono ?_
  rintro e w1 ⟨v1, rfl, hO1, hb1⟩
  rw [HL.out] at hO1
  obtain ⟨A1, c1, rfl, hR1, _, _, _⟩ := rows_own2 HL.out hO1
  have hB1 := HB0.out.trans (hb1.mono HB0.out.size)
  have bX1 := bX.below hb1 bX.lt
  clear hb1 hr bX hO1 H1
  go_wp2_with fail
  refine (H2.out _ hB1).mono ?_
  rintro e w2 ⟨rfl, hb2⟩
  have hB2 := hB1.trans (hb2.mono hB1.size)
  have bX2 := bX1.below hb2 bX1.lt
  have hR2 := hR1.below hb2
  clear hb2 H2 bX1 hB1 hR1
  go_wp2_with fail
  refine (H4.out A1 c1 _ hR2).mono ?_
  rintro e w3 ⟨rfl, hb3⟩
  have hB3 := hB2.trans (hb3.mono hB2.size)
  have bX3 := bX2.below hb3 bX2.lt
  have hR3 := hR2.below hb3
  clear hb3 H4 bX2 hB2 hR2
  by_cases h1 : x.d ≤ day
  case' pos =>
    have HMQ : Hid (M = bv + E) := Lib.hid (by rw [HM1.out, if_pos h1])
    have hmq : (M != bv + E) = false := by rw [HMQ.out]; simp
    have hr7 := bX3.range
    have p2 := bX3.cell 2
    clear HM1 HMQ
    go_wp2_with (have h9 := hr7; refine ldm_en hr7 rfl _ rfl rfl ?_; clear h9)
    refine (HEF.out w3).mono ?_
    rintro e w4 ⟨rfl, hb4⟩
    have HB4 := Lib.hid (hB3.trans (hb4.mono hB3.size))
    have HR4 := Lib.hid (hR3.below hb4)
    clear hb4 hr7 p2 bX3 hB3 hR3
  case' neg =>
    have HMQ : Hid (M = bv) := Lib.hid (by rw [HM1.out, if_neg h1]; omega)
    have hmq : (M != bv) = false := by rw [HMQ.out]; simp
    have p2 := bX3.cell 2
    have HB4 := Lib.hid hB3
    have HR4 := Lib.hid hR3
    clear HM1 HMQ bX3 hB3 hR3
    obtain ⟨w4, rfl⟩ : ∃ w4, w4 = w3 := ⟨_, rfl⟩
  all_goals
    go_wp2_with fail
    refine (H3.out _ HB4.out).mono ?_
    rintro e w5 ⟨rfl, hb5⟩
    have HB5 := Lib.hid (HB4.out.trans (hb5.mono HB4.out.size))
    have HR5 := Lib.hid (HR4.out.below hb5)
    clear hb5 HB4 HR4
    go_wp2_with fail
    refine (H5.out A1 c1 _ HR5.out).mono ?_
    rintro e w6 ⟨rfl, hb6⟩
    have HB6 := Lib.hid (HB5.out.trans (hb6.mono HB5.out.size))
    have HR6 := Lib.hid (HR5.out.below hb6)
    clear hb6 HB5 HR5
    go_wp2_with fail
    refine (H6.out A1 c1 _ HR6.out).mono ?_
    rintro e w7 ⟨rfl, hb7⟩
    have HB7 := Lib.hid (HB6.out.trans (hb7.mono HB6.out.size))
    have HR7 := Lib.hid (HR6.out.below hb7)
    clear hb7 HB6 HR6
    by_cases hs : se = 0 ∧ sv = true
    case' pos =>
      obtain ⟨rfl, rfl⟩ := hs
      obtain ⟨rfl, rfl, rfl, rfl⟩ := HSS.out rfl rfl
      clear HSS
      go_wp2_with fail
    case' neg =>
      have hsx : (se == 0) = false ∨ ((se == 0) = true ∧ sv = false) := by
        by_cases h1 : se = 0
        · subst h1
          exact .inr ⟨rfl, by cases sv <;> simp_all⟩
        · exact .inl (by simpa using h1)
      clear hs HSS
      rcases hsx with hs1 | ⟨hs1, rfl⟩
      case' inl => go_wp2_with fail
      case' inr => go_wp2_with fail
    all_goals
      refine (H7.out A1 c1 _ HR7.out).mono ?_
      rintro e w8 ⟨v8, D, rfl, hD, _, hO8, hb8⟩
      obtain ⟨_, hDs⟩ := hD (by first | rfl | trivial)
      have HB8 := Lib.hid (HB7.out.trans (hb8.mono HB7.out.size))
      have HR8 := Lib.hid (HR7.out.below hb8)
      obtain ⟨m, hm⟩ : ∃ m, D.length = m := ⟨_, rfl⟩
      rw [hm] at hO8
      obtain ⟨A8, c8, rfl, hP8⟩ := rows_ownP (show (Pl.run C D).length = m by rw [Pl.run_len, hm]) hO8
      clear hb8 hO8 HB7 HR7 hD
      go_wp2_with fail
      refine (H8.out A1 c1 _ HR8.out).mono ?_
      rintro e w9 ⟨rfl, hb9⟩
      have HB9 := Lib.hid (HB8.out.trans (hb9.mono HB8.out.size))
      have hP9 := hP8.below hb9
      clear hb9 HB8 HR8 hP8
      rcases Nat.eq_zero_or_pos m with hm0 | hm0
      case' inl =>
        subst hm0
        have hDn : D = [] := List.eq_nil_of_length_eq_zero hm
        subst hDn
        have hQ0 := HEN.out hDs
        subst hQ0
        clear hP9 hDs HEN HEL hm
        go_wp2_with fail
      case' inr =>
        obtain ⟨k, hk⟩ : ∃ k, m = k + 1 := ⟨m - 1, by omega⟩
        have hDl := HEL.out D hDs k (by rw [hm, hk])
        obtain ⟨bs, os, rfl, hbs, hcs⟩ := hP9.open (by rw [Pl.run_len, hm]; exact hm0)
        have p1 := (pr_cells (hcs k (by rw [Pl.run_len, hm]; omega))).2
        have e1 : ((Pl.run C D)[k]'(by rw [Pl.run_len, hm]; omega)).2 = Q := by
          unfold Pl.run
          rw [List.getElem_map]
          exact hDl
        rw [e1] at p1
        have hm200 : m ≤ 200 := by rw [← hm]; have := hDs.len; rw [HL.out] at this; omega
        have kM : IntKind.i64.wrap ((m : Int) - 1) = (k : Int) := by rw [IntWalk.i64_in _ (by omega)]; omega
        have hkm : (k : Int) < (m : Int) := by omega
        have hmz : ((m : Int) == 0) = false := beq_eq_false_iff_ne.2 (by omega)
        have hmp : (0 : Int) < (m : Int) := by omega
        have HK := Lib.hid hk
        clear hcs hDl e1 hDs HEN HEL hm hk hP9
        go_wp2_with fail
      all_goals
        refine (awake_any w9).mono ?_
        rintro e w10 ⟨rfl, hb10⟩
        have HB10 := Lib.hid (HB9.out.trans (hb10.mono HB9.out.size))
        clear hb10
        go_wp2
        go_ret
        exact ⟨rfl, HB10.out⟩
end Go.Proofs.Ytalfffkcmddakaa
