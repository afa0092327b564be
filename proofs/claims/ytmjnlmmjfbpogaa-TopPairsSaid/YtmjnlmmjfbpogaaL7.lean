/- TempleProofs. -/
import Derived.Test.YtmjnlmmjfbpogaaL6
import Derived.Test.YtmjnlmmjfbpogaaK3
import Derived.Test.YtmjnlmmjfbpogaaS2
namespace Go.Proofs.Ytmjnlmmjfbpogaa
open Go.RowKit Go.Shelf

theorem rows_pairs {W : World} {A : Option Addr} {l : List (Nat × Nat)} (h : Rows prc 2 W A l) : Rows ipc 2 W A (l.map (fun e => ((e.1 : Int), (e.2 : Int)))) := by
  rcases h with rfl | ⟨b, off, h1, h2, h3⟩
  · exact .inl rfl
  · refine .inr ⟨b, off, h1, h2, fun i hi => ?_⟩
    rw [List.getElem_map]
    exact h3 i (by simpa using hi)
namespace Pl
/-- what the law asks of the list -/
structure Pf (l : List Tm) (tol : Int) (M : List (Nat × Nat)) (R : List Nat) (ps : List (Int × Int)) (L : List Int) : Prop where
  ck : Pl.ck l tol = 0
  rest : R.length + 2 * M.length = l.length
  chk : Pl.chk l tol (M.map fun e => ((e.1 : Int), (e.2 : Int))) = 0
  max : Pl.chk l tol ps = 0 → ps.length ≤ M.length
  min : Pl.igV l tol L = true → M.length ≤ L.length
theorem pf_of {l : List Tm} {tol : Int} {ps : List (Int × Int)} {L : List Int} (hv : vs l = true) (h0 : 0 ≤ tol) (h1 : tol ≤ 1000) : Pf l tol (Mt l tol) (Rs l tol) ps L := by
  have hc : Pl.ck l tol = 0 := by unfold Pl.ck; rw [if_pos hv, if_pos (inB_true.2 ⟨h0, h1⟩)]
  have eM : Mt l tol = mt l tol := by unfold Mt; rw [if_pos hc]
  have eR : Rs l tol = rs l.length (mt l tol) := by unfold Rs; rw [if_pos hc]
  rw [eM, eR]
  exact ⟨hc, rs_count (mt_mch l tol), chk_mt hc, fun h => chk_len (ok_of hv) h, fun h => ig_len h⟩
end Pl

set_option maxRecDepth 100000 in
set_option maxHeartbeats 16000000 in
theorem law_proofs (A : Option Addr) (l : List Pl.Tm) (c : Nat) (hnc : l.length ≤ c) (hcm : c ≤ maxLen) (tol : Int) (AP : Option Addr) (ps : List (Int × Int)) (cp : Nat) (AL : Option Addr) (L : List Int) (cl : Nat) (w : World) (hI : Tms w A l) (hP : Rows ipc 2 w AP ps) (hL : Rows iic 1 w AL L) :
    Calls Try.prog 7 #[.slice A l.length c, .int .i64 tol, .agg #[.slice AP ps.length cp, .slice AL L.length cl]] w fun e w' => e = .returned (.bool true) ∧ Below w.heap.size w w' := by
  have HI := Lib.hid hI
  have HP := Lib.hid hP
  have HL := Lib.hid hL
  have HS := Lib.hid sane_any
  have HV := Lib.hid (fun (w' : World) hI => rvalid_any A l c w' hI)
  have H1 := Lib.hid (fun (w' : World) hI => Match_any A l c _ rfl tol w' hI)
  have H2 := Lib.hid (fun (w' : World) hI => Most_any A l c _ rfl tol w' hI)
  have H3 := Lib.hid (fun (w' : World) hI => Guard_any A l c _ rfl tol w' hI)
  have H4 := Lib.hid (fun (w' : World) hI => Rest_any A l c _ rfl tol w' hI)
  have H5 := Lib.hid (fun (w' : World) AM (M : List (Nat × Nat)) cM m (hm : M.length = m) (hm7 : m ≤ 70) hI hM => rCheck_any A l c _ rfl tol AM (M.map fun e => ((e.1 : Int), (e.2 : Int))) cM m (by rw [List.length_map]; exact hm) hm7 w' hI hM)
  have H6 := Lib.hid (fun (w' : World) AG (g : List Nat) cg m (hm : g.length = m) (hm6 : m ≤ 600) hI hL => rIsGuard_any A l c _ rfl tol AG (g.map (fun n : Nat => (n : Int))) cg m (by rw [List.length_map]; exact hm) hm6 w' hI hL)
  have H7 := Lib.hid (fun (w' : World) m (hm : ps.length = m) (hm7 : m ≤ 70) hI hP => Check_any A l c _ rfl tol AP ps cp m hm hm7 w' hI hP)
  have H8 := Lib.hid (fun (w' : World) m (hm : L.length = m) (hm6 : m ≤ 600) hI hL => IsGuard_any A l c _ rfl hnc hcm tol AL L cl m hm hm6 w' hI hL)
  have HPF := Lib.hid (fun (hv : Pl.vs l = true) (h0 : 0 ≤ tol) (h1 : tol ≤ 1000) => Pl.pf_of (ps := ps) (L := L) hv h0 h1)
  obtain ⟨mp, hmp⟩ : ∃ m, ps.length = m := ⟨_, rfl⟩
  obtain ⟨ml, hml⟩ : ∃ m, L.length = m := ⟨_, rfl⟩
  obtain ⟨n, hn⟩ : ∃ n, l.length = n := ⟨_, rfl⟩
  rw [hmp, hml]
  rw [hn] at HV H1 H2 H3 H4 H5 H6 H7 H8 ⊢
  have HMP := Lib.hid hmp
  have HML := Lib.hid hml
  have HN := Lib.hid hn
  generalize Pl.vs l = V at *
  clear hI hP hL hmp hml hn hnc hcm
  have hBa := (Below.refl w.heap.size w).alloc (Nat.le_refl _) (.cells #[.slice AP mp cp, .slice AL ml cl] 49)
  have bV := Blk.new w 49 #[.slice AP mp cp, .slice AL ml cl]
  go_enter Try.func7, Try.ntmps7
  go_wp2
  generalize w.alloc (.cells #[.slice AP mp cp, .slice AL ml cl] 49) = wo at *
  have z0 := fun e : Ext wo => e.cell ((bV.cell 0).trans rfl)
  have z1 := fun e : Ext wo => e.cell ((bV.cell 1).trans rfl)
  refine wp_region_ext (by kernel_rfl) (by kernel_rfl) ?_
  repeat (go_big_quiet_step (fail))
  refine wpQuiet_nil ?_
  rintro _ ⟨s, rfl⟩
  have hB0 := hBa.trans (s.h.mono hBa.size)
  have HI0 := Lib.hid (HI.out.below hB0)
  have HP0 := Lib.hid (HP.out.below hB0)
  have HL0 := Lib.hid (HL.out.below hB0)
  generalize s.w = wE at *
  clear z0 z1 s bV hBa HI HP HL
  by_cases hw : (60 : Int) < (n : Int)
  · have HW := Lib.hid (wide_b A n c 60 true (by simp [hw]))
    clear hw
    go_wp2_with fail
    refine (HW.out _).mono ?_
    rintro e w3 ⟨rfl, rfl⟩
    go_wp2_with fail
    refine (HS.out _).mono ?_
    rintro e wz ⟨rfl, hbz⟩
    go_wp2
    go_ret
    exact ⟨rfl, hB0.trans (hbz.mono hB0.size)⟩
  have HW := Lib.hid (wide_b A n c 60 false (by simp [hw]))
  have hn60 : n ≤ 60 := by omega
  clear hw
  go_wp2_with fail
  refine (HW.out _).mono ?_
  rintro e w3 ⟨rfl, rfl⟩
  by_cases h6 : (60 : Int) < (mp : Int)
  · go_wp2_with fail
    refine (HS.out _).mono ?_
    rintro e wz ⟨rfl, hbz⟩
    go_wp2
    go_ret
    exact ⟨rfl, hB0.trans (hbz.mono hB0.size)⟩
  have hp60 : mp ≤ 60 := by omega
  by_cases h7 : (60 : Int) < (ml : Int)
  · go_wp2_with fail
    refine (HS.out _).mono ?_
    rintro e wz ⟨rfl, hbz⟩
    go_wp2
    go_ret
    exact ⟨rfl, hB0.trans (hbz.mono hB0.size)⟩
  have hl60 : ml ≤ 60 := by omega
  go_wp2_with fail
  refine (HV.out _ HI0.out).mono ?_
  rintro e w1 ⟨rfl, hb⟩
  have hB1 := hB0.trans (hb.mono hB0.size)
  have HI1 := Lib.hid (HI0.out.below hb)
  have HP1 := Lib.hid (HP0.out.below hb)
  have HL1 := Lib.hid (HL0.out.below hb)
  clear hb hB0 HI0 HP0 HL0 HV
  cases V with
  | false =>
    go_wp2_with fail
    refine (HS.out _).mono ?_
    rintro e wz ⟨rfl, hbz⟩
    go_wp2
    go_ret
    exact ⟨rfl, hB1.trans (hbz.mono hB1.size)⟩
  | true =>
    by_cases ht0 : tol < 0
    · go_wp2_with fail
      refine (HS.out _).mono ?_
      rintro e wz ⟨rfl, hbz⟩
      go_wp2
      go_ret
      exact ⟨rfl, hB1.trans (hbz.mono hB1.size)⟩
    by_cases ht1 : 1000 < tol
    · go_wp2_with fail
      refine (HS.out _).mono ?_
      rintro e wz ⟨rfl, hbz⟩
      go_wp2
      go_ret
      exact ⟨rfl, hB1.trans (hbz.mono hB1.size)⟩
    have hpf := HPF.out rfl (by omega) (by omega)
    have HCK := Lib.hid hpf.ck
    rw [HCK.out] at H1 H2 H3 H4
    have hml : 2 * (Pl.Mt l tol).length ≤ n := by have := hpf.rest; have := HN.out; omega
    have HPF2 := Lib.hid hpf
    have HGP := Lib.hid (fun g (h : Pl.Gp l tol g) => (⟨h.len, h.ig HCK.out⟩ : g.length = (Pl.Mt l tol).length ∧ Pl.igV l tol (g.map fun i : Nat => (i : Int)) = true ∧ Pl.igE l tol (g.map fun i : Nat => (i : Int)) = 0))
    generalize Pl.Mt l tol = M at *
    generalize Pl.Rs l tol = R at *
    obtain ⟨m, hm⟩ : ∃ m, M.length = m := ⟨_, rfl⟩
    obtain ⟨z, hz⟩ : ∃ z, R.length = z := ⟨_, rfl⟩
    have HM := Lib.hid hm
    have HZ := Lib.hid hz
    rw [hm] at hml
    have hzm : z + 2 * m = n := by rw [← hz, ← hm, ← HN.out]; exact hpf.rest
    clear hpf HPF hm hz
    go_wp2_with fail
    refine (H1.out _ HI1.out).mono ?_
    rintro e w2 ⟨v1, rfl, hown, hb⟩
    obtain ⟨A1, c1, rfl, hr1, _, _⟩ := rows_of_owns encPr hown
    rw [HM.out]
    have hB2 := hB1.trans (hb.mono hB1.size)
    have HI2 := Lib.hid (HI1.out.below hb)
    have HP2 := Lib.hid (HP1.out.below hb)
    have HL2 := Lib.hid (HL1.out.below hb)
    have HA2 := Lib.hid hr1
    clear hown hb hB1 hr1 HI1 HP1 HL1 H1
    go_wp2_with fail
    refine (H2.out _ HI2.out).mono ?_
    rintro e w3 ⟨rfl, hb⟩
    rw [HM.out]
    have hB3 := hB2.trans (hb.mono hB2.size)
    have HI3 := Lib.hid (HI2.out.below hb)
    have HP3 := Lib.hid (HP2.out.below hb)
    have HL3 := Lib.hid (HL2.out.below hb)
    have HA3 := Lib.hid (HA2.out.below hb)
    clear hb hB2 HI2 HP2 HL2 HA2 H2
    go_wp2_with fail
    refine (H3.out _ HI3.out).mono ?_
    rintro e w4 ⟨v4, g, rfl, hg, hown, hb⟩
    obtain ⟨AG, cg, rfl, hr, _, _⟩ := rows_of_owns encIr hown
    obtain ⟨g1, g2⟩ := HGP.out g hg
    have HGL : Hid (g.length = m) := Lib.hid (g1.trans HM.out)
    rw [HGL.out]
    have HG := Lib.hid g2
    have hB4 := hB3.trans (hb.mono hB3.size)
    have HI4 := Lib.hid (HI3.out.below hb)
    have HP4 := Lib.hid (HP3.out.below hb)
    have HL4 := Lib.hid (HL3.out.below hb)
    have HA4 := Lib.hid (HA3.out.below hb)
    have HR4 := Lib.hid hr
    clear hown hb hB3 HI3 HP3 HL3 HA3 H3 hr hg g1 g2 HGP
    go_wp2_with fail
    refine (H4.out _ HI4.out).mono ?_
    rintro e w5 ⟨v5, rfl, hown, hb⟩
    obtain ⟨AR, cr, rfl, hr, _, _⟩ := rows_of_owns encIr hown
    rw [HZ.out]
    have hB5 := hB4.trans (hb.mono hB4.size)
    have HI5 := Lib.hid (HI4.out.below hb)
    have HP5 := Lib.hid (HP4.out.below hb)
    have HL5 := Lib.hid (HL4.out.below hb)
    have HA5 := Lib.hid (HA4.out.below hb)
    have HR5 := Lib.hid (HR4.out.below hb)
    clear hown hb hB4 HI4 HP4 HL4 HA4 HR4 H4 hr
    have k1 : IntKind.i64.wrap (2 * (m : Int)) = 2 * (m : Int) := IntWalk.i64_in _ (by omega)
    have k2 : (z : Int) + 2 * (m : Int) = (n : Int) := by omega
    go_wp2_with fail
    refine (H5.out _ A1 M c1 m HM.out (by omega) HI5.out (rows_pairs HA5.out)).mono ?_
    rintro e w6 ⟨rfl, hb⟩
    rw [HPF2.out.chk]
    have hB6 := hB5.trans (hb.mono hB5.size)
    have HI6 := Lib.hid (HI5.out.below hb)
    have HP6 := Lib.hid (HP5.out.below hb)
    have HL6 := Lib.hid (HL5.out.below hb)
    have HR6 := Lib.hid (HR5.out.below hb)
    clear hb hB5 HI5 HP5 HL5 HA5 HR5 H5
    go_wp2_with fail
    refine (H6.out _ AG g cg m HGL.out (by omega) HI6.out (rows_int HR6.out)).mono ?_
    rintro e w7 ⟨rfl, hb⟩
    rw [HG.out.1, HG.out.2]
    have hB7 := hB6.trans (hb.mono hB6.size)
    have HI7 := Lib.hid (HI6.out.below hb)
    have HP7 := Lib.hid (HP6.out.below hb)
    have HL7 := Lib.hid (HL6.out.below hb)
    clear hb hB6 HI6 HP6 HL6 HR6 H6 HG
    go_wp2_with fail
    refine (H7.out _ mp HMP.out (by omega) HI7.out HP7.out).mono ?_
    rintro e w8 ⟨rfl, hb⟩
    have hB8 := hB7.trans (hb.mono hB7.size)
    have HI8 := Lib.hid (HI7.out.below hb)
    have HL8 := Lib.hid (HL7.out.below hb)
    clear hb hB7 HI7 HP7 HL7 H7
    have hmax := HPF2.out.max
    have hmin := HPF2.out.min
    rw [HMP.out, HM.out] at hmax
    rw [HML.out, HM.out] at hmin
    clear HPF2
    generalize Pl.chk l tol ps = e8 at *
    generalize Pl.igV l tol L = v9 at *
    generalize Pl.igE l tol L = e9 at *
    have H88 : Hid (e8 ≠ 0 ∨ (e8 = 0 ∧ mp ≤ m)) := Lib.hid (by by_cases c : e8 = 0; exact .inr ⟨c, hmax c⟩; exact .inl c)
    have H99 : Hid (v9 = false ∨ (v9 = true ∧ m ≤ ml)) := Lib.hid (by cases v9; exact .inl rfl; exact .inr ⟨rfl, hmin rfl⟩)
    clear hmax hmin
    have step : ∀ (P : Prop), (e8 ≠ 0 → P) → (e8 = 0 → mp ≤ m → P) → P := fun P a b => H88.out.elim a (fun h => b h.1 h.2)
    refine step _ (fun h8 => ?_) (fun h8 h8' => ?_)
    · have h8b : (e8 == 0) = false := by simp [h8]
      go_wp2_with fail
      refine (H8.out _ ml HML.out (by omega) HI8.out HL8.out).mono ?_
      rintro e w9 ⟨rfl, hb⟩
      have hB9 := hB8.trans (hb.mono hB8.size)
      clear hb hB8 HI8 HL8 H8
      rcases H99.out with rfl | ⟨rfl, h9⟩
      · go_wp2_with fail
        refine (HS.out _).mono ?_
        rintro e wz ⟨rfl, hbz⟩
        go_wp2
        go_ret
        exact ⟨rfl, hB9.trans (hbz.mono hB9.size)⟩
      · by_cases h90 : e9 = 0
        · subst h90
          go_wp2_with fail
          refine (HS.out _).mono ?_
          rintro e wz ⟨rfl, hbz⟩
          go_wp2
          go_ret
          exact ⟨rfl, hB9.trans (hbz.mono hB9.size)⟩
        · go_wp2_with fail
          refine (HS.out _).mono ?_
          rintro e wz ⟨rfl, hbz⟩
          go_wp2
          go_ret
          exact ⟨rfl, hB9.trans (hbz.mono hB9.size)⟩
    · subst h8
      have hmI : ¬ (m : Int) < (mp : Int) := by omega
      go_wp2_with fail
      refine (H8.out _ ml HML.out (by omega) HI8.out HL8.out).mono ?_
      rintro e w9 ⟨rfl, hb⟩
      have hB9 := hB8.trans (hb.mono hB8.size)
      clear hb hB8 HI8 HL8 H8
      rcases H99.out with rfl | ⟨rfl, h9⟩
      · go_wp2_with fail
        refine (HS.out _).mono ?_
        rintro e wz ⟨rfl, hbz⟩
        go_wp2
        go_ret
        exact ⟨rfl, hB9.trans (hbz.mono hB9.size)⟩
      · by_cases h90 : e9 = 0
        · subst h90
          go_wp2_with fail
          refine (HS.out _).mono ?_
          rintro e wz ⟨rfl, hbz⟩
          go_wp2
          go_ret
          exact ⟨rfl, hB9.trans (hbz.mono hB9.size)⟩
        · go_wp2_with fail
          refine (HS.out _).mono ?_
          rintro e wz ⟨rfl, hbz⟩
          go_wp2
          go_ret
          exact ⟨rfl, hB9.trans (hbz.mono hB9.size)⟩
end Go.Proofs.Ytmjnlmmjfbpogaa
