/- The law of parts. -/
import Derived.Test.YtalfffkcmddakaaS5
import Derived.Test.YtalfffkcmddakaaS6
import Derived.Test.YtalfffkcmddakaaE7
import Derived.Test.YtalfffkcmddakaaZ8
namespace Go.Proofs.Ytalfffkcmddakaa
open Go.RowKit Go.Shelf

/-- the part of a book that was kept -/
def Pl.sel (l : List Pl.En) (K : List Bool) : Nat → List Pl.En
  | 0 => []
  | k + 1 => if K.getD k false = true then Pl.sel l K k ++ [l.getD k Pl.z0] else Pl.sel l K k
theorem Pl.sel_sub (l : List Pl.En) (K : List Bool) : ∀ k, k ≤ l.length → (Pl.sel l K k).Sublist (l.take k)
  | 0, _ => by simp [Pl.sel]
  | k + 1, hk => by
    have ih := Pl.sel_sub l K k (by omega)
    rw [List.take_succ_eq_append_getElem (show k < l.length by omega)]
    unfold Pl.sel
    split
    · rw [List.getD_eq_getElem?_getD, List.getElem?_eq_getElem (show k < l.length by omega)]
      exact ih.append (List.Sublist.refl _)
    · exact ih.trans (List.sublist_append_left _ _)
theorem Pl.jov_len (a b : List Pl.En) : (Pl.joV a b).length ≤ 200 := by
  unfold Pl.joV
  split
  · rename_i h
    unfold Pl.joE at h
    split at h
    · omega
    · split at h
      · omega
      · omega
  · simp
theorem rows_ownD' {W : World} {base : Nat} {v : Value} {xs : List Pl.Df} {n : Nat} (hn : xs.length = n) (h : W.ownsRow base 61 9 v n (flt dfL xs)) : ∃ A c, v = .slice A n c := by
  subst hn
  obtain ⟨A, c, e, _, _, _⟩ := rows_of_owns encDf h
  exact ⟨A, c, e⟩
set_option maxRecDepth 100000 in
set_option maxHeartbeats 32000000 in
theorem law_parts (A1 A2 A3 : Option Addr) (b o : List Pl.En) (K : List Bool) (n1 c1 n2 c2 nk ck : Nat) (hn1 : b.length = n1) (hn2 : o.length = n2) (hnk : K.length = nk) (w : World) (hc1 : n1 ≤ c1) (hc2 : n2 ≤ c2) (ht1 : c1 ≤ maxLen) (ht2 : c2 ≤ maxLen) (hck : nk ≤ ck) (htk : ck ≤ maxLen) (hx1 : A1 = none → c1 = 0) (hx2 : A2 = none → c2 = 0) (hI1 : Rows enL 4 w A1 b) (hI2 : Rows enL 4 w A2 o) (hI3 : Rows boL 1 w A3 K) :
    Calls Try.prog 11 #[.slice A1 n1 c1, .slice A2 n2 c2, .slice A3 nk ck] w fun e w' => e = .returned (.bool true) ∧ Below w.heap.size w w' := by
  have hm1 : n1 ≤ maxLen := Nat.le_trans hc1 ht1
  have hm2 : n2 ≤ maxLen := Nat.le_trans hc2 ht2
  have hk63 : nk ≤ 9223372036854775807 := by have := Nat.le_trans hck htk; unfold maxLen at this; omega
  obtain ⟨y, hy⟩ : ∃ y, Pl.vB b = y := ⟨_, rfl⟩
  have HV := Lib.hid (valid_any A1 b c1 n1 hn1 hm1 y hy w hI1)
  cases y
  case false =>
    clear hy hI1 hI2 hI3 hx1 hx2 hn1 hn2 hnk hm1 hm2 hc1 hc2 ht1 ht2 hck htk
    go_enter Try.func11, Try.ntmps11
    go_wp2_with fail
    refine HV.out.mono ?_
    rintro e w1 ⟨rfl, hb1⟩
    go_wp2_with fail
    refine (awake_any w1).mono ?_
    rintro e w9 ⟨rfl, hb9⟩
    have hB9 := hb1.trans (hb9.mono hb1.size)
    go_wp2
    go_ret
    exact ⟨rfl, hB9⟩
  case true =>
  have hvb := Pl.vb_iff.1 hy
  have hl1 : n1 ≤ 200 := by rw [← hn1]; exact hvb.len
  obtain ⟨O, hO⟩ : ∃ O, Pl.sel b K n1 = O := ⟨_, rfl⟩
  have hsub : O.Sublist b := by
    rw [← hO, ← hn1]
    have := Pl.sel_sub b K b.length (Nat.le_refl _)
    rwa [List.take_length] at this
  obtain ⟨g1, g2, g3, g4, g5⟩ := Pl.parts hvb hsub
  obtain ⟨S, hS⟩ : ∃ S, Pl.snc O b = S := ⟨_, rfl⟩
  rw [hS] at g2 g3 g4 g5
  obtain ⟨p, hp⟩ : ∃ p, O.length = p := ⟨_, rfl⟩
  obtain ⟨q, hq⟩ : ∃ q, S.length = q := ⟨_, rfl⟩
  rw [hp, hq, hn1] at g2
  have hSB : Pl.snV O b = S := by unfold Pl.snV; rw [if_pos g1, hS]
  have hJV : Pl.joV O S = Pl.srt b := by unfold Pl.joV; rw [if_pos g3, g4]
  have hJD : Pl.joD O S = [] := by unfold Pl.joD; rw [if_pos g3, g5]
  have hso : Pl.soE b = 0 ∧ Pl.soV b = Pl.srt b := by unfold Pl.soE Pl.soV; rw [hy]; exact ⟨rfl, rfl⟩
  have HSI := Lib.hid (fun (A' : Option Addr) (c' : Nat) (hx' : A' = none → c' = 0) W (h : Below w.heap.size w W) (hr : Rows enL 4 W A' O) => since2_b A' A1 O b p c' n1 c1 hp hn1 (by unfold maxLen; omega) hm1 hx' hx1 W hr (hI1.below h))
  rw [g1, hSB] at HSI
  have HJ := Lib.hid (fun (A' A'' : Option Addr) (c' c'' : Nat) (hx' : A' = none → c' = 0) (hx'' : A'' = none → c'' = 0) W (hr : Rows enL 4 W A' O) (hr' : Rows enL 4 W A'' S) => join2_b A' A'' O S p c' q c'' hp hq (by unfold maxLen; omega) (by unfold maxLen; omega) hx' hx'' W hr hr')
  rw [g3, hJV, hJD] at HJ
  have HSO := Lib.hid (fun W (h : Below w.heap.size w W) => sorted2_any A1 b c1 n1 hn1 hm1 W (hI1.below h))
  rw [hso.1, hso.2] at HSO
  have HJ1 := Lib.hid (fun W (h : Below w.heap.size w W) => join2_b A1 A2 b o n1 c1 n2 c2 hn1 hn2 hm1 hm2 hx1 hx2 W (hI1.below h) (hI2.below h))
  have HJ2 := Lib.hid (fun W (h : Below w.heap.size w W) => join2_b A2 A1 o b n2 c2 n1 c1 hn2 hn1 hm2 hm1 hx2 hx1 W (hI2.below h) (hI1.below h))
  obtain ⟨k1, k2, k3⟩ := Pl.jo_swap b o
  rw [← k1, ← k2] at HJ2
  obtain ⟨je, hje⟩ : ∃ q, Pl.joE b o = q := ⟨_, rfl⟩
  obtain ⟨jv, hjv⟩ : ∃ q, Pl.joV b o = q := ⟨_, rfl⟩
  obtain ⟨jl, hjl⟩ : ∃ q, jv.length = q := ⟨_, rfl⟩
  obtain ⟨jd, hjd⟩ : ∃ q, (Pl.joD b o).length = q := ⟨_, rfl⟩
  have hjl2 : jl ≤ 200 := by rw [← hjl, ← hjv]; exact Pl.jov_len b o
  rw [hje, hjv, hjl, hjd] at HJ1
  rw [hje, hjv, hjl, ← k3, hjd] at HJ2
  have HJD : Hid ((Pl.joD b o).length = jd ∧ (Pl.joD o b).length = jd) := Lib.hid ⟨hjd, by rw [← k3, hjd]⟩
  have HJL := Lib.hid hjl
  have HSL : Hid ((Pl.srt b).length = n1) := Lib.hid (by rw [Pl.srt_len, hn1])
  have HP := Lib.hid hp
  have HQ := Lib.hid hq
  have HO := Lib.hid hO
  have HI1 := Lib.hid hI1
  have HI3 := Lib.hid hI3
  have HN1 := Lib.hid hn1
  have HNK := Lib.hid hnk
  have kW : IntKind.i64.wrap ((q : Int) + (p : Int)) = (n1 : Int) := by rw [IntWalk.i64_in _ (by omega)]; omega
  have HSEL := Lib.hid (fun k (hk : k ≤ n1) => (Pl.sel_sub b K k (by rw [hn1]; exact hk)).length_le)
  have hpb : p ≤ 200 := by omega
  have hqb : q ≤ 200 := by omega
  obtain ⟨i0, hi, hz0, hz1, hz2⟩ := info_parts infoEn3
  clear hy hvb hsub g1 g2 g3 g4 g5 hS hp hq hSB hJV hJD hso k1 k2 k3 hje hjv hjl hjd hI1 hI2 hI3 hn1 hn2 hnk hm1 hm2 hc1 hc2 ht1 ht2 hck htk hx1 hx2 hO
  go_enter Try.func11, Try.ntmps11
  go_wp2_with fail
  refine HV.out.mono ?_
  rintro e w1 ⟨rfl, hb1⟩
  have HB1 := Lib.hid hb1
  clear hb1 HV
  go_wp2
  go_loopw [7, 8, 27] (fun v _ i wr => ∃ k : Nat, k ≤ n1 ∧ i = .int .i64 k ∧ Hid (wr.ownsRow w.heap.size 24 4 v (Pl.sel b K k).length (flt enL (Pl.sel b K k))) ∧ Hid (Below w.heap.size w wr)) (fun _ _ i _ => n1 - (intOf i).toNat)
  case atStart => exact ⟨0, Nat.zero_le _, rfl, Lib.hid (World.ownsRow_nil _ _ _ _), HB1⟩
  case round =>
    clear HB1
    obtain ⟨k, hk, rfl, HOW, HW⟩ := hrel
    obtain ⟨wo, rfl⟩ : ∃ wo, wo = wr := ⟨_, rfl⟩
    by_cases hlt : k < n1
    · have hltI : (k : Int) < (n1 : Int) := by omega
      have hkx : k < b.length := by rw [HN1.out]; exact hlt
      obtain ⟨bx, ox, rfl, hbx, hcx⟩ := HI1.out.open (by omega)
      have hr := row_at hbx hcx HW.out hkx
      have HST : Hid (Pl.sel b K (k + 1) = if K.getD k false = true then Pl.sel b K k ++ [b[k]] else Pl.sel b K k) := Lib.hid (by
        show (if K.getD k false = true then Pl.sel b K k ++ [b.getD k Pl.z0] else Pl.sel b K k) = _
        rw [List.getD_eq_getElem?_getD (l := b), List.getElem?_eq_getElem hkx]; rfl)
      have HSL2 : Hid ((Pl.sel b K k).length ≤ 200) := Lib.hid (by have := HSEL.out k hk; rw [List.length_take] at this; omega)
      clear hcx
      generalize b[k] = x at *
      generalize Pl.sel b K k = X at *
      have bz := Blk.new wo 24 zen
      have HBz := Lib.hid ((Below.refl wo.heap.size wo).alloc (Nat.le_refl _) (.cells zen 24))
      clear hkx
      by_cases hkk : k < nk
      case neg =>
        have hg : decide ((k : Int) < (nk : Int)) = false := decide_eq_false (by omega)
        have hg2 : ¬ ((k : Int) < (nk : Int)) := by omega
        have HN2 : Hid (Pl.sel b K (k + 1) = X) := Lib.hid (by
          rw [HST.out, List.getD_eq_getElem?_getD, List.getElem?_eq_none (by rw [HNK.out]; omega)]; rfl)
        clear HST hkk
        go_wp2_with (first
          | (have h9 := bz
             refine st_en (k := x) bz rfl rfl _ _ rfl rfl rfl ?_
             clear h9
             intro w3 bY hO3
             have hb3 : Below wo.heap.size wo w3 := HBz.out.trans (hO3.below (Nat.le_refl _))
             have HO3 := Lib.hid (own_keep HOW.out hb3)
             have HW3 := Lib.hid (HW.out.trans (hb3.mono HW.out.size))
             clear bz hO3 hb3 bY hr)
          | (have h9 := hr
             refine ldm_en hr rfl _ rfl rfl ?_
             clear h9))
        go_roundw
        case rel => exact ⟨k + 1, by omega, by go_num, Lib.hid (by rw [HN2.out]; exact HO3.out), HW3⟩
        case measure => simp [intOf]; omega
      case pos =>
        have hkI : (k : Int) < (nk : Int) := by omega
        have hkK : k < K.length := by rw [HNK.out]; exact hkk
        obtain ⟨bk, ok, rfl, hbk, hck⟩ := HI3.out.open (by omega)
        have HPC := Lib.hid (fun W (h : Below w.heap.size w W) => row_cell (mk := Value.bool) hbk hck h hkK)
        have hKg : K.getD k false = K[k] := by rw [List.getD_eq_getElem?_getD, List.getElem?_eq_getElem hkK]; rfl
        rw [hKg] at HST
        clear hck hKg
        generalize K[k] = u at *
        clear hkK hkk
        cases u
        case false =>
          have HN2 : Hid (Pl.sel b K (k + 1) = X) := Lib.hid (by rw [HST.out]; rfl)
          clear HST
          go_wp2_with (first
            | (have h9 := bz
               refine st_en (k := x) bz rfl rfl _ _ rfl rfl rfl ?_
               clear h9
               intro w3 bY hO3
               have hb3 : Below wo.heap.size wo w3 := HBz.out.trans (hO3.below (Nat.le_refl _))
               have HO3 := Lib.hid (own_keep HOW.out hb3)
               have HW3 := Lib.hid (HW.out.trans (hb3.mono HW.out.size))
               have pc := HPC.out _ HW3.out
               clear bz hO3 hb3 bY hr)
            | (have h9 := hr
               refine ldm_en hr rfl _ rfl rfl ?_
               clear h9))
          clear pc
          go_roundw
          case rel => exact ⟨k + 1, by omega, by go_num, Lib.hid (by rw [HN2.out]; exact HO3.out), HW3⟩
          case measure => simp [intOf]; omega
        case true =>
          have HN2 : Hid (Pl.sel b K (k + 1) = X ++ [x]) := Lib.hid (by rw [HST.out]; rfl)
          clear HST
          go_wp2_with (first
            | (have h9 := bz
               refine st_en (k := x) bz rfl rfl _ _ rfl rfl rfl ?_
               clear h9
               intro w3 bY hO3
               have hb3 : Below wo.heap.size wo w3 := HBz.out.trans (hO3.below (Nat.le_refl _))
               have HO3 := Lib.hid (own_keep HOW.out hb3)
               have HW3 := Lib.hid (HW.out.trans (hb3.mono HW.out.size))
               have pc := HPC.out _ HW3.out
               have hr7 := bY.range
               clear bz hO3 hb3 bY hr)
            | (have h9 := hr
               refine ldm_en hr rfl _ rfl rfl ?_
               clear h9)
            | (have h9 := hr7
               refine ldm_en hr7 rfl _ rfl rfl ?_
               clear h9)
            | (at_builtin; go_loud (refine wpList_append_own _ rfl _ _ 22 rfl w.heap.size 24 i0 _ 4 32 Try.underlying22 hi hz0 hz1 hz2 rfl (by decide) _ _ _ rfl (HO3.out.alloc _) ⟨w3.heap.size, 0, none⟩ 1 1 (enL x) rfl rfl (new_cells' _ _ _ rfl) (enL_one x) (by unfold maxLen; have := HSL2.out; omega) (by have := HSL2.out; omega) (HW3.out.alloc HW3.out.size _).size ?_; intro v5 w6 hO5 hg5 _)))
          have HW5 := Lib.hid ((HW3.out.alloc HW3.out.size (.cells (enL x).toArray 24)).grown hg5 (HW3.out.alloc HW3.out.size _).size (fun s h => (HO3.out.lt s h).1))
          have HO5 := Lib.hid hO5
          clear hO5 hg5 pc hr7
          go_roundw
          case rel => exact ⟨k + 1, by omega, by go_num, Lib.hid (by rw [HN2.out, flt_append, flt_one, List.length_append]; exact HO5.out), HW5⟩
          case measure => simp [intOf]; omega
    · obtain rfl : k = n1 := by omega
      have hOW := HOW.out
      rw [HO.out, HP.out] at hOW
      obtain ⟨Ao, co, rfl, hRo, _, _, hxo⟩ := rows_own2 HP.out hOW
      have HRo := Lib.hid hRo
      have HXo := Lib.hid hxo
      clear hOW HOW hRo hxo HSEL HI1 HI3
      go_wp2_with fail
      refine (HSI.out Ao co HXo.out _ HW.out HRo.out).mono ?_
      rintro e w2 ⟨v2, rfl, hO2, hb2⟩
      rw [HQ.out] at hO2
      obtain ⟨As, cs, rfl, hRs, _, _, hxs⟩ := rows_own2 HQ.out hO2
      have HB2 := Lib.hid (HW.out.trans (hb2.mono HW.out.size))
      have HRs := Lib.hid hRs
      have HXs := Lib.hid hxs
      have HRo2 := Lib.hid (HRo.out.below hb2)
      clear hO2 hb2 hRs hxs HW HRo HSI
      go_wp2_with fail
      refine (HJ.out Ao As co cs HXo.out HXs.out _ HRo2.out HRs.out).mono ?_
      rintro e w3 ⟨v3, vO3, rfl, hO3, hP3, hb3⟩
      rw [HSL.out] at hO3
      obtain ⟨A3', c3, rfl, hR3, _, _, _⟩ := rows_own2 HSL.out hO3
      obtain ⟨A4, c4, rfl⟩ := rows_ownD' (n := 0) rfl hP3
      have HB3 := Lib.hid (HB2.out.trans (hb3.mono HB2.out.size))
      have HR3 := Lib.hid hR3
      clear hO3 hP3 hb3 hR3 HB2 HRo2 HRs HJ HXo HXs
      go_wp2_with fail
      refine (HSO.out _ HB3.out).mono ?_
      rintro e w4 ⟨v4, rfl, hO4, hb4⟩
      rw [HSL.out] at hO4
      obtain ⟨A5, c5, rfl, hR5, _, _, _⟩ := rows_own2 HSL.out hO4
      have HB4 := Lib.hid (HB3.out.trans (hb4.mono HB3.out.size))
      have HSM := Lib.hid (same_eq A3' A5 (Pl.srt b) c3 c5 k HSL.out (by omega) w4 (HR3.out.below hb4) hR5)
      have z0 : ((([] : List Pl.Df).length : Int) != 0) = false := rfl
      clear hO4 hb4 hR5 HB3 HR3 HSO
      go_wp2_with fail
      refine HSM.out.mono ?_
      rintro e w5 ⟨rfl, hb5⟩
      have HB5 := Lib.hid (HB4.out.trans (hb5.mono HB4.out.size))
      clear hb5 HB4 HSM
      go_wp2_with fail
      refine (HJ1.out _ HB5.out).mono ?_
      rintro e w6 ⟨v6, vO6, rfl, hO6, hP6, hb6⟩
      obtain ⟨A6, c6, rfl, hR6, _, _, _⟩ := rows_own2 HJL.out hO6
      obtain ⟨A7, c7, rfl⟩ := rows_ownD' HJD.out.1 hP6
      have HB6 := Lib.hid (HB5.out.trans (hb6.mono HB5.out.size))
      have HR6 := Lib.hid hR6
      clear hO6 hP6 hb6 hR6 HB5 HJ1 z0
      go_wp2_with fail
      refine (HJ2.out _ HB6.out).mono ?_
      rintro e w7 ⟨v7, vO7, rfl, hO7, hP7, hb7⟩
      obtain ⟨A8, c8, rfl, hR8, _, _, _⟩ := rows_own2 HJL.out hO7
      obtain ⟨A9, c9, rfl⟩ := rows_ownD' HJD.out.2 hP7
      have HB7 := Lib.hid (HB6.out.trans (hb7.mono HB6.out.size))
      have HSM := Lib.hid (same_eq A6 A8 jv c6 c8 jl HJL.out (by omega) w7 (HR6.out.below hb7) hR8)
      have hjj : (je == je) = true := by simp
      clear hO7 hP7 hb7 hR8 HB6 HR6 HJ2
      go_wp2_with fail
      refine HSM.out.mono ?_
      rintro e w8 ⟨rfl, hb8⟩
      have HB8 := Lib.hid (HB7.out.trans (hb8.mono HB7.out.size))
      clear hb8 HB7 HSM
      go_wp2_with fail
      refine (awake_any w8).mono ?_
      rintro e w9 ⟨rfl, hb9⟩
      have HB9 := Lib.hid (HB8.out.trans (hb9.mono HB8.out.size))
      clear hb9
      go_wp2
      go_ret
      exact ⟨rfl, HB9.out⟩
end Go.Proofs.Ytalfffkcmddakaa
