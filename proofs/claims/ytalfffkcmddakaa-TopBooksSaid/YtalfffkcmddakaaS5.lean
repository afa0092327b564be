/- joined and Join of the program. -/
import Derived.Test.YtalfffkcmddakaaS4
import Derived.Maps.OwnSet
namespace Go.Proofs.Ytalfffkcmddakaa
open Go.RowKit Go.Shelf Go.Sort Go.Lib

theorem Pl.fil_len {S : List Pl.En} {m : Pl.Nm} (h : (S.map Pl.nm).Nodup) : (S.filter fun e => decide (Pl.nm e ≠ m)).length + (if (Pl.fnd S m).isSome then 1 else 0) = S.length := by
  induction S with
  | nil => rfl
  | cons x S ih =>
    rw [List.map_cons, List.nodup_cons] at h
    have ih := ih h.2
    by_cases e : Pl.nm x = m
    · have h1 : Pl.fnd S m = none := Pl.fnd_none'.2 (by rw [← e]; exact h.1)
      rw [h1] at ih
      have h2 : Pl.fnd (x :: S) m = some x := by unfold Pl.fnd; rw [List.find?_cons_of_pos (by simpa using e)]
      rw [h2, List.filter_cons_of_neg (by simpa using e)]
      simp at ih ⊢
      omega
    · have h2 : Pl.fnd (x :: S) m = Pl.fnd S m := by unfold Pl.fnd; rw [List.find?_cons_of_neg (by simpa using e)]
      rw [h2, List.filter_cons_of_pos (by simpa using e), List.length_cons, List.length_cons]
      omega
theorem Pl.fnd_fil (S : List Pl.En) (m n : Pl.Nm) : Pl.fnd (S.filter fun e => decide (Pl.nm e ≠ m)) n = if m = n then none else Pl.fnd S n := by
  by_cases h : m = n
  · subst h
    rw [if_pos rfl, Pl.fnd_none]
    intro x hx
    simpa using (List.mem_filter.1 hx).2
  · rw [if_neg h]
    unfold Pl.fnd
    rw [List.find?_filter]
    congr 1
    funext x
    by_cases hx : Pl.nm x = n
    · have : Pl.nm x ≠ m := fun h' => h (h'.symm.trans hx)
      simp [hx, Ne.symm h]
    · simp [hx]
theorem MD.del {D : DataW Value} {S : List Pl.En} (h : MD D S) (ht : Go.Maps.Tidy D) {m : Pl.Nm} (hm : OkN m) : MD (D.del (nmK m)) (S.filter fun e => decide (Pl.nm e ≠ m)) where
  size := by
    have h1 := Go.Maps.size_del (k := nmK m) ht
    have h2 := Pl.fil_len (m := m) h.dif
    rw [h.has m hm, h.size] at h1
    omega
  dif := h.dif.sublist (List.filter_sublist.map Pl.nm)
  ok e he := h.ok e (List.mem_filter.1 he).1
  has n hn := by
    rw [Pl.fnd_fil]
    by_cases e : m = n
    · subst e; rw [Go.Maps.has_del_same, if_pos rfl]; rfl
    · rw [Go.Maps.has_del_other (fun h' => e (nmK_inj hn hm h').symm), h.has n hn, if_neg e]
  at' n hn := by
    rw [Pl.fnd_fil]
    by_cases e : m = n
    · subst e; rw [Go.Maps.atKey_del_same, if_pos rfl]; rfl
    · rw [Go.Maps.atKey_del_other (fun h' => e (nmK_inj hn hm h').symm), h.at' n hn, if_neg e]
  inv kl hk := by
    by_cases e : kl = nmK m
    · subst e; rw [Go.Maps.has_del_same] at hk; cases hk
    · rw [Go.Maps.has_del_other e] at hk
      obtain ⟨x, hx, rfl⟩ := h.inv kl hk
      exact ⟨x, List.mem_filter.2 ⟨hx, by simpa using fun h' => e (by rw [h'])⟩, rfl⟩
set_option maxHeartbeats 2000000 in
theorem joined1_b (d : Pl.Df) (w : World) : Calls Try.prog 102 #[.agg (dfA d)] w fun e w' => e = .returned (.bool (!decide (d.k = 3))) ∧ Below w.heap.size w w' := by
  have hB := (Below.refl w.heap.size w).alloc (Nat.le_refl _) (.cells (dfA d) 61)
  have q0 := (Blk.new w 61 (dfA d)).cell 0
  have HB := Lib.hid hB
  clear hB
  by_cases h : d.k = 3
  · have e1 : (d.k != 3) = false := by simp [h]
    have HV : Hid ((!decide (d.k = 3)) = false) := Lib.hid (by simp [h])
    rw [HV.out]
    clear h
    go_enter Try.func102, Try.ntmps102
    go_wp2
    go_ret
    exact ⟨rfl, HB.out⟩
  · have e1 : (d.k != 3) = true := by simp [h]
    have HV : Hid ((!decide (d.k = 3)) = true) := Lib.hid (by simp [h])
    rw [HV.out]
    clear h
    go_enter Try.func102, Try.ntmps102
    go_wp2
    go_ret
    exact ⟨rfl, HB.out⟩
theorem Pl.oth_ok {a b : List Pl.En} (ha : Pl.Vb a) (hb : Pl.Vb b) {d : Pl.Df} (h : d ∈ Pl.oth a b) : Pl.vE d.m = true := by
  obtain ⟨h1, h2⟩ := List.mem_filter.1 h
  have hk := of_decide_eq_true h2
  obtain ⟨_, _, hm, _, _, hkd, _⟩ := Pl.dif_all ha hb h1
  refine hm.resolve_left fun e => ?_
  rw [hkd] at hk
  unfold Pl.kd at hk
  by_cases e2 : d.t = Pl.z0
  · rw [if_pos e2] at hk; omega
  · rw [if_neg e2, if_pos e] at hk; omega
theorem Pl.Ok.sub {a b : List Pl.En} (h : Pl.Ok a) (hs : b.Sublist a) : Pl.Ok b :=
  ⟨Nat.le_trans hs.length_le h.len, fun e he => h.k e (hs.mem he), h.dif.sublist (hs.map Pl.nm)⟩
set_option maxRecDepth 100000 in
set_option maxHeartbeats 32000000 in
theorem joined_b (A1 A2 : Option Addr) (a b : List Pl.En) (n1 c1 n2 c2 : Nat) (hn1 : a.length = n1) (hn2 : b.length = n2) (hx1 : A1 = none → c1 = 0) (hx2 : A2 = none → c2 = 0) (ha : Pl.Vb a) (hb : Pl.Vb b) (w : World) (hI1 : Rows enL 4 w A1 a) (hI2 : Rows enL 4 w A2 b) :
    Calls Try.prog 72 #[.slice A1 n1 c1, .slice A2 n2 c2] w fun e w' => ∃ v vO, e = .returned (.tuple #[v, vO]) ∧ w'.ownsRow w.heap.size 24 4 v (Pl.jn a b).length (flt enL (Pl.jn a b)) ∧ w'.ownsRow w.heap.size 61 9 vO (Pl.oth a b).length (flt dfL (Pl.oth a b)) ∧ Below w.heap.size w w' := by
  have eg : ∀ args w, (callFunc 102 args).run Try.prog w = .ok (.enter 102 args) w := enters_of Try.func102 (by kernel_rfl) rfl
  have HEG := Lib.hid eg
  have HI1 := Lib.hid hI1
  have HI2 := Lib.hid hI2
  have HN1 := Lib.hid hn1
  have HN2 := Lib.hid hn2
  have HX1 := Lib.hid hx1
  have HX2 := Lib.hid hx2
  have HA := Lib.hid ha
  have HBb := Lib.hid hb
  have hl1 : n1 ≤ 200 := by rw [← hn1]; exact ha.len
  have hl2 : n2 ≤ 200 := by rw [← hn2]; exact hb.len
  clear hI1 hI2 hn1 hn2 hx1 hx2 ha hb eg
  have HB3 := Lib.hid ((Below.refl w.heap.size w).alloc (Nat.le_refl _) (.cells #[.slice A1 n1 c1, .slice A2 n2 c2] 22))
  have bC := Blk.new w 22 #[.slice A1 n1 c1, .slice A2 n2 c2]
  have HCC := Lib.hid (concat2_e A1 A2 a b n1 c1 n2 c2 HN1.out HN2.out (by omega) (by omega) HX1.out HX2.out _ w.heap.size bC.lt (bC.cell 0) (bC.cell 1) (HI1.out.below HB3.out) (HI2.out.below HB3.out))
  clear bC
  go_enter Try.func72, Try.ntmps72
  go_wp2_with fail
  refine HCC.out.mono ?_
  rintro e w3 ⟨v3, rfl, hO3, hb3⟩
  have hln : (a ++ b).length = n1 + n2 := by rw [List.length_append, HN1.out, HN2.out]
  obtain ⟨A3, c3, rfl, hR3, _, _, _⟩ := rows_own2 hln hO3
  have HB4 := Lib.hid (HB3.out.trans (hb3.mono HB3.out.size))
  have HR3 := Lib.hid hR3
  have HLN := Lib.hid hln
  clear hO3 hb3 hR3 hln HCC HB3
  go_wp2_with fail
  refine (byname_any A3 (a ++ b) c3 (n1 + n2) HLN.out (by omega) (fun e he => okN_ve ((List.mem_append.1 he).elim (HA.out.each e) (HBb.out.each e))) w3 HR3.out).mono ?_
  rintro e w4 ⟨rfl, hM4, hb4⟩
  have HBM : Hid (w.heap.size ≤ w3.heap.size) := Lib.hid HB4.out.size
  obtain ⟨bm, hbm⟩ : ∃ q, w3.heap.size = q := ⟨_, rfl⟩
  rw [hbm] at hM4 HBM ⊢
  have HM4 := Lib.hid hM4
  have HB5 := Lib.hid (HB4.out.trans (hb4.mono HB4.out.size))
  have HDI := Lib.hid (differences_b A1 A2 a b n1 c1 n2 c2 HN1.out HN2.out HX1.out HX2.out HA.out HBb.out w4 (HI1.out.below HB5.out) (HI2.out.below HB5.out))
  clear hM4 hb4 HR3 HB4 hbm HI1 HI2 HX1 HX2 HN1 HN2 HLN
  go_wp2_with fail
  refine HDI.out.mono ?_
  rintro e w5 ⟨v5, rfl, hO5, hb5⟩
  have hdl : (Pl.dif a b).length ≤ 400 := by have := Pl.dif_len a b; have := HA.out.len; have := HBb.out.len; omega
  have HM5 := Lib.hid (HM4.out.below hb5)
  have HML : Hid (bm < w4.heap.size) := Lib.hid HM4.out.lt
  have HB6 := Lib.hid (HB5.out.trans (hb5.mono HB5.out.size))
  have HDE := Lib.hid (delf_d 102 #[] HEG.out w4.heap.size v5 (Pl.dif a b) (Pl.dif a b).length rfl (by omega) (fun d => !decide (d.k = 3)) w4 w5 hb5 hb5.size hO5 (fun d _ W _ => joined1_b d W))
  have HMX : Hid (∀ W, Below w4.heap.size w4 W → MapE W bm (n1 + n2) (Pl.gm (a ++ b))) := Lib.hid (fun W h => HM4.out.belowB h HM4.out.lt)
  clear hO5 hb5 hdl HDI HEG HM4 HM5
  go_wp2_with fail
  refine HDE.out.mono ?_
  rintro e w6 ⟨v6, rfl, hO6, hb6⟩
  simp only [Bool.not_not] at hO6
  obtain ⟨O, hO⟩ : ∃ O, Pl.oth a b = O := ⟨_, rfl⟩
  rw [show ((Pl.dif a b).filter fun x => decide (x.k = 3)) = O from hO] at hO6
  obtain ⟨q, hq⟩ : ∃ q, O.length = q := ⟨_, rfl⟩
  have hq400 : q ≤ 400 := by rw [← hq, ← hO]; have := Pl.oth_len a b; have := HA.out.len; have := HBb.out.len; omega
  rw [hq] at hO6
  have HM6 := Lib.hid (HMX.out _ hb6)
  have HO6 := Lib.hid hO6
  have HB7 := Lib.hid (HB5.out.trans (hb6.mono HB5.out.size))
  have HQ := Lib.hid hq
  have HOK : Hid (∀ d, d ∈ O → OkN (Pl.nm d.m)) := Lib.hid (fun d hd => okN_ve (Pl.oth_ok HA.out HBb.out (by rw [hO]; exact hd)))
  have HBW : Hid (w.heap.size ≤ w4.heap.size) := Lib.hid HB5.out.size
  have HJN : Hid (Pl.jn a b = Pl.srt (Pl.rest (Pl.gm (a ++ b)) O) ∧ Pl.oth a b = O ∧ Pl.Ok (Pl.rest (Pl.gm (a ++ b)) O)) := Lib.hid ⟨by unfold Pl.jn Pl.jnl; rw [hO], hO, (ok_gm HA.out HBb.out).sub List.filter_sublist⟩
  obtain ⟨A6, c6, rfl⟩ : ∃ A c, v6 = .slice A q c := by
    obtain ⟨A, c, e, _⟩ := rows_of_owns encDf (show w6.ownsRow w4.heap.size 61 9 v6 O.length (flt dfL O) from by rw [hq]; exact hO6)
    exact ⟨A, c, by rw [e, hq]⟩
  clear hO6 hb6 hq HDE HMX HB6 HB5 hO
  generalize Pl.gm (a ++ b) = S0 at *
  go_wp2
  go_loopw [21] (fun i wr => ∃ k : Nat, k ≤ q ∧ i = .int .i64 k ∧ Hid (MapE wr bm (n1 + n2) (Pl.rest S0 (O.take k))) ∧ Hid (wr.ownsRow w4.heap.size 61 9 (.slice A6 q c6) q (flt dfL O)) ∧ Hid (Below w.heap.size w wr)) (fun i _ => q - (intOf i).toNat)
  case atStart => exact ⟨0, Nat.zero_le _, rfl, Lib.hid (by rw [List.take_zero, Pl.rest_nil]; exact HM6.out), HO6, HB7⟩
  case round =>
    clear HM6 HO6 HB7
    obtain ⟨k, hk, rfl, HM, HO, HW⟩ := hrel
    obtain ⟨wo, rfl⟩ : ∃ wo, wo = wr := ⟨_, rfl⟩
    by_cases hlt : k < q
    · have hltI : (k : Int) < (q : Int) := by omega
      have hkx : k < O.length := by rw [HQ.out]; exact hlt
      have hrow : Rows dfL 9 wo A6 O := by
        obtain ⟨A, c, e, h, _⟩ := rows_of_owns encDf (show wo.ownsRow w4.heap.size 61 9 (.slice A6 q c6) O.length (flt dfL O) from by rw [HQ.out]; exact HO.out)
        cases e
        exact h
      obtain ⟨bx, ox, rfl, hbx, hcx⟩ := hrow.open (by omega)
      have hr := hcx k hkx
      have HKx := Lib.hid (HOK.out _ (List.getElem_mem hkx))
      have HRS := Lib.hid (Pl.rest_take (S := S0) hkx)
      clear hcx hrow
      generalize O[k] = d at *
      generalize Pl.rest S0 (O.take k) = S at *
      have bz := Blk.new wo 61 zdf
      have HBz := Lib.hid ((Below.refl wo.heap.size wo).alloc (Nat.le_refl _) (.cells zdf 61))
      clear hkx
      go_wp2_with (first
        | (have h9 := bz
           refine st_df (k := d) bz rfl rfl _ _ rfl rfl rfl ?_
           clear h9
           intro w7 bY hO7
           have hb7 : Below wo.heap.size wo w7 := HBz.out.trans (hO7.below (Nat.le_refl _))
           have r1 := df_m bY.range
           have HM7 := Lib.hid (HM.out.below hb7)
           have HO7 := Lib.hid (own_keep HO.out hb7)
           have HW7 := Lib.hid (HW.out.trans (hb7.mono HW.out.size))
           clear bz hO7 hb7 bY hr)
        | (have h9 := hr
           refine ldm_df hr rfl _ rfl rfl ?_
           clear h9)
        | (have h9 := r1
           refine ldm_en (s := d.m) r1 rfl _ rfl rfl ?_
           clear h9))
      refine (nameof_any d.m w7).mono ?_
      rintro e w8 ⟨rfl, hb8⟩
      have HO8 := Lib.hid (own_keep HO7.out hb8)
      have HW8 := Lib.hid (HW7.out.trans (hb8.mono HW7.out.size))
      obtain ⟨D, hown, hMD⟩ := HM7.out.below hb8
      have HMD := Lib.hid (hMD.del (hown.tidy keyedNm) HKx.out)
      have hkey := nmKey HKx.out
      clear hb8 r1 HM HO HW HM7 HO7 HW7 hMD HBz
      go_wp2_with (at_delete; refine wpList_delete_own _ rfl _ _ 70 78 rfl 24 keyedNm Try.underlying70 itself bm (n1 + n2) D rfl hown _ _ rfl hkey ?_; intro w9 hown9 hturn9)
      try go_frame
      have hg9 := hturn9.grown
      have HM9 : Hid (MapE w9 bm (n1 + n2) (Pl.rest S0 (O.take (k + 1)))) := Lib.hid (by rw [HRS.out]; exact ⟨_, hown9, HMD.out⟩)
      have HO9 := Lib.hid (HO8.out.kept hg9 (.inr fun e => by have := (HO8.out.lt _ e).1; have := HML.out; omega))
      have HW9 := Lib.hid (HW8.out.grown hg9 HW8.out.size (fun s e => by cases e; exact HBM.out))
      clear hown hown9 hturn9 hg9 hkey
      go_roundw
      case rel => exact ⟨k + 1, by omega, by go_num, HM9, HO9, HW9⟩
      case measure => simp [intOf]; omega
    · obtain rfl : k = q := by omega
      have HME : Hid (MapE wo bm (n1 + n2) (Pl.rest S0 O)) := Lib.hid (by have := HM.out; rwa [List.take_of_length_le (by rw [HQ.out]; exact Nat.le_refl _)] at this)
      obtain ⟨hJ1, hJ2, hJ3⟩ := HJN.out
      have HJ1 := Lib.hid hJ1
      have HJ2 := Lib.hid hJ2
      have HJ3 := Lib.hid hJ3
      clear hJ1 hJ2 hJ3 HJN HM
      go_wp2_with fail
      refine (sorted_any bm (n1 + n2) (Pl.rest S0 O) HJ3.out wo HME.out).mono ?_
      rintro e w9 ⟨v9, rfl, hO9, hb9⟩
      have HO9 := Lib.hid (hO9.mono HW.out.size)
      have HO8 := Lib.hid ((own_keep HO.out hb9).mono HBW.out)
      have HW9 := Lib.hid (HW.out.trans (hb9.mono HW.out.size))
      clear hO9 hb9 HO HME
      go_wp2
      go_ret2
      exact ⟨_, _, rfl, by rw [HJ1.out, Pl.srt_len]; exact HO9.out, by rw [HJ2.out, HQ.out]; exact HO8.out, HW9.out⟩
theorem jo_cases (a b : List Pl.En) {y z : Bool} (hy : Pl.vB a = y) (hz : Pl.vB b = z) :
    (Pl.joE a b = if !y || !z then 90 else if 200 < (Pl.jn a b).length then 4 else 0) ∧ (Pl.joV a b = if Pl.joE a b = 0 then Pl.jn a b else []) ∧ (Pl.joD a b = if Pl.joE a b = 0 then Pl.oth a b else []) := by
  unfold Pl.joV Pl.joD Pl.joE
  rw [hy, hz]
  exact ⟨rfl, rfl, rfl⟩
set_option maxRecDepth 100000 in
set_option maxHeartbeats 4000000 in
theorem join2_b (A1 A2 : Option Addr) (a b : List Pl.En) (n1 c1 n2 c2 : Nat) (hn1 : a.length = n1) (hn2 : b.length = n2) (hm1 : n1 ≤ maxLen) (hm2 : n2 ≤ maxLen) (hx1 : A1 = none → c1 = 0) (hx2 : A2 = none → c2 = 0) (w : World) (hI1 : Rows enL 4 w A1 a) (hI2 : Rows enL 4 w A2 b) :
    Calls Try.prog 34 #[.slice A1 n1 c1, .slice A2 n2 c2] w fun e w' => ∃ v vO, e = .returned (.tuple #[v, vO, .int .i64 (Pl.joE a b)]) ∧ w'.ownsRow w.heap.size 24 4 v (Pl.joV a b).length (flt enL (Pl.joV a b)) ∧ w'.ownsRow w.heap.size 61 9 vO (Pl.joD a b).length (flt dfL (Pl.joD a b)) ∧ Below w.heap.size w w' := by
  obtain ⟨y, hy⟩ : ∃ y, Pl.vB a = y := ⟨_, rfl⟩
  obtain ⟨z, hz⟩ : ∃ z, Pl.vB b = z := ⟨_, rfl⟩
  have HC := Lib.hid (jo_cases a b hy hz)
  have HV1 := Lib.hid (valid_any A1 a c1 n1 hn1 hm1 y hy w hI1)
  have HV2 := Lib.hid (fun W (h : Below w.heap.size w W) => valid_any A2 b c2 n2 hn2 hm2 z hz W (hI2.below h))
  have HCO := Lib.hid (fun (h1 : y = true) (h2 : z = true) W (h : Below w.heap.size w W) => joined_b A1 A2 a b n1 c1 n2 c2 hn1 hn2 hx1 hx2 (Pl.vb_iff.1 (hy.trans h1)) (Pl.vb_iff.1 (hz.trans h2)) W (hI1.below h) (hI2.below h))
  have HE := Lib.hid HC.out.1
  have HR := Lib.hid HC.out.2.1
  have HRD := Lib.hid HC.out.2.2
  have HJL : Hid (y = true → z = true → (Pl.jn a b).length ≤ 400) := Lib.hid (fun h1 h2 => by have := Pl.jn_len a b; have := (Pl.vb_iff.1 (hy.trans h1)).len; have := (Pl.vb_iff.1 (hz.trans h2)).len; omega)
  clear hy hz hn1 hn2 hm1 hm2 hx1 hx2 hI1 hI2 HC
  generalize Pl.joE a b = er at *
  generalize Pl.joV a b = vr at *
  generalize Pl.joD a b = vd at *
  cases y
  case false =>
    have h1 := HE.out
    have h2 := HR.out
    have h3 := HRD.out
    simp at h1
    subst h1
    simp at h2 h3
    subst h2
    subst h3
    clear HE HR HRD HCO HJL
    go_enter Try.func34, Try.ntmps34
    go_wp2_with fail
    refine HV1.out.mono ?_
    rintro e w1 ⟨rfl, hb⟩
    go_wp2
    exact bodyPost_ret (v := .tuple #[.slice none 0 0, .slice none 0 0, .int .i64 90]) (by simp [results, Try.results34, go_sem]) rfl ⟨_, _, rfl, World.ownsRow_nil _ _ _ _, World.ownsRow_nil _ _ _ _, hb⟩
  case true =>
  cases z
  case false =>
    have h1 := HE.out
    have h2 := HR.out
    have h3 := HRD.out
    simp at h1
    subst h1
    simp at h2 h3
    subst h2
    subst h3
    clear HE HR HRD HCO HJL
    go_enter Try.func34, Try.ntmps34
    go_wp2_with fail
    refine HV1.out.mono ?_
    rintro e w1 ⟨rfl, hb⟩
    go_wp2_with fail
    refine (HV2.out _ hb).mono ?_
    rintro e w2 ⟨rfl, hb2⟩
    have hB2 := hb.trans (hb2.mono hb.size)
    go_wp2
    exact bodyPost_ret (v := .tuple #[.slice none 0 0, .slice none 0 0, .int .i64 90]) (by simp [results, Try.results34, go_sem]) rfl ⟨_, _, rfl, World.ownsRow_nil _ _ _ _, World.ownsRow_nil _ _ _ _, hB2⟩
  case true =>
    have h1 := HE.out
    have HJL2 := Lib.hid (HJL.out (by rfl) (by rfl))
    simp at h1
    generalize Pl.jn a b = J at *
    generalize Pl.oth a b = O at *
    obtain ⟨j, hj⟩ : ∃ j, J.length = j := ⟨_, rfl⟩
    rw [hj] at h1 HJL2
    have HJ := Lib.hid hj
    have hj4 : j ≤ 400 := HJL2.out
    clear HE HJL HJL2 hj
    by_cases h200 : 200 < j
    case' pos =>
      rw [if_pos h200] at h1
      subst h1
      have h2 := HR.out
      have h3 := HRD.out
      simp at h2 h3
      subst h2
      subst h3
      have hI : (200 : Int) < (j : Int) := by omega
    case' neg =>
      rw [if_neg h200] at h1
      subst h1
      have h2 := HR.out
      have h3 := HRD.out
      simp at h2 h3
      subst h2
      subst h3
      have hI : ¬ (200 : Int) < (j : Int) := by omega
    all_goals
      clear HR HRD h200
      go_enter Try.func34, Try.ntmps34
      go_wp2_with fail
      refine HV1.out.mono ?_
      rintro e w1 ⟨rfl, hb⟩
      go_wp2_with fail
      refine (HV2.out _ hb).mono ?_
      rintro e w2 ⟨rfl, hb2⟩
      have hB2 := hb.trans (hb2.mono hb.size)
      clear hb hb2
      go_wp2_with fail
      refine (HCO.out (by simp) (by simp) _ hB2).mono ?_
      rintro e w3 ⟨v3, vO3, rfl, hO3, hP3, hb3⟩
      rw [HJ.out] at hO3
      have HO3 := Lib.hid (hO3.mono hB2.size)
      have HP3 := Lib.hid (hP3.mono hB2.size)
      have hB3 := hB2.trans (hb3.mono hB2.size)
      obtain ⟨A3, c3, rfl, _⟩ := rows_own2 HJ.out hO3
      clear hO3 hP3 hb3 hB2
      go_wp2
      first
        | exact bodyPost_ret (v := .tuple #[.slice none 0 0, .slice none 0 0, .int .i64 4]) (by simp [results, Try.results34, go_sem]) rfl ⟨_, _, rfl, World.ownsRow_nil _ _ _ _, World.ownsRow_nil _ _ _ _, hB3⟩
        | exact bodyPost_ret (v := .tuple #[.slice A3 j c3, vO3, .int .i64 0]) (by simp [results, Try.results34, go_sem]) rfl ⟨_, _, rfl, by rw [HJ.out]; exact HO3.out, HP3.out, hB3⟩
end Go.Proofs.Ytalfffkcmddakaa
