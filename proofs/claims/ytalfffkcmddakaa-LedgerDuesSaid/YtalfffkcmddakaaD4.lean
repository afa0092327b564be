/- Due of both. -/
import Derived.Test.YtalfffkcmddakaaD3
namespace Go.Proofs.Ytalfffkcmddakaa
open Go.RowKit Go.Shelf Go.Sort

theorem ownI_nil {w w' : World} (h : Below w.heap.size w w') : OwnI w [] (.slice none 0 0) w' := ⟨World.ownsRow_nil _ _ _ _, h⟩
theorem du_cases (l : List Pl.En) (d a : Int) {y z x : Bool} (hy : Pl.vB l = y) (hz : Pl.inB 0 d 100000 = z) (hx : Pl.inB 0 a 1000 = x) :
    (Pl.duE l d a = if !y then 90 else if !z then 2 else if !x then 2 else 0) ∧ (Pl.duV l d a = if Pl.duE l d a = 0 then Pl.dul l (Pl.srt l) d a else []) := by
  unfold Pl.duV Pl.duE
  rw [hy, hz, hx]
  exact ⟨rfl, rfl⟩
set_option maxRecDepth 100000 in
set_option maxHeartbeats 4000000 in
theorem due2_b (A : Option Addr) (l : List Pl.En) (c n : Nat) (hn : l.length = n) (hm : n ≤ maxLen) (day aft : Int) (w : World) (hI : Rows enL 4 w A l) :
    Calls Try.prog 27 #[.slice A n c, .int .i64 day, .int .i64 aft] w fun e w' => ∃ v, e = .returned (.tuple #[v, .int .i64 (Pl.duE l day aft)]) ∧ OwnI w (Pl.duV l day aft) v w' := by
  obtain ⟨y, hy⟩ : ∃ y, Pl.vB l = y := ⟨_, rfl⟩
  obtain ⟨z, hz⟩ : ∃ z, Pl.inB 0 day 100000 = z := ⟨_, rfl⟩
  obtain ⟨x, hx⟩ : ∃ x, Pl.inB 0 aft 1000 = x := ⟨_, rfl⟩
  have HC := Lib.hid (du_cases l day aft hy hz hx)
  have HV := Lib.hid (valid_any A l c n hn hm y hy w hI)
  have HD := Lib.hid (fun W => isday_b day z hz W)
  have HX := Lib.hid (fun W => within_b aft 0 1000 x hx W)
  have HDU := Lib.hid (fun (h1 : y = true) (h2 : z = true) (h3 : x = true) W (hb : Below w.heap.size w W) => due_b A l c n hn (Pl.vb_iff.1 (hy.trans h1)) day aft (Pl.inB_true.1 (hz.trans h2)) (Pl.inB_true.1 (hx.trans h3)) W (hI.below hb))
  clear hy hz hx hI hn
  generalize Pl.duE l day aft = er at *
  generalize Pl.duV l day aft = vr at *
  have HE := Lib.hid HC.out.1
  have HR := Lib.hid HC.out.2
  clear HC
  cases y
  case false =>
    have h1 := HE.out
    have h2 := HR.out
    simp only [Bool.not_false, if_true] at h1
    subst h1
    simp at h2
    subst h2
    clear HE HR
    go_enter Try.func27, Try.ntmps27
    go_wp2_with fail
    refine HV.out.mono ?_
    rintro e w1 ⟨rfl, hb⟩
    go_wp2
    go_ret2
    exact ⟨_, rfl, ownI_nil hb⟩
  case true =>
  cases z
  case false =>
    have h1 := HE.out
    have h2 := HR.out
    simp at h1
    subst h1
    simp at h2
    subst h2
    clear HE HR
    go_enter Try.func27, Try.ntmps27
    go_wp2_with fail
    refine HV.out.mono ?_
    rintro e w1 ⟨rfl, hb⟩
    go_wp2_with fail
    refine (HD.out w1).mono ?_
    rintro e w2 ⟨rfl, hw2⟩
    subst hw2
    go_wp2
    go_ret2
    exact ⟨_, rfl, ownI_nil hb⟩
  case true =>
  cases x
  case false =>
    have h1 := HE.out
    have h2 := HR.out
    simp at h1
    subst h1
    simp at h2
    subst h2
    clear HE HR
    go_enter Try.func27, Try.ntmps27
    go_wp2_with fail
    refine HV.out.mono ?_
    rintro e w1 ⟨rfl, hb⟩
    go_wp2_with fail
    refine (HD.out w1).mono ?_
    rintro e w2 ⟨rfl, hw2⟩
    subst hw2
    go_wp2_with fail
    refine (HX.out _).mono ?_
    rintro e w2 ⟨rfl, hw2⟩
    subst hw2
    go_wp2
    go_ret2
    exact ⟨_, rfl, ownI_nil hb⟩
  case true =>
    have h1 := HE.out
    have h2 := HR.out
    simp at h1
    subst h1
    simp at h2
    subst h2
    clear HE HR
    go_enter Try.func27, Try.ntmps27
    go_wp2_with fail
    refine HV.out.mono ?_
    rintro e w1 ⟨rfl, hb⟩
    go_wp2_with fail
    refine (HD.out w1).mono ?_
    rintro e w2 ⟨rfl, hw2⟩
    subst hw2
    go_wp2_with fail
    refine (HX.out _).mono ?_
    rintro e w2 ⟨rfl, hw2⟩
    subst hw2
    go_wp2_with fail
    refine (HDU.out (by simp) (by simp) (by simp) _ hb).mono ?_
    rintro e w4 ⟨v, rfl, hO, hb4⟩
    have HO := Lib.hid (hO.mono hb.size)
    have hB4 := hb.trans (hb4.mono hb.size)
    clear hO hb4
    go_wp2
    go_ret2
    exact ⟨_, rfl, HO.out, hB4⟩
set_option maxRecDepth 100000 in
set_option maxHeartbeats 16000000 in
theorem ddue2_b (A : Option Addr) (l : List Pl.En) (c n : Nat) (hn : l.length = n) (hnc : n ≤ c) (hm : n ≤ maxLen) (day aft : Int) (w : World) (hI : Rows enL 4 w A l) :
    Calls Try.prog 28 #[.slice A n c, .int .i64 day, .int .i64 aft] w fun e w' => ∃ v, e = .returned (.tuple #[v, .int .i64 (Pl.duE l day aft)]) ∧ OwnI w (Pl.duV l day aft) v w' := by
  obtain ⟨y, hy⟩ : ∃ y, Pl.vB l = y := ⟨_, rfl⟩
  obtain ⟨z, hz⟩ : ∃ z, Pl.inB 0 day 100000 = z := ⟨_, rfl⟩
  obtain ⟨x, hx⟩ : ∃ x, Pl.inB 0 aft 1000 = x := ⟨_, rfl⟩
  have HC := Lib.hid (du_cases l day aft hy hz hx)
  have HV := Lib.hid (dvalid_any A l c n hn hnc hm y hy w hI)
  have HZ := Lib.hid hz
  have HX := Lib.hid hx
  have HVb := Lib.hid (fun h : y = true => Pl.vb_iff.1 (hy.trans h))
  have HI := Lib.hid hI
  have HN := Lib.hid hn
  clear hy hz hx hI hn
  generalize Pl.duE l day aft = er at *
  generalize Pl.duV l day aft = vr at *
  have HE := Lib.hid HC.out.1
  have HR := Lib.hid HC.out.2
  clear HC
  cases y
  case false =>
    have h1 := HE.out
    have h2 := HR.out
    simp only [Bool.not_false, if_true] at h1
    subst h1
    simp at h2
    subst h2
    clear HE HR
    go_enter Try.func28, Try.ntmps28
    go_wp2_with fail
    refine HV.out.mono ?_
    rintro e w1 ⟨rfl, hb⟩
    go_wp2
    go_ret2
    exact ⟨_, rfl, ownI_nil hb⟩
  case true =>
  by_cases k1 : day < 0
  · have e1 : z = false := by rw [← HZ.out]; exact Pl.inB_false.2 (by omega)
    subst e1
    have h1 := HE.out
    have h2 := HR.out
    simp at h1
    subst h1
    simp at h2
    subst h2
    clear HE HR
    go_enter Try.func28, Try.ntmps28
    go_wp2_with fail
    refine HV.out.mono ?_
    rintro e w1 ⟨rfl, hb⟩
    go_wp2
    go_ret2
    exact ⟨_, rfl, ownI_nil hb⟩
  by_cases k2 : 100000 < day
  · have e1 : z = false := by rw [← HZ.out]; exact Pl.inB_false.2 (by omega)
    subst e1
    have h1 := HE.out
    have h2 := HR.out
    simp at h1
    subst h1
    simp at h2
    subst h2
    clear HE HR
    go_enter Try.func28, Try.ntmps28
    go_wp2_with fail
    refine HV.out.mono ?_
    rintro e w1 ⟨rfl, hb⟩
    go_wp2
    go_ret2
    exact ⟨_, rfl, ownI_nil hb⟩
  have e1 : z = true := by rw [← HZ.out]; exact Pl.inB_true.2 (by omega)
  subst e1
  by_cases k3 : aft < 0
  · have e1 : x = false := by rw [← HX.out]; exact Pl.inB_false.2 (by omega)
    subst e1
    have h1 := HE.out
    have h2 := HR.out
    simp at h1
    subst h1
    simp at h2
    subst h2
    clear HE HR
    go_enter Try.func28, Try.ntmps28
    go_wp2_with fail
    refine HV.out.mono ?_
    rintro e w1 ⟨rfl, hb⟩
    go_wp2
    go_ret2
    exact ⟨_, rfl, ownI_nil hb⟩
  by_cases k4 : 1000 < aft
  · have e1 : x = false := by rw [← HX.out]; exact Pl.inB_false.2 (by omega)
    subst e1
    have h1 := HE.out
    have h2 := HR.out
    simp at h1
    subst h1
    simp at h2
    subst h2
    clear HE HR
    go_enter Try.func28, Try.ntmps28
    go_wp2_with fail
    refine HV.out.mono ?_
    rintro e w1 ⟨rfl, hb⟩
    go_wp2
    go_ret2
    exact ⟨_, rfl, ownI_nil hb⟩
  have e2 : x = true := by rw [← HX.out]; exact Pl.inB_true.2 (by omega)
  subst e2
  have h1 := HE.out
  have h2 := HR.out
  simp at h1
  subst h1
  simp at h2
  subst h2
  have HB := Lib.hid (HVb.out rfl)
  have HL : Hid (n ≤ 200) := Lib.hid (by rw [← HN.out]; exact HB.out.len)
  have kS : IntKind.i64.wrap (day - aft) = day - aft := IntWalk.i64_in _ (by omega)
  obtain ⟨i0, hi, hz0, hz1, hz2⟩ := info_parts info_int
  have HMN : Hid ((Pl.srt l).length = n) := Lib.hid (by rw [Pl.srt_len, HN.out])
  generalize hM : Pl.srt l = M at *
  clear HE HR HVb HZ HX
  go_enter Try.func28, Try.ntmps28
  go_wp2_with fail
  refine HV.out.mono ?_
  rintro e w1 ⟨rfl, hb⟩
  go_wp2_with fail
  refine (dsorted_any A l c n HN.out (by have := HL.out; omega) w1 (HI.out.below hb)).mono ?_
  rintro e ws ⟨vs, rfl, hOs, hbs⟩
  rw [hM, HMN.out] at hOs
  obtain ⟨A2, c2, rfl, hR2, _, _, _⟩ := rows_own2 HMN.out hOs
  have HMI := Lib.hid hR2
  have HBS := Lib.hid (hb.trans (hbs.mono hb.size))
  clear hOs hR2 hb hbs HV hM
  go_wp2
  go_loopw [8, 31] (fun v i wr => ∃ k : Nat, k ≤ n ∧ i = .int .i64 k ∧ Hid (wr.ownsRow ws.heap.size 3 1 v (Pl.dul l (M.take k) day aft).length (flt inL (Pl.dul l (M.take k) day aft))) ∧ Below ws.heap.size ws wr) (fun _ i _ => n - (intOf i).toNat)
  case atStart => exact ⟨0, Nat.zero_le _, rfl, Lib.hid (World.ownsRow_nil _ _ _ _), Below.refl _ _⟩
  case round =>
    obtain ⟨k, hk, rfl, HO, hW⟩ := hrel
    obtain ⟨wo, rfl⟩ : ∃ wo, wo = wr := ⟨_, rfl⟩
    by_cases hlt : k < n
    · have hltI : (k : Int) < (n : Int) := by omega
      have hn200 : n ≤ 200 := HL.out
      have hkx : k < M.length := by rw [HMN.out]; exact hlt
      have hIw := HI.out.below (HBS.out.trans (hW.mono HBS.out.size))
      obtain ⟨bx, ox, rfl, hbx, hcx⟩ := HMI.out.open (by omega)
      have hr := row_at hbx hcx hW hkx
      have HST := Lib.hid (Pl.dul_step (l := l) (d := day) (a := aft) hkx)
      have HDL : Hid ((Pl.dul l (M.take k) day aft).length ≤ 200) := Lib.hid (by have := Pl.dul_take l M day aft k; have := HL.out; omega)
      have HSE := Lib.hid (fun q (h : Pl.stl l M[k] day = q) W (hb : Below ws.heap.size ws W) => dsettled_b A l c n HN.out HL.out HB.out.each M[k] day q h W (HI.out.below (HBS.out.trans (hb.mono HBS.out.size))))
      clear hcx hIw
      generalize M[k] = y at *
      generalize Pl.dul l (M.take k) day aft = D at *
      have bz := Blk.new wo 24 zA
      have HW := Lib.hid hW
      clear hW
      obtain ⟨q, hq⟩ : ∃ q, Pl.stl l y day = q := ⟨_, rfl⟩
      have HS2 := Lib.hid (HSE.out q hq)
      have HQ := Lib.hid hq
      clear hq HSE
      rcases (show y.k ≠ 1 ∨ (y.k = 1 ∧ ¬ y.d ≤ day - aft) ∨ (y.k = 1 ∧ y.d ≤ day - aft) by omega) with g1 | ⟨g1, g2⟩ | ⟨g1, g2⟩
      · have e1 : (y.k == 1) = false := by simpa using g1
        have HN2 : Hid (Pl.dul l (M.take (k + 1)) day aft = D) := Lib.hid (by rw [HST.out]; unfold Pl.isd; rw [decide_eq_false g1]; simp)
        clear HST g1
        go_wp2_with (first
          | (have h9 := bz
             refine st_en (k := y) bz rfl rfl _ _ rfl rfl rfl ?_
             clear h9
             intro w3 bY hO3
             have hb3 : Below wo.heap.size wo w3 := ((Below.refl wo.heap.size wo).alloc (Nat.le_refl _) (.cells zA 24)).trans (hO3.below (Nat.le_refl _))
             have p0 := bY.cell 0
             have p2 := bY.cell 2
             have HO3 := Lib.hid (own_keep HO.out hb3)
             have HW3 := Lib.hid (HW.out.trans (hb3.mono HW.out.size))
             clear bz hO3 hb3 hr)
          | (have h9 := hr
             refine ldm_en hr rfl _ rfl rfl ?_
             clear h9))
        clear bY p0 p2
        go_roundw
        case rel => exact ⟨k + 1, by omega, by go_num, Lib.hid (by rw [HN2.out]; exact HO3.out), HW3.out⟩
        case measure => simp [intOf]; omega
      · have e1 : (y.k == 1) = true := by simpa using g1
        have HN2 : Hid (Pl.dul l (M.take (k + 1)) day aft = D) := Lib.hid (by rw [HST.out]; unfold Pl.isd; rw [decide_eq_false g2]; simp)
        clear HST g1
        go_wp2_with (first
          | (have h9 := bz
             refine st_en (k := y) bz rfl rfl _ _ rfl rfl rfl ?_
             clear h9
             intro w3 bY hO3
             have hb3 : Below wo.heap.size wo w3 := ((Below.refl wo.heap.size wo).alloc (Nat.le_refl _) (.cells zA 24)).trans (hO3.below (Nat.le_refl _))
             have p0 := bY.cell 0
             have p2 := bY.cell 2
             have HO3 := Lib.hid (own_keep HO.out hb3)
             have HW3 := Lib.hid (HW.out.trans (hb3.mono HW.out.size))
             clear bz hO3 hb3 hr)
          | (have h9 := hr
             refine ldm_en hr rfl _ rfl rfl ?_
             clear h9))
        clear bY p0 p2
        go_roundw
        case rel => exact ⟨k + 1, by omega, by go_num, Lib.hid (by rw [HN2.out]; exact HO3.out), HW3.out⟩
        case measure => simp [intOf]; omega
      · have e1 : (y.k == 1) = true := by simpa using g1
        cases q
        · have HN2 : Hid (Pl.dul l (M.take (k + 1)) day aft = D ++ [y.r]) := Lib.hid (by rw [HST.out]; unfold Pl.isd; rw [decide_eq_true g1, decide_eq_true g2, HQ.out]; rfl)
          clear HST g1
          go_wp2_with (first
            | (have h9 := bz
               refine st_en (k := y) bz rfl rfl _ _ rfl rfl rfl ?_
               clear h9
               intro w3 bY hO3
               have hb3 : Below wo.heap.size wo w3 := ((Below.refl wo.heap.size wo).alloc (Nat.le_refl _) (.cells zA 24)).trans (hO3.below (Nat.le_refl _))
               have p0 := bY.cell 0
               have p2 := bY.cell 2
               have HO3 := Lib.hid (own_keep HO.out hb3)
               have HW3 := Lib.hid (HW.out.trans (hb3.mono HW.out.size))
               have hr7 := bY.range
               clear bz hO3 hb3 hr)
            | (have h9 := hr
               refine ldm_en hr rfl _ rfl rfl ?_
               clear h9)
            | (have h9 := hr7
               refine ldm_en hr7 rfl _ rfl rfl ?_
               clear h9))
          refine (HS2.out w3 HW3.out).mono ?_
          rintro e w4 ⟨rfl, hb4⟩
          have HW4 := Lib.hid (HW3.out.trans (hb4.mono HW3.out.size))
          have HO4 := Lib.hid (own_keep HO3.out hb4)
          have p1 := (bY.below hb4 bY.lt).cell 1
          clear hb4 bY p0 p2 HO3 HW3
          go_wp2_with (at_builtin; go_loud (refine wpList_append_own _ rfl _ _ 42 rfl ws.heap.size 3 i0 _ 1 8 Try.underlying42 hi hz0 hz1 hz2 rfl (by decide) _ _ _ rfl (HO4.out.alloc _) ⟨w4.heap.size, 0, none⟩ 1 1 (inL y.r) rfl rfl (new_cells' _ _ _ rfl) (inL_one y.r) (by unfold maxLen; have := HDL.out; omega) (by have := HDL.out; omega) (HW4.out.alloc HW4.out.size _).size ?_; intro v5 w5 hO5 hg5 _))
          have HW5 := Lib.hid ((HW4.out.alloc HW4.out.size (.cells (inL y.r).toArray 3)).grown hg5 (HW4.out.alloc HW4.out.size _).size (fun s h => (HO4.out.lt s h).1))
          have HO5 := Lib.hid hO5
          clear hO5 hg5 p1
          go_roundw
          case rel => exact ⟨k + 1, by omega, by go_num, Lib.hid (by rw [HN2.out, List.length_append, flt_append, flt_one]; exact HO5.out), HW5.out⟩
          case measure => simp [intOf]; omega
        · have HN2 : Hid (Pl.dul l (M.take (k + 1)) day aft = D) := Lib.hid (by rw [HST.out]; unfold Pl.isd; rw [HQ.out]; simp)
          clear HST g1
          go_wp2_with (first
            | (have h9 := bz
               refine st_en (k := y) bz rfl rfl _ _ rfl rfl rfl ?_
               clear h9
               intro w3 bY hO3
               have hb3 : Below wo.heap.size wo w3 := ((Below.refl wo.heap.size wo).alloc (Nat.le_refl _) (.cells zA 24)).trans (hO3.below (Nat.le_refl _))
               have p0 := bY.cell 0
               have p2 := bY.cell 2
               have HO3 := Lib.hid (own_keep HO.out hb3)
               have HW3 := Lib.hid (HW.out.trans (hb3.mono HW.out.size))
               have hr7 := bY.range
               clear bz hO3 hb3 hr)
            | (have h9 := hr
               refine ldm_en hr rfl _ rfl rfl ?_
               clear h9)
            | (have h9 := hr7
               refine ldm_en hr7 rfl _ rfl rfl ?_
               clear h9))
          refine (HS2.out w3 HW3.out).mono ?_
          rintro e w4 ⟨rfl, hb4⟩
          have HW4 := Lib.hid (HW3.out.trans (hb4.mono HW3.out.size))
          have HO4 := Lib.hid (own_keep HO3.out hb4)
          clear hb4 bY p0 p2 HO3 HW3
          go_wp2
          go_roundw
          case rel => exact ⟨k + 1, by omega, by go_num, Lib.hid (by rw [HN2.out]; exact HO4.out), HW4.out⟩
          case measure => simp [intOf]; omega
    · obtain rfl : k = n := by omega
      have HO2 := HO.out
      rw [List.take_of_length_le (by rw [HMN.out]; exact Nat.le_refl _)] at HO2
      have HO3 := Lib.hid (HO2.mono HBS.out.size)
      have hBf := HBS.out.trans (hW.mono HBS.out.size)
      clear HO2
      go_wp2
      go_ret2
      exact ⟨_, rfl, HO3.out, hBf⟩
end Go.Proofs.Ytalfffkcmddakaa
