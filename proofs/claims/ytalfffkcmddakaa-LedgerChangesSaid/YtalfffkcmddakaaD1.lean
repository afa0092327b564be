/- settled of the program and of the document. -/
import Derived.Test.YtalfffkcmddakaaE2
import Derived.Test.YtalfffkcmddakaaP6
namespace Go.Proofs.Ytalfffkcmddakaa
open Go.RowKit Go.Shelf

set_option maxRecDepth 100000 in
set_option maxHeartbeats 16000000 in
theorem settled_b (A : Option Addr) (l : List Pl.En) (c n : Nat) (hn : l.length = n) (hm : n ≤ 200) (hve : ∀ e, e ∈ l → Pl.vE e = true) (inv : Pl.En) (day : Int) (v : Bool) (hv : Pl.stl l inv day = v) (w : World) (hI : Rows enL 4 w A l) :
    Calls Try.prog 65 #[.slice A n c, .agg (enA inv), .int .i64 day] w fun e w' => e = .returned (.bool v) ∧ Below w.heap.size w w' := by
  have hB := (Below.refl w.heap.size w).alloc (Nat.le_refl _) (.cells (enA inv) 24)
  have bX := Blk.new w 24 (enA inv)
  have HI := Lib.hid hI
  have HN0 := Lib.hid hn
  have HVE := Lib.hid hve
  have HV := Lib.hid hv
  have HPB := Lib.hid (fun k (hk : k ≤ n) => Pl.pd_bound inv.r day hve k (by rw [hn]; exact hk))
  clear hI hn hve hv
  go_enter Try.func65, Try.ntmps65
  go_wp2
  go_loopw [7, 12] (fun p i wr => ∃ k : Nat, k ≤ n ∧ i = .int .i64 k ∧ p = .int .i64 (Pl.pd inv.r day (l.take k)) ∧ Blk wr w.heap.size 24 (enA inv) ∧ Below w.heap.size w wr) (fun _ i _ => n - (intOf i).toNat)
  case atStart => exact ⟨0, Nat.zero_le _, rfl, rfl, bX, hB⟩
  case round =>
    clear bX hB
    obtain ⟨k, hk, rfl, rfl, bX, hW⟩ := hrel
    obtain ⟨wo, rfl⟩ : ∃ wo, wo = wr := ⟨_, rfl⟩
    by_cases hlt : k < n
    · have hltI : (k : Int) < (n : Int) := by omega
      have hkx : k < l.length := by rw [HN0.out]; exact hlt
      obtain ⟨bx, ox, rfl, hbx, hcx⟩ := HI.out.open (by omega)
      have hr := row_at hbx hcx hW hkx
      have HST := Lib.hid (Pl.pd_step (r := inv.r) (d := day) hkx)
      have hyc := Pl.ve_c (HVE.out _ (List.getElem_mem hkx))
      have hPb := HPB.out k hk
      clear hcx
      generalize l[k] = y at *
      generalize Pl.pd inv.r day (l.take k) = P at *
      have kD : IntKind.i64.wrap (P + y.c) = P + y.c := IntWalk.i64_in _ (by omega)
      have bz := Blk.new wo 24 (#[.int .i64 0, .int .i64 0, .int .i64 0, .int .i64 0])
      have HX := Lib.hid bX
      have HW := Lib.hid hW
      clear bX hW hyc hPb hkx
      rcases (show y.r ≠ inv.r ∨ (y.r = inv.r ∧ y.d ≤ day ∧ y.k = 2) ∨ (y.r = inv.r ∧ y.d ≤ day ∧ y.k ≠ 2 ∧ y.k = 3) ∨ (y.r = inv.r ∧ y.d ≤ day ∧ y.k ≠ 2 ∧ y.k ≠ 3) ∨ (y.r = inv.r ∧ ¬ y.d ≤ day ∧ y.k = 2) ∨ (y.r = inv.r ∧ ¬ y.d ≤ day ∧ y.k ≠ 2 ∧ y.k = 3) ∨ (y.r = inv.r ∧ ¬ y.d ≤ day ∧ y.k ≠ 2 ∧ y.k ≠ 3) by omega) with h1 | ⟨h1, h2, h3⟩ | ⟨h1, h2, h3, h4⟩ | ⟨h1, h2, h3, h4⟩ | ⟨h1, h2, h3⟩ | ⟨h1, h2, h3, h4⟩ | ⟨h1, h2, h3, h4⟩
      · have g1 : (y.r == inv.r) = false := by simpa using h1
        have HC : Hid (Pl.isp inv.r day y = false) := Lib.hid (by unfold Pl.isp; rw [decide_eq_false h1]; rfl)
        clear h1
        have HN : Hid (Pl.pd inv.r day (l.take (k + 1)) = P) := Lib.hid (by rw [HST.out, HC.out]; rfl)
        clear HST
        go_wp2_with (first
          | (have h9 := bz
             refine st_en (k := y) bz rfl rfl _ _ rfl rfl rfl ?_
             clear h9
             intro w3 bY hO3
             have hb3 : Below wo.heap.size wo w3 := ((Below.refl wo.heap.size wo).alloc (Nat.le_refl _) (.cells (#[.int .i64 0, .int .i64 0, .int .i64 0, .int .i64 0]) 24)).trans (hO3.below (Nat.le_refl _))
             have p0 := bY.cell 0
             have p1 := bY.cell 1
             have p2 := bY.cell 2
             have p3 := bY.cell 3
             have HX3 := Lib.hid (HX.out.below hb3 HX.out.lt)
             have q1 := HX3.out.cell 1
             have HW3 := Lib.hid (HW.out.trans (hb3.mono HW.out.size))
             clear bz hO3 hb3 bY hr)
          | (have h9 := hr
             refine ldm_en hr rfl _ rfl rfl ?_
             clear h9))
        go_roundw
        case rel => exact ⟨k + 1, by omega, by go_num, by rw [HN.out], HX3.out, HW3.out⟩
        case measure => simp [intOf]; omega
      · have g1 : (y.r == inv.r) = true := by simpa using h1
        have g2 : (y.k == 2) = true := by simpa using h3
        have HC : Hid (Pl.isp inv.r day y = true) := Lib.hid (by unfold Pl.isp; simp [h1, h2, h3])
        clear h1 h3
        have HN : Hid (Pl.pd inv.r day (l.take (k + 1)) = P + y.c) := Lib.hid (by rw [HST.out, HC.out]; rfl)
        clear HST
        go_wp2_with (first
          | (have h9 := bz
             refine st_en (k := y) bz rfl rfl _ _ rfl rfl rfl ?_
             clear h9
             intro w3 bY hO3
             have hb3 : Below wo.heap.size wo w3 := ((Below.refl wo.heap.size wo).alloc (Nat.le_refl _) (.cells (#[.int .i64 0, .int .i64 0, .int .i64 0, .int .i64 0]) 24)).trans (hO3.below (Nat.le_refl _))
             have p0 := bY.cell 0
             have p1 := bY.cell 1
             have p2 := bY.cell 2
             have p3 := bY.cell 3
             have HX3 := Lib.hid (HX.out.below hb3 HX.out.lt)
             have q1 := HX3.out.cell 1
             have HW3 := Lib.hid (HW.out.trans (hb3.mono HW.out.size))
             clear bz hO3 hb3 bY hr)
          | (have h9 := hr
             refine ldm_en hr rfl _ rfl rfl ?_
             clear h9))
        go_roundw
        case rel => exact ⟨k + 1, by omega, by go_num, by rw [HN.out], HX3.out, HW3.out⟩
        case measure => simp [intOf]; omega
      · have g1 : (y.r == inv.r) = true := by simpa using h1
        have g2 : (y.k == 2) = false := by simpa using h3
        have g3 : (y.k == 3) = true := by simpa using h4
        have HC : Hid (Pl.isp inv.r day y = true) := Lib.hid (by unfold Pl.isp; simp [h1, h2, h4])
        clear h1 h3 h4
        have HN : Hid (Pl.pd inv.r day (l.take (k + 1)) = P + y.c) := Lib.hid (by rw [HST.out, HC.out]; rfl)
        clear HST
        go_wp2_with (first
          | (have h9 := bz
             refine st_en (k := y) bz rfl rfl _ _ rfl rfl rfl ?_
             clear h9
             intro w3 bY hO3
             have hb3 : Below wo.heap.size wo w3 := ((Below.refl wo.heap.size wo).alloc (Nat.le_refl _) (.cells (#[.int .i64 0, .int .i64 0, .int .i64 0, .int .i64 0]) 24)).trans (hO3.below (Nat.le_refl _))
             have p0 := bY.cell 0
             have p1 := bY.cell 1
             have p2 := bY.cell 2
             have p3 := bY.cell 3
             have HX3 := Lib.hid (HX.out.below hb3 HX.out.lt)
             have q1 := HX3.out.cell 1
             have HW3 := Lib.hid (HW.out.trans (hb3.mono HW.out.size))
             clear bz hO3 hb3 bY hr)
          | (have h9 := hr
             refine ldm_en hr rfl _ rfl rfl ?_
             clear h9))
        go_roundw
        case rel => exact ⟨k + 1, by omega, by go_num, by rw [HN.out], HX3.out, HW3.out⟩
        case measure => simp [intOf]; omega
      · have g1 : (y.r == inv.r) = true := by simpa using h1
        have g2 : (y.k == 2) = false := by simpa using h3
        have g3 : (y.k == 3) = false := by simpa using h4
        have HC : Hid (Pl.isp inv.r day y = false) := Lib.hid (by unfold Pl.isp; simp [h1, h2, h3, h4])
        clear h1 h3 h4
        have HN : Hid (Pl.pd inv.r day (l.take (k + 1)) = P) := Lib.hid (by rw [HST.out, HC.out]; rfl)
        clear HST
        go_wp2_with (first
          | (have h9 := bz
             refine st_en (k := y) bz rfl rfl _ _ rfl rfl rfl ?_
             clear h9
             intro w3 bY hO3
             have hb3 : Below wo.heap.size wo w3 := ((Below.refl wo.heap.size wo).alloc (Nat.le_refl _) (.cells (#[.int .i64 0, .int .i64 0, .int .i64 0, .int .i64 0]) 24)).trans (hO3.below (Nat.le_refl _))
             have p0 := bY.cell 0
             have p1 := bY.cell 1
             have p2 := bY.cell 2
             have p3 := bY.cell 3
             have HX3 := Lib.hid (HX.out.below hb3 HX.out.lt)
             have q1 := HX3.out.cell 1
             have HW3 := Lib.hid (HW.out.trans (hb3.mono HW.out.size))
             clear bz hO3 hb3 bY hr)
          | (have h9 := hr
             refine ldm_en hr rfl _ rfl rfl ?_
             clear h9))
        go_roundw
        case rel => exact ⟨k + 1, by omega, by go_num, by rw [HN.out], HX3.out, HW3.out⟩
        case measure => simp [intOf]; omega
      · have g1 : (y.r == inv.r) = true := by simpa using h1
        have g2 : (y.k == 2) = true := by simpa using h3
        have HC : Hid (Pl.isp inv.r day y = false) := Lib.hid (by unfold Pl.isp; simp [h1, h2, h3])
        clear h1 h3
        have HN : Hid (Pl.pd inv.r day (l.take (k + 1)) = P) := Lib.hid (by rw [HST.out, HC.out]; rfl)
        clear HST
        go_wp2_with (first
          | (have h9 := bz
             refine st_en (k := y) bz rfl rfl _ _ rfl rfl rfl ?_
             clear h9
             intro w3 bY hO3
             have hb3 : Below wo.heap.size wo w3 := ((Below.refl wo.heap.size wo).alloc (Nat.le_refl _) (.cells (#[.int .i64 0, .int .i64 0, .int .i64 0, .int .i64 0]) 24)).trans (hO3.below (Nat.le_refl _))
             have p0 := bY.cell 0
             have p1 := bY.cell 1
             have p2 := bY.cell 2
             have p3 := bY.cell 3
             have HX3 := Lib.hid (HX.out.below hb3 HX.out.lt)
             have q1 := HX3.out.cell 1
             have HW3 := Lib.hid (HW.out.trans (hb3.mono HW.out.size))
             clear bz hO3 hb3 bY hr)
          | (have h9 := hr
             refine ldm_en hr rfl _ rfl rfl ?_
             clear h9))
        go_roundw
        case rel => exact ⟨k + 1, by omega, by go_num, by rw [HN.out], HX3.out, HW3.out⟩
        case measure => simp [intOf]; omega
      · have g1 : (y.r == inv.r) = true := by simpa using h1
        have g2 : (y.k == 2) = false := by simpa using h3
        have g3 : (y.k == 3) = true := by simpa using h4
        have HC : Hid (Pl.isp inv.r day y = false) := Lib.hid (by unfold Pl.isp; simp [h1, h2, h4])
        clear h1 h3 h4
        have HN : Hid (Pl.pd inv.r day (l.take (k + 1)) = P) := Lib.hid (by rw [HST.out, HC.out]; rfl)
        clear HST
        go_wp2_with (first
          | (have h9 := bz
             refine st_en (k := y) bz rfl rfl _ _ rfl rfl rfl ?_
             clear h9
             intro w3 bY hO3
             have hb3 : Below wo.heap.size wo w3 := ((Below.refl wo.heap.size wo).alloc (Nat.le_refl _) (.cells (#[.int .i64 0, .int .i64 0, .int .i64 0, .int .i64 0]) 24)).trans (hO3.below (Nat.le_refl _))
             have p0 := bY.cell 0
             have p1 := bY.cell 1
             have p2 := bY.cell 2
             have p3 := bY.cell 3
             have HX3 := Lib.hid (HX.out.below hb3 HX.out.lt)
             have q1 := HX3.out.cell 1
             have HW3 := Lib.hid (HW.out.trans (hb3.mono HW.out.size))
             clear bz hO3 hb3 bY hr)
          | (have h9 := hr
             refine ldm_en hr rfl _ rfl rfl ?_
             clear h9))
        go_roundw
        case rel => exact ⟨k + 1, by omega, by go_num, by rw [HN.out], HX3.out, HW3.out⟩
        case measure => simp [intOf]; omega
      · have g1 : (y.r == inv.r) = true := by simpa using h1
        have g2 : (y.k == 2) = false := by simpa using h3
        have g3 : (y.k == 3) = false := by simpa using h4
        have HC : Hid (Pl.isp inv.r day y = false) := Lib.hid (by unfold Pl.isp; simp [h1, h2, h3, h4])
        clear h1 h3 h4
        have HN : Hid (Pl.pd inv.r day (l.take (k + 1)) = P) := Lib.hid (by rw [HST.out, HC.out]; rfl)
        clear HST
        go_wp2_with (first
          | (have h9 := bz
             refine st_en (k := y) bz rfl rfl _ _ rfl rfl rfl ?_
             clear h9
             intro w3 bY hO3
             have hb3 : Below wo.heap.size wo w3 := ((Below.refl wo.heap.size wo).alloc (Nat.le_refl _) (.cells (#[.int .i64 0, .int .i64 0, .int .i64 0, .int .i64 0]) 24)).trans (hO3.below (Nat.le_refl _))
             have p0 := bY.cell 0
             have p1 := bY.cell 1
             have p2 := bY.cell 2
             have p3 := bY.cell 3
             have HX3 := Lib.hid (HX.out.below hb3 HX.out.lt)
             have q1 := HX3.out.cell 1
             have HW3 := Lib.hid (HW.out.trans (hb3.mono HW.out.size))
             clear bz hO3 hb3 bY hr)
          | (have h9 := hr
             refine ldm_en hr rfl _ rfl rfl ?_
             clear h9))
        go_roundw
        case rel => exact ⟨k + 1, by omega, by go_num, by rw [HN.out], HX3.out, HW3.out⟩
        case measure => simp [intOf]; omega
    · obtain rfl : k = n := by omega
      have HF : Hid (decide (inv.c ≤ Pl.pd inv.r day (l.take k)) = v) := Lib.hid (by rw [← HV.out, List.take_of_length_le (by rw [HN0.out]; exact Nat.le_refl _)]; rfl)
      generalize Pl.pd inv.r day (l.take k) = P at *
      have q3 := bX.cell 3
      clear bX
      go_wp2
      go_ret
      exact ⟨by rw [← HF.out]; rfl, hW⟩
set_option maxRecDepth 100000 in
set_option maxHeartbeats 16000000 in
theorem dsettled_b (A : Option Addr) (l : List Pl.En) (c n : Nat) (hn : l.length = n) (hm : n ≤ 200) (hve : ∀ e, e ∈ l → Pl.vE e = true) (inv : Pl.En) (day : Int) (v : Bool) (hv : Pl.stl l inv day = v) (w : World) (hI : Rows enL 4 w A l) :
    Calls Try.prog 66 #[.slice A n c, .agg (enA inv), .int .i64 day] w fun e w' => e = .returned (.bool v) ∧ Below w.heap.size w w' := by
  have hB := (Below.refl w.heap.size w).alloc (Nat.le_refl _) (.cells (enA inv) 24)
  have bX := Blk.new w 24 (enA inv)
  have HI := Lib.hid hI
  have HN0 := Lib.hid hn
  have HVE := Lib.hid hve
  have HV := Lib.hid hv
  have HPB := Lib.hid (fun k (hk : k ≤ n) => Pl.pd_bound inv.r day hve k (by rw [hn]; exact hk))
  clear hI hn hve hv
  go_enter Try.func66, Try.ntmps66
  go_wp2
  go_loopw [7, 12] (fun p i wr => ∃ k : Nat, k ≤ n ∧ i = .int .i64 k ∧ p = .int .i64 (Pl.pd inv.r day (l.take k)) ∧ Blk wr w.heap.size 24 (enA inv) ∧ Below w.heap.size w wr) (fun _ i _ => n - (intOf i).toNat)
  case atStart => exact ⟨0, Nat.zero_le _, rfl, rfl, bX, hB⟩
  case round =>
    clear bX hB
    obtain ⟨k, hk, rfl, rfl, bX, hW⟩ := hrel
    obtain ⟨wo, rfl⟩ : ∃ wo, wo = wr := ⟨_, rfl⟩
    by_cases hlt : k < n
    · have hltI : (k : Int) < (n : Int) := by omega
      have hkx : k < l.length := by rw [HN0.out]; exact hlt
      obtain ⟨bx, ox, rfl, hbx, hcx⟩ := HI.out.open (by omega)
      have hr := row_at hbx hcx hW hkx
      have HST := Lib.hid (Pl.pd_step (r := inv.r) (d := day) hkx)
      have hyc := Pl.ve_c (HVE.out _ (List.getElem_mem hkx))
      have hPb := HPB.out k hk
      clear hcx
      generalize l[k] = y at *
      generalize Pl.pd inv.r day (l.take k) = P at *
      have kD : IntKind.i64.wrap (P + y.c) = P + y.c := IntWalk.i64_in _ (by omega)
      have bz := Blk.new wo 24 (#[.int .i64 0, .int .i64 0, .int .i64 0, .int .i64 0])
      have HX := Lib.hid bX
      have HW := Lib.hid hW
      clear bX hW hyc hPb hkx
      rcases (show y.r ≠ inv.r ∨ (y.r = inv.r ∧ y.d ≤ day ∧ y.k = 2) ∨ (y.r = inv.r ∧ y.d ≤ day ∧ y.k ≠ 2 ∧ y.k = 3) ∨ (y.r = inv.r ∧ y.d ≤ day ∧ y.k ≠ 2 ∧ y.k ≠ 3) ∨ (y.r = inv.r ∧ ¬ y.d ≤ day ∧ y.k = 2) ∨ (y.r = inv.r ∧ ¬ y.d ≤ day ∧ y.k ≠ 2 ∧ y.k = 3) ∨ (y.r = inv.r ∧ ¬ y.d ≤ day ∧ y.k ≠ 2 ∧ y.k ≠ 3) by omega) with h1 | ⟨h1, h2, h3⟩ | ⟨h1, h2, h3, h4⟩ | ⟨h1, h2, h3, h4⟩ | ⟨h1, h2, h3⟩ | ⟨h1, h2, h3, h4⟩ | ⟨h1, h2, h3, h4⟩
      · have g1 : (y.r == inv.r) = false := by simpa using h1
        have HC : Hid (Pl.isp inv.r day y = false) := Lib.hid (by unfold Pl.isp; rw [decide_eq_false h1]; rfl)
        clear h1
        have HN : Hid (Pl.pd inv.r day (l.take (k + 1)) = P) := Lib.hid (by rw [HST.out, HC.out]; rfl)
        clear HST
        go_wp2_with (first
          | (have h9 := bz
             refine st_en (k := y) bz rfl rfl _ _ rfl rfl rfl ?_
             clear h9
             intro w3 bY hO3
             have hb3 : Below wo.heap.size wo w3 := ((Below.refl wo.heap.size wo).alloc (Nat.le_refl _) (.cells (#[.int .i64 0, .int .i64 0, .int .i64 0, .int .i64 0]) 24)).trans (hO3.below (Nat.le_refl _))
             have p0 := bY.cell 0
             have p1 := bY.cell 1
             have p2 := bY.cell 2
             have p3 := bY.cell 3
             have HX3 := Lib.hid (HX.out.below hb3 HX.out.lt)
             have q1 := HX3.out.cell 1
             have HW3 := Lib.hid (HW.out.trans (hb3.mono HW.out.size))
             clear bz hO3 hb3 bY hr)
          | (have h9 := hr
             refine ldm_en hr rfl _ rfl rfl ?_
             clear h9))
        go_roundw
        case rel => exact ⟨k + 1, by omega, by go_num, by rw [HN.out], HX3.out, HW3.out⟩
        case measure => simp [intOf]; omega
      · have g1 : (y.r == inv.r) = true := by simpa using h1
        have g2 : (y.k == 2) = true := by simpa using h3
        have HC : Hid (Pl.isp inv.r day y = true) := Lib.hid (by unfold Pl.isp; simp [h1, h2, h3])
        clear h1 h3
        have HN : Hid (Pl.pd inv.r day (l.take (k + 1)) = P + y.c) := Lib.hid (by rw [HST.out, HC.out]; rfl)
        clear HST
        go_wp2_with (first
          | (have h9 := bz
             refine st_en (k := y) bz rfl rfl _ _ rfl rfl rfl ?_
             clear h9
             intro w3 bY hO3
             have hb3 : Below wo.heap.size wo w3 := ((Below.refl wo.heap.size wo).alloc (Nat.le_refl _) (.cells (#[.int .i64 0, .int .i64 0, .int .i64 0, .int .i64 0]) 24)).trans (hO3.below (Nat.le_refl _))
             have p0 := bY.cell 0
             have p1 := bY.cell 1
             have p2 := bY.cell 2
             have p3 := bY.cell 3
             have HX3 := Lib.hid (HX.out.below hb3 HX.out.lt)
             have q1 := HX3.out.cell 1
             have HW3 := Lib.hid (HW.out.trans (hb3.mono HW.out.size))
             clear bz hO3 hb3 bY hr)
          | (have h9 := hr
             refine ldm_en hr rfl _ rfl rfl ?_
             clear h9))
        go_roundw
        case rel => exact ⟨k + 1, by omega, by go_num, by rw [HN.out], HX3.out, HW3.out⟩
        case measure => simp [intOf]; omega
      · have g1 : (y.r == inv.r) = true := by simpa using h1
        have g2 : (y.k == 2) = false := by simpa using h3
        have g3 : (y.k == 3) = true := by simpa using h4
        have HC : Hid (Pl.isp inv.r day y = true) := Lib.hid (by unfold Pl.isp; simp [h1, h2, h4])
        clear h1 h3 h4
        have HN : Hid (Pl.pd inv.r day (l.take (k + 1)) = P + y.c) := Lib.hid (by rw [HST.out, HC.out]; rfl)
        clear HST
        go_wp2_with (first
          | (have h9 := bz
             refine st_en (k := y) bz rfl rfl _ _ rfl rfl rfl ?_
             clear h9
             intro w3 bY hO3
             have hb3 : Below wo.heap.size wo w3 := ((Below.refl wo.heap.size wo).alloc (Nat.le_refl _) (.cells (#[.int .i64 0, .int .i64 0, .int .i64 0, .int .i64 0]) 24)).trans (hO3.below (Nat.le_refl _))
             have p0 := bY.cell 0
             have p1 := bY.cell 1
             have p2 := bY.cell 2
             have p3 := bY.cell 3
             have HX3 := Lib.hid (HX.out.below hb3 HX.out.lt)
             have q1 := HX3.out.cell 1
             have HW3 := Lib.hid (HW.out.trans (hb3.mono HW.out.size))
             clear bz hO3 hb3 bY hr)
          | (have h9 := hr
             refine ldm_en hr rfl _ rfl rfl ?_
             clear h9))
        go_roundw
        case rel => exact ⟨k + 1, by omega, by go_num, by rw [HN.out], HX3.out, HW3.out⟩
        case measure => simp [intOf]; omega
      · have g1 : (y.r == inv.r) = true := by simpa using h1
        have g2 : (y.k == 2) = false := by simpa using h3
        have g3 : (y.k == 3) = false := by simpa using h4
        have HC : Hid (Pl.isp inv.r day y = false) := Lib.hid (by unfold Pl.isp; simp [h1, h2, h3, h4])
        clear h1 h3 h4
        have HN : Hid (Pl.pd inv.r day (l.take (k + 1)) = P) := Lib.hid (by rw [HST.out, HC.out]; rfl)
        clear HST
        go_wp2_with (first
          | (have h9 := bz
             refine st_en (k := y) bz rfl rfl _ _ rfl rfl rfl ?_
             clear h9
             intro w3 bY hO3
             have hb3 : Below wo.heap.size wo w3 := ((Below.refl wo.heap.size wo).alloc (Nat.le_refl _) (.cells (#[.int .i64 0, .int .i64 0, .int .i64 0, .int .i64 0]) 24)).trans (hO3.below (Nat.le_refl _))
             have p0 := bY.cell 0
             have p1 := bY.cell 1
             have p2 := bY.cell 2
             have p3 := bY.cell 3
             have HX3 := Lib.hid (HX.out.below hb3 HX.out.lt)
             have q1 := HX3.out.cell 1
             have HW3 := Lib.hid (HW.out.trans (hb3.mono HW.out.size))
             clear bz hO3 hb3 bY hr)
          | (have h9 := hr
             refine ldm_en hr rfl _ rfl rfl ?_
             clear h9))
        go_roundw
        case rel => exact ⟨k + 1, by omega, by go_num, by rw [HN.out], HX3.out, HW3.out⟩
        case measure => simp [intOf]; omega
      · have g1 : (y.r == inv.r) = true := by simpa using h1
        have g2 : (y.k == 2) = true := by simpa using h3
        have HC : Hid (Pl.isp inv.r day y = false) := Lib.hid (by unfold Pl.isp; simp [h1, h2, h3])
        clear h1 h3
        have HN : Hid (Pl.pd inv.r day (l.take (k + 1)) = P) := Lib.hid (by rw [HST.out, HC.out]; rfl)
        clear HST
        go_wp2_with (first
          | (have h9 := bz
             refine st_en (k := y) bz rfl rfl _ _ rfl rfl rfl ?_
             clear h9
             intro w3 bY hO3
             have hb3 : Below wo.heap.size wo w3 := ((Below.refl wo.heap.size wo).alloc (Nat.le_refl _) (.cells (#[.int .i64 0, .int .i64 0, .int .i64 0, .int .i64 0]) 24)).trans (hO3.below (Nat.le_refl _))
             have p0 := bY.cell 0
             have p1 := bY.cell 1
             have p2 := bY.cell 2
             have p3 := bY.cell 3
             have HX3 := Lib.hid (HX.out.below hb3 HX.out.lt)
             have q1 := HX3.out.cell 1
             have HW3 := Lib.hid (HW.out.trans (hb3.mono HW.out.size))
             clear bz hO3 hb3 bY hr)
          | (have h9 := hr
             refine ldm_en hr rfl _ rfl rfl ?_
             clear h9))
        go_roundw
        case rel => exact ⟨k + 1, by omega, by go_num, by rw [HN.out], HX3.out, HW3.out⟩
        case measure => simp [intOf]; omega
      · have g1 : (y.r == inv.r) = true := by simpa using h1
        have g2 : (y.k == 2) = false := by simpa using h3
        have g3 : (y.k == 3) = true := by simpa using h4
        have HC : Hid (Pl.isp inv.r day y = false) := Lib.hid (by unfold Pl.isp; simp [h1, h2, h4])
        clear h1 h3 h4
        have HN : Hid (Pl.pd inv.r day (l.take (k + 1)) = P) := Lib.hid (by rw [HST.out, HC.out]; rfl)
        clear HST
        go_wp2_with (first
          | (have h9 := bz
             refine st_en (k := y) bz rfl rfl _ _ rfl rfl rfl ?_
             clear h9
             intro w3 bY hO3
             have hb3 : Below wo.heap.size wo w3 := ((Below.refl wo.heap.size wo).alloc (Nat.le_refl _) (.cells (#[.int .i64 0, .int .i64 0, .int .i64 0, .int .i64 0]) 24)).trans (hO3.below (Nat.le_refl _))
             have p0 := bY.cell 0
             have p1 := bY.cell 1
             have p2 := bY.cell 2
             have p3 := bY.cell 3
             have HX3 := Lib.hid (HX.out.below hb3 HX.out.lt)
             have q1 := HX3.out.cell 1
             have HW3 := Lib.hid (HW.out.trans (hb3.mono HW.out.size))
             clear bz hO3 hb3 bY hr)
          | (have h9 := hr
             refine ldm_en hr rfl _ rfl rfl ?_
             clear h9))
        go_roundw
        case rel => exact ⟨k + 1, by omega, by go_num, by rw [HN.out], HX3.out, HW3.out⟩
        case measure => simp [intOf]; omega
      · have g1 : (y.r == inv.r) = true := by simpa using h1
        have g2 : (y.k == 2) = false := by simpa using h3
        have g3 : (y.k == 3) = false := by simpa using h4
        have HC : Hid (Pl.isp inv.r day y = false) := Lib.hid (by unfold Pl.isp; simp [h1, h2, h3, h4])
        clear h1 h3 h4
        have HN : Hid (Pl.pd inv.r day (l.take (k + 1)) = P) := Lib.hid (by rw [HST.out, HC.out]; rfl)
        clear HST
        go_wp2_with (first
          | (have h9 := bz
             refine st_en (k := y) bz rfl rfl _ _ rfl rfl rfl ?_
             clear h9
             intro w3 bY hO3
             have hb3 : Below wo.heap.size wo w3 := ((Below.refl wo.heap.size wo).alloc (Nat.le_refl _) (.cells (#[.int .i64 0, .int .i64 0, .int .i64 0, .int .i64 0]) 24)).trans (hO3.below (Nat.le_refl _))
             have p0 := bY.cell 0
             have p1 := bY.cell 1
             have p2 := bY.cell 2
             have p3 := bY.cell 3
             have HX3 := Lib.hid (HX.out.below hb3 HX.out.lt)
             have q1 := HX3.out.cell 1
             have HW3 := Lib.hid (HW.out.trans (hb3.mono HW.out.size))
             clear bz hO3 hb3 bY hr)
          | (have h9 := hr
             refine ldm_en hr rfl _ rfl rfl ?_
             clear h9))
        go_roundw
        case rel => exact ⟨k + 1, by omega, by go_num, by rw [HN.out], HX3.out, HW3.out⟩
        case measure => simp [intOf]; omega
    · obtain rfl : k = n := by omega
      have HF : Hid (decide (inv.c ≤ Pl.pd inv.r day (l.take k)) = v) := Lib.hid (by rw [← HV.out, List.take_of_length_le (by rw [HN0.out]; exact Nat.le_refl _)]; rfl)
      generalize Pl.pd inv.r day (l.take k) = P at *
      have q3 := bX.cell 3
      clear bX
      go_wp2
      go_ret
      exact ⟨by rw [← HF.out]; rfl, hW⟩
end Go.Proofs.Ytalfffkcmddakaa
