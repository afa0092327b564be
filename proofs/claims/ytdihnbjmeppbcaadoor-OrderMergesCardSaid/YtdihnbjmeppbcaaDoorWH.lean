/- validSteps, ValidPrices, ValidForm, of the document. -/
import Derived.Test.YtdihnbjmeppbcaaDoorWG
namespace Go.Proofs.YtdihnbjmeppbcaaDoor
open Go.RowKit Go.Shelf

theorem sok_iff {l : List Pl.Stp} {k : Nat} (hk : k < l.length) : Pl.sok l k = true ↔ Pl.sb l k + 1 ≤ l[k].c ∧ l[k].c ≤ 100000 ∧ 0 ≤ l[k].m ∧ l[k].m ≤ 10000000 := by
  unfold Pl.sok
  rw [← stp_at hk, Bool.and_eq_true, Pl.inB_true, Pl.inB_true]
  constructor
  · rintro ⟨⟨a, b⟩, c, d⟩; exact ⟨a, b, c, d⟩
  · rintro ⟨a, b, c, d⟩; exact ⟨⟨a, b⟩, c, d⟩

set_option maxRecDepth 100000 in
set_option maxHeartbeats 16000000 in
theorem rvsteps_b (A : Option Addr) (l : List Pl.Stp) (c m : Nat) (hm : l.length = m) (hm6 : m ≤ maxLen) (v : Bool) (hv : Pl.vst l = v) (w : World) (hI : Rows stL 2 w A l) :
    Calls Tryd.prog 48 #[.slice A m c] w fun e w' => e = .returned (.bool v) ∧ Below w.heap.size w w' := by
  have hm63 := max63 hm6
  have hB0 := Below.refl w.heap.size w
  by_cases h1 : (m : Int) < 1
  · have HF : Hid (v = false) := Lib.hid (by rw [← hv]; exact Pl.vst_len (by rw [hm, Pl.inB_false]; omega))
    have d1 : decide ((m : Int) < 1) = true := decide_eq_true h1
    clear hI hm hm6 hv
    go_enter Tryd.func48, Tryd.ntmps48
    go_wp2
    go_ret
    exact ⟨by rw [HF.out]; rfl, hB0⟩
  by_cases h8 : (m : Int) > 8
  · have HF : Hid (v = false) := Lib.hid (by rw [← hv]; exact Pl.vst_len (by rw [hm, Pl.inB_false]; omega))
    have d1 : decide ((m : Int) < 1) = false := decide_eq_false h1
    clear hI hm hm6 hv
    go_enter Tryd.func48, Tryd.ntmps48
    go_wp2
    go_ret
    exact ⟨by rw [HF.out]; rfl, hB0⟩
  have hm8 : 1 ≤ m ∧ m ≤ 8 := by omega
  obtain ⟨bx, ox, rfl, hbx, hcx⟩ := hI.open (by omega)
  have hr0 := hcx 0 (by omega)
  have q0 : w.cell? ⟨bx, ox, none⟩ = some (.int .i64 (l.getD 0 default).c) := by
    rw [stp_at (show 0 < l.length by omega)] at hr0
    have := hr0 0 _ rfl
    simpa using this
  have hm0 : (0 : Int) < (m : Int) := by omega
  have d1 : decide ((m : Int) < 1) = false := decide_eq_false h1
  by_cases hone : (l.getD 0 default).c = 1
  rotate_left
  · have HF : Hid (v = false) := Lib.hid (by rw [← hv]; exact Pl.vst_one hone)
    have d1 : ((l.getD 0 default).c == 1) = false := by simpa using hone
    have d2 : decide ((l.getD 0 default).c = 1) = false := decide_eq_false hone
    generalize (l.getD 0 default).c = z at *
    clear hI hm hm6 hv hr0
    go_enter Tryd.func48, Tryd.ntmps48
    go_wp2
    go_ret
    exact ⟨by rw [HF.out]; rfl, hB0⟩
  rw [hone] at q0
  have HM := Lib.hid hm
  have HCX := Lib.hid hcx
  have HONE := Lib.hid hone
  have HBAD : Hid (∀ i, i < m → Pl.sok l i = false → v = false) := Lib.hid (fun i hi h => by rw [← hv]; exact Pl.vst_bad (by omega) h)
  have HALL : Hid ((∀ i, i < m → Pl.sok l i = true) → v = true) := Lib.hid (fun h => by rw [← hv, Pl.vst_true]; exact ⟨by omega, by omega, hone, fun i hi => h i (by omega)⟩)
  clear hI hm hm6 hv hr0 hcx hone
  go_enter Tryd.func48, Tryd.ntmps48
  go_wp2
  go_loopw [3] (fun i wr => ∃ k : Nat, k ≤ m ∧ i = .int .i64 k ∧ Hid (∀ i, i < k → Pl.sok l i = true) ∧ Below w.heap.size w wr) (fun i _ => m - (intOf i).toNat)
  case atStart => exact ⟨0, Nat.zero_le _, rfl, Lib.hid (fun i hi => absurd hi (Nat.not_lt_zero _)), hB0⟩
  case round =>
    obtain ⟨k, hk, rfl, hall, hW⟩ := hrel
    obtain ⟨wo, rfl⟩ : ∃ wo, wo = wr := ⟨_, rfl⟩
    by_cases hlt : k < m
    · have hltI : (k : Int) < (m : Int) := by omega
      have hkx : k < l.length := by rw [HM.out]; exact hlt
      have hr := row_at hbx HCX.out hW hkx
      have HSO := Lib.hid (sok_iff hkx)
      have HBD := Lib.hid (HBAD.out k hlt)
      have HNX : Hid (Pl.sok l k = true → ∀ i, i < k + 1 → Pl.sok l i = true) := Lib.hid (fun h i hi => by
        rcases Nat.lt_succ_iff_lt_or_eq.1 hi with h' | rfl
        · exact hall.out i h'
        · exact h)
      have HK0 : Hid (k = 0 → l[k].c = 1) := Lib.hid (fun h => by subst h; rw [stp_at hkx]; exact HONE.out)
      have HPV : Hid (∀ j, k = j + 1 → ∃ y : Pl.Stp, Pl.sb l k = y.c ∧ wo.rangeAt bx (ox + j * 2) (stL y)) := Lib.hid (fun j h => by
        subst h
        have hjx : j < l.length := by omega
        exact ⟨l[j], by rw [stp_at hjx]; rfl, row_at hbx HCX.out hW hjx⟩)
      clear hall
      generalize l[k] = x at *
      have q0 : _ = some (Value.int .i64 x.c) := hr 0 _ rfl
      have q1 : _ = some (Value.int .i64 x.m) := hr 1 _ rfl
      rw [Nat.add_zero] at q0
      have z0 := fun s : Ext wo => s.cell (p := ⟨bx, ox + k * 2, none⟩) q0
      have z1 := fun s : Ext wo => s.cell (p := ⟨bx, ox + k * 2 + 1, none⟩) q1
      clear hr q0 q1
      have HBB : Hid (¬ (Pl.sb l k + 1 ≤ x.c ∧ x.c ≤ 100000 ∧ 0 ≤ x.m ∧ x.m ≤ 10000000) → v = false) := Lib.hid (fun h => HBD.out (by rw [← Bool.not_eq_true, HSO.out]; exact h))
      by_cases t1 : x.c > 100000
      · have e1 : decide (x.c > 100000) = true := decide_eq_true t1
        have HF := Lib.hid (HBB.out (by omega))
        go_wp2
        refine wp_region_ext (by kernel_rfl) (by kernel_rfl) ?_
        repeat (go_big_quiet_step (fail))
        refine wpQuiet_nil ?_
        rintro _ ⟨s, rfl⟩
        have hB9 := hW.trans (s.h.mono hW.size)
        go_wp2
        go_ret
        exact ⟨by rw [HF.out]; rfl, hB9⟩
      have e1 : decide (x.c > 100000) = false := decide_eq_false t1
      by_cases t2 : x.m < 0
      · have e2 : decide (x.m < 0) = true := decide_eq_true t2
        have HF := Lib.hid (HBB.out (by omega))
        go_wp2
        refine wp_region_ext (by kernel_rfl) (by kernel_rfl) ?_
        repeat (go_big_quiet_step (fail))
        refine wpQuiet_nil ?_
        rintro _ ⟨s, rfl⟩
        have hB9 := hW.trans (s.h.mono hW.size)
        go_wp2
        go_ret
        exact ⟨by rw [HF.out]; rfl, hB9⟩
      have e2 : decide (x.m < 0) = false := decide_eq_false t2
      by_cases t3 : x.m > 10000000
      · have e3 : decide (x.m > 10000000) = true := decide_eq_true t3
        have HF := Lib.hid (HBB.out (by omega))
        go_wp2
        refine wp_region_ext (by kernel_rfl) (by kernel_rfl) ?_
        repeat (go_big_quiet_step (fail))
        refine wpQuiet_nil ?_
        rintro _ ⟨s, rfl⟩
        have hB9 := hW.trans (s.h.mono hW.size)
        go_wp2
        go_ret
        exact ⟨by rw [HF.out]; rfl, hB9⟩
      have e3 : decide (x.m > 10000000) = false := decide_eq_false t3
      rcases k with _ | j
      · have HN := Lib.hid (HNX.out (HSO.out.2 ⟨by have := HK0.out rfl; show (0 : Int) + 1 ≤ x.c; omega, by omega, by omega, by omega⟩))
        have ec : ((0 : Nat) : Int) = 0 := rfl
        simp only [Nat.zero_mul, Nat.add_zero] at z0 z1
        clear HPV HK0
        go_wp2
        refine wp_region_ext (by kernel_rfl) (by kernel_rfl) ?_
        repeat (go_big_quiet_step (fail))
        refine wpQuiet_nil ?_
        rintro _ ⟨s, rfl⟩
        have hB9 := hW.trans (s.h.mono hW.size)
        go_wp2
        go_roundw
        case rel => exact ⟨1, by omega, by go_num, HN, hB9⟩
        case measure => simp [intOf]; omega
      · obtain ⟨y, hy, hry⟩ := HPV.out j rfl
        rw [hy] at HSO HBB
        have r0 : _ = some (Value.int .i64 y.c) := hry 0 _ rfl
        rw [Nat.add_zero] at r0
        have y0 := fun s : Ext wo => s.cell (p := ⟨bx, ox + j * 2, none⟩) r0
        have hjI : (j : Int) < (m : Int) := by omega
        have e4 : decide ((j : Int) + 1 > 0) = true := decide_eq_true (by omega)
        have e5 : decide (((j + 1 : Nat) : Int) > 0) = true := decide_eq_true (by omega)
        have kj : IntKind.i64.wrap ((j : Int) + 1 - 1) = (j : Int) := by rw [IntWalk.i64_in _ (by omega)]; omega
        clear HPV HK0 hy hry r0
        by_cases t4 : x.c ≤ y.c
        · have e6 : decide (x.c ≤ y.c) = true := decide_eq_true t4
          have HF := Lib.hid (HBB.out (by omega))
          go_wp2
          refine wp_region_ext (by kernel_rfl) (by kernel_rfl) ?_
          repeat (go_big_quiet_step (fail))
          refine wpQuiet_nil ?_
          rintro _ ⟨s, rfl⟩
          have hB9 := hW.trans (s.h.mono hW.size)
          go_wp2
          go_ret
          exact ⟨by rw [HF.out]; rfl, hB9⟩
        · have e6 : decide (x.c ≤ y.c) = false := decide_eq_false t4
          have HN := Lib.hid (HNX.out (HSO.out.2 ⟨by omega, by omega, by omega, by omega⟩))
          go_wp2
          refine wp_region_ext (by kernel_rfl) (by kernel_rfl) ?_
          repeat (go_big_quiet_step (fail))
          refine wpQuiet_nil ?_
          rintro _ ⟨s, rfl⟩
          have hB9 := hW.trans (s.h.mono hW.size)
          go_wp2
          go_roundw
          case rel => exact ⟨j + 1 + 1, by omega, by go_num, HN, hB9⟩
          case measure => simp [intOf]; omega
    · obtain rfl : k = m := by omega
      have HT := Lib.hid (HALL.out hall.out)
      go_wp2
      go_ret
      exact ⟨by rw [HT.out]; rfl, hW⟩
end Go.Proofs.YtdihnbjmeppbcaaDoor
