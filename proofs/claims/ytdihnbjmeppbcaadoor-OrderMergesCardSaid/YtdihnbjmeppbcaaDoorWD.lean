/- ValidRates, rateOf, Convert, of the document. -/
import Derived.Test.YtdihnbjmeppbcaaDoorWB
namespace Go.Proofs.YtdihnbjmeppbcaaDoor
open Go.RowKit Go.Shelf

theorem vr_not {x : Pl.Rt} (h : ¬ Pl.Vr x) : Pl.vr x = false := by rw [← Bool.not_eq_true, Pl.vr_true]; exact h
theorem ky_ne {a b : Pl.Ky} (h : a.1 = b.1 → a.2 = b.2 → False) : a ≠ b := fun e => h (by rw [e]) (by rw [e])

set_option maxRecDepth 100000 in
set_option maxHeartbeats 16000000 in
theorem rvrates_b (A : Option Addr) (l : List Pl.Rt) (c m : Nat) (hm : l.length = m) (hm6 : m ≤ maxLen) (hs : ∀ x, x ∈ l → x.cur.size ≤ maxLen) (v : Bool) (hv : Pl.vrs l = v) (w : World) (hI : Rows rtL 4 w A l) :
    Calls Tryd.prog 18 #[.slice A m c] w fun e w' => e = .returned (.bool v) ∧ Below w.heap.size w w' := by
  have hm63 : m ≤ 9223372036854775807 := by unfold maxLen at hm6; omega
  have hB0 := Below.refl w.heap.size w
  rw [Pl.vrs_eq] at hv
  by_cases h60 : 60 < m
  · have i1 : (60 : Int) < (m : Int) := by omega
    have HF : Hid (v = false) := Lib.hid (by rw [← hv]; exact Pl.vls_long (by omega))
    clear hI hm hm6 h60 hv hs
    go_enter Tryd.func18, Tryd.ntmps18
    go_wp2
    go_ret
    exact ⟨by rw [HF.out]; rfl, hB0⟩
  have i1 : ¬ (60 : Int) < (m : Int) := by omega
  have HI := Lib.hid hI
  have HM := Lib.hid hm
  have HSZ := Lib.hid hs
  have HBAD : Hid (∀ (i : Nat) (hi : i < l.length), Pl.vr l[i] = false → v = false) := Lib.hid (fun i hi h => by rw [← hv]; exact Pl.vls_bad hi h)
  have HTWO : Hid (∀ (i k : Nat) (hi : i < l.length) (hk : k < l.length) (_ : k < i), Pl.rk l[k] = Pl.rk l[i] → v = false) := Lib.hid (fun i k hi _ hki h => by rw [← hv]; exact Pl.vls_two hi hki h)
  have HALL : Hid ((∀ (i : Nat) (hi : i < l.length), Pl.vr l[i] = true) → (∀ (k i : Nat) (hk : k < l.length) (hi : i < l.length), k < i → Pl.rk l[k] ≠ Pl.rk l[i]) → v = true) := Lib.hid (fun h1 h2 => by rw [← hv, Pl.vls_true]; exact ⟨by omega, h1, h2⟩)
  have hm60 : m ≤ 60 := by omega
  clear hI hm hm6 h60 hv hs
  go_enter Tryd.func18, Tryd.ntmps18
  go_wp2
  go_loopw [3] (fun i wr => ∃ k : Nat, k ≤ m ∧ i = .int .i64 k ∧ Hid (∀ (i : Nat) (hi : i < l.length), i < k → Pl.vr l[i] = true ∧ ∀ (p : Nat) (hpl : p < l.length), p < i → Pl.rk l[p] ≠ Pl.rk l[i]) ∧ Below w.heap.size w wr) (fun i _ => m - (intOf i).toNat)
  case atStart => exact ⟨0, Nat.zero_le _, rfl, Lib.hid (fun i _ hi => absurd hi (Nat.not_lt_zero _)), hB0⟩
  case round =>
    obtain ⟨k, hk, rfl, hall, hW⟩ := hrel
    obtain ⟨wo, rfl⟩ : ∃ wo, wo = wr := ⟨_, rfl⟩
    by_cases hlt : k < m
    · have hltI : (k : Int) < (m : Int) := by omega
      have hkx : k < l.length := by rw [HM.out]; exact hlt
      obtain ⟨bx, ox, rfl, hbx, hcx⟩ := HI.out.open (by omega)
      have hr := row_at hbx hcx hW hkx
      have HCX := Lib.hid hcx
      have hsz := HSZ.out _ (List.getElem_mem hkx)
      have HBD := Lib.hid (HBAD.out k hkx)
      have HTW : Hid (∀ (p : Nat) (hpl : p < l.length), p < k → Pl.rk l[p] = Pl.rk l[k] → v = false) := Lib.hid (fun p hpl hp h => HTWO.out k p hkx hpl hp h)
      have HNX : Hid (Pl.vr l[k] = true → (∀ (p : Nat) (hpl : p < l.length), p < k → Pl.rk l[p] ≠ Pl.rk l[k]) → ∀ (i : Nat) (hi : i < l.length), i < k + 1 → Pl.vr l[i] = true ∧ ∀ (p : Nat) (hpl : p < l.length), p < i → Pl.rk l[p] ≠ Pl.rk l[i]) := Lib.hid (fun h1 h2 i hi hik => by
        rcases Nat.lt_succ_iff_lt_or_eq.1 hik with h' | h'
        · exact hall.out i hi h'
        · subst h'; exact ⟨h1, h2⟩)
      clear hcx hall
      generalize l[k] = x at *
      obtain ⟨x1, h1⟩ : ∃ y, Pl.cyB x.cur = y := ⟨_, rfl⟩
      obtain ⟨x2, h2⟩ : ∃ y, (x.cur.toList == [69, 85, 82]) = y := ⟨_, rfl⟩
      obtain ⟨x3, h3⟩ : ∃ y, Pl.dy x.d = y := ⟨_, rfl⟩
      have H1 := Lib.hid (fun w' : World => rcur_b x.cur _ rfl hsz x1 h1 w')
      have H3 := Lib.hid (fun w' : World => rdy_b x.d x3 h3 w')
      have HVR : Hid (Pl.Vr x → x1 = true ∧ x2 = false ∧ x3 = true ∧ 1 ≤ x.num ∧ x.num ≤ 1000000 ∧ 1 ≤ x.den ∧ x.den ≤ 1000000) := Lib.hid (fun h => ⟨by rw [← h1]; exact h.cur, by rw [← h2, eur_eq]; exact decide_eq_false h.ne, by rw [← h3]; exact Pl.inB_true.2 ⟨h.d0, h.d1⟩, h.n0, h.n1, h.e0, h.e1⟩)
      have HVS : Hid (x1 = true → x2 = false → x3 = true → 1 ≤ x.num → x.num ≤ 1000000 → 1 ≤ x.den → x.den ≤ 1000000 → Pl.vr x = true) := Lib.hid (fun a1 a2 a3 a4 a5 a6 a7 => Pl.vr_true.2 ⟨by rw [h1]; exact a1, by
        rw [eur_eq, a2] at h2; exact of_decide_eq_false h2, (Pl.inB_true.1 (h3.trans a3)).1, (Pl.inB_true.1 (h3.trans a3)).2, a4, a5, a6, a7⟩)
      have HFV : Hid (¬ Pl.Vr x → v = false) := Lib.hid (fun h => HBD.out (vr_not h))
      have bE := Blk.new wo 70 (rtA x)
      have hBE := (Below.refl wo.heap.size wo).alloc (Nat.le_refl _) (.cells (rtA x) 70)
      have hW1 := hW.trans (hBE.mono hW.size)
      have e0 := bE.cell 0
      have e1 := bE.cell 1
      have e2 := bE.cell 2
      have e3 := bE.cell 3
      have HE := Lib.hid bE
      clear hsz h1 h3 HBD bE hBE hW
      go_wp2_with (refine ldm_rt hr rfl _ rfl rfl ?_)
      refine (H1.out _).mono ?_
      rintro e w1 ⟨rfl, hw1⟩
      rw [← hw1] at e0 e1 e2 e3 hW1 HE
      clear hw1 hr
      generalize wo.heap.size = ge at *
      cases x1
      · have HF := Lib.hid (HFV.out (fun h => by have := (HVR.out h).1; cases this))
        go_wp2
        go_ret
        exact ⟨by rw [HF.out]; rfl, hW1⟩
      cases x2
      rotate_left
      · have HF := Lib.hid (HFV.out (fun h => by have := (HVR.out h).2.1; cases this))
        go_wp2
        go_ret
        exact ⟨by rw [HF.out]; rfl, hW1⟩
      go_wp2_with fail
      refine (H3.out _).mono ?_
      rintro e w2 ⟨rfl, hw2⟩
      subst hw2
      cases x3
      · have HF := Lib.hid (HFV.out (fun h => by have := (HVR.out h).2.2.1; cases this))
        go_wp2
        go_ret
        exact ⟨by rw [HF.out]; rfl, hW1⟩
      by_cases n0 : x.num < 1
      · have HF := Lib.hid (HFV.out (fun h => by have := (HVR.out h).2.2.2.1; omega))
        have d0 : decide (x.num < 1) = true := decide_eq_true n0
        go_wp2
        go_ret
        exact ⟨by rw [HF.out]; rfl, hW1⟩
      have d0 : decide (x.num < 1) = false := decide_eq_false n0
      by_cases n1 : x.num > 1000000
      · have HF := Lib.hid (HFV.out (fun h => by have := (HVR.out h).2.2.2.2.1; omega))
        have d1 : decide (x.num > 1000000) = true := decide_eq_true n1
        go_wp2
        go_ret
        exact ⟨by rw [HF.out]; rfl, hW1⟩
      have d1 : decide (x.num > 1000000) = false := decide_eq_false n1
      by_cases n2 : x.den < 1
      · have HF := Lib.hid (HFV.out (fun h => by have := (HVR.out h).2.2.2.2.2.1; omega))
        have d2 : decide (x.den < 1) = true := decide_eq_true n2
        go_wp2
        go_ret
        exact ⟨by rw [HF.out]; rfl, hW1⟩
      have d2 : decide (x.den < 1) = false := decide_eq_false n2
      by_cases n3 : x.den > 1000000
      · have HF := Lib.hid (HFV.out (fun h => by have := (HVR.out h).2.2.2.2.2.2; omega))
        have d3 : decide (x.den > 1000000) = true := decide_eq_true n3
        go_wp2
        go_ret
        exact ⟨by rw [HF.out]; rfl, hW1⟩
      have d3 : decide (x.den > 1000000) = false := decide_eq_false n3
      have HVX := Lib.hid (HVS.out (by first | rfl | trivial) (by first | rfl | trivial) (by first | rfl | trivial) (by omega) (by omega) (by omega) (by omega))
      clear HVS HFV HVR H1 H3
      go_wp2
      go_loopw [5] (fun i wr => ∃ p : Nat, p ≤ k ∧ i = .int .i64 p ∧ Hid (∀ (z : Nat) (hz : z < p) (hzl : z < l.length), Pl.rk l[z] ≠ Pl.rk x) ∧ Below w2.heap.size w2 wr) (fun i _ => k - (intOf i).toNat)
      case atStart => exact ⟨0, Nat.zero_le _, rfl, Lib.hid (fun z hz => absurd hz (Nat.not_lt_zero _)), Below.refl _ _⟩
      case round =>
        obtain ⟨p, hp, rfl, hno, hV⟩ := hrel
        obtain ⟨wp, rfl⟩ : ∃ wp, wp = wr := ⟨_, rfl⟩
        have hBp := hW1.trans (hV.mono hW1.size)
        have bEp := HE.out.below hV HE.out.lt
        have f0 := bEp.cell 0
        have f1 := bEp.cell 1
        by_cases hpk : p < k
        · have hpI : (p : Int) < (k : Int) := by omega
          have hpx : p < l.length := by omega
          have hpm : (p : Int) < (m : Int) := by omega
          have hrp := row_at hbx HCX.out hBp hpx
          have HT2 := Lib.hid (HTW.out p hpx hpk)
          have HN2 : Hid (Pl.rk l[p] ≠ Pl.rk x → ∀ (z : Nat) (hz : z < p + 1) (hzl : z < l.length), Pl.rk l[z] ≠ Pl.rk x) := Lib.hid (fun h z hz hzl => by
            rcases Nat.lt_succ_iff_lt_or_eq.1 hz with h' | h'
            · exact hno.out z h' hzl
            · subst h'; exact h)
          clear hno
          generalize l[p] = y at *
          have r0 : _ = some (Value.string y.cur) := hrp 0 _ rfl
          have r1 : _ = some (Value.int .i64 y.d) := hrp 1 _ rfl
          rw [Nat.add_zero] at r0
          have z0 := fun s : Ext wp => s.cell (p := ⟨bx, ox + p * 4, none⟩) r0
          have z1 := fun s : Ext wp => s.cell (p := ⟨bx, ox + p * 4 + 1, none⟩) r1
          have y0 := fun s : Ext wp => s.cell (p := ⟨ge, 0, none⟩) f0
          have y1 := fun s : Ext wp => s.cell (p := ⟨ge, 1, none⟩) f1
          clear hrp r0 r1 f0 f1 e0 e1 e2 e3
          obtain ⟨b1, hb1⟩ : ∃ b, (y.cur.toList == x.cur.toList) = b := ⟨_, rfl⟩
          obtain ⟨b2, hb2⟩ : ∃ b, decide (y.d = x.d) = b := ⟨_, rfl⟩
          have hb3 : (y.d == x.d) = b2 := by rw [← hb2]; rfl
          have HQ : Hid (Pl.rk y = Pl.rk x ↔ b1 = true ∧ b2 = true) := Lib.hid (by
            rw [← hb1, ← hb2, bs_eq, decide_eq_true_iff, decide_eq_true_iff]
            unfold Pl.rk
            rw [Prod.mk.injEq])
          cases b1
          · have HN3 := Lib.hid (HN2.out (fun h => by have := (HQ.out.1 h).1; cases this))
            go_wp2
            refine wp_region_ext (by kernel_rfl) (by kernel_rfl) ?_
            repeat (go_big_quiet_step (fail))
            refine wpQuiet_nil ?_
            rintro _ ⟨s, rfl⟩
            have hV2 := hV.trans (s.h.mono hV.size)
            go_wp2
            go_roundw
            case rel => exact ⟨p + 1, by omega, by go_num, HN3, hV2⟩
            case measure => simp [intOf]; omega
          cases b2
          · have HN3 := Lib.hid (HN2.out (fun h => by have := (HQ.out.1 h).2; cases this))
            go_wp2
            refine wp_region_ext (by kernel_rfl) (by kernel_rfl) ?_
            repeat (go_big_quiet_step (fail))
            refine wpQuiet_nil ?_
            rintro _ ⟨s, rfl⟩
            have hV2 := hV.trans (s.h.mono hV.size)
            go_wp2
            go_roundw
            case rel => exact ⟨p + 1, by omega, by go_num, HN3, hV2⟩
            case measure => simp [intOf]; omega
          · have HF := Lib.hid (HT2.out (HQ.out.2 ⟨rfl, rfl⟩))
            go_wp2
            refine wp_region_ext (by kernel_rfl) (by kernel_rfl) ?_
            repeat (go_big_quiet_step (fail))
            refine wpQuiet_nil ?_
            rintro _ ⟨s, rfl⟩
            have hB9 := hBp.trans (s.h.mono hBp.size)
            go_wp2
            go_ret
            exact ⟨by rw [HF.out]; rfl, hB9⟩
        · obtain rfl : p = k := by omega
          have HN4 := Lib.hid (HNX.out HVX.out (fun z hzl hz => hno.out z hz hzl))
          go_wp2
          go_roundw
          case rel => exact ⟨p + 1, by omega, by go_num, HN4, hBp⟩
          case measure => simp [intOf]; omega
    · obtain rfl : k = m := by omega
      have HT := Lib.hid (HALL.out (fun i hi => (hall.out i hi (by rw [← HM.out]; exact hi)).1) (fun p i hp hi hpi => (hall.out i hi (by rw [← HM.out]; exact hi)).2 p hp hpi))
      go_wp2
      go_ret
      exact ⟨by rw [HT.out]; rfl, hW⟩
end Go.Proofs.YtdihnbjmeppbcaaDoor
