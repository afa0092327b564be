/- ValidPrices, ValidForm, of the document. -/
import Derived.Test.YtdihnbjmeppbcaaDoorWH
namespace Go.Proofs.YtdihnbjmeppbcaaDoor
open Go.RowKit Go.Shelf

theorem vp_not {x : Pl.Pr} (h : ¬ Pl.Vp x) : Pl.vp x = false := by rw [← Bool.not_eq_true, Pl.vp_true]; exact h
theorem vl_not {x : Pl.Ln} (h : ¬ Pl.Vl x) : Pl.vl x = false := by rw [← Bool.not_eq_true, Pl.vl_true]; exact h

set_option maxRecDepth 100000 in
set_option maxHeartbeats 16000000 in
theorem rvprices_b (A : Option Addr) (l : List Pl.Pr) (c m : Nat) (hm : l.length = m) (v : Bool) (hv : Pl.vps l = v) (w : World) (hI : PrsIn w A l c) :
    Calls Tryd.prog 16 #[.slice A m c] w fun e w' => e = .returned (.bool v) ∧ Below w.heap.size w w' := by
  have hm6 : m ≤ maxLen := by rw [← hm]; exact Nat.le_trans hI.cap hI.top
  have hm63 := max63 hm6
  have hB0 := Below.refl w.heap.size w
  rw [Pl.vps_eq] at hv
  by_cases h60 : 60 < m
  · have i1 : (60 : Int) < (m : Int) := by omega
    have HF : Hid (v = false) := Lib.hid (by rw [← hv]; exact Pl.vls_long (by omega))
    clear hI hm hm6 h60 hv
    go_enter Tryd.func16, Tryd.ntmps16
    go_wp2
    go_ret
    exact ⟨by rw [HF.out]; rfl, hB0⟩
  have i1 : ¬ (60 : Int) < (m : Int) := by omega
  have HI := Lib.hid hI.rows
  have HEA := Lib.hid hI.each
  have HM := Lib.hid hm
  have HBAD : Hid (∀ (i : Nat) (hi : i < l.length), Pl.vp l[i] = false → v = false) := Lib.hid (fun i hi h => by rw [← hv]; exact Pl.vls_bad hi h)
  have HTWO : Hid (∀ (i k : Nat) (hi : i < l.length) (hk : k < l.length) (_ : k < i), Pl.pk l[k] = Pl.pk l[i] → v = false) := Lib.hid (fun i k hi _ hki h => by rw [← hv]; exact Pl.vls_two hi hki h)
  have HALL : Hid ((∀ (i : Nat) (hi : i < l.length), Pl.vp l[i] = true) → (∀ (k i : Nat) (hk : k < l.length) (hi : i < l.length), k < i → Pl.pk l[k] ≠ Pl.pk l[i]) → v = true) := Lib.hid (fun h1 h2 => by rw [← hv, Pl.vls_true]; exact ⟨by omega, h1, h2⟩)
  have hm60 : m ≤ 60 := by omega
  clear hI hm hm6 h60 hv
  go_enter Tryd.func16, Tryd.ntmps16
  go_wp2
  go_loopw [3] (fun i wr => ∃ k : Nat, k ≤ m ∧ i = .int .i64 k ∧ Hid (∀ (i : Nat) (hi : i < l.length), i < k → Pl.vp l[i] = true ∧ ∀ (p : Nat) (hpl : p < l.length), p < i → Pl.pk l[p] ≠ Pl.pk l[i]) ∧ Below w.heap.size w wr) (fun i _ => m - (intOf i).toNat)
  case atStart => exact ⟨0, Nat.zero_le _, rfl, Lib.hid (fun i _ hi => absurd hi (Nat.not_lt_zero _)), hB0⟩
  case round =>
    obtain ⟨k, hk, rfl, hall, hW⟩ := hrel
    obtain ⟨wo, rfl⟩ : ∃ wo, wo = wr := ⟨_, rfl⟩
    by_cases hlt : k < m
    · have hltI : (k : Int) < (m : Int) := by omega
      have hkx : k < l.length := by rw [HM.out]; exact hlt
      obtain ⟨bx, ox, rfl, hbx, hcx⟩ := HI.out.open (by omega)
      have HCX := Lib.hid hcx
      have hr0 := hcx k hkx
      have hea := HEA.out _ (List.getElem_mem hkx)
      have HBD := Lib.hid (HBAD.out k hkx)
      have HTW : Hid (∀ (p : Nat) (hpl : p < l.length), p < k → Pl.pk l[p] = Pl.pk l[k] → v = false) := Lib.hid (fun p hpl hp h => HTWO.out k p hkx hpl hp h)
      have HNX : Hid (Pl.vp l[k] = true → (∀ (p : Nat) (hpl : p < l.length), p < k → Pl.pk l[p] ≠ Pl.pk l[k]) → ∀ (i : Nat) (hi : i < l.length), i < k + 1 → Pl.vp l[i] = true ∧ ∀ (p : Nat) (hpl : p < l.length), p < i → Pl.pk l[p] ≠ Pl.pk l[i]) := Lib.hid (fun h1 h2 i hi hik => by
        rcases Nat.lt_succ_iff_lt_or_eq.1 hik with h' | h'
        · exact hall.out i hi h'
        · subst h'; exact ⟨h1, h2⟩)
      clear hcx hall
      generalize l[k] = x at *
      obtain ⟨x1, h1⟩ : ∃ y, Pl.wdB x.md = y := ⟨_, rfl⟩
      obtain ⟨x2, h2⟩ : ∃ y, Pl.dy x.d = y := ⟨_, rfl⟩
      obtain ⟨x3, h3⟩ : ∃ y, Pl.vst x.st = y := ⟨_, rfl⟩
      have H1 := Lib.hid (fun w' : World => rword_b x.md _ rfl hea.2.2.2 x1 h1 w')
      have H2 := Lib.hid (fun w' : World => rdy_b x.d x2 h2 w')
      have H3 := Lib.hid (fun w' (hb : Below w.heap.size w w') => rvsteps_b x.a x.st x.k _ rfl (Nat.le_trans hea.2.1 hea.2.2.1) x3 h3 w' (hea.1.below hb))
      have HVX : Hid (Pl.vp x = (x1 && (x2 && x3))) := Lib.hid (Pl.vp_parts x x1 x2 x3 h1 h2 h3)
      have HR0 := Lib.hid hr0
      have q0 : _ = some (Value.string x.md) := (rangeAt_below hr0 hbx hW) 0 _ rfl
      have q1 : _ = some (Value.int .i64 x.d) := (rangeAt_below hr0 hbx hW) 1 _ rfl
      have q2 : _ = some (Value.slice x.a x.st.length x.k) := (rangeAt_below hr0 hbx hW) 2 _ rfl
      rw [Nat.add_zero] at q0
      clear hea h1 h2 h3 hr0
      go_wp2_with fail
      refine (H1.out _).mono ?_
      rintro e w1 ⟨rfl, hw1⟩
      subst hw1
      cases x1
      · have HF := Lib.hid (HBD.out (by rw [HVX.out]; rfl))
        go_wp2
        go_ret
        exact ⟨by rw [HF.out]; rfl, hW⟩
      go_wp2_with fail
      refine (H2.out _).mono ?_
      rintro e w2 ⟨rfl, hw2⟩
      subst hw2
      cases x2
      · have HF := Lib.hid (HBD.out (by rw [HVX.out]; rfl))
        go_wp2
        go_ret
        exact ⟨by rw [HF.out]; rfl, hW⟩
      go_wp2_with fail
      refine (H3.out _ hW).mono ?_
      rintro e w3 ⟨rfl, hb3⟩
      have hW3 := hW.trans (hb3.mono hW.size)
      clear q0 q1 q2 hb3 H1 H2 H3
      cases x3
      · have HF := Lib.hid (HBD.out (by rw [HVX.out]; rfl))
        go_wp2
        go_ret
        exact ⟨by rw [HF.out]; rfl, hW3⟩
      have HVY : Hid (Pl.vp x = true) := Lib.hid (by rw [HVX.out]; rfl)
      clear HVX HBD
      go_wp2
      go_loopw [4] (fun i wr => ∃ p : Nat, p ≤ k ∧ i = .int .i64 p ∧ Hid (∀ (z : Nat) (hz : z < p) (hzl : z < l.length), Pl.pk l[z] ≠ Pl.pk x) ∧ Below w3.heap.size w3 wr) (fun i _ => k - (intOf i).toNat)
      case atStart => exact ⟨0, Nat.zero_le _, rfl, Lib.hid (fun z hz => absurd hz (Nat.not_lt_zero _)), Below.refl _ _⟩
      case round =>
        obtain ⟨p, hp, rfl, hno, hV⟩ := hrel
        obtain ⟨wp, rfl⟩ : ∃ wp, wp = wr := ⟨_, rfl⟩
        have hBp := hW3.trans (hV.mono hW3.size)
        by_cases hpk : p < k
        · have hpI : (p : Int) < (k : Int) := by omega
          have hpx : p < l.length := by omega
          have hpm : (p : Int) < (m : Int) := by omega
          have hrp := row_at hbx HCX.out hBp hpx
          have hrk := rangeAt_below HR0.out hbx hBp
          have HT2 := Lib.hid (HTW.out p hpx hpk)
          have HN2 : Hid (Pl.pk l[p] ≠ Pl.pk x → ∀ (z : Nat) (hz : z < p + 1) (hzl : z < l.length), Pl.pk l[z] ≠ Pl.pk x) := Lib.hid (fun h z hz hzl => by
            rcases Nat.lt_succ_iff_lt_or_eq.1 hz with h' | h'
            · exact hno.out z h' hzl
            · subst h'; exact h)
          clear hno
          generalize l[p] = y at *
          have r0 : _ = some (Value.string y.md) := hrp 0 _ rfl
          have r1 : _ = some (Value.int .i64 y.d) := hrp 1 _ rfl
          have s0 : _ = some (Value.string x.md) := hrk 0 _ rfl
          have s1 : _ = some (Value.int .i64 x.d) := hrk 1 _ rfl
          rw [Nat.add_zero] at r0 s0
          have z0 := fun s : Ext wp => s.cell (p := ⟨bx, ox + p * 3, none⟩) r0
          have z1 := fun s : Ext wp => s.cell (p := ⟨bx, ox + p * 3 + 1, none⟩) r1
          have y0 := fun s : Ext wp => s.cell (p := ⟨bx, ox + k * 3, none⟩) s0
          have y1 := fun s : Ext wp => s.cell (p := ⟨bx, ox + k * 3 + 1, none⟩) s1
          clear hrp hrk r0 r1 s0 s1
          obtain ⟨b1, hb1⟩ : ∃ b, (y.md.toList == x.md.toList) = b := ⟨_, rfl⟩
          obtain ⟨b2, hb2⟩ : ∃ b, decide (y.d = x.d) = b := ⟨_, rfl⟩
          have hb3 : (y.d == x.d) = b2 := by rw [← hb2]; rfl
          have HQ : Hid (Pl.pk y = Pl.pk x ↔ b1 = true ∧ b2 = true) := Lib.hid (by
            rw [← hb1, ← hb2, bs_eq, decide_eq_true_iff, decide_eq_true_iff]
            unfold Pl.pk
            rw [Prod.mk.injEq])
          cases b1
          · have HN3 := Lib.hid (HN2.out (fun h => by have := (HQ.out.1 h).1; cases this))
            go_wp2
            refine wp_region_ext (by kernel_rfl) (by kernel_rfl) ?_
            repeat (go_big_quiet_step (fail))
            refine wpQuiet_nil ?_
            rintro _ ⟨s, rfl⟩
            have hV2 := hV.trans (s.h.mono hV.size)
            go_wp2
            go_roundw
            case rel => exact ⟨p + 1, by omega, by go_num, HN3, hV2⟩
            case measure => simp [intOf]; omega
          cases b2
          · have HN3 := Lib.hid (HN2.out (fun h => by have := (HQ.out.1 h).2; cases this))
            go_wp2
            refine wp_region_ext (by kernel_rfl) (by kernel_rfl) ?_
            repeat (go_big_quiet_step (fail))
            refine wpQuiet_nil ?_
            rintro _ ⟨s, rfl⟩
            have hV2 := hV.trans (s.h.mono hV.size)
            go_wp2
            go_roundw
            case rel => exact ⟨p + 1, by omega, by go_num, HN3, hV2⟩
            case measure => simp [intOf]; omega
          · have HF := Lib.hid (HT2.out (HQ.out.2 ⟨rfl, rfl⟩))
            go_wp2
            refine wp_region_ext (by kernel_rfl) (by kernel_rfl) ?_
            repeat (go_big_quiet_step (fail))
            refine wpQuiet_nil ?_
            rintro _ ⟨s, rfl⟩
            have hB9 := hBp.trans (s.h.mono hBp.size)
            go_wp2
            go_ret
            exact ⟨by rw [HF.out]; rfl, hB9⟩
        · obtain rfl : p = k := by omega
          have HN4 := Lib.hid (HNX.out HVY.out (fun z hzl hz => hno.out z hz hzl))
          go_wp2
          go_roundw
          case rel => exact ⟨p + 1, by omega, by go_num, HN4, hBp⟩
          case measure => simp [intOf]; omega
    · obtain rfl : k = m := by omega
      have HT := Lib.hid (HALL.out (fun i hi => (hall.out i hi (by rw [← HM.out]; exact hi)).1) (fun p i hp hi hpi => (hall.out i hi (by rw [← HM.out]; exact hi)).2 p hp hpi))
      go_wp2
      go_ret
      exact ⟨by rw [HT.out]; rfl, hW⟩
end Go.Proofs.YtdihnbjmeppbcaaDoor
