/- IsSortedFunc by inOrder; decodedEntry of the program. -/
import Derived.Test.YtalfffkcmddakabJP
import Derived.Test.YtalfffkcmddakabE4
import Derived.Test.YtalfffkcmddakabE7
import Derived.Test.YtalfffkcmddakabZ3
import Derived.Test.YtalfffkcmddakabJQ
import Derived.Deep.RegionHeld
import Derived.Lib.AppendIntMem
namespace Go.Proofs.Ytalfffkcmddakab
open Go.RowKit Go.Shelf

theorem io_b (s t : Pl.En) (v : Int) (hv : Pl.cmpE s t = v) (w : World) : Calls Try.prog 70 #[.agg (enA s), .agg (enA t)] w fun e w' => e = .returned (.int .i64 v) ∧ Below w.heap.size w w' :=
  (io_grow s t w).mono fun e w' ⟨he, q, os, hw⟩ => ⟨by rw [he, hv], by rw [hw]; exact Lib.below_grow _ _ (Nat.le_refl _) _ _⟩
set_option maxRecDepth 100000 in
set_option maxHeartbeats 8000000 in
theorem issorted_b (A : Option Addr) (l : List Pl.En) (c n : Nat) (hn : l.length = n) (hvb : Pl.Vb l) (v : Bool) (hv : decide (Pl.srt l = l) = v) (w : World) (hI : Rows enL 4 w A l) :
    Calls Try.prog 73 #[.slice A n c, .func (.func 70) #[] #[]] w fun e w' => e = .returned (.bool v) ∧ Below w.heap.size w w' := by
  have eg : ∀ args w, (callFunc 70 args).run Try.prog w = .ok (.enter 70 args) w := enters_of Try.func70 (by kernel_rfl) rfl
  have hl : n ≤ 200 := by rw [← hn]; exact hvb.len
  have HV1 : Hid ((∀ i, (hi : i + 1 < l.length) → Pl.lt l[i + 1] l[i] = false) → v = true) := Lib.hid (fun h => by rw [← hv]; simp [(Pl.inO_iff hvb).1 h])
  have HV0 : Hid (∀ i, (hi : i + 1 < l.length) → Pl.lt l[i + 1] l[i] = true → v = false) := Lib.hid (fun i hi h => by
    rw [← hv, decide_eq_false_iff_not]
    intro h2
    have := (Pl.inO_iff hvb).2 h2 i hi
    rw [h] at this
    cases this)
  have HI := Lib.hid hI
  have HN := Lib.hid hn
  clear hvb hv hI
  have kN : IntKind.i64.wrap ((n : Int) - 1) = (n : Int) - 1 := IntWalk.i64_in _ (by omega)
  go_enter Try.func73, Try.ntmps73
  go_wp2
  go_loopw [5] (fun i wr => ∃ k : Nat, k ≤ n ∧ i = .int .i64 ((k : Int) - 1) ∧ Hid (∀ i, (hi : i + 1 < l.length) → k ≤ i + 1 → Pl.lt l[i + 1] l[i] = false) ∧ Hid (Below w.heap.size w wr)) (fun i _ => (intOf i + 1).toNat)
  case atStart => exact ⟨n, Nat.le_refl _, rfl, Lib.hid (fun i hi h => by rw [HN.out] at hi; omega), Lib.hid (Below.refl _ _)⟩
  case round =>
    obtain ⟨k, hk, rfl, HALL, HW⟩ := hrel
    obtain ⟨wo, rfl⟩ : ∃ wo, wo = wr := ⟨_, rfl⟩
    by_cases hlt : 2 ≤ k
    · obtain ⟨q, rfl⟩ : ∃ q, k = q + 2 := ⟨k - 2, by omega⟩
      have e1 : ((q + 2 : Nat) : Int) - 1 = (q : Int) + 1 := by omega
      rw [e1]
      have g1 : (0 : Int) < (q : Int) + 1 := by omega
      have g2 : ((q : Int) + 1).toNat = q + 1 := by omega
      have g3 : IntKind.i64.wrap (q : Int) = (q : Int) := IntWalk.i64_in _ (by omega)
      have g4 : (q : Int) + 1 < (n : Int) := by omega
      have g5 : (q : Int) < (n : Int) := by omega
      have g6 : (0 : Int) ≤ (q : Int) + 1 := by omega
      have g7 : (q : Int) + 1 - 1 = (q : Int) := by omega
      have hq1 : q + 1 < l.length := by rw [HN.out]; omega
      have hq0 : q < l.length := by omega
      obtain ⟨bx, ox, rfl, hbx, hcx⟩ := HI.out.open (by omega)
      have hr1 := row_at hbx hcx HW.out hq1
      have hr0 := row_at hbx hcx HW.out hq0
      have h0 := HV0.out q hq1
      have HIO := Lib.hid (fun W => io_b l[q + 1] l[q] _ rfl W)
      have hcm := Pl.cmpE_lt l[q + 1] l[q]
      have HP : Hid (Pl.lt l[q + 1] l[q] = false → ∀ i, (hi : i + 1 < l.length) → q + 1 ≤ i + 1 → Pl.lt l[i + 1] l[i] = false) := Lib.hid (fun h i hi hqi => by
        by_cases e : i = q
        · subst e; exact h
        · exact HALL.out i hi (by omega))
      generalize l[q + 1] = y at *
      generalize l[q] = x at *
      generalize Pl.cmpE y x = cv at *
      clear hcx
      go_wp2
      refine wp_region_held (S := fun W => W.rangeAt bx (ox + (q + 1) * 4) (enL y) ∧ W.rangeAt bx (ox + q * 4) (enL x)) (by kernel_rfl) ?_
      change wpAnyH _ _ _ _ _ _ _ _ (World.drew _)
      have hS : (fun W : World => W.rangeAt bx (ox + (q + 1) * 4) (enL y) ∧ W.rangeAt bx (ox + q * 4) (enL x)) wo.drew := ⟨hr1, hr0⟩
      have HWd : Hid (Below w.heap.size w wo.drew) := Lib.hid HW.out.drew
      clear hr1 hr0
      generalize wo.drew = W at *
      refine wpAnyH_take (i := 0) (v := ?_) rfl (by kernel_rfl) (by decide +kernel) (by decide +kernel) (fun _ _ _ h => h) (Or.inl ⟨by rfl, ?_⟩) hS ?_
      rotate_left
      · intro w' hS; first | (go_simp; done) | (go_simp; with_reducible rfl)
      refine wpAnyH_take (i := 1) (v := ?_) rfl (by kernel_rfl) (by decide +kernel) (by decide +kernel) (fun _ _ _ h => h) (Or.inl ⟨by rfl, ?_⟩) hS ?_
      rotate_left
      · intro w' hS; first | (go_simp; done) | (go_simp; with_reducible rfl)
      refine wpAnyH_take (i := 2) (v := ?_) rfl (by kernel_rfl) (by decide +kernel) (by decide +kernel) (fun _ _ _ h => h) (Or.inl ⟨by rfl, ?_⟩) hS ?_
      rotate_left
      · intro w' hS; first | (go_simp; done) | (go_simp; with_reducible rfl)
      refine wpAnyH_take (i := 3) (v := ?_) rfl (by kernel_rfl) (by decide +kernel) (by decide +kernel) (fun _ _ _ h => h) (Or.inl ⟨by rfl, ?_⟩) hS ?_
      rotate_left
      · intro w' hS; first | (go_simp; done) | (go_simp; with_reducible rfl)
      refine wpAnyH_take (i := 4) (v := ?_) rfl (by kernel_rfl) (by decide +kernel) (by decide +kernel) (fun _ _ _ h => h) (Or.inl ⟨by rfl, ?_⟩) hS ?_
      rotate_left
      · intro w' hS; have e0 := hS.1; have e1 := hS.2; have c1 := en_cells hS.1; have c2 := en_cells hS.2; obtain ⟨c1, c3, c4, c5⟩ := c1; obtain ⟨c2, c6, c7, c8⟩ := c2; first | (go_simp; done) | (go_simp; with_reducible rfl)
      refine wpAnyH_take (i := 5) (v := ?_) rfl (by kernel_rfl) (by decide +kernel) (by decide +kernel) (fun _ _ _ h => h) (Or.inl ⟨by rfl, ?_⟩) hS ?_
      rotate_left
      · intro w' hS; first | (go_simp; done) | (go_simp; with_reducible rfl)
      refine wpAnyH_take (i := 6) (v := ?_) rfl (by kernel_rfl) (by decide +kernel) (by decide +kernel) (fun _ _ _ h => h) (Or.inl ⟨by rfl, ?_⟩) hS ?_
      rotate_left
      · intro w' hS; first | (go_simp; done) | (go_simp; with_reducible rfl)
      refine wpAnyH_take (i := 7) (v := ?_) rfl (by kernel_rfl) (by decide +kernel) (by decide +kernel) (fun _ _ _ h => h) (Or.inl ⟨by rfl, ?_⟩) hS ?_
      rotate_left
      · intro w' hS; first | (go_simp; done) | (go_simp; with_reducible rfl)
      refine wpAnyH_take (i := 8) (v := ?_) rfl (by kernel_rfl) (by decide +kernel) (by decide +kernel) (fun _ _ _ h => h) (Or.inl ⟨by rfl, ?_⟩) hS ?_
      rotate_left
      · intro w' hS; first | (go_simp; done) | (go_simp; with_reducible rfl)
      refine wpAnyH_take (i := 9) (v := ?_) rfl (by kernel_rfl) (by decide +kernel) (by decide +kernel) (fun _ _ _ h => h) (Or.inl ⟨by rfl, ?_⟩) hS ?_
      rotate_left
      · intro w' hS; have e0 := hS.1; have e1 := hS.2; have c1 := en_cells hS.1; have c2 := en_cells hS.2; obtain ⟨c1, c3, c4, c5⟩ := c1; obtain ⟨c2, c6, c7, c8⟩ := c2; first | (go_simp; done) | (go_simp; with_reducible rfl)
      refine wpAnyH_all (rs := [10]) (by decide +kernel) (by simp) ?_
      intro i0 hi0
      obtain rfl := List.mem_singleton.1 hi0
      refine wpOp_goE rfl rfl (fun K hK => ?_)
      go_simp
      refine (HIO.out _).mono ?_
      rintro e w5 ⟨rfl, hb5⟩
      have HW5 := Lib.hid (HWd.out.trans (hb5.mono HWd.out.size))
      have hS5 : (fun W : World => W.rangeAt bx (ox + (q + 1) * 4) (enL y) ∧ W.rangeAt bx (ox + q * 4) (enL x)) w5 := ⟨rangeAt_below hS.1 (Nat.lt_of_lt_of_le hbx HWd.out.size) hb5, rangeAt_below hS.2 (Nat.lt_of_lt_of_le hbx HWd.out.size) hb5⟩
      refine hK _ _ ⟨hS5, ?_⟩
      clear hK K hb5
      have H0 := Lib.hid h0
      have HCM := Lib.hid hcm
      clear h0 hcm
      refine wpAnyH_take (i := 11) (v := ?_) rfl (by kernel_rfl) (by decide +kernel) (by decide +kernel) (fun _ _ _ h => h) (Or.inl ⟨by rfl, ?_⟩) hS5 ?_
      rotate_left
      · intro w' hS; first | (go_simp; done) | (go_simp; with_reducible rfl)
      refine wpAnyH_done (by decide +kernel) ?_ _
      clear hS hS5
      go_wp2
      · have hc : cv < 0 := by first | assumption | omega
        have HF := Lib.hid (H0.out (HCM.out.1 hc))
        go_ret
        exact ⟨by rw [HF.out]; rfl, HW5.out⟩
      · have hc : ¬ cv < 0 := by first | assumption | omega
        have HQ := Lib.hid (HP.out (by cases h : Pl.lt y x with | false => rfl | true => exact absurd (HCM.out.2 h) hc))
        go_roundw
        case rel => exact ⟨q + 1, by omega, by first | (go_num; done) | (congr 1; omega) | simp, HQ, HW5⟩
        case measure => simp [intOf]; omega
    · have g1 : ¬ (0 : Int) < (k : Int) - 1 := by omega
      have HT := Lib.hid (HV1.out (fun i hi => HALL.out i hi (by omega)))
      go_wp2
      go_ret
      exact ⟨by rw [HT.out]; rfl, HW.out⟩
end Go.Proofs.Ytalfffkcmddakab
