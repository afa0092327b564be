/- least, of the document. -/
import Derived.Test.YtmjnlmmjfbpogaaM2
import Derived.Test.YtmjnlmmjfbpogaaP11
namespace Go.Proofs.Ytmjnlmmjfbpogaa
open Go.RowKit Go.Shelf

set_option maxRecDepth 100000 in
set_option maxHeartbeats 16000000 in
theorem least_any (A : Option Addr) (l : List Pl.Tm) (c n : Nat) (hn : l.length = n) (ho : Pl.Ok l) (gb cg : Nat) (G : Nat → Bool) (side col : Int) (w : World) (hI : Tms w A l) (hG : StB w gb n G) :
    Calls Try.prog 76 #[.slice A n c, .slice (some ⟨gb, 0, none⟩) n cg, .int .i64 side, .int .i64 col] w fun e w' => e = .returned (.int .i64 (Pl.hd (Pl.lf l G side col))) ∧ Below w.heap.size w w' := by
  have HI := Lib.hid hI
  have HN := Lib.hid hn
  have HOK := Lib.hid ho
  have HG := Lib.hid hG
  have hl : n ≤ 60 := hn ▸ ho.len
  have H0 : Hid (Pl.Bst l G side col 0 (-1)) := Lib.hid Pl.Bst.start
  have HFIN : Hid (∀ best, Pl.Bst l G side col n best → best = Pl.hd (Pl.lf l G side col)) := Lib.hid (fun best h => Pl.Bst.fin (by rw [hn]; exact h) ho)
  generalize Pl.hd (Pl.lf l G side col) = V at *
  clear hI hn ho hG
  go_enter Try.func76, Try.ntmps76
  go_wp2
  go_loopw [9, 10] (fun b i wr => ∃ k : Nat, ∃ best : Int, k ≤ n ∧ b = .int .i64 best ∧ i = .int .i64 k ∧ Hid (Pl.Bst l G side col k best) ∧ Below w.heap.size w wr) (fun _ i _ => n - (intOf i).toNat)
  case atStart => exact ⟨0, -1, Nat.zero_le _, rfl, rfl, H0, Below.refl _ _⟩
  case round =>
    clear H0
    obtain ⟨k, best, hk, rfl, rfl, hbst, hB⟩ := hrel
    obtain ⟨wo, rfl⟩ : ∃ wo, wo = wr := ⟨_, rfl⟩
    by_cases hlt : k < n
    · have hkI : (k : Int) < (n : Int) := by omega
      have hkl : k < l.length := by rw [HN.out]; exact hlt
      obtain ⟨bz, oz, rfl, hbz, hcz⟩ := tms_open HI.out (by omega)
      have HCZ := Lib.hid hcz
      have hcg := (HG.out.below hB HG.out.lt).cell hlt
      obtain ⟨q0, q1, q2, q3⟩ := tms_cells hbz hcz hB hkl
      obtain ⟨x, hx⟩ : ∃ x, G k = x := ⟨_, rfl⟩
      rw [hx] at hcg
      have HX := Lib.hid hx
      clear hcz hx
      cases x with
      | true =>
        have HNX : Hid (Pl.Bst l G side col (k + 1) best) := Lib.hid (hbst.out.skip (fun h => by have := h.1; rw [HX.out] at this; cases this))
        go_wp2
        go_roundw
        case rel => exact ⟨k + 1, best, by omega, rfl, by go_num, HNX, hB⟩
        case measure => simp [intOf]; omega
      | false =>
        obtain ⟨x1, h1⟩ : ∃ x, decide ((Pl.at' l k).side ≠ side) = x := ⟨_, rfl⟩
        have E1 : ((Pl.at' l k).side != side) = x1 := neB.trans h1
        have H1 := Lib.hid h1
        clear h1
        cases x1 with
        | true =>
          have HNX : Hid (Pl.Bst l G side col (k + 1) best) := Lib.hid (hbst.out.skip (fun h => of_decide_eq_true H1.out h.2.1))
          go_wp2
          go_roundw
          case rel => exact ⟨k + 1, best, by omega, rfl, by go_num, HNX, hB⟩
          case measure => simp [intOf]; omega
        | false =>
          obtain ⟨x2, h2⟩ : ∃ x, decide ((Pl.at' l k).col ≠ col) = x := ⟨_, rfl⟩
          have E2 : ((Pl.at' l k).col != col) = x2 := neB.trans h2
          have H2 := Lib.hid h2
          clear h2
          cases x2 with
          | true =>
            have HNX : Hid (Pl.Bst l G side col (k + 1) best) := Lib.hid (hbst.out.skip (fun h => of_decide_eq_true H2.out h.2.2))
            go_wp2
            go_roundw
            case rel => exact ⟨k + 1, best, by omega, rfl, by go_num, HNX, hB⟩
            case measure => simp [intOf]; omega
          | false =>
            have hok : Pl.okb l G side col k := ⟨HX.out, Decidable.not_not.1 (of_decide_eq_false H1.out), Decidable.not_not.1 (of_decide_eq_false H2.out)⟩
            have HO := Lib.hid hok
            clear hok
            rcases hbst.out.lt with hb | ⟨b, hb, hbk⟩
            · have HNX : Hid (Pl.Bst l G side col (k + 1) k) := Lib.hid (hbst.out.first hb HO.out)
              subst hb
              go_wp2
              refine wp_region_ext (by kernel_rfl) (by kernel_rfl) ?_
              repeat (go_big_quiet_step (fail))
              refine wpQuiet_nil ?_
              rintro _ ⟨s, rfl⟩
              have hB2 := hB.trans (s.h.mono hB.size)
              clear q0 q1 q2 q3 hcg
              go_wp2
              go_roundw
              case rel => exact ⟨k + 1, k, by omega, rfl, by go_num, HNX, hB2⟩
              case measure => simp [intOf]; omega
            · subst hb
              have hbl : b < l.length := by omega
              have hbI : (b : Int) < (n : Int) := by omega
              have hb0 : decide ((b : Int) < 0) = false := by simp
              go_wp2
              have yk0 := fun e : Ext wo => e.cell q0
              have yk2 := fun e : Ext wo => e.cell q2
              have yb0 := fun e : Ext wo => e.cell (tms_cells hbz HCZ.out hB hbl).1
              have yb2 := fun e : Ext wo => e.cell (tms_cells hbz HCZ.out hB hbl).2.2.1
              obtain ⟨z1, f1⟩ : ∃ x, decide ((Pl.at' l k).len < (Pl.at' l b).len) = x := ⟨_, rfl⟩
              obtain ⟨z2, f2⟩ : ∃ x, decide ((Pl.at' l k).len = (Pl.at' l b).len) = x := ⟨_, rfl⟩
              obtain ⟨z3, f3⟩ : ∃ x, decide ((Pl.at' l k).num < (Pl.at' l b).num) = x := ⟨_, rfl⟩
              have F2 : ((Pl.at' l k).len == (Pl.at' l b).len) = z2 := eqB.trans f2
              have HLO : Hid (Pl.Low (Pl.at' l k) (Pl.at' l b) ↔ (z1 = true ∨ z2 = true ∧ z3 = true)) := Lib.hid (by rw [← f1, ← f2, ← f3]; unfold Pl.Low; simp only [decide_eq_true_iff])
              clear q0 q1 q2 q3 hcg f2
              have hc : z1 = true ∨ (z1 = false ∧ z2 = false) ∨ (z1 = false ∧ z2 = true ∧ z3 = false) ∨ (z1 = false ∧ z2 = true ∧ z3 = true) := by cases z1 <;> cases z2 <;> cases z3 <;> simp
              rcases hc with rfl | ⟨rfl, rfl⟩ | ⟨rfl, rfl, rfl⟩ | ⟨rfl, rfl, rfl⟩
              · have HNX : Hid (Pl.Bst l G side col (k + 1) k) := Lib.hid (hbst.out.new (HLO.out.2 (.inl rfl)) HO.out)
                refine wp_region_ext (by kernel_rfl) (by kernel_rfl) ?_
                repeat (go_big_quiet_step (fail))
                refine wpQuiet_nil ?_
                rintro _ ⟨s, rfl⟩
                have hB2 := hB.trans (s.h.mono hB.size)
                clear yk0 yk2 yb0 yb2
                go_wp2
                go_roundw
                case rel => exact ⟨k + 1, k, by omega, rfl, by go_num, HNX, hB2⟩
                case measure => simp [intOf]; omega
              · have HNX : Hid (Pl.Bst l G side col (k + 1) b) := Lib.hid (hbst.out.keep HOK.out (fun h => by rcases HLO.out.1 h with h | ⟨h, _⟩ <;> cases h))
                refine wp_region_ext (by kernel_rfl) (by kernel_rfl) ?_
                repeat (go_big_quiet_step (fail))
                refine wpQuiet_nil ?_
                rintro _ ⟨s, rfl⟩
                have hB2 := hB.trans (s.h.mono hB.size)
                clear yk0 yk2 yb0 yb2
                go_wp2
                go_roundw
                case rel => exact ⟨k + 1, b, by omega, rfl, by go_num, HNX, hB2⟩
                case measure => simp [intOf]; omega
              · have HNX : Hid (Pl.Bst l G side col (k + 1) b) := Lib.hid (hbst.out.keep HOK.out (fun h => by rcases HLO.out.1 h with h | ⟨_, h⟩ <;> cases h))
                refine wp_region_ext (by kernel_rfl) (by kernel_rfl) ?_
                repeat (go_big_quiet_step (fail))
                refine wpQuiet_nil ?_
                rintro _ ⟨s, rfl⟩
                have hB2 := hB.trans (s.h.mono hB.size)
                clear yk0 yk2 yb0 yb2
                go_wp2
                go_roundw
                case rel => exact ⟨k + 1, b, by omega, rfl, by go_num, HNX, hB2⟩
                case measure => simp [intOf]; omega
              · have HNX : Hid (Pl.Bst l G side col (k + 1) k) := Lib.hid (hbst.out.new (HLO.out.2 (.inr ⟨rfl, rfl⟩)) HO.out)
                refine wp_region_ext (by kernel_rfl) (by kernel_rfl) ?_
                repeat (go_big_quiet_step (fail))
                refine wpQuiet_nil ?_
                rintro _ ⟨s, rfl⟩
                have hB2 := hB.trans (s.h.mono hB.size)
                clear yk0 yk2 yb0 yb2
                go_wp2
                go_roundw
                case rel => exact ⟨k + 1, k, by omega, rfl, by go_num, HNX, hB2⟩
                case measure => simp [intOf]; omega
    · obtain rfl : k = n := by omega
      have HF := Lib.hid (HFIN.out best hbst.out)
      go_wp2
      go_ret
      exact ⟨by rw [HF.out]; rfl, hB⟩
end Go.Proofs.Ytmjnlmmjfbpogaa
