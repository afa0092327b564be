/- The document's ValidSize; the error of a size and a head. -/
import Derived.Test.YtghbipipehglfaaDoorA1
namespace Go.Proofs.YtghbipipehglfaaDoor
open Go.RowKit Go.Shelf

theorem vsI_five (s : Pl.Sz) (k : Nat) (b1 b2 b3 b4 b5 : Bool) (h1 : decide (s.fr k < 0) = b1) (h2 : decide (s.up k < s.fr k) = b2) (h3 : decide (3000 < s.up k) = b3) (h4 : decide (s.bd k < 0) = b4) (h5 : decide (100 < s.bd k) = b5) :
    Pl.vsI s k = (!b1 && (!b2 && (!b3 && (!b4 && !b5)))) := by
  subst h1 h2 h3 h4 h5
  rw [Bool.eq_iff_iff, Pl.vsI_true]
  simp

set_option maxRecDepth 100000 in
set_option maxHeartbeats 4000000 in
theorem rvsize_b (s : Pl.Sz) (v : Bool) (hv : Pl.vsz s = v) (w : World) :
    Calls Tryd.prog 34 #[.agg (szA s)] w fun e w' => e = .returned (.bool v) ∧ Below w.heap.size w w' := by
  have HV := Lib.hid hv
  clear hv
  have hB0 := (Below.refl w.heap.size w).alloc (Nat.le_refl _) (.cells (szA s) 46)
  have bS := Blk.new w 46 (szA s)
  go_enter Tryd.func34, Tryd.ntmps34
  go_wp2
  go_loopw [3, 4] (fun _ i wr => ∃ k : Nat, k ≤ 5 ∧ i = .int .i64 k ∧ Hid (Pl.allK (Pl.vsI s) k = true) ∧ Blk wr w.heap.size 46 (szA s) ∧ Below w.heap.size w wr) (fun _ i _ => 5 - (intOf i).toNat)
  case atStart => exact ⟨0, by omega, rfl, Lib.hid rfl, bS, hB0⟩
  case round =>
    clear bS hB0
    obtain ⟨k, hk, rfl, hall, bS, hB⟩ := hrel
    by_cases hlt : k < 5
    · have q1 := bS.fr hlt
      have q2 := bS.up hlt
      have q3 := bS.bd hlt
      have z1 := fun e : Ext wr => e.cell q1
      have z2 := fun e : Ext wr => e.cell q2
      have z3 := fun e : Ext wr => e.cell q3
      have hl := bS.lt
      obtain ⟨b1, h1⟩ : ∃ b, decide (s.fr k < 0) = b := ⟨_, rfl⟩
      obtain ⟨b2, h2⟩ : ∃ b, decide (s.up k < s.fr k) = b := ⟨_, rfl⟩
      obtain ⟨b3, h3⟩ : ∃ b, decide (3000 < s.up k) = b := ⟨_, rfl⟩
      obtain ⟨b4, h4⟩ : ∃ b, decide (s.bd k < 0) = b := ⟨_, rfl⟩
      obtain ⟨b5, h5⟩ : ∃ b, decide (100 < s.bd k) = b := ⟨_, rfl⟩
      have HP := Lib.hid (vsI_five s k b1 b2 b3 b4 b5 h1 h2 h3 h4 h5)
      have hc : (b1 = true) ∨ (b1 = false ∧ b2 = true) ∨ (b1 = false ∧ b2 = false ∧ b3 = true) ∨ (b1 = false ∧ b2 = false ∧ b3 = false ∧ b4 = true) ∨ (b1 = false ∧ b2 = false ∧ b3 = false ∧ b4 = false ∧ b5 = true) ∨ (b1 = false ∧ b2 = false ∧ b3 = false ∧ b4 = false ∧ b5 = false) := by
        cases b1 <;> cases b2 <;> cases b3 <;> cases b4 <;> cases b5 <;> simp
      clear q1 q2 q3
      go_wp2
      refine wp_region_ext (by kernel_rfl) (by kernel_rfl) ?_
      rcases hc with rfl | ⟨rfl, rfl⟩ | ⟨rfl, rfl, rfl⟩ | ⟨rfl, rfl, rfl, rfl⟩ | ⟨rfl, rfl, rfl, rfl, rfl⟩ | ⟨rfl, rfl, rfl, rfl, rfl⟩ <;>
      (repeat (go_big_quiet_step (fail))
       refine wpQuiet_nil ?_
       rintro _ ⟨e, rfl⟩
       have hB2 := hB.trans (e.h.mono hB.size)
       have bS2 := bS.below e.h hl
       generalize e.w = W2 at *
       clear z1 z2 z3 e h1 h2 h3 h4 h5
       go_wp2)
      case roundEnd =>
        go_roundw
        case rel => exact ⟨k + 1, by omega, by go_num, Lib.hid (Pl.allK_succ hall.out HP.out), bS2, hB2⟩
        case measure => simp [intOf]; omega
      all_goals
        go_ret
        have hvs : Pl.vsI s k = false := by rw [HP.out]; simp
        have : v = false := by
          rw [← HV.out]; unfold Pl.vsz; rw [Pl.allK_false hlt hvs]; rfl
        exact ⟨by rw [this]; rfl, hB2⟩
    · obtain rfl : k = 5 := by omega
      have q1 := bS.code
      have q2 := bS.tot
      have HX : Hid (v = ((decide (1 ≤ s.code) && decide (s.code ≤ 1000000000)) && (decide (0 ≤ s.tot) && decide (s.tot ≤ 500)))) := Lib.hid (by rw [← HV.out]; unfold Pl.vsz; rw [hall.out]; rfl)
      go_wp2
      all_goals (go_ret; exact ⟨by rw [HX.out]; simp [*]; try omega, hB⟩)

end Go.Proofs.YtghbipipehglfaaDoor
