/- ahead of the document; same, sameRows of two equal lists. -/
import Derived.Test.YtlfbfdhdkccaeaaD2
import Derived.Test.YtlfbfdhdkccaeaaK7
namespace Go.Proofs.Ytlfbfdhdkccaeaa
open Go.RowKit Go.Shelf Go.Sort

set_option maxRecDepth 100000 in
set_option maxHeartbeats 2000000 in
theorem ahead_b (a b : Pl.Bt) (v : Bool) (hv : decide (Pl.Low a b) = v) (w : World) :
    Calls Try.prog 56 #[.agg (btA a), .agg (btA b)] w fun e w' => e = .returned (.bool v) ∧ Below w.heap.size w w' := by
  have hB := ((Below.refl w.heap.size w).alloc (Nat.le_refl _) (.cells (btA a) 25)).alloc (by simp) (.cells (btA b) 25)
  have bA := (Blk.new w 25 (btA a)).alloc (.cells (btA b) 25)
  have bB := Blk.new (w.alloc (.cells (btA a) 25)) 25 (btA b)
  simp only [World.size_alloc] at bB
  have q0 := bA.cell 0
  have q1 := bA.cell 1
  have q2 := bA.cell 2
  have r0 := bB.cell 0
  have r1 := bB.cell 1
  have r2 := bB.cell 2
  have HV : Hid (∀ b', decide (Pl.Low a b) = b' → v = b') := Lib.hid (fun b' h => hv.symm.trans h)
  clear hv bA bB
  by_cases h1 : a.dark = b.dark
  · have g1 : (a.dark == b.dark) = true := by simp [h1]
    have g1' : (a.dark != b.dark) = false := by simp [h1]
    by_cases h2 : a.grain = b.grain
    · have g2 : (a.grain == b.grain) = true := by simp [h2]
      have g2' : (a.grain != b.grain) = false := by simp [h2]
      have HF : Hid (v = decide (a.num < b.num)) := Lib.hid (HV.out _ (decide_eq_decide.2 (by unfold Pl.Low; omega)))
      clear HV h1 h2
      go_enter Try.func56, Try.ntmps56
      go_wp2
      go_ret
      exact ⟨by rw [HF.out]; rfl, hB⟩
    · have g2 : (a.grain == b.grain) = false := by simp [h2]
      have g2' : (a.grain != b.grain) = true := by simp [h2]
      have HF : Hid (v = decide (a.grain < b.grain)) := Lib.hid (HV.out _ (decide_eq_decide.2 (by unfold Pl.Low; omega)))
      clear HV h1 h2
      go_enter Try.func56, Try.ntmps56
      go_wp2
      go_ret
      exact ⟨by rw [HF.out]; rfl, hB⟩
  · have g1 : (a.dark == b.dark) = false := by simp [h1]
    have g1' : (a.dark != b.dark) = true := by simp [h1]
    have HF : Hid (v = decide (a.dark < b.dark)) := Lib.hid (HV.out _ (decide_eq_decide.2 (by unfold Pl.Low; omega)))
    clear HV h1
    go_enter Try.func56, Try.ntmps56
    go_wp2
    go_ret
    exact ⟨by rw [HF.out]; rfl, hB⟩

set_option maxRecDepth 100000 in
set_option maxHeartbeats 2000000 in
theorem same_eq (A B : Option Addr) (xs : List Nat) (c d n : Nat) (hn : xs.length = n) (hn4 : n ≤ 1000) (w : World) (hA : Rows irc 1 w A xs) (hB : Rows irc 1 w B xs) :
    Calls Try.prog 57 #[.slice A n c, .slice B n d] w fun e w' => e = .returned (.bool true) ∧ Below w.heap.size w w' := by
  have HA := Lib.hid hA
  have HBB := Lib.hid hB
  have HN := Lib.hid hn
  clear hA hB hn
  go_enter Try.func57, Try.ntmps57
  go_wp2
  go_loopw [5] (fun i wr => ∃ k : Nat, k ≤ n ∧ i = .int .i64 k ∧ Below w.heap.size w wr) (fun i _ => n - (intOf i).toNat)
  case atStart => exact ⟨0, Nat.zero_le _, rfl, Below.refl _ _⟩
  case round =>
    obtain ⟨k, hk, rfl, hW⟩ := hrel
    obtain ⟨wo, rfl⟩ : ∃ wo, wo = wr := ⟨_, rfl⟩
    by_cases hlt : k < n
    · have hltI : (k : Int) < (n : Int) := by omega
      have hkx : k < xs.length := by rw [HN.out]; exact hlt
      obtain ⟨ba, oa, rfl, hba, hca⟩ := HA.out.open (by omega)
      obtain ⟨bb, ob, rfl, hbb, hcb⟩ := HBB.out.open (by omega)
      have p0 := row_cell (mk := fun x : Nat => Value.int .i64 (x : Int)) hba hca hW hkx
      have p1 := row_cell (mk := fun x : Nat => Value.int .i64 (x : Int)) hbb hcb hW hkx
      clear hca hcb
      generalize xs[k] = x at *
      have y0 := fun s : Ext wo => s.cell (p := ⟨ba, oa + k, none⟩) p0
      have y1 := fun s : Ext wo => s.cell (p := ⟨bb, ob + k, none⟩) p1
      clear p0 p1
      go_wp2
      refine wp_region_ext (by kernel_rfl) (by kernel_rfl) ?_
      repeat (go_big_quiet_step (fail))
      refine wpQuiet_nil ?_
      rintro _ ⟨s, rfl⟩
      go_wp2
      go_roundw
      case rel => exact ⟨k + 1, by omega, by go_num, hW.trans (s.h.mono hW.size)⟩
      case measure => simp [intOf]; omega
    · obtain rfl : k = n := by omega
      go_wp2
      go_ret
      exact ⟨rfl, hW⟩

set_option maxRecDepth 100000 in
set_option maxHeartbeats 4000000 in
theorem sameRows_eq (A B : Option Addr) (rows : List (List Nat)) (c d n : Nat) (hn : rows.length = n) (hn4 : n ≤ 1000) (hr : ∀ k, k < n → (rows.getD k []).length ≤ 1000) (w : World) (hA : RR irc 1 w A rows) (hB : RR irc 1 w B rows) :
    Calls Try.prog 28 #[.slice A n c, .slice B n d] w fun e w' => e = .returned (.bool true) ∧ Below w.heap.size w w' := by
  have HA := Lib.hid (fun (h : 0 < rows.length) => hA.open h)
  have HBB := Lib.hid (fun (h : 0 < rows.length) => hB.open h)
  have HN := Lib.hid hn
  have HR := Lib.hid hr
  clear hA hB hn hr
  go_enter Try.func28, Try.ntmps28
  go_wp2
  go_loopw [5] (fun i wr => ∃ k : Nat, k ≤ n ∧ i = .int .i64 k ∧ Below w.heap.size w wr) (fun i _ => n - (intOf i).toNat)
  case atStart => exact ⟨0, Nat.zero_le _, rfl, Below.refl _ _⟩
  case round =>
    obtain ⟨k, hk, rfl, hW⟩ := hrel
    obtain ⟨wo, rfl⟩ : ∃ wo, wo = wr := ⟨_, rfl⟩
    by_cases hlt : k < n
    · have hltI : (k : Int) < (n : Int) := by omega
      have hkx : k < rows.length := by rw [HN.out]; exact hlt
      obtain ⟨ba, oa, rfl, hba, hca⟩ := HA.out (by omega)
      obtain ⟨bb, ob, rfl, hbb, hcb⟩ := HBB.out (by omega)
      obtain ⟨A1, c1, p0, ra, _⟩ := hca k hkx
      obtain ⟨B1, d1, p1, rb, _⟩ := hcb k hkx
      have y0 := fun s : Ext wo => s.cell (p := ⟨ba, oa + k, none⟩) ((hW.cell (p := ⟨ba, oa + k, none⟩) hba).trans p0)
      have y1 := fun s : Ext wo => s.cell (p := ⟨bb, ob + k, none⟩) ((hW.cell (p := ⟨bb, ob + k, none⟩) hbb).trans p1)
      have HSM := Lib.hid (fun (s : Ext wo) => same_eq A1 B1 (rows.getD k []) c1 d1 _ rfl (HR.out k hlt) s.w (ra.below (hW.trans (s.h.mono hW.size))) (rb.below (hW.trans (s.h.mono hW.size))))
      clear hca hcb p0 p1 ra rb
      generalize (rows.getD k []).length = u at *
      go_wp2
      refine wp_region_ext (by kernel_rfl) (by kernel_rfl) ?_
      repeat (go_big_quiet_step ((go_at_call 57; refine calls_ext (HSM.out _))))
      refine wpQuiet_nil ?_
      rintro _ ⟨s, rfl⟩
      go_wp2
      go_roundw
      case rel => exact ⟨k + 1, by omega, by go_num, hW.trans (s.h.mono hW.size)⟩
      case measure => simp [intOf]; omega
    · obtain rfl : k = n := by omega
      go_wp2
      go_ret
      exact ⟨rfl, hW⟩
end Go.Proofs.Ytlfbfdhdkccaeaa
