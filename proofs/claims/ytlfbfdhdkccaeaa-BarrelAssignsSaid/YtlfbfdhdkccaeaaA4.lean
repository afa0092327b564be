/- SameRuns of two equal lists. -/
import Derived.Test.YtlfbfdhdkccaeaaJ3
namespace Go.Proofs.Ytlfbfdhdkccaeaa
open Go.RowKit Go.Shelf Go.Sort

/-- a run equals itself -/
theorem run_eqRn (r : Pl.Rn) (w : World) : (Op.equalIn 10000 66 (.agg (rnA r)) (.agg (rnA r))).run Try.prog w = .ok true w := by
  have u3 := Try.underlying3
  have a3 := Try.isAgg3
  have q3 := Try.sizeOf3
  have u4 := Try.underlying4
  have a4 := Try.isAgg4
  have q4 := Try.sizeOf4
  rw [show (10000 : Nat) = 9999 + 1 from rfl]
  go_simp

set_option maxRecDepth 100000 in
set_option maxHeartbeats 4000000 in
theorem sameRuns_eq (A B : Option Addr) (runs : List (List Pl.Rn)) (c d m : Nat) (hm : runs.length = m) (hm6 : m ≤ maxLen) (w : World) (hA : RR rnL 4 w A runs) (hB : RR rnL 4 w B runs) :
    Calls Try.prog 38 #[.slice A m c, .slice B m d] w fun e w' => e = .returned (.bool true) ∧ Below w.heap.size w w' := by
  have hm63 : m ≤ 9223372036854775807 := hm6
  have HA : Hid (∀ k, k < m → ∃ b off, A = some ⟨b, off, none⟩ ∧ b < w.heap.size ∧ ∃ A' c', w.cell? ⟨b, off + k, none⟩ = some (.slice A' (runs.getD k []).length c') ∧ Rows rnL 4 w A' (runs.getD k []) ∧ (runs.getD k []).length ≤ c' ∧ c' ≤ maxLen) := Lib.hid (fun k hk => rr_rowR hA (by rw [hm]; exact hk))
  have HB : Hid (∀ k, k < m → ∃ b off, B = some ⟨b, off, none⟩ ∧ b < w.heap.size ∧ ∃ A' c', w.cell? ⟨b, off + k, none⟩ = some (.slice A' (runs.getD k []).length c') ∧ Rows rnL 4 w A' (runs.getD k []) ∧ (runs.getD k []).length ≤ c' ∧ c' ≤ maxLen) := Lib.hid (fun k hk => rr_rowR hB (by rw [hm]; exact hk))
  clear hA hB hm hm6
  go_enter Try.func38, Try.ntmps38
  go_wp2
  go_loopw [5, 6] (fun i _ wr => ∃ k : Nat, k ≤ m ∧ i = .int .i64 k ∧ Below w.heap.size w wr) (fun i _ _ => m - (intOf i).toNat)
  case atStart => exact ⟨0, Nat.zero_le _, rfl, Below.refl _ _⟩
  case round =>
    obtain ⟨k, hk, rfl, hW⟩ := hrel
    obtain ⟨wo, rfl⟩ : ∃ wo, wo = wr := ⟨_, rfl⟩
    by_cases hlt : k < m
    · have hltI : (k : Int) < (m : Int) := by omega
      obtain ⟨ba, oa, rfl, hba, A1, c1, p0, ra, l1, m1⟩ := HA.out k hlt
      obtain ⟨bb, ob, rfl, hbb, B1, d1, p1, rb, _, _⟩ := HB.out k hlt
      have y0 := fun s : Ext wo => s.cell (p := ⟨ba, oa + k, none⟩) ((hW.cell (p := ⟨ba, oa + k, none⟩) hba).trans p0)
      have y1 := fun s : Ext wo => s.cell (p := ⟨bb, ob + k, none⟩) ((hW.cell (p := ⟨bb, ob + k, none⟩) hbb).trans p1)
      have HRA := Lib.hid ra
      have HRB := Lib.hid rb
      have HQA := Lib.hid (fun W (hB : Below w.heap.size w W) => (hB.cell (p := ⟨ba, oa + k, none⟩) hba).trans p0)
      have HQB := Lib.hid (fun W (hB : Below w.heap.size w W) => (hB.cell (p := ⟨bb, ob + k, none⟩) hbb).trans p1)
      obtain ⟨row, hrow⟩ : ∃ r, runs.getD k [] = r := ⟨_, rfl⟩
      rw [hrow] at HRA HRB HQA HQB y0 y1 l1
      obtain ⟨u, hu⟩ : ∃ u, row.length = u := ⟨_, rfl⟩
      have HU := Lib.hid hu
      rw [hu] at HQA HQB y0 y1 l1
      have hu63 : u ≤ 9223372036854775807 := Nat.le_trans l1 m1
      clear p0 p1 ra rb hrow hu l1 m1
      go_wp2
      refine wp_region_ext (by kernel_rfl) (by kernel_rfl) ?_
      repeat (go_big_quiet_step (fail))
      refine wpQuiet_nil ?_
      rintro _ ⟨s, rfl⟩
      have HW1 := Lib.hid (hW.trans (s.h.mono hW.size))
      clear y0 y1
      go_wp2
      go_loopw [6] (fun i wr => ∃ j : Nat, j ≤ u ∧ i = .int .i64 j ∧ Below w.heap.size w wr) (fun i _ => u - (intOf i).toNat)
      case atStart => exact ⟨0, Nat.zero_le _, rfl, HW1.out⟩
      case round =>
        clear hW HW1
        obtain ⟨j, hj, rfl, hW⟩ := hrel
        obtain ⟨w4, rfl⟩ : ∃ w4, w4 = wr := ⟨_, rfl⟩
        have q0 := HQA.out w4 hW
        by_cases hltj : j < u
        · have hltjI : (j : Int) < (u : Int) := by omega
          have hjx : j < row.length := by rw [HU.out]; exact hltj
          obtain ⟨bx, ox, rfl, hbx, hcx⟩ := HRA.out.open (by omega)
          obtain ⟨by', oy, rfl, hby, hcy⟩ := HRB.out.open (by omega)
          have rx := rangeAt_below (hcx j hjx) hbx hW
          have ry := rangeAt_below (hcy j hjx) hby hW
          have hbx4 : bx < w4.heap.size := Nat.lt_of_lt_of_le hbx hW.size
          have hby4 : by' < w4.heap.size := Nat.lt_of_lt_of_le hby hW.size
          generalize row[j] = r at *
          have q1 := HQB.out w4 hW
          have e0 := fun s : Ext w4 => s.cell (p := ⟨ba, oa + k, none⟩) q0
          have e1 := fun s : Ext w4 => s.cell (p := ⟨bb, ob + k, none⟩) q1
          have a0 := fun s : Ext w4 => (rn_cells (ext_range s rx hbx4)).1
          have a1 := fun s : Ext w4 => (rn_cells (ext_range s rx hbx4)).2.1
          have a2 := fun s : Ext w4 => (rn_cells (ext_range s rx hbx4)).2.2.1
          have a3 := fun s : Ext w4 => (rn_cells (ext_range s rx hbx4)).2.2.2
          have b0 := fun s : Ext w4 => (rn_cells (ext_range s ry hby4)).1
          have b1 := fun s : Ext w4 => (rn_cells (ext_range s ry hby4)).2.1
          have b2 := fun s : Ext w4 => (rn_cells (ext_range s ry hby4)).2.2.1
          have b3 := fun s : Ext w4 => (rn_cells (ext_range s ry hby4)).2.2.2
          have heq := fun w => run_eqRn r w
          clear hcx hcy q1
          go_wp2
          refine wp_region_ext (by kernel_rfl) (by kernel_rfl) ?_
          repeat (go_big_quiet_step (fail))
          refine wpQuiet_nil ?_
          rintro _ ⟨s, rfl⟩
          go_wp2
          go_roundw
          case rel => exact ⟨j + 1, by omega, by go_num, hW.trans (s.h.mono hW.size)⟩
          case measure => simp [intOf]; omega
        · obtain rfl : j = u := by omega
          go_wp2
          go_roundw
          case rel => exact ⟨k + 1, by omega, by go_num, hW⟩
          case measure => simp [intOf]; omega
    · obtain rfl : k = m := by omega
      go_wp2
      go_ret
      exact ⟨rfl, hW⟩
end Go.Proofs.Ytlfbfdhdkccaeaa
