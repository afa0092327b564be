/- Same of two equal lists. -/
import Derived.Test.YtalfffkcmddakaaE2
namespace Go.Proofs.Ytalfffkcmddakaa
open Go.RowKit Go.Shelf

theorem en_self (r : Pl.En) (w : World) : (Op.equalIn 10000 24 (.agg (enA r)) (.agg (enA r))).run Try.prog w = .ok true w := by
  have u3 := Try.underlying3
  have a3 := Try.isAgg3
  have q3 := Try.sizeOf3
  rw [show (10000 : Nat) = 9999 + 1 from rfl]
  go_simp
theorem ext_range {w0 : World} (s : Ext w0) {b off : Nat} {cs : List Value} (h : w0.rangeAt b off cs) (hb : b < w0.heap.size) : s.w.rangeAt b off cs := rangeAt_below h hb s.h
theorem en_cells {W : World} {b o : Nat} {r : Pl.En} (h : W.rangeAt b o (enL r)) : W.cell? ⟨b, o, none⟩ = some (.int .i64 r.k) ∧ W.cell? ⟨b, o + 1, none⟩ = some (.int .i64 r.r) ∧ W.cell? ⟨b, o + 2, none⟩ = some (.int .i64 r.d) ∧ W.cell? ⟨b, o + 3, none⟩ = some (.int .i64 r.c) :=
  ⟨h 0 _ rfl, h 1 _ rfl, h 2 _ rfl, h 3 _ rfl⟩
set_option maxRecDepth 100000 in
set_option maxHeartbeats 4000000 in
theorem dSame_eq (A B : Option Addr) (xs : List Pl.En) (c d n : Nat) (hn : xs.length = n) (hn4 : n ≤ 1000) (w : World) (hA : Rows enL 4 w A xs) (hB : Rows enL 4 w B xs) :
    Calls Try.prog 46 #[.slice A n c, .slice B n d] w fun e w' => e = .returned (.bool true) ∧ Below w.heap.size w w' := by
  have HA := Lib.hid hA
  have HBB := Lib.hid hB
  have HN := Lib.hid hn
  clear hA hB hn
  go_enter Try.func46, Try.ntmps46
  go_wp2
  go_loopw [5, 13] (fun _ i wr => ∃ k : Nat, k ≤ n ∧ i = .int .i64 k ∧ Below w.heap.size w wr) (fun _ i _ => n - (intOf i).toNat)
  case atStart => exact ⟨0, Nat.zero_le _, rfl, Below.refl _ _⟩
  case round =>
    obtain ⟨k, hk, rfl, hW⟩ := hrel
    obtain ⟨wo, rfl⟩ : ∃ wo, wo = wr := ⟨_, rfl⟩
    by_cases hlt : k < n
    · have hltI : (k : Int) < (n : Int) := by omega
      have hkx : k < xs.length := by rw [HN.out]; exact hlt
      obtain ⟨ba, oa, rfl, hba, hca⟩ := HA.out.open (by omega)
      obtain ⟨bb, ob, rfl, hbb, hcb⟩ := HBB.out.open (by omega)
      have rx := row_at hba hca hW hkx
      have ry := row_at hbb hcb hW hkx
      have hbx : ba < wo.heap.size := Nat.lt_of_lt_of_le hba hW.size
      have hby : bb < wo.heap.size := Nat.lt_of_lt_of_le hbb hW.size
      clear hca hcb
      generalize xs[k] = r at *
      have a0 := fun s : Ext wo => (en_cells (ext_range s rx hbx)).1
      have a1 := fun s : Ext wo => (en_cells (ext_range s rx hbx)).2.1
      have a2 := fun s : Ext wo => (en_cells (ext_range s rx hbx)).2.2.1
      have a3 := fun s : Ext wo => (en_cells (ext_range s rx hbx)).2.2.2
      have b0 := fun s : Ext wo => (en_cells (ext_range s ry hby)).1
      have b1 := fun s : Ext wo => (en_cells (ext_range s ry hby)).2.1
      have b2 := fun s : Ext wo => (en_cells (ext_range s ry hby)).2.2.1
      have b3 := fun s : Ext wo => (en_cells (ext_range s ry hby)).2.2.2
      have heq := fun w => en_self r w
      clear rx ry
      go_wp2
      refine wp_region_ext (by kernel_rfl) (by kernel_rfl) ?_
      repeat (go_big_quiet_step (fail))
      refine wpQuiet_nil ?_
      rintro _ ⟨s, rfl⟩
      go_wp2
      go_roundw
      case rel => exact ⟨k + 1, by omega, by go_num, hW.trans (s.h.mono hW.size)⟩
      case measure => simp [intOf]; omega
    · obtain rfl : k = n := by omega
      go_wp2
      go_ret
      exact ⟨rfl, hW⟩
set_option maxHeartbeats 400000 in
theorem same_eq (A B : Option Addr) (xs : List Pl.En) (c d n : Nat) (hn : xs.length = n) (hn4 : n ≤ 1000) (w : World) (hA : Rows enL 4 w A xs) (hB : Rows enL 4 w B xs) :
    Calls Try.prog 17 #[.slice A n c, .slice B n d] w fun e w' => e = .returned (.bool true) ∧ Below w.heap.size w w' := by
  have HC := Lib.hid (dSame_eq A B xs c d n hn hn4 w hA hB)
  clear hn hA hB
  go_enter Try.func17, Try.ntmps17
  go_wp2_with fail
  refine HC.out.mono ?_
  rintro e w1 ⟨rfl, hb⟩
  go_wp2
  go_ret
  exact ⟨rfl, hb⟩
end Go.Proofs.Ytalfffkcmddakaa
