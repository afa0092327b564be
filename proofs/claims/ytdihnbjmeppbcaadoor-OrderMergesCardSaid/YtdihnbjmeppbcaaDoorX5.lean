/- SameForm, of two forms that are the same. -/
import Derived.Test.YtdihnbjmeppbcaaDoorX4
namespace Go.Proofs.YtdihnbjmeppbcaaDoor
open Go.RowKit Go.Shelf

theorem ln_self (r : Pl.Ln) (w : World) : (Op.equalIn 10000 55 (.agg (lnA r)) (.agg (lnA r))).run Tryd.prog w = .ok true w := by
  have u3 := Tryd.underlying3
  have a3 := Tryd.isAgg3
  have q3 := Tryd.sizeOf3
  have u9 := Tryd.underlying9
  have a9 := Tryd.isAgg9
  have q9 := Tryd.sizeOf9
  rw [show (10000 : Nat) = 9999 + 1 from rfl]
  go_simp
theorem ext_range {w0 : World} (s : Ext w0) {b off : Nat} {cs : List Value} (h : w0.rangeAt b off cs) (hb : b < w0.heap.size) : s.w.rangeAt b off cs := rangeAt_below h hb s.h
theorem ln_cells {W : World} {b o : Nat} {r : Pl.Ln} (h : W.rangeAt b o (lnL r)) : W.cell? ⟨b, o, none⟩ = some (.string r.md) ∧ W.cell? ⟨b, o + 1, none⟩ = some (.int .i64 r.col) ∧ W.cell? ⟨b, o + 2, none⟩ = some (.int .i64 r.siz) ∧ W.cell? ⟨b, o + 3, none⟩ = some (.int .i64 r.cnt) :=
  ⟨h 0 _ rfl, h 1 _ rfl, h 2 _ rfl, h 3 _ rfl⟩
set_option maxRecDepth 100000 in
set_option maxHeartbeats 8000000 in
theorem sameform_b (cus : ByteArray) (d : Int) (cur : ByteArray) (ls : List Pl.Ln) (A B : Option Addr) (c e n : Nat) (hn : ls.length = n) (w : World) (hF : FmIn w ⟨cus, d, cur, ls, A, c⟩) (hG : FmIn w ⟨cus, d, cur, ls, B, e⟩) :
    Calls Tryd.prog 34 #[.agg #[.string cus, .int .i64 d, .string cur, .slice A n c], .agg #[.string cus, .int .i64 d, .string cur, .slice B n e]] w fun e w' => e = .returned (.bool true) ∧ Below w.heap.size w w' := by
  have hB := ((Below.refl w.heap.size w).alloc (Nat.le_refl _) (.cells #[.string cus, .int .i64 d, .string cur, .slice A n c] 28)).alloc (by simp) (.cells #[.string cus, .int .i64 d, .string cur, .slice B n e] 28)
  have bF := (Blk.new w 28 #[.string cus, .int .i64 d, .string cur, .slice A n c]).alloc (.cells #[.string cus, .int .i64 d, .string cur, .slice B n e] 28)
  have bG := Blk.new (w.alloc (.cells #[.string cus, .int .i64 d, .string cur, .slice A n c] 28)) 28 #[.string cus, .int .i64 d, .string cur, .slice B n e]
  simp only [World.size_alloc] at bG
  have n63 : n ≤ 9223372036854775807 := by rw [← hn]; exact max63 (Nat.le_trans hF.cap hF.top)
  have HA := Lib.hid (hF.rows.below hB)
  have HBB := Lib.hid (hG.rows.below hB)
  have HN := Lib.hid hn
  have HBF := Lib.hid bF
  have HBG := Lib.hid bG
  have hlF := bF.lt
  have hlG := bG.lt
  have x0 := bF.cell 0
  have x1 := bF.cell 1
  have x2 := bF.cell 2
  have x3 := bF.cell 3
  have y0 := bG.cell 0
  have y1 := bG.cell 1
  have y2 := bG.cell 2
  have y3 := bG.cell 3
  have HB := Lib.hid hB
  clear hF hG hn bF bG hB
  generalize hW0 : (w.alloc (.cells #[.string cus, .int .i64 d, .string cur, .slice A n c] 28)).alloc (.cells #[.string cus, .int .i64 d, .string cur, .slice B n e] 28) = W0 at *
  go_enter Tryd.func34, Tryd.ntmps34
  go_wp2
  clear x0 x1 x2 x3 y0 y1 y2 y3
  go_loopw [5] (fun i wr => ∃ k : Nat, k ≤ n ∧ i = .int .i64 k ∧ Below W0.heap.size W0 wr) (fun i _ => n - (intOf i).toNat)
  case atStart => exact ⟨0, Nat.zero_le _, rfl, Below.refl _ _⟩
  case round =>
    obtain ⟨k, hk, rfl, hW⟩ := hrel
    obtain ⟨wo, rfl⟩ : ∃ wo, wo = wr := ⟨_, rfl⟩
    have bF := HBF.out.below hW hlF
    have bG := HBG.out.below hW hlG
    have p3 := bF.cell 3
    have hlFo := bF.lt
    have hlGo := bG.lt
    by_cases hlt : k < n
    · have hltI : (k : Int) < (n : Int) := by omega
      have hkx : k < ls.length := by rw [HN.out]; exact hlt
      obtain ⟨ba, oa, rfl, hba, hca⟩ := HA.out.open (by show 0 < ls.length; omega)
      obtain ⟨bb, ob, rfl, hbb, hcb⟩ := HBB.out.open (by show 0 < ls.length; omega)
      have rx := row_at hba hca hW hkx
      have ry := row_at hbb hcb hW hkx
      have hbx : ba < wo.heap.size := Nat.lt_of_lt_of_le hba hW.size
      have hby : bb < wo.heap.size := Nat.lt_of_lt_of_le hbb hW.size
      clear hca hcb
      have rx : wo.rangeAt ba (oa + k * 4) (lnL ls[k]) := rx
      have ry : wo.rangeAt bb (ob + k * 4) (lnL ls[k]) := ry
      generalize ls[k] = r at *
      have f3 := fun s : Ext wo => (bF.below s.h hlFo).cell 3
      have g3 := fun s : Ext wo => (bG.below s.h hlGo).cell 3
      have a0 := fun s : Ext wo => (ln_cells (ext_range s rx hbx)).1
      have a1 := fun s : Ext wo => (ln_cells (ext_range s rx hbx)).2.1
      have a2 := fun s : Ext wo => (ln_cells (ext_range s rx hbx)).2.2.1
      have a3 := fun s : Ext wo => (ln_cells (ext_range s rx hbx)).2.2.2
      have b0 := fun s : Ext wo => (ln_cells (ext_range s ry hby)).1
      have b1 := fun s : Ext wo => (ln_cells (ext_range s ry hby)).2.1
      have b2 := fun s : Ext wo => (ln_cells (ext_range s ry hby)).2.2.1
      have b3 := fun s : Ext wo => (ln_cells (ext_range s ry hby)).2.2.2
      have heq := fun w => ln_self r w
      clear rx ry bF bG
      go_wp2
      refine wp_region_ext (by kernel_rfl) (by kernel_rfl) ?_
      repeat (go_big_quiet_step (fail))
      refine wpQuiet_nil ?_
      rintro _ ⟨s, rfl⟩
      go_wp2
      go_roundw
      case rel => exact ⟨k + 1, by omega, by go_num, hW.trans (s.h.mono hW.size)⟩
      case measure => simp [intOf]; omega
    · obtain rfl : k = n := by omega
      have HBo := Lib.hid (HB.out.trans (hW.mono HB.out.size))
      clear bF bG
      go_wp2
      go_ret
      exact ⟨rfl, HBo.out⟩
end Go.Proofs.YtdihnbjmeppbcaaDoor
