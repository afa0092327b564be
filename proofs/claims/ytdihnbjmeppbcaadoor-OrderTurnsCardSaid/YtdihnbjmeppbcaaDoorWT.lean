/- Wide, of a form with many lines. -/
import Derived.Test.YtdihnbjmeppbcaaDoorWC
namespace Go.Proofs.YtdihnbjmeppbcaaDoor
open Go.RowKit Go.Shelf

set_option linter.unusedVariables false in
set_option maxRecDepth 100000 in
set_option maxHeartbeats 4000000 in
theorem wide_big (A : Option Addr) (l : List Pl.Pr) (c : Nat) (B : Option Addr) (r : List Pl.Rt) (j : Nat) (f : Pl.Fm) (w : World) (hP : PrsIn w A l c) (hR : RtsIn w B r j) (hF : FmIn w f) (h70 : 70 < f.ls.length) :
    Calls Tryd.prog 13 #[.agg (mkA A l c B r j), .agg (fmA f)] w fun e w' => e = .returned (.bool true) ∧ Below w.heap.size w w' := by
  obtain ⟨n, hn⟩ : ∃ n, l.length = n := ⟨_, rfl⟩
  obtain ⟨m, hm⟩ : ∃ m, r.length = m := ⟨_, rfl⟩
  obtain ⟨q, hq⟩ : ∃ q, f.ls.length = q := ⟨_, rfl⟩
  have n63 := max63 (Nat.le_trans hP.cap hP.top)
  have m63 := max63 (Nat.le_trans hR.cap hR.top)
  have q63 := max63 (Nat.le_trans hF.cap hF.top)
  have c63 := max63 hF.cus
  have d63 := max63 hF.cur
  have hB0 := (Below.refl w.heap.size w).alloc (Nat.le_refl _) (.cells (mkA A l c B r j) 25)
  have hB := hB0.alloc (by simp) (.cells (fmA f) 28)
  have bM := (Blk.new w 25 (mkA A l c B r j)).alloc (.cells (fmA f) 28)
  have bF := Blk.new (w.alloc (.cells (mkA A l c B r j) 25)) 28 (fmA f)
  simp only [World.size_alloc] at bF
  have HP := Lib.hid (hP.below hB)
  have HR := Lib.hid (hR.below hB)
  have HF := Lib.hid (hF.below hB)
  have x0 := bM.cell 0
  have x1 := bM.cell 1
  have y0 := bF.cell 0
  have y2 := bF.cell 2
  have y3 := bF.cell 3
  unfold mkA at x0 x1 y0 y2 y3 hB bM bF HP HR HF ⊢
  rw [hn, hm] at x0 x1 y0 y2 y3 hB HP HR HF ⊢
  unfold fmA at x0 x1 y0 y2 y3 hB HP HR HF ⊢
  rw [hq] at x0 x1 y0 y2 y3 hB HP HR HF ⊢
  have HN := Lib.hid hn
  have HM := Lib.hid hm
  have HQ := Lib.hid hq
  rw [hn] at n63
  rw [hm] at m63
  rw [hq] at q63
  have HFr := Lib.hid HF.out.rows
  have HFe := Lib.hid HF.out.each
  have e2 : (70 : Int) < (q : Int) := by omega
  clear bM bF hB0 hP hR hF hn hm hq HF
  generalize f.a = fa at *

  by_cases e0 : (70 : Int) < (n : Int)
  · go_enter Tryd.func13, Tryd.ntmps13
    go_wp2
    go_ret
    first | exact ⟨rfl, hB⟩ | exact ⟨_, rfl, hB⟩
  by_cases e1 : (70 : Int) < (m : Int)
  · go_enter Tryd.func13, Tryd.ntmps13
    go_wp2
    go_ret
    first | exact ⟨rfl, hB⟩ | exact ⟨_, rfl, hB⟩
  go_enter Tryd.func13, Tryd.ntmps13
  go_wp2
  go_ret
  first | exact ⟨⟨_, rfl⟩, hB⟩ | exact ⟨rfl, hB⟩
end Go.Proofs.YtdihnbjmeppbcaaDoor
