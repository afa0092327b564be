/- OrderSplits. -/
import Derived.Test.YtdihnbjmeppbcaaDoorWB
namespace Go.Proofs.YtdihnbjmeppbcaaDoor
open Go.RowKit Go.Shelf

theorem spV_len (x : Int) (l : List Int) (h : l.length ≤ 110) : (Pl.spV x l).length ≤ 1000 := by
  unfold Pl.spV
  split
  · rw [Pl.tab_len]; omega
  · simp

set_option maxRecDepth 100000 in
set_option maxHeartbeats 4000000 in
theorem law_splits (x : Int) (A : Option Addr) (l : List Int) (c m : Nat) (hm : l.length = m) (hm6 : m ≤ maxLen) (y : Int) (w : World) (hI : Rows inL 1 w A l) :
    Calls Tryd.prog 10 #[.int .i64 x, .slice A m c, .int .i64 y] w fun e w' => e = .returned (.bool true) ∧ Below w.heap.size w w' := by
  have HC := Lib.hid sane_any
  have hm63 : m ≤ 9223372036854775807 := by unfold maxLen at hm6; omega
  by_cases h110 : 110 < m
  · have i1 : (110 : Int) < (m : Int) := by omega
    clear hI hm hm6 h110
    go_enter Tryd.func10, Tryd.ntmps10
    go_wp2_with fail
    refine (HC.out _).mono ?_
    rintro e w2 ⟨rfl, hb2⟩
    go_wp2
    go_ret
    exact ⟨rfl, hb2⟩
  have i1 : ¬ (110 : Int) < (m : Int) := by omega
  have HS := Lib.hid (Split_b x A l c m hm hm6 w hI)
  have HR := Lib.hid (fun w' hb => rSplit_b x A l c m hm hm6 w' (hI.below (W' := w') hb))
  have HD := Lib.hid (Discount_b x y)
  have HE := Lib.hid (rDiscount_b x y)
  have hvl := spV_len x l (by omega)
  have HSM := Lib.hid (fun A B c d w' hA hB => same_eq A B (Pl.spV x l) c d _ rfl hvl w' hA hB)
  have HO1 : Hid (∀ w1 v w2, SpI x l w1 v w2 → ∃ A c, v = .slice A (Pl.spV x l).length c ∧ Rows inL 1 w2 A (Pl.spV x l) ∧ Below w1.heap.size w1 w2) := Lib.hid (fun w1 v w2 h => by
    obtain ⟨A, c, h1, h2, _⟩ := rows_of_owns encIn h.1
    exact ⟨A, c, h1, h2, h.2⟩)
  generalize Pl.spV x l = V at *
  generalize Pl.spE x l = E at *
  generalize Pl.dcV x y = D at *
  generalize Pl.dcE x y = F at *
  clear hI hm hm6 h110
  go_enter Tryd.func10, Tryd.ntmps10
  go_wp2_with fail
  refine HS.out.mono ?_
  rintro e w1 ⟨v1, rfl, hs1⟩
  obtain ⟨A1, c1, rfl, hr1, hb1⟩ := HO1.out _ _ _ hs1
  clear hs1
  go_wp2_with fail
  refine (HR.out _ hb1).mono ?_
  rintro e w2 ⟨v2, rfl, hs2⟩
  obtain ⟨A2, c2, rfl, hr2, hb2⟩ := HO1.out _ _ _ hs2
  have HR1 := Lib.hid (hr1.below hb2)
  have HR2 := Lib.hid hr2
  have hB2 := hb1.trans (hb2.mono hb1.size)
  clear hs2 hr1 hr2 hb1 hb2 HS HR HO1
  go_wp2_with fail
  refine (HD.out _).mono ?_
  rintro e w3 ⟨rfl, hw3⟩
  subst hw3
  go_wp2_with fail
  refine (HE.out _).mono ?_
  rintro e w4 ⟨rfl, hw4⟩
  subst hw4
  go_wp2_with fail
  refine (HSM.out _ _ _ _ _ HR1.out HR2.out).mono ?_
  rintro e w5 ⟨rfl, hb5⟩
  have hB5 := hB2.trans (hb5.mono hB2.size)
  clear hb5 hB2
  go_wp2_with fail
  refine (HC.out _).mono ?_
  rintro e w6 ⟨rfl, hb6⟩
  have hB6 := hB5.trans (hb6.mono hB5.size)
  go_wp2
  go_ret
  exact ⟨rfl, hB6⟩
end Go.Proofs.YtdihnbjmeppbcaaDoor
