/- SampleCounts. -/
import Derived.Test.YtfkhlglagokodaaA6
import Derived.Test.YtfkhlglagokodaaE1
namespace Go.Proofs.Ytfkhlglagokodaa
open Go.RowKit Go.Shelf

set_option maxRecDepth 100000 in
set_option maxHeartbeats 4000000 in
theorem law_counts (A B : Option Addr) (ps : List Bool) (xs : List Int) (ca cb : Nat) (hn63 : xs.length ≤ maxLen) (hcb : xs.length ≤ cb) (w : World) (hA : Rows boL 1 w A ps) (hB : Rows inL 1 w B xs) :
    Calls Try.prog 10 #[.slice A ps.length ca, .slice B xs.length cb] w fun e w' => e = .returned (.bool true) ∧ Below w.heap.size w w' := by
  have H1 := Lib.hid (Bad_b A B ps xs ca cb _ _ rfl rfl hn63 w hA hB)
  have H2 := Lib.hid (fun w' (hb : Below w.heap.size w w') => rBad_b A B ps xs ca cb _ _ rfl rfl hn63 hcb w' (hA.below hb) (hB.below hb))
  have H7 := Lib.hid awake_any
  generalize (Pl.bad ps xs).1 = v1 at *
  generalize (Pl.bad ps xs).2 = v2 at *
  generalize ps.length = m at *
  generalize xs.length = n at *
  clear hA hB
  go_enter Try.func10, Try.ntmps10
  go_wp2_with fail
  refine H1.out.mono ?_
  rintro e w1 ⟨rfl, hb1⟩
  go_wp2_with fail
  refine (H2.out _ hb1).mono ?_
  rintro e w2 ⟨rfl, hb2⟩
  have hB2 := hb1.trans (hb2.mono hb1.size)
  go_wp2_with fail
  refine (H7.out _).mono ?_
  rintro e w3 ⟨rfl, hb3⟩
  have hB3 := hB2.trans (hb3.mono hB2.size)
  go_wp2
  go_ret
  exact ⟨rfl, hB3⟩
end Go.Proofs.Ytfkhlglagokodaa
