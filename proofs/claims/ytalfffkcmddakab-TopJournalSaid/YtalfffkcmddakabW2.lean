/- keeping and takenOver of the sanity checks. -/
import Derived.Test.YtalfffkcmddakabJP
import Derived.Test.YtalfffkcmddakabG2
import Derived.Test.YtalfffkcmddakabE7
import Derived.Test.YtalfffkcmddakabJQ
namespace Go.Proofs.Ytalfffkcmddakab
open Go.RowKit Go.Shelf

abbrev keepL : List Pl.En := [⟨1, 7, 3, 1000⟩, ⟨2, 7, 5, 400⟩]
set_option maxRecDepth 100000 in
set_option maxHeartbeats 2000000 in
theorem keeping_b (w : World) : Calls Try.prog 32 #[] w fun e w' => e = .returned (.bool true) ∧ Below w.heap.size w w' := by
  have hB := (Below.refl w.heap.size w).alloc (Nat.le_refl _) (.cells #[.int .i64 1, .int .i64 7, .int .i64 3, .int .i64 1000, .int .i64 2, .int .i64 7, .int .i64 5, .int .i64 400] 72)
  have hO : (w.alloc (.cells #[.int .i64 1, .int .i64 7, .int .i64 3, .int .i64 1000, .int .i64 2, .int .i64 7, .int .i64 5, .int .i64 400] 72)).ownsRow w.heap.size 72 4 (.slice (some ⟨w.heap.size, 0, none⟩) 2 2) 2 (flt enL keepL) :=
    ⟨rfl, .inr ⟨_, 2, _, rfl, Nat.le_refl _, heap_new w _, Nat.le_refl _, by decide, rfl, rfl⟩⟩
  obtain ⟨A, c, e, hR, _⟩ := rows_own2 (xs := keepL) rfl hO
  obtain ⟨rfl, rfl⟩ : A = some ⟨w.heap.size, 0, none⟩ ∧ c = 2 := by cases e; exact ⟨rfl, rfl⟩
  have H1 := balance2_b (some ⟨w.heap.size, 0, none⟩) keepL 2 2 rfl (by decide) 5 _ hR
  rw [show Pl.baV keepL 5 = 600 by decide, show Pl.baE keepL 5 = 0 by decide] at H1
  have HB := Lib.hid hB
  have H1 := Lib.hid H1
  clear hO hR hB e
  go_enter Try.func32, Try.ntmps32
  go_wp2_with fail
  refine H1.out.mono ?_
  rintro e w1 ⟨rfl, hb1⟩
  have HB1 := Lib.hid (HB.out.trans (hb1.mono HB.out.size))
  clear hb1 H1
  go_wp2
  go_ret
  exact ⟨rfl, HB1.out⟩
end Go.Proofs.Ytalfffkcmddakab
