/- paired, the sanity check of TopPairs. -/
import Derived.Test.YtmjnlmmjfbpogaaV7
import Derived.Test.YtmjnlmmjfbpogaaP15
namespace Go.Proofs.Ytmjnlmmjfbpogaa
open Go.RowKit Go.Shelf

theorem tms_sp (w : World) : Tms (w.alloc (.cells #[.int .i64 1, .int .i64 1, .int .i64 10, .int .i64 1, .int .i64 2, .int .i64 2, .int .i64 10, .int .i64 1] 24)) (some ⟨w.heap.size, 0, none⟩) Pl.sp := by
  refine .inr ⟨w.heap.size, 0, rfl, by simp, fun k hk j v hj => ?_⟩
  rw [(Blk.new w 24 _).cell]
  match k, hk with
  | 0, _ =>
    match j, hj with
    | 0, hj => exact hj
    | 1, hj => exact hj
    | 2, hj => exact hj
    | 3, hj => exact hj
  | 1, _ =>
    match j, hj with
    | 0, hj => exact hj
    | 1, hj => exact hj
    | 2, hj => exact hj
    | 3, hj => exact hj

set_option maxRecDepth 100000 in
set_option maxHeartbeats 4000000 in
theorem paired_any (w : World) : Calls Try.prog 47 #[] w fun e w' => e = .returned (.bool true) ∧ Below w.heap.size w w' := by
  have hl : Pl.sp.length = 2 := rfl
  have HN := Lib.hid (fun (w' : World) A c (hI : Tms w' A Pl.sp) => Most_any A Pl.sp c 2 hl 0 w' hI)
  rw [Pl.sp_len, Pl.sp_c] at HN
  have hB := (Below.refl w.heap.size w).alloc (Nat.le_refl _) (.cells #[.int .i64 1, .int .i64 1, .int .i64 10, .int .i64 1, .int .i64 2, .int .i64 2, .int .i64 10, .int .i64 1] 24)
  have HT := Lib.hid (tms_sp w)
  clear hl
  go_enter Try.func47, Try.ntmps47
  go_wp2_with fail
  refine (HN.out _ _ _ HT.out).mono ?_
  rintro e w2 ⟨rfl, hb2⟩
  have hB2 := hB.trans (hb2.mono hB.size)
  go_wp2
  go_ret
  exact ⟨rfl, hB2⟩
end Go.Proofs.Ytmjnlmmjfbpogaa
