/- same answers true for equal lists. -/
import Derived.Test.YtghbipipehglfaaDoorA7
namespace Go.Proofs.YtghbipipehglfaaDoor
open Go.RowKit Go.Shelf

set_option maxRecDepth 100000 in
set_option maxHeartbeats 1000000 in
/-- equal lists are the same -/
theorem same_yes (A B : Option Addr) (l : List Int) (c d : Nat) (hlen : l.length ≤ 100000) (w : World) (hI : Ints w A l) (hJ : Ints w B l) :
    Calls Tryd.prog 15 #[.slice A l.length c, .slice B l.length d] w fun e w' => e = .returned (.bool true) ∧ Below w.heap.size w w' := by
  have HI := Lib.hid hI
  have HJ := Lib.hid hJ
  clear hI hJ
  go_enter Tryd.func15, Tryd.ntmps15
  go_wp2
  go_loopw [5, 13] (fun _ i wr => ∃ k : Nat, k ≤ l.length ∧ i = .int .i64 k ∧ Below w.heap.size w wr) (fun _ i _ => l.length - (intOf i).toNat)
  case atStart => exact ⟨0, by omega, rfl, Below.refl _ _⟩
  case round =>
    obtain ⟨k, hk, rfl, hB⟩ := hrel
    by_cases hlt : k < l.length
    · obtain ⟨b1, o1, rfl, hc⟩ : ∃ bb off, A = some ⟨bb, off, none⟩ ∧ wr.cell? ⟨bb, off + k, none⟩ = some (.int .i64 (l.getD k 0)) := by
        rcases HI.out with h | ⟨bb, off, he, hb, hc⟩
        · rw [h] at hlt; simp at hlt
        · exact ⟨bb, off, he, (hB.cell (p := ⟨bb, off + k, none⟩) hb).trans (hc k hlt)⟩
      obtain ⟨b2, o2, rfl, hc2⟩ : ∃ bb off, B = some ⟨bb, off, none⟩ ∧ wr.cell? ⟨bb, off + k, none⟩ = some (.int .i64 (l.getD k 0)) := by
        rcases HJ.out with h | ⟨bb, off, he, hb, hc⟩
        · rw [h] at hlt; simp at hlt
        · exact ⟨bb, off, he, (hB.cell (p := ⟨bb, off + k, none⟩) hb).trans (hc k hlt)⟩
      generalize l.getD k 0 = y at *
      have z1 := fun e : Ext wr => e.cell hc
      have z2 := fun e : Ext wr => e.cell hc2
      clear hc hc2
      go_wp2
      refine wp_region_ext (by kernel_rfl) (by kernel_rfl) ?_
      repeat (go_big_quiet_step (fail))
      refine wpQuiet_nil ?_
      rintro _ ⟨e, rfl⟩
      have hB2 := hB.trans (e.h.mono hB.size)
      generalize e.w = W2 at *
      clear z1 z2
      have e1 : (y != y) = false := by simp
      try rw [e1]
      go_wp2
      go_roundw
      case rel => exact ⟨k + 1, by omega, by go_num, hB2⟩
      case measure => simp [intOf]; omega
    · obtain rfl : k = l.length := by omega
      go_wp2
      go_ret
      exact ⟨rfl, hB⟩
end Go.Proofs.YtghbipipehglfaaDoor
