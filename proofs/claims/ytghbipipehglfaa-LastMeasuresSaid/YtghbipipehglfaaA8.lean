/- The document's error of values, a width and a list; equal lists. -/
import Derived.Test.YtghbipipehglfaaA7
namespace Go.Proofs.Ytghbipipehglfaa
open Go.RowKit Go.Shelf

set_option maxRecDepth 100000 in
set_option maxHeartbeats 2000000 in
theorem measured_any (A B : Option Addr) (vs ls : List Int) (c d : Nat) (x : Int) (w : World) (hI : Ints w A vs) (hJ : Ints w B ls) :
    Calls Try.prog 41 #[.slice A vs.length c, .int .i64 x, .slice B ls.length d] w fun e w' => e = .returned (.int .i64 (Pl.lineE vs x ls)) ∧ w' = w := by
  have HI := Lib.hid hI
  have HJ := Lib.hid hJ
  clear hI hJ
  by_cases hv : 200 < vs.length
  · rw [Pl.lineE_limit (.inl hv)]
    go_enter Try.func41, Try.ntmps41
    go_wp2
    go_ret
    exact ⟨rfl, rfl⟩
  · by_cases hl : 200 < ls.length
    · rw [Pl.lineE_limit (.inr hl)]
      go_enter Try.func41, Try.ntmps41
      go_wp2
      go_ret
      exact ⟨rfl, rfl⟩
    · have HN : Hid (¬ (200 < vs.length ∨ 200 < ls.length)) := Lib.hid (by omega)
      have HE : Hid (Pl.lineOk vs x ls = (Pl.allIn vs (-1000000) 1000000 && (Pl.allIn ls (-2000000) 1000000 && Pl.inB x 0 1000000))) := Lib.hid rfl
      have hv' : vs.length ≤ 200 := by omega
      have hl' : ls.length ≤ 200 := by omega
      clear hv hl
      go_enter Try.func41, Try.ntmps41
      go_wp2
      go_loop [8, 21] (fun _ i => ∃ k : Nat, k ≤ vs.length ∧ i = .int .i64 k ∧ Hid (Pl.allK (fun i => Pl.inB (vs.getD i 0) (-1000000) 1000000) k = true)) (fun _ i => vs.length - (intOf i).toNat)
      case atStart => exact ⟨0, by omega, rfl, Lib.hid rfl⟩
      case round =>
        obtain ⟨k, hk, rfl, hall⟩ := hrel
        by_cases hlt : k < vs.length
        · obtain ⟨bb, off, rfl, hc⟩ : ∃ bb off, A = some ⟨bb, off, none⟩ ∧ w.cell? ⟨bb, off + k, none⟩ = some (.int .i64 (vs.getD k 0)) := by
            rcases HI.out with h | ⟨bb, off, he, _, hc⟩
            · rw [h] at hlt; simp at hlt
            · exact ⟨bb, off, he, hc k hlt⟩
          generalize hx : vs.getD k 0 = y at *
          have HX := Lib.hid hx
          clear hx
          by_cases hin : -1000000 ≤ y ∧ y ≤ 1000000
          · obtain ⟨i1, i2⟩ := hin
            go_wp2
            go_round
            case rel => exact ⟨k + 1, by omega, by go_num, Lib.hid (Pl.allK_succ hall.out (by rw [HX.out]; exact Pl.inB_true.2 ⟨i1, i2⟩))⟩
            case measure => simp [intOf]; omega
          · have hE : Pl.lineE vs x ls = 2 := Pl.lineE_arg HN.out (by
              rw [HE.out, show Pl.allIn vs (-1000000) 1000000 = false from Pl.allK_false hlt (by rw [HX.out]; exact Pl.inB_false.2 hin)]; rfl)
            have HR := Lib.hid hE
            by_cases h0 : y < -1000000
            · clear hin hE
              go_wp2
              go_ret
              exact ⟨by rw [HR.out]; rfl, rfl⟩
            · have h1 : 1000000 < y := by omega
              clear hin hE
              go_wp2
              go_ret
              exact ⟨by rw [HR.out]; rfl, rfl⟩
        · obtain rfl : k = vs.length := by omega
          have hA1 : Hid (Pl.allIn vs (-1000000) 1000000 = true) := Lib.hid hall.out
          go_wp2
          clear hall
          go_loop [10, 34] (fun _ i => ∃ k : Nat, k ≤ ls.length ∧ i = .int .i64 k ∧ Hid (Pl.allK (fun i => Pl.inB (ls.getD i 0) (-2000000) 1000000) k = true)) (fun _ i => ls.length - (intOf i).toNat)
          case atStart => exact ⟨0, by omega, rfl, Lib.hid rfl⟩
          case round =>
            obtain ⟨k, hk, rfl, hall⟩ := hrel
            by_cases hlt : k < ls.length
            · obtain ⟨bb, off, rfl, hc⟩ : ∃ bb off, B = some ⟨bb, off, none⟩ ∧ w.cell? ⟨bb, off + k, none⟩ = some (.int .i64 (ls.getD k 0)) := by
                rcases HJ.out with h | ⟨bb, off, he, _, hc⟩
                · rw [h] at hlt; simp at hlt
                · exact ⟨bb, off, he, hc k hlt⟩
              generalize hx : ls.getD k 0 = y at *
              have HX := Lib.hid hx
              clear hx
              by_cases hin : -2000000 ≤ y ∧ y ≤ 1000000
              · obtain ⟨i1, i2⟩ := hin
                go_wp2
                go_round
                case rel => exact ⟨k + 1, by omega, by go_num, Lib.hid (Pl.allK_succ hall.out (by rw [HX.out]; exact Pl.inB_true.2 ⟨i1, i2⟩))⟩
                case measure => simp [intOf]; omega
              · have hE : Pl.lineE vs x ls = 2 := Pl.lineE_arg HN.out (by
                  rw [HE.out, hA1.out, show Pl.allIn ls (-2000000) 1000000 = false from Pl.allK_false hlt (by rw [HX.out]; exact Pl.inB_false.2 hin)]; rfl)
                have HR := Lib.hid hE
                by_cases h0 : y < -2000000
                · clear hin hE
                  go_wp2
                  go_ret
                  exact ⟨by rw [HR.out]; rfl, rfl⟩
                · have h1 : 1000000 < y := by omega
                  clear hin hE
                  go_wp2
                  go_ret
                  exact ⟨by rw [HR.out]; rfl, rfl⟩
            · obtain rfl : k = ls.length := by omega
              have hA2 : Hid (Pl.allIn ls (-2000000) 1000000 = true) := Lib.hid hall.out
              by_cases hin : 0 ≤ x ∧ x ≤ 1000000
              · have HR := Lib.hid (Pl.lineE_ok HN.out (by rw [HE.out, hA1.out, hA2.out, Pl.inB_true.2 hin]; rfl))
                obtain ⟨i1, i2⟩ := hin
                go_wp2
                go_ret
                exact ⟨by rw [HR.out]; rfl, rfl⟩
              · have HR := Lib.hid (Pl.lineE_arg HN.out (by rw [HE.out, hA1.out, hA2.out, Pl.inB_false.2 hin]; rfl))
                by_cases h0 : x < 0
                · clear hin
                  go_wp2
                  go_ret
                  exact ⟨by rw [HR.out]; rfl, rfl⟩
                · have h1 : 1000000 < x := by omega
                  clear hin
                  go_wp2
                  go_ret
                  exact ⟨by rw [HR.out]; rfl, rfl⟩

set_option maxRecDepth 100000 in
set_option maxHeartbeats 1000000 in
/-- equal lists are the same -/
theorem same_yes (A B : Option Addr) (l : List Int) (c d : Nat) (hlen : l.length ≤ 100000) (w : World) (hI : Ints w A l) (hJ : Ints w B l) :
    Calls Try.prog 15 #[.slice A l.length c, .slice B l.length d] w fun e w' => e = .returned (.bool true) ∧ Below w.heap.size w w' := by
  have HI := Lib.hid hI
  have HJ := Lib.hid hJ
  clear hI hJ
  go_enter Try.func15, Try.ntmps15
  go_wp2
  go_loopw [5, 13] (fun _ i wr => ∃ k : Nat, k ≤ l.length ∧ i = .int .i64 k ∧ Below w.heap.size w wr) (fun _ i _ => l.length - (intOf i).toNat)
  case atStart => exact ⟨0, by omega, rfl, Below.refl _ _⟩
  case round =>
    obtain ⟨k, hk, rfl, hB⟩ := hrel
    by_cases hlt : k < l.length
    · obtain ⟨b1, o1, rfl, hc⟩ : ∃ bb off, A = some ⟨bb, off, none⟩ ∧ wr.cell? ⟨bb, off + k, none⟩ = some (.int .i64 (l.getD k 0)) := by
        rcases HI.out with h | ⟨bb, off, he, hb, hc⟩
        · rw [h] at hlt; simp at hlt
        · exact ⟨bb, off, he, (hB.cell (p := ⟨bb, off + k, none⟩) hb).trans (hc k hlt)⟩
      obtain ⟨b2, o2, rfl, hc2⟩ : ∃ bb off, B = some ⟨bb, off, none⟩ ∧ wr.cell? ⟨bb, off + k, none⟩ = some (.int .i64 (l.getD k 0)) := by
        rcases HJ.out with h | ⟨bb, off, he, hb, hc⟩
        · rw [h] at hlt; simp at hlt
        · exact ⟨bb, off, he, (hB.cell (p := ⟨bb, off + k, none⟩) hb).trans (hc k hlt)⟩
      generalize l.getD k 0 = y at *
      have z1 := fun e : Ext wr => e.cell hc
      have z2 := fun e : Ext wr => e.cell hc2
      clear hc hc2
      go_wp2
      refine wp_region_ext (by kernel_rfl) (by kernel_rfl) ?_
      repeat (go_big_quiet_step (fail))
      refine wpQuiet_nil ?_
      rintro _ ⟨e, rfl⟩
      have hB2 := hB.trans (e.h.mono hB.size)
      generalize e.w = W2 at *
      clear z1 z2
      have e1 : (y != y) = false := by simp
      try rw [e1]
      go_wp2
      go_roundw
      case rel => exact ⟨k + 1, by omega, by go_num, hB2⟩
      case measure => simp [intOf]; omega
    · obtain rfl : k = l.length := by omega
      go_wp2
      go_ret
      exact ⟨rfl, hB⟩
end Go.Proofs.Ytghbipipehglfaa
