/- The document's Stabbed; whether a list has a number. -/
import Derived.Test.YtghbipipehglfaaA21
namespace Go.Proofs.Ytghbipipehglfaa
open Go.RowKit Go.Shelf

/-- whether the first j sizes cover v -/
def covK (x : Int) (ls : List Int) (v : Int) (j : Nat) : Bool := !(Pl.allK (fun i => !(Pl.inB v (ls.getD i 0) (ls.getD i 0 + x))) j)
theorem covK_zero (x : Int) (ls : List Int) (v : Int) : covK x ls v 0 = false := rfl
theorem covK_yes {x : Int} {ls : List Int} {v : Int} {j : Nat} (h : covK x ls v j = true) : covK x ls v (j + 1) = true := by
  unfold covK at *
  rw [Bool.not_eq_true'] at *
  cases hh : Pl.allK (fun i => !(Pl.inB v (ls.getD i 0) (ls.getD i 0 + x))) (j + 1) with
  | false => rfl
  | true =>
    have : Pl.allK (fun i => !(Pl.inB v (ls.getD i 0) (ls.getD i 0 + x))) j = true := Pl.allK_true.2 fun i hi => Pl.allK_true.1 hh i (by omega)
    rw [this] at h; cases h
theorem covK_no {x : Int} {ls : List Int} {v : Int} {j : Nat} (h : covK x ls v j = false) {y : Int} (hy : ls.getD j 0 = y) : covK x ls v (j + 1) = Pl.inB v y (y + x) := by
  unfold covK at *
  rw [Bool.not_eq_false'] at h
  cases hb : Pl.inB v y (y + x) with
  | false => rw [Pl.allK_succ h (by rw [hy, hb]; rfl)]; rfl
  | true => rw [Pl.allK_false (i := j) (by omega) (by rw [hy, hb]; rfl)]; rfl
theorem covK_all (x : Int) (ls : List Int) (v : Int) : covK x ls v ls.length = Pl.cov x ls v := by
  unfold covK
  cases hh : Pl.allK (fun i => !(Pl.inB v (ls.getD i 0) (ls.getD i 0 + x))) ls.length with
  | true =>
    rw [cov_no fun i hi => by have := Pl.allK_true.1 hh i hi; simpa using this]; rfl
  | false =>
    cases hc : Pl.cov x ls v with
    | true => rfl
    | false =>
      have : Pl.allK (fun i => !(Pl.inB v (ls.getD i 0) (ls.getD i 0 + x))) ls.length = true := Pl.allK_true.2 fun i hi => by
        cases hb : Pl.inB v (ls.getD i 0) (ls.getD i 0 + x) with
        | false => rfl
        | true => rw [cov_yes hi hb] at hc; cases hc
      rw [this] at hh; cases hh

set_option maxRecDepth 100000 in
set_option maxHeartbeats 4000000 in
theorem rstabbed_any (A B : Option Addr) (vs ls : List Int) (c d : Nat) (x : Int) (w : World) (hI : Ints w A vs) (hJ : Ints w B ls) :
    Calls Try.prog 24 #[.slice A vs.length c, .int .i64 x, .slice B ls.length d] w fun e w' => e = .returned (.tuple #[.bool (stbV x vs ls), .int .i64 (Pl.lineE vs x ls)]) ∧ w' = w := by
  have HI := Lib.hid hI
  have HJ := Lib.hid hJ
  clear hI hJ
  rcases Pl.lineE_three vs x ls with h0 | h0 | h0
  rotate_left
  iterate 2
    · have HR := Lib.hid h0
      have hs : stbV x vs ls = false := if_neg (by rw [h0]; decide)
      rw [h0, hs]
      clear h0 hs
      go_enter Try.func24, Try.ntmps24
      go_wp2_with (go_at_call 41; refine (measured_any A B vs ls c d x _ HI.out HJ.out).mono ?_; rw [HR.out]; rintro e w' ⟨rfl, hw'⟩; obtain rfl : w = w' := hw'.symm)
      go_ret2
      exact ⟨rfl, rfl⟩
  · obtain ⟨hl1, hl2, hvs, hls, hx0, hx1⟩ := Pl.lineE_zero h0
    have HLS := Lib.hid hls
    have HVS := Lib.hid hvs
    have H0 := Lib.hid h0
    have HK := Lib.hid (covs_allK x ls vs)
    rw [h0, show stbV x vs ls = Pl.covs x ls vs from if_pos h0]
    clear hvs hls h0
    go_enter Try.func24, Try.ntmps24
    go_wp2_with (go_at_call 41; refine (measured_any A B vs ls c d x _ HI.out HJ.out).mono ?_; rw [H0.out]; rintro e w' ⟨rfl, hw'⟩; obtain rfl : w = w' := hw'.symm)
    go_loop [10, 11, 23] (fun _ _ i => ∃ k : Nat, k ≤ vs.length ∧ i = .int .i64 k ∧ Hid (Pl.allK (fun i => Pl.cov x ls (vs.getD i 0)) k = true)) (fun _ _ i => vs.length - (intOf i).toNat)
    case atStart => exact ⟨0, by omega, rfl, Lib.hid rfl⟩
    case round =>
      obtain ⟨k, hk, rfl, hall⟩ := hrel
      by_cases hlt : k < vs.length
      · obtain ⟨bb, off, rfl, hc⟩ : ∃ bb off, A = some ⟨bb, off, none⟩ ∧ w.cell? ⟨bb, off + k, none⟩ = some (.int .i64 (vs.getD k 0)) := by
          rcases HI.out with h | ⟨bb, off, he, _, hc⟩
          · rw [h] at hlt; simp at hlt
          · exact ⟨bb, off, he, hc k hlt⟩
        obtain ⟨y1, y2⟩ := HVS.out _ (Pl.getD_mem hlt)
        generalize hx : vs.getD k 0 = y at *
        have HX := Lib.hid hx
        clear hx
        go_wp2
        go_loop [11, 13, 29] (fun b _ i => ∃ j : Nat, j ≤ ls.length ∧ i = .int .i64 j ∧ b = .bool (covK x ls y j)) (fun _ _ i => ls.length - (intOf i).toNat)
        case atStart => exact ⟨0, by omega, rfl, rfl⟩
        case round =>
          obtain ⟨j, hj, rfl, rfl⟩ := hrel
          by_cases hjl : j < ls.length
          · obtain ⟨b2, o2, rfl, hc2⟩ : ∃ bb off, B = some ⟨bb, off, none⟩ ∧ w.cell? ⟨bb, off + j, none⟩ = some (.int .i64 (ls.getD j 0)) := by
              rcases HJ.out with h | ⟨bb, off, he, _, hc⟩
              · rw [h] at hjl; simp at hjl
              · exact ⟨bb, off, he, hc j hjl⟩
            obtain ⟨s1, s2⟩ := HLS.out _ (Pl.getD_mem hjl)
            generalize hs : ls.getD j 0 = s at *
            have HYS := Lib.hid (covK_yes (x := x) (ls := ls) (v := y) (j := j))
            have HNO := Lib.hid (fun h => covK_no (x := x) (ls := ls) (v := y) (j := j) h hs)
            have HIB : Hid (Pl.inB y s (s + x) = (decide (s ≤ y) && decide (y ≤ s + x))) := Lib.hid rfl
            clear hs
            generalize covK x ls y j = o at *
            cases o with
            | true =>
              have HN := Lib.hid (HYS.out rfl)
              go_wp2
              go_round
              case rel => exact ⟨j + 1, by omega, by go_num, by rw [HN.out]⟩
              case measure => simp [intOf]; omega
            | false =>
              have HN := Lib.hid ((HNO.out rfl).trans HIB.out)
              by_cases t1 : s ≤ y
              · by_cases t2 : y ≤ s + x
                · have HQ : Hid ((decide (s ≤ y) && decide (y ≤ s + x)) = true) := Lib.hid (by simp [t1, t2])
                  go_wp2
                  go_round
                  case rel => exact ⟨j + 1, by omega, by go_num, by rw [HN.out, HQ.out]⟩
                  case measure => simp [intOf]; omega
                · have HQ : Hid ((decide (s ≤ y) && decide (y ≤ s + x)) = false) := Lib.hid (by simp [t2])
                  have t2' : s + x < y := by omega
                  clear t2
                  go_wp2
                  go_round
                  case rel => exact ⟨j + 1, by omega, by go_num, by rw [HN.out, HQ.out] <;> first | rfl | (simp; omega)⟩
                  case measure => simp [intOf]; omega
              · have HQ : Hid ((decide (s ≤ y) && decide (y ≤ s + x)) = false) := Lib.hid (by simp [t1])
                have t1' : y < s := by omega
                clear t1
                go_wp2
                go_round
                case rel => exact ⟨j + 1, by omega, by go_num, by rw [HN.out, HQ.out] <;> first | rfl | (simp; omega)⟩
                case measure => simp [intOf]; omega
          · obtain rfl : j = ls.length := by omega
            have HCA := Lib.hid (covK_all x ls y)
            generalize covK x ls y ls.length = o at *
            cases o with
            | true =>
              go_wp2
              go_round
              case rel => exact ⟨k + 1, by omega, by go_num, Lib.hid (Pl.allK_succ hall.out (by rw [HX.out]; exact HCA.out.symm))⟩
              case measure => simp [intOf]; omega
            | false =>
              go_wp2
              go_ret2
              exact ⟨by rw [HK.out, Pl.allK_false hlt (by rw [HX.out]; exact HCA.out.symm)]; rfl, rfl⟩
      · obtain rfl : k = vs.length := by omega
        go_wp2
        go_ret2
        exact ⟨by rw [HK.out, hall.out]; rfl, rfl⟩

set_option maxRecDepth 100000 in
set_option maxHeartbeats 1000000 in
theorem has_yes (A : Option Addr) (l : List Int) (c : Nat) (y : Int) (hl : l.length ≤ 100000) (hy : y ∈ l) (w : World) (hI : Ints w A l) :
    Calls Try.prog 25 #[.slice A l.length c, .int .i64 y] w fun e w' => e = .returned (.bool true) ∧ w' = w := by
  have HI := Lib.hid hI
  have HY := Lib.hid hy
  clear hI hy
  go_enter Try.func25, Try.ntmps25
  go_wp2
  go_loop [6, 9] (fun _ i => ∃ k : Nat, k ≤ l.length ∧ i = .int .i64 k ∧ Hid (∀ i, i < k → l.getD i 0 ≠ y)) (fun _ i => l.length - (intOf i).toNat)
  case atStart => exact ⟨0, by omega, rfl, Lib.hid (fun i hi => by omega)⟩
  case round =>
    obtain ⟨k, hk, rfl, hall⟩ := hrel
    by_cases hlt : k < l.length
    · obtain ⟨bb, off, rfl, hc⟩ : ∃ bb off, A = some ⟨bb, off, none⟩ ∧ w.cell? ⟨bb, off + k, none⟩ = some (.int .i64 (l.getD k 0)) := by
        rcases HI.out with h | ⟨bb, off, he, _, hc⟩
        · rw [h] at hlt; simp at hlt
        · exact ⟨bb, off, he, hc k hlt⟩
      generalize hx : l.getD k 0 = z at *
      have HX := Lib.hid hx
      clear hx
      by_cases hz : z = y
      · subst hz
        go_wp2
        go_ret
        exact ⟨rfl, rfl⟩
      · have hz2 : (z == y) = false := by simp [hz]
        have HZ := Lib.hid hz
        clear hz
        go_wp2
        go_round
        case rel => exact ⟨k + 1, by omega, by go_num, Lib.hid (fun i hi => by
          by_cases e : i = k
          · rw [e, HX.out]; exact HZ.out
          · exact hall.out i (by omega))⟩
        case measure => simp [intOf]; omega
    · exfalso
      obtain ⟨i, hi, he⟩ := Pl.mem_getD HY.out
      exact hall.out i (by omega) he
end Go.Proofs.Ytghbipipehglfaa
