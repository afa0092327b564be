/- Stabbed: the program's and the document's. -/
import Derived.Test.YtghbipipehglfaaA8
import Derived.Test.YtghbipipehglfaaP1
namespace Go.Proofs.Ytghbipipehglfaa
open Go.RowKit Go.Shelf

theorem covs_allK (x : Int) (ls vs : List Int) : Pl.covs x ls vs = Pl.allK (fun i => Pl.cov x ls (vs.getD i 0)) vs.length := by
  rw [Bool.eq_iff_iff, Pl.allK_true]
  unfold Pl.covs
  rw [List.all_eq_true]
  constructor
  · intro h i hi
    exact h _ (Pl.getD_mem hi)
  · intro h v hv
    obtain ⟨i, hi, rfl⟩ := Pl.mem_getD hv
    exact h i hi
theorem cov_no {x : Int} {ls : List Int} {v : Int} (h : ∀ i, i < ls.length → Pl.inB v (ls.getD i 0) (ls.getD i 0 + x) = false) : Pl.cov x ls v = false := by
  cases hc : Pl.cov x ls v with
  | false => rfl
  | true =>
    obtain ⟨s, hs, h1, h2⟩ := Pl.cov_iff.1 hc
    obtain ⟨i, hi, rfl⟩ := Pl.mem_getD hs
    exact absurd ⟨h1, h2⟩ (Pl.inB_false.1 (h i hi))
theorem cov_yes {x : Int} {ls : List Int} {v : Int} {i : Nat} (hi : i < ls.length) (h : Pl.inB v (ls.getD i 0) (ls.getD i 0 + x) = true) : Pl.cov x ls v = true :=
  Pl.cov_iff.2 ⟨_, Pl.getD_mem hi, (Pl.inB_true.1 h).1, (Pl.inB_true.1 h).2⟩
/-- what Stabbed gives -/
def stbV (x : Int) (vs ls : List Int) : Bool := if Pl.lineE vs x ls = 0 then Pl.covs x ls vs else false

set_option maxRecDepth 100000 in
set_option maxHeartbeats 1000000 in
theorem stb1_any (s v x : Int) (bv bw : Nat) (h1 : -2000000 ≤ s) (h2 : s ≤ 1000000) (h3 : 0 ≤ x) (h4 : x ≤ 1000000) (w : World) (hv : w.cell? ⟨bv, 0, none⟩ = some (.int .i64 v)) (hw : w.cell? ⟨bw, 0, none⟩ = some (.int .i64 x)) :
    Calls Try.prog 43 #[.int .i64 s, .pointer (some ⟨bv, 0, none⟩), .pointer (some ⟨bw, 0, none⟩)] w fun e w' => e = .returned (.bool (Pl.inB v s (s + x))) ∧ w' = w := by
  go_enter Try.func43, Try.ntmps43
  go_wp2_with (go_at_call 34; refine (within_any _ _ _ _).mono ?_; rintro e w' ⟨rfl, hw'⟩; obtain rfl : w = w' := hw'.symm)
  go_ret
  exact ⟨rfl, rfl⟩

set_option maxRecDepth 100000 in
set_option maxHeartbeats 2000000 in
theorem indexf_any (B : Option Addr) (ls : List Int) (d : Nat) (v x : Int) (bv bw : Nat) (hl : ls.length ≤ 200) (hls : ∀ s, s ∈ ls → -2000000 ≤ s ∧ s ≤ 1000000) (h3 : 0 ≤ x) (h4 : x ≤ 1000000) (w : World) (hJ : Ints w B ls) (hv : w.cell? ⟨bv, 0, none⟩ = some (.int .i64 v)) (hw : w.cell? ⟨bw, 0, none⟩ = some (.int .i64 x)) :
    Calls Try.prog 52 #[.slice B ls.length d, .func (.func 43) #[] #[.pointer (some ⟨bv, 0, none⟩), .pointer (some ⟨bw, 0, none⟩)]] w fun e w' => ∃ r : Int, e = .returned (.int .i64 r) ∧ decide (0 ≤ r) = Pl.cov x ls v ∧ w' = w := by
  have HJ := Lib.hid hJ
  have HLS := Lib.hid hls
  clear hJ hls
  go_enter Try.func52, Try.ntmps52
  go_wp2
  go_loop [5, 8] (fun _ i => ∃ k : Nat, k ≤ ls.length ∧ i = .int .i64 k ∧ Hid (∀ i, i < k → Pl.inB v (ls.getD i 0) (ls.getD i 0 + x) = false)) (fun _ i => ls.length - (intOf i).toNat)
  case atStart => exact ⟨0, by omega, rfl, Lib.hid (fun i hi => by omega)⟩
  case round =>
    obtain ⟨k, hk, rfl, hall⟩ := hrel
    by_cases hlt : k < ls.length
    · obtain ⟨bb, off, rfl, hc⟩ : ∃ bb off, B = some ⟨bb, off, none⟩ ∧ w.cell? ⟨bb, off + k, none⟩ = some (.int .i64 (ls.getD k 0)) := by
        rcases HJ.out with h | ⟨bb, off, he, _, hc⟩
        · rw [h] at hlt; simp at hlt
        · exact ⟨bb, off, he, hc k hlt⟩
      obtain ⟨s1, s2⟩ := HLS.out _ (Pl.getD_mem hlt)
      have HY := Lib.hid (cov_yes (x := x) (v := v) hlt)
      generalize hx : ls.getD k 0 = y at *
      have HX := Lib.hid hx
      clear hx
      obtain ⟨b, hb⟩ : ∃ b, Pl.inB v y (y + x) = b := ⟨_, rfl⟩
      have HB := Lib.hid hb
      have hcl := stb1_any y v x bv bw s1 s2 h3 h4 w hv hw
      rw [hb] at hcl
      have HCL := Lib.hid hcl
      clear hb hcl
      cases b with
      | true =>
        go_wp2_with (go_at_call 43; refine HCL.out.mono ?_; rintro e w' ⟨rfl, hw'⟩; obtain rfl : w = w' := hw'.symm)
        go_ret
        exact ⟨_, rfl, by rw [HY.out HB.out]; simp, rfl⟩
      | false =>
        go_wp2_with (go_at_call 43; refine HCL.out.mono ?_; rintro e w' ⟨rfl, hw'⟩; obtain rfl : w = w' := hw'.symm)
        go_round
        case rel => exact ⟨k + 1, by omega, by go_num, Lib.hid (fun i hi => by
          by_cases e : i = k
          · rw [e, HX.out]; exact HB.out
          · exact hall.out i (by omega))⟩
        case measure => simp [intOf]; omega
    · obtain rfl : k = ls.length := by omega
      go_wp2
      go_ret
      exact ⟨_, rfl, by rw [cov_no hall.out]; rfl, rfl⟩

set_option maxRecDepth 100000 in
set_option maxHeartbeats 2000000 in
theorem containsf_any (B : Option Addr) (ls : List Int) (d : Nat) (v x : Int) (bv bw : Nat) (hl : ls.length ≤ 200) (hls : ∀ s, s ∈ ls → -2000000 ≤ s ∧ s ≤ 1000000) (h3 : 0 ≤ x) (h4 : x ≤ 1000000) (w : World) (hJ : Ints w B ls) (hv : w.cell? ⟨bv, 0, none⟩ = some (.int .i64 v)) (hw : w.cell? ⟨bw, 0, none⟩ = some (.int .i64 x)) :
    Calls Try.prog 42 #[.slice B ls.length d, .func (.func 43) #[] #[.pointer (some ⟨bv, 0, none⟩), .pointer (some ⟨bw, 0, none⟩)]] w fun e w' => e = .returned (.bool (Pl.cov x ls v)) ∧ w' = w := by
  have HC := Lib.hid (indexf_any B ls d v x bv bw hl hls h3 h4 w hJ hv hw)
  clear hls hJ hv hw
  generalize Pl.cov x ls v = b at *
  go_enter Try.func42, Try.ntmps42
  go_wp2_with (go_at_call 52; refine HC.out.mono ?_; rintro e w' ⟨r, rfl, hr, hw'⟩; obtain rfl : w = w' := hw'.symm)
  go_ret
  exact ⟨by simp_all, rfl⟩

set_option maxRecDepth 100000 in
set_option maxHeartbeats 4000000 in
theorem stabbed_any (A B : Option Addr) (vs ls : List Int) (c d : Nat) (x : Int) (w : World) (hI : Ints w A vs) (hJ : Ints w B ls) :
    Calls Try.prog 23 #[.slice A vs.length c, .int .i64 x, .slice B ls.length d] w fun e w' => e = .returned (.tuple #[.bool (stbV x vs ls), .int .i64 (Pl.lineE vs x ls)]) ∧ Below w.heap.size w w' := by
  have hB0 : Below w.heap.size w (w.alloc (.cells #[.int .i64 x] 3)) := (Below.refl _ w).alloc (Nat.le_refl _) _
  have HI := Lib.hid (hI.below hB0)
  have HJ := Lib.hid (hJ.below hB0)
  have bX := Blk.new w 3 #[.int .i64 x]
  clear hI hJ
  rcases Pl.lineE_three vs x ls with h0 | h0 | h0
  rotate_left
  iterate 2
    · have HR := Lib.hid h0
      have hs : stbV x vs ls = false := if_neg (by rw [h0]; decide)
      rw [h0, hs]
      clear h0 hs
      go_enter Try.func23, Try.ntmps23
      go_wp2_with (go_at_call 36; refine (checkline_any A B vs ls c d x _ HI.out HJ.out).mono ?_; rw [HR.out]; rintro e w' ⟨rfl, rfl⟩)
      go_ret2
      exact ⟨rfl, hB0⟩
  · obtain ⟨hl1, hl2, hvs, hls, hx0, hx1⟩ := Pl.lineE_zero h0
    have HLS := Lib.hid hls
    have H0 := Lib.hid h0
    have HK := Lib.hid (covs_allK x ls vs)
    rw [h0, show stbV x vs ls = Pl.covs x ls vs from if_pos h0]
    clear hvs hls h0
    go_enter Try.func23, Try.ntmps23
    go_wp2_with (go_at_call 36; refine (checkline_any A B vs ls c d x _ HI.out HJ.out).mono ?_; rw [H0.out]; rintro e w' ⟨rfl, rfl⟩)
    have hX := bX.lt
    have bX0 := Lib.hid bX
    obtain ⟨W0, hW0⟩ : ∃ W0, w.alloc (.cells #[.int .i64 x] 3) = W0 := ⟨_, rfl⟩
    rw [hW0] at HI HJ hB0 hX bX0 ⊢
    clear bX hW0
    go_loopw [20] (fun i wr => ∃ k : Nat, k ≤ vs.length ∧ i = .int .i64 k ∧ Hid (Pl.allK (fun i => Pl.cov x ls (vs.getD i 0)) k = true) ∧ Below W0.heap.size W0 wr) (fun i _ => vs.length - (intOf i).toNat)
    case atStart => exact ⟨0, by omega, rfl, Lib.hid rfl, Below.refl _ _⟩
    case round =>
      obtain ⟨k, hk, rfl, hall, hB⟩ := hrel
      by_cases hlt : k < vs.length
      · obtain ⟨bb, off, rfl, hc⟩ : ∃ bb off, A = some ⟨bb, off, none⟩ ∧ wr.cell? ⟨bb, off + k, none⟩ = some (.int .i64 (vs.getD k 0)) := by
          rcases HI.out.below hB with h | ⟨bb, off, he, _, hc⟩
          · rw [h] at hlt; simp at hlt
          · exact ⟨bb, off, he, hc k hlt⟩
        generalize hx : vs.getD k 0 = y at *
        have HX := Lib.hid hx
        clear hx
        have hB1 := hB.alloc hB.size (.cells #[.int .i64 y] 3)
        have bY := Blk.new wr 3 #[.int .i64 y]
        have hcx := ((bX0.out.below hB hX).alloc (.cells #[.int .i64 y] 3)).cell 0
        obtain ⟨b, hb⟩ : ∃ b, Pl.cov x ls y = b := ⟨_, rfl⟩
        have hcf := containsf_any B ls d y x wr.heap.size w.heap.size hl2 HLS.out hx0 hx1 _ (HJ.out.below hB1) (bY.cell 0) hcx
        rw [hb] at hcf
        have HCF := Lib.hid hcf
        have HB := Lib.hid hb
        clear hcf hb hcx bY
        cases b with
        | true =>
          go_wp2_with (go_at_call 42; refine HCF.out.mono ?_; rintro e w' ⟨rfl, rfl⟩)
          go_roundw
          case rel => exact ⟨k + 1, by omega, by go_num, Lib.hid (Pl.allK_succ hall.out (by rw [HX.out]; exact HB.out)), hB1⟩
          case measure => simp [intOf]; omega
        | false =>
          go_wp2_with (go_at_call 42; refine HCF.out.mono ?_; rintro e w' ⟨rfl, rfl⟩)
          go_ret2
          exact ⟨by rw [HK.out, Pl.allK_false hlt (by rw [HX.out]; exact HB.out)]; rfl, hB0.trans (hB1.mono hB0.size)⟩
      · obtain rfl : k = vs.length := by omega
        go_wp2
        go_ret2
        exact ⟨by rw [HK.out, hall.out]; rfl, hB0.trans (hB.mono hB0.size)⟩
end Go.Proofs.Ytghbipipehglfaa
