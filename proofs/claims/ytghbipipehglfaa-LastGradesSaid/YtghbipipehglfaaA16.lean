/- The document's Grade. -/
import Derived.Test.YtghbipipehglfaaA15
namespace Go.Proofs.Ytghbipipehglfaa
open Go.RowKit Go.Shelf

set_option maxRecDepth 100000 in
set_option maxHeartbeats 4000000 in
theorem rgrade_any (s : Pl.Sz) (st : Nat → Int) (n : Int) (w : World) :
    Calls Try.prog 18 #[.agg (szA s), .agg (a5A st), .int .i64 n] w fun e w' => e = .returned (.tuple #[.agg (szA (Pl.gV s st n)), .int .i64 (Pl.gE s st n)]) ∧ Below w.heap.size w w' := by
  have hB := (((Below.refl w.heap.size w).alloc (Nat.le_refl _) (.cells (szA s) 24)).alloc (by simp) (.cells (a5A st) 22)).alloc (by simp; omega) (.cells (szA Pl.zsz) 24)
  have bS := ((Blk.new w 24 (szA s)).alloc (.cells (a5A st) 22)).alloc (.cells (szA Pl.zsz) 24)
  have bT := (Blk.new (w.alloc (.cells (szA s) 24)) 22 (a5A st)).alloc (.cells (szA Pl.zsz) 24)
  have bR := Blk.new ((w.alloc (.cells (szA s) 24)).alloc (.cells (a5A st) 22)) 24 (szA Pl.zsz)
  simp only [World.size_alloc] at bT bR
  have hS := bS.lt
  have hT := bT.lt
  have hR := bR.lt
  cases hs : Pl.vsz s with
  | false =>
    have HS := Lib.hid hs
    have HE := Lib.hid (Pl.gE_size (st := st) (n := n) hs)
    clear hs
    go_enter Try.func18, Try.ntmps18
    go_wp2_with (first | refine ld_size (by assumption) rfl _ rfl rfl ?_ | (go_at_call 35; refine (rvsize_b s false HS.out _).mono ?_; rintro e w1 ⟨rfl, hb1⟩; have hB1 := hB.trans (hb1.mono hB.size); have bR1 := bR.below hb1 hR) | (refine st_size (s := Pl.zsz) bR1 rfl rfl _ _ rfl rfl rfl ?_; intro w2 bR2 hO))
    exact bodyPost_ret (v := .tuple #[.agg (szA Pl.zsz), .int .i64 31]) (results_cell_tmp (q := 7) rfl _ _ _ _ _ _ _ rfl bR2 Try.underlying24 rfl info24) rfl ⟨grade_err HE.out (by decide), hB1.trans (hO.below (by omega))⟩
  | true =>
    cases hn : Pl.inB n (-20) 20 with
    | false =>
      have HS := Lib.hid hs
      have HN := Lib.hid hn
      have HE := Lib.hid (Pl.gE_arg (st := st) hs (fun h => by rw [h.1] at hn; cases hn))
      clear hs hn
      have hno := Pl.inB_false.1 HN.out
      by_cases hn0 : n < -20
      · clear hno
        go_enter Try.func18, Try.ntmps18
        go_wp2_with (first | refine ld_size (by assumption) rfl _ rfl rfl ?_ | (go_at_call 35; refine (rvsize_b s true HS.out _).mono ?_; rintro e w1 ⟨rfl, hb1⟩; have hB1 := hB.trans (hb1.mono hB.size); have bR1 := bR.below hb1 hR) | (refine st_size (s := Pl.zsz) bR1 rfl rfl _ _ rfl rfl rfl ?_; intro w2 bR2 hO))
        exact bodyPost_ret (v := .tuple #[.agg (szA Pl.zsz), .int .i64 2]) (results_cell_tmp (q := 7) rfl _ _ _ _ _ _ _ rfl bR2 Try.underlying24 rfl info24) rfl ⟨grade_err HE.out (by decide), hB1.trans (hO.below (by omega))⟩
      · have hn1 : 20 < n := by omega
        clear hno
        go_enter Try.func18, Try.ntmps18
        go_wp2_with (first | refine ld_size (by assumption) rfl _ rfl rfl ?_ | (go_at_call 35; refine (rvsize_b s true HS.out _).mono ?_; rintro e w1 ⟨rfl, hb1⟩; have hB1 := hB.trans (hb1.mono hB.size); have bR1 := bR.below hb1 hR) | (refine st_size (s := Pl.zsz) bR1 rfl rfl _ _ rfl rfl rfl ?_; intro w2 bR2 hO))
        exact bodyPost_ret (v := .tuple #[.agg (szA Pl.zsz), .int .i64 2]) (results_cell_tmp (q := 7) rfl _ _ _ _ _ _ _ rfl bR2 Try.underlying24 rfl info24) rfl ⟨grade_err HE.out (by decide), hB1.trans (hO.below (by omega))⟩
    | true =>
      have HS := Lib.hid hs
      have HN := Lib.hid hn
      have HSB := Lib.hid (Pl.vsz_true.1 hs)
      obtain ⟨n1, n2⟩ := Pl.inB_true.1 hn
      clear hs hn
      go_enter Try.func18, Try.ntmps18
      go_wp2_with (first | refine ld_size (by assumption) rfl _ rfl rfl ?_ | (go_at_call 35; refine (rvsize_b s true HS.out _).mono ?_; rintro e w1 ⟨rfl, hb1⟩; have hB1 := hB.trans (hb1.mono hB.size); have bS1 := bS.below hb1 hS; have bT1 := bT.below hb1 hT; have bR1 := bR.below hb1 hR; have q1 := bS1.code; have r1 := bS1.frozen 0; obtain ⟨c1, c2⟩ := HSB.out.2.1; clear hB bS bT bR hS hT hR hb1) | refine ld_five (bT1.far (by simp) _) rfl _ rfl rfl ?_)
      have bS2 := bS1.set_ 0 (.int .i64 (s.code + n))
      rw [← mid_zero s st n, mid_code] at bS2
      have bR2 := bR1.far (p := ⟨w.heap.size, 0, none⟩) (by simp; omega) (.int .i64 (s.code + n))
      have hB2 := hB1.setCell (p := ⟨w.heap.size, 0, none⟩) (by simp) (.int .i64 (s.code + n))
      clear q1 r1 bS1 bT1 bR1 hB1
      go_loopw [8, 9, 27] (fun _ _ i wr => ∃ k : Nat, k ≤ 5 ∧ i = .int .i64 k ∧ Hid (Pl.allK (Pl.stI st) k = true) ∧ Blk wr w.heap.size 24 (szA (mid (s.code + n) s st n k)) ∧ Blk wr (w.heap.size + 1 + 1) 24 (szA Pl.zsz) ∧ Below w.heap.size w wr) (fun _ _ i _ => 5 - (intOf i).toNat)
      case atStart => exact ⟨0, by omega, rfl, Lib.hid rfl, bS2, bR2, hB2⟩
      case round =>
        clear bS2 bR2 hB2
        obtain ⟨k, hk, rfl, hall, bS, bR, hB⟩ := hrel
        by_cases hlt : k < 5
        · have hix := idx5 st hlt
          cases hd : Pl.stI st k with
          | false =>
            have HD := Lib.hid hd
            have HE := Lib.hid (Pl.gE_arg (st := st) (n := n) HS.out (fun h => by rw [Pl.allK_false hlt hd] at h; cases h.2.1))
            have hno := Pl.inB_false.1 hd
            clear hd bS
            by_cases hd0 : st k < -300
            · clear hno
              go_wp2_with (first | (refine st_size (s := Pl.zsz) bR rfl rfl _ _ rfl rfl rfl ?_; intro w2 bR2 hO))
              exact bodyPost_ret (v := .tuple #[.agg (szA Pl.zsz), .int .i64 2]) (results_cell_tmp (q := 7) rfl _ _ _ _ _ _ _ rfl bR2 Try.underlying24 rfl info24) rfl ⟨grade_err HE.out (by decide), hB.trans (hO.below (by omega))⟩
            · have hd1 : 300 < st k := by omega
              clear hno
              go_wp2_with (first | (refine st_size (s := Pl.zsz) bR rfl rfl _ _ rfl rfl rfl ?_; intro w2 bR2 hO))
              exact bodyPost_ret (v := .tuple #[.agg (szA Pl.zsz), .int .i64 2]) (results_cell_tmp (q := 7) rfl _ _ _ _ _ _ _ rfl bR2 Try.underlying24 rfl info24) rfl ⟨grade_err HE.out (by decide), hB.trans (hO.below (by omega))⟩
          | true =>
            obtain ⟨d1, d2⟩ := Pl.inB_true.1 hd
            have HD := Lib.hid hd
            obtain ⟨p1, p2⟩ := mul_bd (a := n) (b := st k) (A := 20) (B := 300) (by omega) (by omega) (by omega) (by omega)
            obtain ⟨a1, a2, a3, _, _⟩ := HSB.out.1 k hlt
            have q1 := bS.fr hlt
            have q2 := bS.up hlt
            rw [mid_fr] at q1
            rw [mid_up] at q2
            have r1 := bS.frozen (1 + k)
            have r2 := bS.frozen (6 + k)
            have HBS := Lib.hid bS
            have hne : ¬ 1 + k = 6 + k := by omega
            clear hd bS
            go_wp2
            have bS2 := (HBS.out.set_ (1 + k) (.int .i64 (s.fr k + n * st k))).set_ (6 + k) (.int .i64 (s.up k + n * st k))
            rw [mid_step _ _ _ _ hlt] at bS2
            have bR2 := (bR.far (p := ⟨w.heap.size, 1 + k, none⟩) (by simp; omega) (.int .i64 (s.fr k + n * st k))).far (p := ⟨w.heap.size, 6 + k, none⟩) (by simp; omega) (.int .i64 (s.up k + n * st k))
            have hB2 := (hB.setCell (p := ⟨w.heap.size, 1 + k, none⟩) (by simp) (.int .i64 (s.fr k + n * st k))).setCell (p := ⟨w.heap.size, 6 + k, none⟩) (by simp) (.int .i64 (s.up k + n * st k))
            go_roundw
            case rel => exact ⟨k + 1, by omega, by go_num, Lib.hid (Pl.allK_succ hall.out HD.out), bS2, bR2, hB2⟩
            case measure => simp [intOf]; omega
        · obtain rfl : k = 5 := by omega
          obtain ⟨b, hb⟩ : ∃ b, Pl.vsz (Pl.grd s st n) = b := ⟨_, rfl⟩
          have HV := Lib.hid hb
          clear hb
          rw [mid_all] at bS
          have hR2 := bR.lt
          have hS2 := bS.lt
          have HALL := Lib.hid hall.out
          clear hall
          cases b with
          | false =>
            have HE := Lib.hid (Pl.gE_arg (st := st) (n := n) HS.out (fun h => by rw [HV.out] at h; cases h.2.2))
            go_wp2_with (first | refine ld_size bS rfl _ rfl rfl ?_ | (go_at_call 35; refine (rvsize_b (Pl.grd s st n) false HV.out _).mono ?_; rintro e w1 ⟨rfl, hb1⟩; have hB3 := hB.trans (hb1.mono hB.size); have bR3 := bR.below hb1 hR2) | (refine st_size (s := Pl.zsz) bR3 rfl rfl _ _ rfl rfl rfl ?_; intro w2 bR4 hO))
            exact bodyPost_ret (v := .tuple #[.agg (szA Pl.zsz), .int .i64 2]) (results_cell_tmp (q := 7) rfl _ _ _ _ _ _ _ rfl bR4 Try.underlying24 rfl info24) rfl ⟨grade_err HE.out (by decide), hB3.trans (hO.below (by omega))⟩
          | true =>
            have HE := Lib.hid (Pl.gE_ok.2 ⟨HS.out, HN.out, HALL.out, HV.out⟩)
            go_wp2_with (first | refine ld_size bS rfl _ rfl rfl ?_ | (go_at_call 35; refine (rvsize_b (Pl.grd s st n) true HV.out _).mono ?_; rintro e w1 ⟨rfl, hb1⟩; have hB3 := hB.trans (hb1.mono hB.size); have bR3 := bR.below hb1 hR2; have bS3 := bS.below hb1 hS2) | refine ld_size bS3 rfl _ rfl rfl ?_ | (refine st_size (s := Pl.grd s st n) bR3 rfl rfl _ _ rfl rfl rfl ?_; intro w2 bR4 hO))
            exact bodyPost_ret (v := .tuple #[.agg (szA (Pl.grd s st n)), .int .i64 0]) (results_cell_tmp (q := 7) rfl _ _ _ _ _ _ _ rfl bR4 Try.underlying24 rfl info24) rfl ⟨grade_ok HE.out, hB3.trans (hO.below (by omega))⟩
end Go.Proofs.Ytghbipipehglfaa
