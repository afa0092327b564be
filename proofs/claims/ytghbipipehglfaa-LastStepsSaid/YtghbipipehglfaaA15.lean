/- Grade: the program's and the document's. -/
import Derived.Test.YtghbipipehglfaaA4
namespace Go.Proofs.Ytghbipipehglfaa
open Go.RowKit Go.Shelf

theorem mul_bd {a b A B : Int} (ha : -A ≤ a) (ha' : a ≤ A) (hb : -B ≤ b) (hb' : b ≤ B) : -(A * B) ≤ a * b ∧ a * b ≤ A * B := by
  have h1 : a.natAbs ≤ A.natAbs := by omega
  have h2 : b.natAbs ≤ B.natAbs := by omega
  have h3 := Nat.mul_le_mul h1 h2
  rw [← Int.natAbs_mul, ← Int.natAbs_mul] at h3
  have hA : 0 ≤ A := by omega
  have hB : 0 ≤ B := by omega
  have := Int.mul_nonneg hA hB
  omega
theorem szA_ext {s t : Pl.Sz} (h1 : s.code = t.code) (h2 : ∀ i, i < 5 → s.fr i = t.fr i) (h3 : ∀ i, i < 5 → s.up i = t.up i) (h4 : ∀ i, i < 5 → s.bd i = t.bd i) (h5 : s.tot = t.tot) : szA s = szA t := by
  simp only [szA, h1, h5, h2 0 (by omega), h2 1 (by omega), h2 2 (by omega), h2 3 (by omega), h2 4 (by omega), h3 0 (by omega), h3 1 (by omega), h3 2 (by omega), h3 3 (by omega), h3 4 (by omega), h4 0 (by omega), h4 1 (by omega), h4 2 (by omega), h4 3 (by omega), h4 4 (by omega)]
theorem szA_fr (s : Pl.Sz) {k : Nat} (hk : k < 5) (v : Int) : (szA s).setIfInBounds (1 + k) (.int .i64 v) = szA { s with fr := fun i => if i = k then v else s.fr i } :=
  five (p := fun k => (szA s).setIfInBounds (1 + k) (.int .i64 v) = szA { s with fr := fun i => if i = k then v else s.fr i }) hk rfl rfl rfl rfl rfl
theorem szA_up (s : Pl.Sz) {k : Nat} (hk : k < 5) (v : Int) : (szA s).setIfInBounds (6 + k) (.int .i64 v) = szA { s with up := fun i => if i = k then v else s.up i } :=
  five (p := fun k => (szA s).setIfInBounds (6 + k) (.int .i64 v) = szA { s with up := fun i => if i = k then v else s.up i }) hk rfl rfl rfl rfl rfl
theorem szA_code (s : Pl.Sz) (v : Int) : (szA s).setIfInBounds 0 (.int .i64 v) = szA { s with code := v } := rfl
/-- the size when k measures have been raised -/
def mid (c : Int) (s : Pl.Sz) (st : Nat → Int) (n : Int) (k : Nat) : Pl.Sz := ⟨c, fun i => if i < k then s.fr i + n * st i else s.fr i, fun i => if i < k then s.up i + n * st i else s.up i, s.bd, s.tot⟩
theorem mid_zero (s : Pl.Sz) (st : Nat → Int) (n : Int) : szA (mid s.code s st n 0) = szA s := rfl
theorem mid_code (c d : Int) (s : Pl.Sz) (st : Nat → Int) (n : Int) (k : Nat) : (szA (mid c s st n k)).setIfInBounds 0 (.int .i64 d) = szA (mid d s st n k) := rfl
theorem mid_fr (c : Int) (s : Pl.Sz) (st : Nat → Int) (n : Int) (k : Nat) : (mid c s st n k).fr k = s.fr k := if_neg (by omega)
theorem mid_up (c : Int) (s : Pl.Sz) (st : Nat → Int) (n : Int) (k : Nat) : (mid c s st n k).up k = s.up k := if_neg (by omega)
theorem mid_step (c : Int) (s : Pl.Sz) (st : Nat → Int) (n : Int) {k : Nat} (hk : k < 5) : ((szA (mid c s st n k)).setIfInBounds (1 + k) (.int .i64 (s.fr k + n * st k))).setIfInBounds (6 + k) (.int .i64 (s.up k + n * st k)) = szA (mid c s st n (k + 1)) := by
  rw [szA_fr _ hk, szA_up _ hk]
  refine szA_ext rfl (fun i _ => ?_) (fun i _ => ?_) (fun _ _ => rfl) rfl
  · show (if i = k then _ else if i < k then _ else _) = if i < k + 1 then _ else _
    by_cases e : i = k
    · rw [if_pos e, if_pos (by omega), e]
    · rw [if_neg e]
      by_cases e2 : i < k
      · rw [if_pos e2, if_pos (by omega)]
      · rw [if_neg e2, if_neg (by omega)]
  · show (if i = k then _ else if i < k then _ else _) = if i < k + 1 then _ else _
    by_cases e : i = k
    · rw [if_pos e, if_pos (by omega), e]
    · rw [if_neg e]
      by_cases e2 : i < k
      · rw [if_pos e2, if_pos (by omega)]
      · rw [if_neg e2, if_neg (by omega)]
theorem mid_all (s : Pl.Sz) (st : Nat → Int) (n : Int) : szA (mid (s.code + n) s st n 5) = szA (Pl.grd s st n) :=
  szA_ext rfl (fun _ hi => if_pos hi) (fun _ hi => if_pos hi) (fun _ _ => rfl) rfl
theorem grade_err {s : Pl.Sz} {st : Nat → Int} {n c : Int} (he : Pl.gE s st n = c) (hc : c ≠ 0) : Ending.returned (.tuple #[.agg (szA Pl.zsz), .int .i64 c]) = Ending.returned (.tuple #[.agg (szA (Pl.gV s st n)), .int .i64 (Pl.gE s st n)]) := by
  rw [Pl.gV_no (by rw [he]; exact hc), he]
theorem grade_ok {s : Pl.Sz} {st : Nat → Int} {n : Int} (he : Pl.gE s st n = 0) : Ending.returned (.tuple #[.agg (szA (Pl.grd s st n)), .int .i64 0]) = Ending.returned (.tuple #[.agg (szA (Pl.gV s st n)), .int .i64 (Pl.gE s st n)]) := by
  rw [Pl.gV_ok he, he]

set_option maxRecDepth 100000 in
set_option maxHeartbeats 4000000 in
theorem dgrade_any (s : Pl.Sz) (st : Nat → Int) (n : Int) (w : World) :
    Calls Try.prog 17 #[.agg (szA s), .agg (a5A st), .int .i64 n] w fun e w' => e = .returned (.tuple #[.agg (szA (Pl.gV s st n)), .int .i64 (Pl.gE s st n)]) ∧ Below w.heap.size w w' := by
  have hB := (((Below.refl w.heap.size w).alloc (Nat.le_refl _) (.cells (szA s) 24)).alloc (by simp) (.cells (a5A st) 22)).alloc (by simp; omega) (.cells (szA Pl.zsz) 24)
  have bS := ((Blk.new w 24 (szA s)).alloc (.cells (a5A st) 22)).alloc (.cells (szA Pl.zsz) 24)
  have bT := (Blk.new (w.alloc (.cells (szA s) 24)) 22 (a5A st)).alloc (.cells (szA Pl.zsz) 24)
  have bR := Blk.new ((w.alloc (.cells (szA s) 24)).alloc (.cells (a5A st) 22)) 24 (szA Pl.zsz)
  simp only [World.size_alloc] at bT bR
  have hS := bS.lt
  have hT := bT.lt
  have hR := bR.lt
  cases hs : Pl.vsz s with
  | false =>
    have HS := Lib.hid hs
    have HE := Lib.hid (Pl.gE_size (st := st) (n := n) hs)
    clear hs
    go_enter Try.func17, Try.ntmps17
    go_wp2_with (first | refine ld_size (by assumption) rfl _ rfl rfl ?_ | (go_at_call 33; refine (vsize_b s false HS.out _).mono ?_; rintro e w1 ⟨rfl, hb1⟩; have hB1 := hB.trans (hb1.mono hB.size); have bR1 := bR.below hb1 hR) | (refine st_size (s := Pl.zsz) bR1 rfl rfl _ _ rfl rfl rfl ?_; intro w2 bR2 hO))
    exact bodyPost_ret (v := .tuple #[.agg (szA Pl.zsz), .int .i64 31]) (results_cell_tmp (q := 7) rfl _ _ _ _ _ _ _ rfl bR2 Try.underlying24 rfl info24) rfl ⟨grade_err HE.out (by decide), hB1.trans (hO.below (by omega))⟩
  | true =>
    cases hn : Pl.inB n (-20) 20 with
    | false =>
      have HS := Lib.hid hs
      have HN := Lib.hid hn
      have HE := Lib.hid (Pl.gE_arg (st := st) hs (fun h => by rw [h.1] at hn; cases hn))
      clear hs hn
      go_enter Try.func17, Try.ntmps17
      go_wp2_with (first | refine ld_size (by assumption) rfl _ rfl rfl ?_ | (go_at_call 33; refine (vsize_b s true HS.out _).mono ?_; rintro e w1 ⟨rfl, hb1⟩; have hB1 := hB.trans (hb1.mono hB.size); have bR1 := bR.below hb1 hR) | (go_at_call 34; refine (within_b _ _ _ false HN.out _).mono ?_; rintro e w' ⟨rfl, rfl⟩) | (refine st_size (s := Pl.zsz) bR1 rfl rfl _ _ rfl rfl rfl ?_; intro w2 bR2 hO))
      exact bodyPost_ret (v := .tuple #[.agg (szA Pl.zsz), .int .i64 2]) (results_cell_tmp (q := 7) rfl _ _ _ _ _ _ _ rfl bR2 Try.underlying24 rfl info24) rfl ⟨grade_err HE.out (by decide), hB1.trans (hO.below (by omega))⟩
    | true =>
      have HS := Lib.hid hs
      have HN := Lib.hid hn
      have HSB := Lib.hid (Pl.vsz_true.1 hs)
      obtain ⟨n1, n2⟩ := Pl.inB_true.1 hn
      clear hs hn
      go_enter Try.func17, Try.ntmps17
      go_wp2_with (first | refine ld_size (by assumption) rfl _ rfl rfl ?_ | (go_at_call 33; refine (vsize_b s true HS.out _).mono ?_; rintro e w1 ⟨rfl, hb1⟩; have hB1 := hB.trans (hb1.mono hB.size); have bS1 := bS.below hb1 hS; have bT1 := bT.below hb1 hT; have bR1 := bR.below hb1 hR; clear hB bS bT bR hS hT hR hb1) | (go_at_call 34; refine (within_b _ _ _ true HN.out _).mono ?_; rintro e w' ⟨rfl, rfl⟩) | refine ld_five (by assumption) rfl _ rfl rfl ?_)
      go_loopw [8, 9, 19] (fun _ _ i wr => ∃ k : Nat, k ≤ 5 ∧ i = .int .i64 k ∧ Hid (Pl.allK (Pl.stI st) k = true) ∧ Blk wr w.heap.size 24 (szA (mid s.code s st n k)) ∧ Blk wr (w.heap.size + 1 + 1) 24 (szA Pl.zsz) ∧ Below w.heap.size w wr) (fun _ _ i _ => 5 - (intOf i).toNat)
      case atStart => exact ⟨0, by omega, rfl, Lib.hid rfl, bS1, bR1, hB1⟩
      case round =>
        clear bS1 bT1 bR1 hB1
        obtain ⟨k, hk, rfl, hall, bS, bR, hB⟩ := hrel
        by_cases hlt : k < 5
        · have hix := idx5 st hlt
          cases hd : Pl.stI st k with
          | false =>
            have HD := Lib.hid hd
            have HE := Lib.hid (Pl.gE_arg (st := st) (n := n) HS.out (fun h => by rw [Pl.allK_false hlt hd] at h; cases h.2.1))
            clear hd bS
            go_wp2_with (first | (go_at_call 34; refine (within_b _ _ _ false HD.out _).mono ?_; rintro e w' ⟨rfl, rfl⟩) | (refine st_size (s := Pl.zsz) bR rfl rfl _ _ rfl rfl rfl ?_; intro w2 bR2 hO))
            exact bodyPost_ret (v := .tuple #[.agg (szA Pl.zsz), .int .i64 2]) (results_cell_tmp (q := 7) rfl _ _ _ _ _ _ _ rfl bR2 Try.underlying24 rfl info24) rfl ⟨grade_err HE.out (by decide), hB.trans (hO.below (by omega))⟩
          | true =>
            obtain ⟨d1, d2⟩ := Pl.inB_true.1 hd
            have HD := Lib.hid hd
            obtain ⟨p1, p2⟩ := mul_bd (a := n) (b := st k) (A := 20) (B := 300) (by omega) (by omega) (by omega) (by omega)
            obtain ⟨a1, a2, a3, _, _⟩ := HSB.out.1 k hlt
            have q1 := bS.fr hlt
            have q2 := bS.up hlt
            rw [mid_fr] at q1
            rw [mid_up] at q2
            have r1 := bS.frozen (1 + k)
            have r2 := bS.frozen (6 + k)
            have HBS := Lib.hid bS
            have hne : ¬ 1 + k = 6 + k := by omega
            clear hd bS
            go_wp2_with (go_at_call 34; refine (within_b _ _ _ true HD.out _).mono ?_; rintro e w' ⟨rfl, rfl⟩)
            have bS2 := (HBS.out.set_ (1 + k) (.int .i64 (s.fr k + n * st k))).set_ (6 + k) (.int .i64 (s.up k + n * st k))
            rw [mid_step _ _ _ _ hlt] at bS2
            have bR2 := (bR.far (p := ⟨w.heap.size, 1 + k, none⟩) (by simp; omega) (.int .i64 (s.fr k + n * st k))).far (p := ⟨w.heap.size, 6 + k, none⟩) (by simp; omega) (.int .i64 (s.up k + n * st k))
            have hB2 := (hB.setCell (p := ⟨w.heap.size, 1 + k, none⟩) (by simp) (.int .i64 (s.fr k + n * st k))).setCell (p := ⟨w.heap.size, 6 + k, none⟩) (by simp) (.int .i64 (s.up k + n * st k))
            go_roundw
            case rel => exact ⟨k + 1, by omega, by go_num, Lib.hid (Pl.allK_succ hall.out HD.out), bS2, bR2, hB2⟩
            case measure => simp [intOf]; omega
        · obtain rfl : k = 5 := by omega
          have q1 : wr.cell? ⟨w.heap.size, 0, none⟩ = some (.int .i64 s.code) := bS.code
          have r1 := bS.frozen 0
          have HBS := Lib.hid bS
          obtain ⟨c1, c2⟩ := HSB.out.2.1
          obtain ⟨b, hb⟩ : ∃ b, Pl.vsz (Pl.grd s st n) = b := ⟨_, rfl⟩
          have HV := Lib.hid hb
          clear hb bS
          have bS2 := HBS.out.set_ 0 (.int .i64 (s.code + n))
          rw [mid_code, mid_all] at bS2
          have bR2 := bR.far (p := ⟨w.heap.size, 0, none⟩) (by simp; omega) (.int .i64 (s.code + n))
          have hB2 := hB.setCell (p := ⟨w.heap.size, 0, none⟩) (by simp) (.int .i64 (s.code + n))
          have hR2 := bR2.lt
          have hS2 := bS2.lt
          have HALL := Lib.hid hall.out
          have HBR := Lib.hid bR2
          clear bR hB hall bR2
          cases b with
          | false =>
            have HE := Lib.hid (Pl.gE_arg (st := st) (n := n) HS.out (fun h => by rw [HV.out] at h; cases h.2.2))
            go_wp2_with (first | refine ld_size bS2 rfl _ rfl rfl ?_ | (go_at_call 33; refine (vsize_b (Pl.grd s st n) false HV.out _).mono ?_; rintro e w1 ⟨rfl, hb1⟩; have hB3 := hB2.trans (hb1.mono hB2.size); have bR3 := HBR.out.below hb1 hR2) | (refine st_size (s := Pl.zsz) bR3 rfl rfl _ _ rfl rfl rfl ?_; intro w2 bR4 hO))
            exact bodyPost_ret (v := .tuple #[.agg (szA Pl.zsz), .int .i64 2]) (results_cell_tmp (q := 7) rfl _ _ _ _ _ _ _ rfl bR4 Try.underlying24 rfl info24) rfl ⟨grade_err HE.out (by decide), hB3.trans (hO.below (by omega))⟩
          | true =>
            have HE := Lib.hid (Pl.gE_ok.2 ⟨HS.out, HN.out, HALL.out, HV.out⟩)
            go_wp2_with (first | refine ld_size bS2 rfl _ rfl rfl ?_ | (go_at_call 33; refine (vsize_b (Pl.grd s st n) true HV.out _).mono ?_; rintro e w1 ⟨rfl, hb1⟩; have hB3 := hB2.trans (hb1.mono hB2.size); have bR3 := HBR.out.below hb1 hR2; have bS3 := bS2.below hb1 hS2) | refine ld_size bS3 rfl _ rfl rfl ?_ | (refine st_size (s := Pl.grd s st n) bR3 rfl rfl _ _ rfl rfl rfl ?_; intro w2 bR4 hO))
            exact bodyPost_ret (v := .tuple #[.agg (szA (Pl.grd s st n)), .int .i64 0]) (results_cell_tmp (q := 7) rfl _ _ _ _ _ _ _ rfl bR4 Try.underlying24 rfl info24) rfl ⟨grade_ok HE.out, hB3.trans (hO.below (by omega))⟩
end Go.Proofs.Ytghbipipehglfaa
