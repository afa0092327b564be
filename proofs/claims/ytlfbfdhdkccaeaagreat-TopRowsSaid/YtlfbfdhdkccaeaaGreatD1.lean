/- checkList, sum, length, of the program; chosen, hours, of the document. -/
import Derived.Test.YtlfbfdhdkccaeaaGreatF3
import Derived.Test.YtlfbfdhdkccaeaaGreatW3
import Derived.Test.YtlfbfdhdkccaeaaGreatPZ
namespace Go.Proofs.YtlfbfdhdkccaeaaGreat
open Go.RowKit Go.Shelf Go.Sort

set_option maxRecDepth 100000 in
set_option maxHeartbeats 4000000 in
theorem checkList_b (A : Option Addr) (l : List Pl.Bt) (c n : Nat) (hn : l.length = n) (AX : Option Addr) (xs : List Int) (cx m : Nat) (hm : xs.length = m) (hm63 : m ≤ maxLen) (v : Int) (hv : Pl.clE l xs = v) (w : World) (hI : Bts w A l) (hX : Rows inL 1 w AX xs) :
    Calls Tryz.prog 27 #[.slice A n c, .slice AX m cx] w fun e w' => e = .returned (.int .i64 v) ∧ Below w.heap.size w w' := by
  have HX := Lib.hid hX
  have HM := Lib.hid hm
  have hm63' : m ≤ 9223372036854775807 := hm63
  have HC := Lib.hid (valid_any A l c w hI)
  rw [hn] at HC
  obtain ⟨x, hx⟩ : ∃ x, Pl.vs l = x := ⟨_, rfl⟩
  rw [hx] at HC
  cases x
  · have HV : Hid (v = 60) := Lib.hid (by rw [← hv, Pl.clE_no hx])
    clear hI hX hn hm hv
    go_enter Tryz.func27, Tryz.ntmps27
    go_wp2_with fail
    refine HC.out.mono ?_
    rintro e w1 ⟨rfl, hb1⟩
    go_wp2
    go_ret
    exact ⟨by rw [HV.out]; rfl, hb1⟩
  · have hn4 : n ≤ 40 := hn ▸ (Pl.ok_of hx).len
    have HV1 : Hid (Pl.cho n xs = true → v = 0) := Lib.hid (fun h => by rw [← hv, ← hn] at *; exact Pl.clE_ok hx h)
    have HV2 : Hid (Pl.cho n xs = false → v = 2) := Lib.hid (fun h => by rw [← hv, ← hn] at *; exact Pl.clE_bad hx h)
    have HC0 : Hid (Pl.choL n (xs.take 0) (xs.drop 0) = Pl.cho n xs) := Lib.hid rfl
    obtain ⟨V, hV⟩ : ∃ V, Pl.cho n xs = V := ⟨_, rfl⟩
    rw [hV] at HV1 HV2 HC0
    clear hI hX hn hm hv hx hV
    obtain ⟨i0, hi0, hz0, hn0, hy0⟩ := info_parts info4f
    go_enter Tryz.func27, Tryz.ntmps27
    go_wp2_with fail
    refine HC.out.mono ?_
    rintro e w1 ⟨rfl, hb1⟩
    have hmk := run_make w1 84 4 i0 (.bool false) Tryz.underlying84 hi0 hz0 .i64 .i64 (n : Int) (n : Int) (by omega) (by omega) (by rw [hy0]; omega) (by omega)
    rw [Int.toNat_natCast, hn0, Nat.mul_one] at hmk
    have hst : StB (w1.alloc (.cells (madeCells #[.bool false] n) 4)) w1.heap.size n (fun _ => false) := StF.new w1 n 4 Value.bool false
    have hB0 := hb1.alloc hb1.size (.cells (madeCells #[.bool false] n) 4)
    change Sem.run _ _ _ = Result.ok _ (w1.alloc (.cells (madeCells #[.bool false] n) 4)) at hmk
    have hgb : w.heap.size ≤ w1.heap.size := hb1.size
    generalize w1.alloc (.cells (madeCells #[.bool false] n) 4) = w3 at *
    obtain ⟨g, hg⟩ : ∃ g, w1.heap.size = g := ⟨_, rfl⟩
    rw [hg] at hst hmk hgb
    clear hi0 hz0 hn0 hy0 hg hb1 HC
    go_wp2
    clear hmk
    go_loopw [7, 16] (fun _ j wr => ∃ k : Nat, ∃ u, k ≤ m ∧ j = .int .i64 k ∧ StB wr g n u ∧ Hid (∀ q : Nat, q < n → u q = decide ((q : Int) ∈ xs.take k)) ∧ Hid (Pl.choL n (xs.take k) (xs.drop k) = V) ∧ Below w.heap.size w wr) (fun _ j _ => m - (intOf j).toNat)
    case atStart => exact ⟨0, _, Nat.zero_le _, rfl, hst, Lib.hid (fun q hq => by simp), HC0, hB0⟩
    case round =>
      clear hst hB0 HC0
      obtain ⟨k, u, hk, rfl, hst, hu, hF, hW⟩ := hrel
      obtain ⟨wo, rfl⟩ : ∃ wo, wo = wr := ⟨_, rfl⟩
      by_cases hlt : k < m
      · have hltI : (k : Int) < (m : Int) := by omega
        have hkx : k < xs.length := by rw [HM.out]; exact hlt
        obtain ⟨bx, ox, rfl, hbx, hcx⟩ := HX.out.open (by omega)
        have q0 := row_cell (mk := Value.int .i64) hbx hcx hW hkx
        have HS := Lib.hid (Pl.cho_step (n := n) hkx)
        rw [hF.out] at HS
        have HTK : Hid (∀ q : Nat, decide ((q : Int) ∈ xs.take (k + 1)) = (decide ((q : Int) ∈ xs.take k) || decide ((q : Int) = xs[k]))) := Lib.hid (fun q => by
          rw [List.take_succ_eq_append_getElem hkx, Bool.eq_iff_iff, decide_eq_true_iff, List.mem_append, List.mem_singleton, Bool.or_eq_true, decide_eq_true_iff, decide_eq_true_iff])
        clear hcx hF
        generalize xs[k] = x at *
        obtain ⟨b, hb⟩ : ∃ b, Pl.inB 0 x ((n : Int) - 1) = b := ⟨_, rfl⟩
        rw [hb] at HS
        have HIX : Hid (decide (0 ≤ x ∧ x < (n : Int)) = b) := Lib.hid (by rw [← hb, Bool.eq_iff_iff, decide_eq_true_iff, Pl.inB_true]; omega)
        cases b with
        | false =>
          have HF : Hid (v = 2) := Lib.hid (HV2.out (by rw [HS.out]; rfl))
          clear hb
          go_wp2_with (go_at_call 59; refine (isindex_b x A n c (by omega) _ HIX.out _).mono ?_; rintro e w4 ⟨rfl, rfl⟩)
          go_ret
          exact ⟨by rw [HF.out]; rfl, hW⟩
        | true =>
          obtain ⟨hx0, hx1⟩ := Pl.inB_true.1 hb
          obtain ⟨q, rfl⟩ : ∃ q : Nat, x = q := ⟨x.toNat, by omega⟩
          have hqn : q < n := by omega
          have hqI : (q : Int) < (n : Int) := by omega
          have hcu := hst.cell hqn
          have hfr := hst.frozen q
          obtain ⟨y, hy⟩ : ∃ y, u q = y := ⟨_, rfl⟩
          rw [hy] at hcu
          have HY : Hid (decide ((q : Int) ∈ xs.take k) = y) := Lib.hid (by rw [← hu.out q hqn, hy])
          rw [HY.out] at HS
          cases y with
          | true =>
            have HF : Hid (v = 2) := Lib.hid (HV2.out (by rw [HS.out]; rfl))
            clear hb hx0 hx1 hy
            go_wp2_with (go_at_call 59; refine (isindex_b (q : Int) A n c (by omega) _ HIX.out _).mono ?_; rintro e w4 ⟨rfl, rfl⟩)
            go_ret
            exact ⟨by rw [HF.out]; rfl, hW⟩
          | false =>
            have HF2 : Hid (Pl.choL n (xs.take (k + 1)) (xs.drop (k + 1)) = V) := Lib.hid (by rw [HS.out]; rfl)
            have hst2 := hst.set (f' := fun t => if t = q then true else u t) q true (fun t _ => rfl)
            have HU : Hid (∀ t : Nat, t < n → (fun t => if t = q then true else u t) t = decide ((t : Int) ∈ xs.take (k + 1))) := Lib.hid (fun t ht => by
              show (if t = q then true else u t) = _
              rw [HTK.out t]
              by_cases e : t = q
              · subst e; simp
              · rw [if_neg e, hu.out t ht]
                have : ¬ (t : Int) = (q : Int) := by omega
                simp [this])
            have hW2 := hW.setCell (p := ⟨g, q, none⟩) hgb (.bool true)
            clear hb hx0 hx1 hy hu HS HTK
            go_wp2_with (go_at_call 59; refine (isindex_b (q : Int) A n c (by omega) _ HIX.out _).mono ?_; rintro e w4 ⟨rfl, rfl⟩)
            go_roundw
            case rel => exact ⟨k + 1, _, by omega, by go_num, hst2, HU, HF2, hW2⟩
            case measure => simp [intOf]; omega
      · obtain rfl : k = m := by omega
        have HE : Hid (v = 0) := Lib.hid (HV1.out (by rw [← hF.out, ← HM.out, Pl.cho_end]))
        clear hst hu hF
        go_wp2
        go_ret
        exact ⟨by rw [HE.out]; rfl, hW⟩

set_option maxRecDepth 100000 in
set_option maxHeartbeats 4000000 in
theorem chosen_b (A : Option Addr) (c n : Nat) (hn4 : n ≤ 1000) (AX : Option Addr) (xs : List Int) (cx m : Nat) (hm : xs.length = m) (hm63 : m ≤ maxLen) (V : Bool) (hV : Pl.cho n xs = V) (w : World) (hX : Rows inL 1 w AX xs) :
    Calls Tryz.prog 21 #[.slice A n c, .slice AX m cx] w fun e w' => e = .returned (.bool V) ∧ Below w.heap.size w w' := by
  have HX := Lib.hid hX
  have HM := Lib.hid hm
  have hm63' : m ≤ 9223372036854775807 := hm63
  have HC0 : Hid (Pl.choL n (xs.take 0) (xs.drop 0) = V) := Lib.hid hV
  clear hX hm hV
  obtain ⟨i0, hi0, hz0, hn0, hy0⟩ := info_parts info4f
  have hmk := run_make w 84 4 i0 (.bool false) Tryz.underlying84 hi0 hz0 .i64 .i64 (n : Int) (n : Int) (by omega) (by omega) (by rw [hy0]; omega) (by omega)
  rw [Int.toNat_natCast, hn0, Nat.mul_one] at hmk
  have hst : StB (w.alloc (.cells (madeCells #[.bool false] n) 4)) w.heap.size n (fun _ => false) := StF.new w n 4 Value.bool false
  have hB0 := (Below.refl w.heap.size w).alloc (Nat.le_refl _) (.cells (madeCells #[.bool false] n) 4)
  change Sem.run _ _ _ = Result.ok _ (w.alloc (.cells (madeCells #[.bool false] n) 4)) at hmk
  have hgb : w.heap.size ≤ w.heap.size := Nat.le_refl _
  generalize w.alloc (.cells (madeCells #[.bool false] n) 4) = w3 at *
  obtain ⟨g, hg⟩ : ∃ g, w.heap.size = g := ⟨_, rfl⟩
  have hgb : w.heap.size ≤ g := by omega
  have HG := Lib.hid hg
  rw [hg] at hst hmk
  clear hi0 hz0 hn0 hy0 hg
  go_enter Tryz.func21, Tryz.ntmps21
  go_wp2
  clear hmk
  go_loopw [6] (fun j wr => ∃ k : Nat, ∃ u, k ≤ m ∧ j = .int .i64 k ∧ StB wr g n u ∧ Hid (∀ q : Nat, q < n → u q = decide ((q : Int) ∈ xs.take k)) ∧ Hid (Pl.choL n (xs.take k) (xs.drop k) = V) ∧ Below w.heap.size w wr) (fun j _ => m - (intOf j).toNat)
  case atStart => exact ⟨0, _, Nat.zero_le _, rfl, hst, Lib.hid (fun q hq => by simp), HC0, hB0⟩
  case round =>
    clear hst hB0 HC0
    obtain ⟨k, u, hk, rfl, hst, hu, hF, hW⟩ := hrel
    obtain ⟨wo, rfl⟩ : ∃ wo, wo = wr := ⟨_, rfl⟩
    by_cases hlt : k < m
    · have hltI : (k : Int) < (m : Int) := by omega
      have hkx : k < xs.length := by rw [HM.out]; exact hlt
      obtain ⟨bx, ox, rfl, hbx, hcx⟩ := HX.out.open (by omega)
      have hbg : ¬ bx = g := by have := HG.out; omega
      have hbg' : ¬ g = bx := fun e => hbg e.symm
      have q0 := row_cell (mk := Value.int .i64) hbx hcx hW hkx
      have HS := Lib.hid (Pl.cho_step (n := n) hkx)
      rw [hF.out] at HS
      have HTK : Hid (∀ q : Nat, decide ((q : Int) ∈ xs.take (k + 1)) = (decide ((q : Int) ∈ xs.take k) || decide ((q : Int) = xs[k]))) := Lib.hid (fun q => by
        rw [List.take_succ_eq_append_getElem hkx, Bool.eq_iff_iff, decide_eq_true_iff, List.mem_append, List.mem_singleton, Bool.or_eq_true, decide_eq_true_iff, decide_eq_true_iff])
      clear hcx hF
      generalize xs[k] = x at *
      obtain ⟨b, hb⟩ : ∃ b, Pl.inB 0 x ((n : Int) - 1) = b := ⟨_, rfl⟩
      rw [hb] at HS
      have HIX : Hid (decide (0 ≤ x ∧ x < (n : Int)) = b) := Lib.hid (by rw [← hb, Bool.eq_iff_iff, decide_eq_true_iff, Pl.inB_true]; omega)
      cases b with
      | false =>
        have HF : Hid (V = false) := Lib.hid (by rw [HS.out]; rfl)
        clear hb
        go_wp2_with (go_at_call 54; refine (risindex_b x A n c _ HIX.out _).mono ?_; rintro e w4 ⟨rfl, rfl⟩)
        go_ret
        exact ⟨by rw [HF.out]; rfl, hW⟩
      | true =>
        obtain ⟨hx0, hx1⟩ := Pl.inB_true.1 hb
        obtain ⟨q, rfl⟩ : ∃ q : Nat, x = q := ⟨x.toNat, by omega⟩
        have hqn : q < n := by omega
        have hqI : (q : Int) < (n : Int) := by omega
        have hcu := hst.cell hqn
        have hfr := hst.frozen q
        obtain ⟨y, hy⟩ : ∃ y, u q = y := ⟨_, rfl⟩
        rw [hy] at hcu
        have HY : Hid (decide ((q : Int) ∈ xs.take k) = y) := Lib.hid (by rw [← hu.out q hqn, hy])
        rw [HY.out] at HS
        cases y with
        | true =>
          have HF : Hid (V = false) := Lib.hid (by rw [HS.out]; rfl)
          clear hb hx0 hx1 hy
          go_wp2_with (go_at_call 54; refine (risindex_b (q : Int) A n c _ HIX.out _).mono ?_; rintro e w4 ⟨rfl, rfl⟩)
          go_ret
          exact ⟨by rw [HF.out]; rfl, hW⟩
        | false =>
          have HF2 : Hid (Pl.choL n (xs.take (k + 1)) (xs.drop (k + 1)) = V) := Lib.hid (by rw [HS.out]; rfl)
          have hst2 := hst.set (f' := fun t => if t = q then true else u t) q true (fun t _ => rfl)
          have HU : Hid (∀ t : Nat, t < n → (fun t => if t = q then true else u t) t = decide ((t : Int) ∈ xs.take (k + 1))) := Lib.hid (fun t ht => by
            show (if t = q then true else u t) = _
            rw [HTK.out t]
            by_cases e : t = q
            · subst e; simp
            · rw [if_neg e, hu.out t ht]
              have : ¬ (t : Int) = (q : Int) := by omega
              simp [this])
          have hW2 := hW.setCell (p := ⟨g, q, none⟩) hgb (.bool true)
          clear hb hx0 hx1 hy hu HS HTK
          go_wp2_with (go_at_call 54; refine (risindex_b (q : Int) A n c _ HIX.out _).mono ?_; rintro e w4 ⟨rfl, rfl⟩)
          go_roundw
          case rel => exact ⟨k + 1, _, by omega, by go_num, hst2, HU, HF2, hW2⟩
          case measure => simp [intOf]; omega
    · obtain rfl : k = m := by omega
      have HE : Hid (V = true) := Lib.hid (by rw [← hF.out, ← HM.out, Pl.cho_end])
      clear hst hu hF
      go_wp2
      go_ret
      exact ⟨by rw [HE.out]; rfl, hW⟩

/-- the sum of the first k numbers -/
def Pl.smk (xs : List Int) : Nat → Int
  | 0 => 0
  | k + 1 => Pl.smk xs k + xs.getD k 0
set_option maxRecDepth 100000 in
set_option maxHeartbeats 1000000 in
theorem sum_b (b o c n : Nat) (xs : List Int) (hn4 : n ≤ 1000) (hx : ∀ k, k ≤ n → 0 ≤ Pl.smk xs k ∧ Pl.smk xs k ≤ 1000000) (w : World) (hc : ∀ k, k < n → w.cell? ⟨b, o + k, none⟩ = some (.int .i64 (xs.getD k 0))) :
    Calls Tryz.prog 26 #[.slice (some ⟨b, o, none⟩) n c] w fun e w' => e = .returned (.int .i64 (Pl.smk xs n)) ∧ w' = w := by
  have HX := Lib.hid hx
  have HC := Lib.hid hc
  clear hx hc
  go_enter Tryz.func26, Tryz.ntmps26
  go_wp2
  go_loop [3, 5, 8] (fun s _ i => ∃ k : Nat, k ≤ n ∧ i = .int .i64 k ∧ s = .int .i64 (Pl.smk xs k)) (fun _ _ i => n - (intOf i).toNat)
  case atStart => exact ⟨0, Nat.zero_le _, rfl, rfl⟩
  case round =>
    obtain ⟨k, hk, rfl, rfl⟩ := hrel
    by_cases hlt : k < n
    · have hltI : (k : Int) < (n : Int) := by omega
      have q0 := HC.out k hlt
      obtain ⟨b1, b2⟩ := HX.out k hk
      obtain ⟨b3, b4⟩ := HX.out (k + 1) hlt
      have HS : Hid (Pl.smk xs (k + 1) = Pl.smk xs k + xs.getD k 0) := Lib.hid rfl
      rw [HS.out] at b3 b4
      generalize Pl.smk xs k = S at *
      generalize xs.getD k 0 = x at *
      have k1 : IntKind.i64.wrap (S + x) = S + x := IntWalk.i64_in _ (by omega)
      go_wp2
      go_round
      case rel => exact ⟨k + 1, by omega, by go_num, by rw [HS.out]⟩
      case measure => simp [intOf]; omega
    · obtain rfl : k = n := by omega
      go_wp2
      go_ret
      exact ⟨rfl, rfl⟩

set_option maxRecDepth 100000 in
set_option maxHeartbeats 1000000 in
theorem length_b (t : Pl.Bt) (hv : Pl.Vb t) (w : World) :
    Calls Tryz.prog 28 #[.agg (btA t)] w fun e w' => e = .returned (.int .i64 (Pl.len t)) ∧ Below w.heap.size w w' := by
  have hB := (Below.refl w.heap.size w).alloc (Nat.le_refl _) (.cells (btA t) 48)
  have bT := Blk.new w 48 (btA t)
  have HL : Hid (Pl.smk [t.h0, t.h1, t.h2, t.h3] 4 = Pl.len t) := Lib.hid (by simp [Pl.smk, Pl.len])
  have HC := Lib.hid (fun k (hk : k < 4) => (show (w.alloc (.cells (btA t) 48)).cell? ⟨w.heap.size, 3 + k, none⟩ = some (.int .i64 ([t.h0, t.h1, t.h2, t.h3].getD k 0)) by
    match k, hk with
    | 0, _ => exact bT.cell 3
    | 1, _ => exact bT.cell 4
    | 2, _ => exact bT.cell 5
    | 3, _ => exact bT.cell 6))
  have HS : Hid (∀ k, k ≤ 4 → 0 ≤ Pl.smk [t.h0, t.h1, t.h2, t.h3] k ∧ Pl.smk [t.h0, t.h1, t.h2, t.h3] k ≤ 1000000) := Lib.hid (fun k hk => by
    obtain ⟨a, b, c, d, e, f, g, h, _⟩ := hv
    match k, hk with
    | 0, _ => simp [Pl.smk]
    | 1, _ => simp [Pl.smk]; omega
    | 2, _ => simp [Pl.smk]; omega
    | 3, _ => simp [Pl.smk]; omega
    | 4, _ => simp [Pl.smk]; omega)
  clear bT hv
  go_enter Tryz.func28, Tryz.ntmps28
  go_wp2_with fail
  refine (sum_b w.heap.size 3 4 4 [t.h0, t.h1, t.h2, t.h3] (by omega) HS.out _ HC.out).mono ?_
  rintro e w1 ⟨rfl, rfl⟩
  go_wp2
  go_ret
  exact ⟨by rw [HL.out]; rfl, hB⟩
end Go.Proofs.YtlfbfdhdkccaeaaGreat

