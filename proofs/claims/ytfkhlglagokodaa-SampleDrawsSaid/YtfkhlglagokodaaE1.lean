/- Bad: of the program and of the document. -/
import Derived.Test.YtfkhlglagokodaaA3
import Derived.Test.YtfkhlglagokodaaP5
namespace Go.Proofs.Ytfkhlglagokodaa
open Go.RowKit Go.Shelf

theorem row_cell {α : Type} {mk : α → Value} {W W' : World} {b off : Nat} {xs : List α} (hb : b < W.heap.size) (h : ∀ (i : Nat) (hi : i < xs.length), W.rangeAt b (off + i * 1) [mk xs[i]]) (hB : Below W.heap.size W W') {i : Nat} (hi : i < xs.length) : W'.cell? ⟨b, off + i, none⟩ = some (mk xs[i]) := by
  have := h i hi 0 _ rfl
  rw [Nat.mul_one] at this
  exact (hB.cell (p := ⟨b, off + i, none⟩) hb).trans this

set_option maxRecDepth 100000 in
set_option maxHeartbeats 8000000 in
theorem Bad_b (A B : Option Addr) (ps : List Bool) (xs : List Int) (ca cb m n : Nat) (hm : ps.length = m) (hn : xs.length = n) (hn63 : n ≤ maxLen) (w : World) (hA : Rows boL 1 w A ps) (hB : Rows inL 1 w B xs) :
    Calls Try.prog 40 #[.slice A m ca, .slice B n cb] w fun e w' => e = .returned (.tuple #[.int .i64 (Pl.bad ps xs).1, .int .i64 (Pl.bad ps xs).2]) ∧ Below w.heap.size w w' := by
  have HA := Lib.hid hA
  have HB := Lib.hid hB
  have HM := Lib.hid hm
  have HN := Lib.hid hn
  have hn63' : n ≤ 9223372036854775807 := hn63
  obtain ⟨F, E, hF⟩ : ∃ F E, Pl.bad ps xs = (F, E) := ⟨_, _, rfl⟩
  rw [hF]
  by_cases h60 : (60 : Int) < (m : Int)
  · have HF : Hid (F = 0 ∧ E = 2) := Lib.hid (by unfold Pl.bad at hF; rw [if_neg (by omega)] at hF; cases hF; exact ⟨rfl, rfl⟩)
    clear hF hA hB hm hn
    go_enter Try.func40, Try.ntmps40
    go_wp2
    go_ret2
    exact ⟨by rw [HF.out.1, HF.out.2]; rfl, Below.refl _ _⟩
  · have h61 : m ≤ 60 := by omega
    have HF : Hid (Pl.bdl ps (xs.take 0) (xs.drop 0) 0 = (F, E)) := Lib.hid (by unfold Pl.bad at hF; rw [if_pos (by omega)] at hF; exact hF)
    clear hF hA hB hm hn
    obtain ⟨i0, hi0, hz0, hn0, hy0⟩ := info_parts info4f
    have hmk := run_make w 55 4 i0 (.bool false) Try.underlying55 hi0 hz0 .i64 .i64 (m : Int) (m : Int) (by omega) (by omega) (by rw [hy0]; omega) (by omega)
    rw [Int.toNat_natCast, hn0, Nat.mul_one] at hmk
    have hst : StB (w.alloc (.cells (madeCells #[.bool false] m) 4)) w.heap.size m (fun _ => false) := StF.new w m 4 Value.bool false
    have hB0 := (Below.refl w.heap.size w).alloc (Nat.le_refl _) (.cells (madeCells #[.bool false] m) 4)
    change Sem.run _ _ _ = Result.ok _ (w.alloc (.cells (madeCells #[.bool false] m) 4)) at hmk
    have hgb : w.heap.size ≤ w.heap.size := Nat.le_refl _
    generalize w.alloc (.cells (madeCells #[.bool false] m) 4) = w3 at *
    obtain ⟨g, hg⟩ : ∃ g, w.heap.size = g := ⟨_, rfl⟩
    have HG := Lib.hid hg
    rw [hg] at hst hmk
    clear hi0 hz0 hn0 hy0 hg hgb
    go_enter Try.func40, Try.ntmps40
    go_wp2
    clear hmk
    go_loopw [7, 9, 18] (fun c _ j wr => ∃ k N : Nat, ∃ u, k ≤ n ∧ N ≤ k ∧ c = .int .i64 N ∧ j = .int .i64 k ∧ StB wr g m u ∧ Hid (∀ q : Nat, q < m → u q = decide ((q : Int) ∈ xs.take k)) ∧ Hid (Pl.bdl ps (xs.take k) (xs.drop k) N = (F, E)) ∧ Below w.heap.size w wr) (fun _ _ j _ => n - (intOf j).toNat)
    case atStart => exact ⟨0, 0, _, Nat.zero_le _, Nat.le_refl _, rfl, rfl, hst, Lib.hid (fun q hq => by simp), HF, hB0⟩
    case round =>
      clear hst hB0 HF
      obtain ⟨k, N, u, hk, hNk, rfl, rfl, hst, hu, hF, hW⟩ := hrel
      obtain ⟨wo, rfl⟩ : ∃ wo, wo = wr := ⟨_, rfl⟩
      by_cases hlt : k < n
      · have hltI : (k : Int) < (n : Int) := by omega
        have hkx : k < xs.length := by rw [HN.out]; exact hlt
        obtain ⟨bx, ox, rfl, hbx, hcx⟩ := HB.out.open (by omega)
        have q0 := row_cell (mk := Value.int .i64) hbx hcx hW hkx
        have HS := Lib.hid (Pl.bdl_step (ps := ps) (n := N) hkx)
        rw [hF.out] at HS
        have HTK : Hid (∀ q : Nat, decide ((q : Int) ∈ xs.take (k + 1)) = (decide ((q : Int) ∈ xs.take k) || decide ((q : Int) = xs[k]))) := Lib.hid (fun q => by
          rw [List.take_succ_eq_append_getElem hkx, Bool.eq_iff_iff, decide_eq_true_iff, List.mem_append, List.mem_singleton, Bool.or_eq_true, decide_eq_true_iff, decide_eq_true_iff])
        clear hcx hF
        generalize xs[k] = x at *
        obtain ⟨v, hv⟩ : ∃ v, Pl.inB 0 x ((m : Int) - 1) = v := ⟨_, rfl⟩
        have HV := Lib.hid hv
        have k1 : IntKind.i64.wrap ((m : Int) - 1) = (m : Int) - 1 := IntWalk.i64_in _ (by omega)
        cases v with
        | false =>
          have HF2 : Hid (F = 0 ∧ E = 2) := Lib.hid (by
            have := HS.out
            rw [HM.out, hv, if_neg (by rintro ⟨h, _⟩; cases h)] at this
            cases this
            exact ⟨rfl, rfl⟩)
          clear hv
          go_wp2_with (go_at_call 44; refine (within_b _ _ _ _ HV.out _).mono ?_; rintro e w1 ⟨rfl, rfl⟩)
          go_ret2
          exact ⟨by rw [HF2.out.1, HF2.out.2]; rfl, hW⟩
        | true =>
          obtain ⟨hx0, hx1⟩ := Pl.inB_iff.1 hv
          obtain ⟨q, rfl⟩ : ∃ q : Nat, x = q := ⟨x.toNat, by omega⟩
          have hqm : q < m := by omega
          have hqI : (q : Int) < (m : Int) := by omega
          have hcu := hst.cell hqm
          have hfr := hst.frozen q
          obtain ⟨y, hy⟩ : ∃ y, u q = y := ⟨_, rfl⟩
          rw [hy] at hcu
          have HY : Hid (decide ((q : Int) ∈ xs.take k) = y) := Lib.hid (by rw [← hu.out q hqm, hy])
          cases y with
          | true =>
            have HF2 : Hid (F = 0 ∧ E = 2) := Lib.hid (by
              have := HS.out
              rw [if_neg (by rintro ⟨_, h⟩; exact h (of_decide_eq_true HY.out))] at this
              cases this
              exact ⟨rfl, rfl⟩)
            clear hv hx0 hx1 hy
            go_wp2_with (go_at_call 44; refine (within_b _ _ _ _ HV.out _).mono ?_; rintro e w1 ⟨rfl, rfl⟩)
            go_ret2
            exact ⟨by rw [HF2.out.1, HF2.out.2]; rfl, hW⟩
          | false =>
            obtain ⟨ba, oa, rfl, hba, hca⟩ := HA.out.open (by rw [HM.out]; omega)
            have hqp : q < ps.length := by rw [HM.out]; exact hqm
            have r0 := row_cell (mk := Value.bool) hba hca hW hqp
            obtain ⟨z, hz⟩ : ∃ z, ps[q] = z := ⟨_, rfl⟩
            have HF2 : Hid (Pl.bdl ps (xs.take (k + 1)) (xs.drop (k + 1)) (N + Pl.b01 z) = (F, E)) := Lib.hid (by
              have := HS.out
              rw [HM.out, hv, if_pos ⟨rfl, of_decide_eq_false HY.out⟩] at this
              rw [this, ← hz, Int.toNat_natCast, List.getD_eq_getElem?_getD, List.getElem?_eq_getElem hqp]
              rfl)
            rw [hz] at r0
            have hst2 := hst.set (f' := fun t => if t = q then true else u t) q true (fun t _ => rfl)
            have HU : Hid (∀ t : Nat, t < m → (fun t => if t = q then true else u t) t = decide ((t : Int) ∈ xs.take (k + 1))) := Lib.hid (fun t ht => by
              show (if t = q then true else u t) = _
              rw [HTK.out t]
              by_cases e : t = q
              · subst e; simp
              · rw [if_neg e, hu.out t ht]
                have : ¬ (t : Int) = (q : Int) := by omega
                simp [this])
            have hbg : ¬ ba = g := by have := HG.out; omega
            have hbg' : ¬ g = ba := fun e => hbg e.symm
            have hW2 := hW.setCell (p := ⟨g, q, none⟩) (by show w.heap.size ≤ g; have := HG.out; omega) (.bool true)
            clear hv hx0 hx1 hy hca hqp hz hu HS HTK
            cases z with
            | true =>
              go_wp2_with (go_at_call 44; refine (within_b _ _ _ _ HV.out _).mono ?_; rintro e w1 ⟨rfl, rfl⟩)
              go_roundw
              case rel => exact ⟨k + 1, N + 1, _, by omega, by omega, by go_num, by go_num, hst2, HU, HF2, hW2⟩
              case measure => simp [intOf]; omega
            | false =>
              go_wp2_with (go_at_call 44; refine (within_b _ _ _ _ HV.out _).mono ?_; rintro e w1 ⟨rfl, rfl⟩)
              go_roundw
              case rel => exact ⟨k + 1, N, _, by omega, by omega, rfl, by go_num, hst2, HU, HF2, hW2⟩
              case measure => simp [intOf]; omega
      · obtain rfl : k = n := by omega
        have HE : Hid (F = N ∧ E = 0) := Lib.hid (by
          have := hF.out
          rw [← HN.out, Pl.bdl_end] at this
          cases this
          exact ⟨rfl, rfl⟩)
        clear hst hu hF
        go_wp2
        go_ret2
        exact ⟨by rw [HE.out.1, HE.out.2]; rfl, hW⟩

set_option maxRecDepth 100000 in
set_option maxHeartbeats 8000000 in
theorem rBad_b (A B : Option Addr) (ps : List Bool) (xs : List Int) (ca cb m n : Nat) (hm : ps.length = m) (hn : xs.length = n) (hn63 : n ≤ maxLen) (hcb : n ≤ cb) (w : World) (hA : Rows boL 1 w A ps) (hB : Rows inL 1 w B xs) :
    Calls Try.prog 41 #[.slice A m ca, .slice B n cb] w fun e w' => e = .returned (.tuple #[.int .i64 (Pl.bad ps xs).1, .int .i64 (Pl.bad ps xs).2]) ∧ Below w.heap.size w w' := by
  have HA := Lib.hid hA
  have HB := Lib.hid hB
  have HM := Lib.hid hm
  have HN := Lib.hid hn
  have hn63' : n ≤ 9223372036854775807 := hn63
  obtain ⟨F, E, hF⟩ : ∃ F E, Pl.bad ps xs = (F, E) := ⟨_, _, rfl⟩
  rw [hF]
  by_cases h60 : (60 : Int) < (m : Int)
  · have HF : Hid (F = 0 ∧ E = 2) := Lib.hid (by unfold Pl.bad at hF; rw [if_neg (by omega)] at hF; cases hF; exact ⟨rfl, rfl⟩)
    clear hF hA hB hm hn
    go_enter Try.func41, Try.ntmps41
    go_wp2
    go_ret2
    exact ⟨by rw [HF.out.1, HF.out.2]; rfl, Below.refl _ _⟩
  · have h61 : m ≤ 60 := by omega
    have HF : Hid (Pl.bdl ps (xs.take 0) (xs.drop 0) 0 = (F, E)) := Lib.hid (by unfold Pl.bad at hF; rw [if_pos (by omega)] at hF; exact hF)
    clear hF hA hB hm hn
    go_enter Try.func41, Try.ntmps41
    go_wp2
    go_loopw [6, 7, 8, 10, 16] (fun c _ _ _ j wr => ∃ k N : Nat, k ≤ n ∧ N ≤ k ∧ c = .int .i64 N ∧ j = .int .i64 k ∧ Hid (Pl.bdl ps (xs.take k) (xs.drop k) N = (F, E)) ∧ wr = w) (fun _ _ _ _ j _ => n - (intOf j).toNat)
    case atStart => exact ⟨0, 0, Nat.zero_le _, Nat.le_refl _, rfl, rfl, HF, rfl⟩
    case round =>
      clear HF
      obtain ⟨k, N, hk, hNk, rfl, rfl, hF, hwr⟩ := hrel
      rw [hwr]
      clear hwr
      by_cases hlt : k < n
      · have hltI : (k : Int) < (n : Int) := by omega
        have hkx : k < xs.length := by rw [HN.out]; exact hlt
        obtain ⟨bx, ox, rfl, hbx, hcx⟩ := HB.out.open (by omega)
        have hcxs : ∀ i (hi : i < xs.length), w.cell? ⟨bx, ox + i, none⟩ = some (.int .i64 xs[i]) := fun i hi => row_cell (mk := Value.int .i64) hbx hcx (Below.refl _ _) hi
        have HCX := Lib.hid hcxs
        have q0 := hcxs k hkx
        have HS := Lib.hid (Pl.bdl_step (ps := ps) (n := N) hkx)
        rw [hF.out] at HS
        clear hcx hF hcxs
        have hXK : ∀ i (hi : i < xs.length), i < k → xs[i] ∈ xs.take k := fun i hi h => by
          refine List.mem_iff_getElem.2 ⟨i, by rw [List.length_take]; omega, ?_⟩
          rw [List.getElem_take]
        have hXN : ∀ y, y ∈ xs.take k → ∃ i, ∃ (hi : i < xs.length), i < k ∧ xs[i] = y := fun y h => by
          obtain ⟨i, hi, e⟩ := List.mem_iff_getElem.1 h
          rw [List.length_take] at hi
          rw [List.getElem_take] at e
          exact ⟨i, by omega, by omega, e⟩
        have HXK := Lib.hid hXK
        have HXN := Lib.hid hXN
        clear hXK hXN
        generalize xs[k] = x at *
        by_cases c1 : x < 0
        · have HF2 : Hid (F = 0 ∧ E = 2) := Lib.hid (by
            have := HS.out
            rw [if_neg (by rintro ⟨h, _⟩; have := (Pl.inB_iff.1 h).1; omega)] at this
            cases this
            exact ⟨rfl, rfl⟩)
          go_wp2
          go_ret2
          exact ⟨by rw [HF2.out.1, HF2.out.2]; rfl, Below.refl _ _⟩
        by_cases c2 : (m : Int) ≤ x
        · have HF2 : Hid (F = 0 ∧ E = 2) := Lib.hid (by
            have := HS.out
            rw [HM.out, if_neg (by rintro ⟨h, _⟩; have := (Pl.inB_iff.1 h).2; omega)] at this
            cases this
            exact ⟨rfl, rfl⟩)
          go_wp2
          go_ret2
          exact ⟨by rw [HF2.out.1, HF2.out.2]; rfl, Below.refl _ _⟩
        obtain ⟨q, rfl⟩ : ∃ q : Nat, x = q := ⟨x.toNat, by omega⟩
        have hqm : q < m := by omega
        have hqI : (q : Int) < (m : Int) := by omega
        have hkc : k ≤ cb := by omega
        have hkcI : (k : Int) ≤ (cb : Int) := by omega
        go_wp2
        go_loopw [10, 33] (fun _ j wr => ∃ i : Nat, i ≤ k ∧ j = .int .i64 i ∧ Hid (∀ t (ht : t < xs.length), t < i → xs[t] ≠ (q : Int)) ∧ wr = w) (fun _ j _ => k - (intOf j).toNat)
        case atStart => exact ⟨0, Nat.zero_le _, rfl, Lib.hid (fun t _ h => absurd h (Nat.not_lt_zero _)), rfl⟩
        case round =>
          obtain ⟨i, hi, rfl, hno, hwr⟩ := hrel
          rw [hwr]
          clear hwr
          by_cases hlt2 : i < k
          · have hltI2 : (i : Int) < (k : Int) := by omega
            have hix : i < xs.length := by omega
            have q1 := HCX.out i hix
            obtain ⟨y, hy⟩ : ∃ y, xs[i] = y := ⟨_, rfl⟩
            have HY := Lib.hid hy
            rw [hy] at q1
            clear hy
            by_cases c3 : (q : Int) = y
            · have HF2 : Hid (F = 0 ∧ E = 2) := Lib.hid (by
                have := HS.out
                rw [if_neg (by rintro ⟨_, h⟩; exact h (by rw [c3, ← HY.out]; exact HXK.out i hix hlt2))] at this
                cases this
                exact ⟨rfl, rfl⟩)
              subst c3
              go_wp2
              go_ret2
              exact ⟨by rw [HF2.out.1, HF2.out.2]; rfl, Below.refl _ _⟩
            · have c4 : ((q : Int) == y) = false := by simpa using c3
              have HC3 := Lib.hid c3
              clear c3
              go_wp2
              go_roundw
              case rel => exact ⟨i + 1, by omega, by go_num, Lib.hid (fun t ht h => by
                by_cases e : t = i
                · subst e; rw [HY.out]; exact fun h => HC3.out h.symm
                · exact hno.out t ht (by omega)), trivial⟩
              case measure => simp [intOf]; omega
          · obtain rfl : i = k := by omega
            have hnm : ¬ (q : Int) ∈ xs.take i := fun h => by
              obtain ⟨t, ht, h1, h2⟩ := HXN.out _ h
              exact hno.out t ht h1 h2
            obtain ⟨ba, oa, rfl, hba, hca⟩ := HA.out.open (by rw [HM.out]; omega)
            have hqp : q < ps.length := by rw [HM.out]; exact hqm
            have r0 := row_cell (mk := Value.bool) hba hca (Below.refl _ _) hqp
            obtain ⟨z, hz⟩ : ∃ z, ps[q] = z := ⟨_, rfl⟩
            have HF2 : Hid (Pl.bdl ps (xs.take (i + 1)) (xs.drop (i + 1)) (N + Pl.b01 z) = (F, E)) := Lib.hid (by
              have := HS.out
              rw [HM.out, if_pos ⟨Pl.inB_iff.2 ⟨by omega, by omega⟩, hnm⟩] at this
              rw [this, ← hz, Int.toNat_natCast, List.getD_eq_getElem?_getD, List.getElem?_eq_getElem hqp]
              rfl)
            rw [hz] at r0
            clear hca hqp hz hnm hno HS
            cases z with
            | true =>
              go_wp2
              go_roundw
              case rel => exact ⟨i + 1, N + 1, by omega, by omega, by go_num, by go_num, HF2, trivial⟩
              case measure => simp [intOf]; omega
            | false =>
              go_wp2
              go_roundw
              case rel => exact ⟨i + 1, N, by omega, by omega, rfl, by go_num, HF2, trivial⟩
              case measure => simp [intOf]; omega
      · obtain rfl : k = n := by omega
        have HE : Hid (F = N ∧ E = 0) := Lib.hid (by
          have := hF.out
          rw [← HN.out, Pl.bdl_end] at this
          cases this
          exact ⟨rfl, rfl⟩)
        clear hF
        go_wp2
        go_ret2
        exact ⟨by rw [HE.out.1, HE.out.2]; rfl, Below.refl _ _⟩
end Go.Proofs.Ytfkhlglagokodaa
