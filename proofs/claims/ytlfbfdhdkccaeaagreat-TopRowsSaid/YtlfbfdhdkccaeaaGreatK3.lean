/- usesTwice, and its closure. -/
import Derived.Test.YtlfbfdhdkccaeaaGreatK1
import Derived.Test.YtlfbfdhdkccaeaaGreatPZ
namespace Go.Proofs.YtlfbfdhdkccaeaaGreat
open Go.RowKit Go.Shelf

set_option maxRecDepth 100000 in
set_option maxHeartbeats 4000000 in
theorem twice_b (g n : Nat) (AX : Option Addr) (xs : List Int) (cx m : Nat) (hm : xs.length = m) (hm63 : m ≤ maxLen) (pre : List Int) (hp : pre.Nodup) (hi : ∀ x, x ∈ xs → 0 ≤ x ∧ x < (n : Int)) (v : Bool) (hv : decide (pre ++ xs).Nodup = !v) (P : World → Prop) (hP : ∀ W q y, P W → P (W.setCell ⟨g, q, none⟩ y)) (w0 : World) (hX : Rows inL 1 w0 AX xs) (hg : w0.heap.size ≤ g) (w : World) (hB : Below w0.heap.size w0 w) (h0 : P w) (hst : StB w g n (fun q => decide ((q : Int) ∈ pre))) :
    Calls Tryz.prog 49 #[.slice (some ⟨g, 0, none⟩) n n, .slice AX m cx] w fun e w' => e = .returned (.bool v) ∧ Below w0.heap.size w0 w' ∧ P w' ∧ (v = false → StB w' g n (fun q => decide ((q : Int) ∈ pre ++ xs))) := by
  have hm63' : m ≤ 9223372036854775807 := hm63
  have HX := Lib.hid hX
  have HM := Lib.hid hm
  have HI := Lib.hid hi
  have HP := Lib.hid hP
  have HP0 := Lib.hid h0
  have HN0 : Hid ((pre ++ xs.take 0).Nodup) := Lib.hid (by simpa using hp)
  have HV1 : Hid ((pre ++ xs).Nodup → v = false) := Lib.hid (fun h => by rw [decide_eq_true h] at hv; cases v <;> simp_all)
  have HV2 : Hid (∀ j, ¬ (pre ++ xs.take j).Nodup → v = true) := Lib.hid (fun j h => by
    rw [decide_eq_false (fun h' => h (Pl.take_nodup j h'))] at hv
    cases v <;> simp_all)
  have HT : Hid (∀ k (hk : k < xs.length), xs.take (k + 1) = xs.take k ++ [xs[k]]) := Lib.hid (fun k hk => List.take_succ_eq_append_getElem hk)
  have HAL : Hid (xs.take m = xs) := Lib.hid (by rw [← hm, List.take_length])
  clear hX hm hi hP h0 hp hv hm63
  go_enter Tryz.func49, Tryz.ntmps49
  go_wp2
  go_loopw [6, 9] (fun _ j wr => ∃ k : Nat, ∃ u, k ≤ m ∧ j = .int .i64 k ∧ StB wr g n u ∧ Hid (∀ q : Nat, q < n → u q = decide ((q : Int) ∈ pre ++ xs.take k)) ∧ Hid ((pre ++ xs.take k).Nodup) ∧ Hid (P wr) ∧ Below w0.heap.size w0 wr) (fun _ j _ => m - (intOf j).toNat)
  case atStart => exact ⟨0, _, Nat.zero_le _, rfl, hst, Lib.hid (fun q hq => by simp), HN0, HP0, hB⟩
  case round =>
    clear hst hB HP0 HN0
    obtain ⟨k, u, hk, rfl, hst, hu, hN, hPw, hW⟩ := hrel
    obtain ⟨wo, rfl⟩ : ∃ wo, wo = wr := ⟨_, rfl⟩
    by_cases hlt : k < m
    · have hltI : (k : Int) < (m : Int) := by omega
      have hkx : k < xs.length := by rw [HM.out]; exact hlt
      obtain ⟨bx, ox, rfl, hbx, hcx⟩ := HX.out.open (by omega)
      have q0 := row_cell (mk := Value.int .i64) hbx hcx hW hkx
      have HTK := Lib.hid (HT.out k hkx)
      obtain ⟨hx0, hx1⟩ := HI.out _ (List.getElem_mem hkx)
      have HV2k := Lib.hid (HV2.out (k + 1))
      rw [HTK.out] at HV2k
      clear hcx
      generalize xs[k] = x at *
      obtain ⟨q, rfl⟩ : ∃ q : Nat, x = q := ⟨x.toNat, by omega⟩
      have hqn : q < n := by omega
      have hcu := hst.cell hqn
      have hfr := hst.frozen q
      obtain ⟨y, hy⟩ : ∃ y, u q = y := ⟨_, rfl⟩
      rw [hy] at hcu
      have HY : Hid (decide ((q : Int) ∈ pre ++ xs.take k) = y) := Lib.hid (by rw [← hu.out q hqn, hy])
      clear hx0
      cases y with
      | true =>
        have HF : Hid (v = true) := Lib.hid (HV2k.out (fun h => by
          rw [← List.append_assoc, Pl.nodup_snoc] at h
          exact h.2 (of_decide_eq_true HY.out)))
        clear hst hy
        go_wp2
        go_ret
        exact ⟨by rw [HF.out]; rfl, hW, hPw.out, fun h => by rw [HF.out] at h; cases h⟩
      | false =>
        have HN2 : Hid ((pre ++ xs.take (k + 1)).Nodup) := Lib.hid (by
          rw [HTK.out, ← List.append_assoc, Pl.nodup_snoc]
          exact ⟨hN.out, of_decide_eq_false HY.out⟩)
        have hst2 := hst.set (f' := fun t => if t = q then true else u t) q true (fun t _ => rfl)
        have HU : Hid (∀ t : Nat, t < n → (fun t => if t = q then true else u t) t = decide ((t : Int) ∈ pre ++ xs.take (k + 1))) := Lib.hid (fun t ht => by
          show (if t = q then true else u t) = _
          rw [HTK.out, ← List.append_assoc]
          by_cases e : t = q
          · subst e; simp
          · rw [if_neg e, hu.out t ht]
            have : ¬ (t : Int) = (q : Int) := by omega
            simp [this])
        have hW2 := hW.setCell (p := ⟨g, q, none⟩) hg (.bool true)
        have HP2 := Lib.hid (HP.out wo q (.bool true) hPw.out)
        clear hst hy hu
        go_wp2
        go_roundw
        case rel => exact ⟨k + 1, _, by omega, by go_num, hst2, HU, HN2, HP2, hW2⟩
        case measure => simp [intOf]; omega
    · obtain rfl : k = m := by omega
      rw [HAL.out] at hN hu
      have HF := Lib.hid (HV1.out hN.out)
      have HS := Lib.hid (hst.congr (f' := fun q => decide ((q : Int) ∈ pre ++ xs)) (fun q hq => (hu.out q hq).symm))
      clear hst hu
      go_wp2
      go_ret
      exact ⟨by rw [HF.out]; rfl, hW, hPw.out, fun _ => HS.out⟩

set_option maxRecDepth 100000 in
theorem cl3_b (g n : Nat) (AX : Option Addr) (xs : List Int) (cx m : Nat) (hm : xs.length = m) (hm63 : m ≤ maxLen) (pre : List Int) (hp : pre.Nodup) (hi : ∀ x, x ∈ xs → 0 ≤ x ∧ x < (n : Int)) (v : Bool) (hv : decide (pre ++ xs).Nodup = !v) (P : World → Prop) (hP : ∀ W q y, P W → P (W.setCell ⟨g, q, none⟩ y)) (w0 : World) (hX : Rows inL 1 w0 AX xs) (hg : w0.heap.size ≤ g) (w : World) (hB : Below w0.heap.size w0 w) (h0 : P w) (hst : StB w g n (fun q => decide ((q : Int) ∈ pre))) (bu : Nat) (hbu : w.cell? ⟨bu, 0, none⟩ = some (.slice (some ⟨g, 0, none⟩) n n)) :
    Calls Tryz.prog 48 #[.slice AX m cx, .pointer (some ⟨bu, 0, none⟩)] w fun e w' => e = .returned (.bool v) ∧ Below w0.heap.size w0 w' ∧ P w' ∧ (v = false → StB w' g n (fun q => decide ((q : Int) ∈ pre ++ xs))) := by
  have HC := Lib.hid (twice_b g n AX xs cx m hm hm63 pre hp hi v hv P hP w0 hX hg w hB h0 hst)
  clear hX hm hp hi hv hP h0 hst
  go_enter Tryz.func48, Tryz.ntmps48
  go_wp2_with fail
  refine HC.out.mono ?_
  rintro e w1 ⟨rfl, hb1, hp1, hs1⟩
  have HS1 := Lib.hid hs1
  have HP1 := Lib.hid hp1
  clear hs1 hp1
  go_wp2
  go_ret
  exact ⟨rfl, hb1, HP1.out, HS1.out⟩
end Go.Proofs.YtlfbfdhdkccaeaaGreat

