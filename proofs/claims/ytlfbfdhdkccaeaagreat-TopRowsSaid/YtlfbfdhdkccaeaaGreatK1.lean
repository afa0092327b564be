/- slices.ContainsFunc over rows, with any function that answers of each row. -/
import Derived.Test.YtlfbfdhdkccaeaaGreatW1
import Derived.Test.YtlfbfdhdkccaeaaGreatF3
namespace Go.Proofs.YtlfbfdhdkccaeaaGreat
open Go.RowKit Go.Shelf

set_option maxRecDepth 100000 in
set_option maxHeartbeats 2000000 in
theorem idxf_b (F : Nat) (eg : ∀ args w, (callFunc F args).run Tryz.prog w = .ok (.enter F args) w) (cb : Array Value) (A : Option Addr) (rows : List (List Int)) (c m : Nat) (hm : rows.length = m) (hm6 : m ≤ 1000) (p : Nat → Bool) (v : Bool) (hv1 : (∀ i, i < m → p i = false) → v = false) (hv2 : ∀ i, i < m → p i = true → v = true) (w0 : World) (hR : RR inL 1 w0 A rows) (X : Nat → World → Prop)
    (hf : ∀ i, i < m → ∀ W, Below w0.heap.size w0 W → X i W → ∀ A' c', Rows inL 1 w0 A' (rows.getD i []) → (rows.getD i []).length ≤ c' → c' ≤ maxLen → Calls Tryz.prog F (#[.slice A' (rows.getD i []).length c'] ++ cb) W fun e W' => e = .returned (.bool (p i)) ∧ Below w0.heap.size w0 W' ∧ (p i = false → X (i + 1) W'))
    (w : World) (hB : Below w0.heap.size w0 w) (hX0 : X 0 w) :
    Calls Tryz.prog 80 #[.slice A m c, .func (.func F) #[] cb] w fun e w' => ∃ r : Int, e = .returned (.int .i64 r) ∧ decide (0 ≤ r) = v ∧ Below w0.heap.size w0 w' ∧ (v = false → X m w') := by
  have HF := Lib.hid hf
  have HR := Lib.hid hR
  have HM := Lib.hid hm
  have HV1 := Lib.hid hv1
  have HV2 := Lib.hid hv2
  have HX0 := Lib.hid hX0
  clear hf hR hm hv1 hv2 hX0
  go_enter Tryz.func80, Tryz.ntmps80
  go_wp2
  go_loopw [5, 8] (fun _ i wr => ∃ k : Nat, k ≤ m ∧ i = .int .i64 k ∧ Hid (∀ i, i < k → p i = false) ∧ Hid (X k wr) ∧ Below w0.heap.size w0 wr) (fun _ i _ => m - (intOf i).toNat)
  case atStart => exact ⟨0, Nat.zero_le _, rfl, Lib.hid (fun i hi => absurd hi (Nat.not_lt_zero _)), HX0, hB⟩
  case round =>
    obtain ⟨k, hk, rfl, hall, hX, hW⟩ := hrel
    obtain ⟨wo, rfl⟩ : ∃ wo, wo = wr := ⟨_, rfl⟩
    by_cases hlt : k < m
    · have hltI : (k : Int) < (m : Int) := by omega
      obtain ⟨b, off, rfl, hb, hc⟩ := HR.out.open (by rw [HM.out]; omega)
      obtain ⟨A', c', h1, h2, h3, h4⟩ := hc k (by rw [HM.out]; exact hlt)
      have q0 := (hW.cell (p := ⟨b, off + k, none⟩) hb).trans h1
      have hcl := HF.out k hlt wo hW hX.out A' c' h2 h3 h4
      clear h1 h2 h3 h4 hc
      generalize (rows.getD k []).length = u at *
      obtain ⟨x, hx⟩ : ∃ x, p k = x := ⟨_, rfl⟩
      rw [hx] at hcl
      have HC := Lib.hid hcl
      have HP := Lib.hid hx
      clear hcl hx hX
      cases x with
      | true =>
        go_wp2_with fail
        refine HC.out.mono ?_
        rintro e w' ⟨rfl, hb1, _⟩
        go_wp2
        go_ret
        exact ⟨_, rfl, by rw [HV2.out k hlt HP.out]; simp, hb1, fun h => by rw [HV2.out k hlt HP.out] at h; cases h⟩
      | false =>
        go_wp2_with fail
        refine HC.out.mono ?_
        rintro e w' ⟨rfl, hb1, hX1⟩
        have HX1 := Lib.hid hX1
        clear hX1
        go_wp2
        go_roundw
        case rel => exact ⟨k + 1, by omega, by go_num, Lib.hid (fun i hi => by
          rcases Nat.lt_succ_iff_lt_or_eq.1 hi with h' | rfl
          · exact hall.out i h'
          · exact HP.out), Lib.hid (by first | exact HX1.out rfl | exact HX1.out trivial), hb1⟩
        case measure => simp [intOf]; omega
    · obtain rfl : k = m := by omega
      have HE := Lib.hid (HV1.out hall.out)
      go_wp2
      go_ret
      exact ⟨_, rfl, by rw [HE.out]; rfl, hW, fun _ => hX.out⟩

set_option maxRecDepth 100000 in
set_option maxHeartbeats 2000000 in
theorem conf_b (F : Nat) (eg : ∀ args w, (callFunc F args).run Tryz.prog w = .ok (.enter F args) w) (cb : Array Value) (A : Option Addr) (rows : List (List Int)) (c m : Nat) (hm : rows.length = m) (hm6 : m ≤ 1000) (p : Nat → Bool) (v : Bool) (hv1 : (∀ i, i < m → p i = false) → v = false) (hv2 : ∀ i, i < m → p i = true → v = true) (w0 : World) (hR : RR inL 1 w0 A rows) (X : Nat → World → Prop)
    (hf : ∀ i, i < m → ∀ W, Below w0.heap.size w0 W → X i W → ∀ A' c', Rows inL 1 w0 A' (rows.getD i []) → (rows.getD i []).length ≤ c' → c' ≤ maxLen → Calls Tryz.prog F (#[.slice A' (rows.getD i []).length c'] ++ cb) W fun e W' => e = .returned (.bool (p i)) ∧ Below w0.heap.size w0 W' ∧ (p i = false → X (i + 1) W'))
    (w : World) (hB : Below w0.heap.size w0 w) (hX0 : X 0 w) (br : Nat) (hbr : w.cell? ⟨br, 0, none⟩ = some (.slice A m c)) :
    Calls Tryz.prog 44 #[.func (.func F) #[] cb, .pointer (some ⟨br, 0, none⟩)] w fun e w' => e = .returned (.bool v) ∧ Below w0.heap.size w0 w' ∧ (v = false → X m w') := by
  have HC := Lib.hid (idxf_b F eg cb A rows c m hm hm6 p v hv1 hv2 w0 hR X hf w hB hX0)
  have HCC : Hid (Calls Tryz.prog 45 #[.slice A m c, .func (.func F) #[] cb] w fun e w' => e = .returned (.bool v) ∧ Below w0.heap.size w0 w' ∧ (v = false → X m w')) := by
    refine Lib.hid ?_
    clear hf hR hv1 hv2 hbr
    go_enter Tryz.func45, Tryz.ntmps45
    go_wp2_with fail
    refine HC.out.mono ?_
    rintro e w1 ⟨r, rfl, hr, hb1, hx1⟩
    have HX1 := Lib.hid hx1
    clear hx1
    have HV : Hid (v = decide (0 ≤ r)) := Lib.hid hr.symm
    clear hr
    go_wp2
    go_ret
    exact ⟨by rw [HV.out]; rfl, hb1, HX1.out⟩
  clear hf hR hv1 hv2 HC
  go_enter Tryz.func44, Tryz.ntmps44
  go_wp2_with fail
  refine HCC.out.mono ?_
  rintro e w1 ⟨rfl, hb1, hx1⟩
  have HX1 := Lib.hid hx1
  clear hx1
  go_wp2
  go_ret
  exact ⟨rfl, hb1, HX1.out⟩
end Go.Proofs.YtlfbfdhdkccaeaaGreat

