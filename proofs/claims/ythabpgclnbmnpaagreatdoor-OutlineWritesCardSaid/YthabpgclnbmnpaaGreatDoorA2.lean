import Derived.Test.YthabpgclnbmnpaaGreatDoorA1
import Derived.Test.YthabpgclnbmnpaaGreatDoorGeo
import Derived.Lib.Hide
namespace Go.Proofs.YthabpgclnbmnpaaGreatDoor
open Go.RowKit

/-- the slice at A holds the places l -/
def Pts (w : World) (A : Option Addr) (l : List Geo.XY) : Prop :=
  l = [] ∨ ∃ b off, A = some ⟨b, off, none⟩ ∧ b < w.heap.size ∧ ∀ k, k < l.length → w.cell? ⟨b, off + k * 2, none⟩ = some (.int .i64 (Geo.X l k).1) ∧ w.cell? ⟨b, off + k * 2 + 1, none⟩ = some (.int .i64 (Geo.X l k).2)
theorem Pts.below {w w' : World} {A : Option Addr} {l : List Geo.XY} (h : Pts w A l) (hb : Below w.heap.size w w') : Pts w' A l := by
  rcases h with h | ⟨b, off, h1, h2, h3⟩
  · exact .inl h
  · exact .inr ⟨b, off, h1, Nat.lt_of_lt_of_le h2 hb.size, fun k hk => ⟨(hb.cell (p := ⟨b, off + k * 2, none⟩) h2).trans (h3 k hk).1, (hb.cell (p := ⟨b, off + k * 2 + 1, none⟩) h2).trans (h3 k hk).2⟩⟩

/-- the document's test of a list of corners -/
def Valid (l : List Geo.XY) : Prop := 3 ≤ l.length ∧ l.length ≤ 64 ∧ (∀ k, k < l.length → Geo.In (Geo.X l k)) ∧ Geo.RGlob l
noncomputable def validB (l : List Geo.XY) : Bool := @decide (Valid l) (Classical.propDecidable _)
theorem validB_true {l : List Geo.XY} (h : Valid l) : validB l = true := by unfold validB; simpa using h
theorem validB_false {l : List Geo.XY} (h : ¬ Valid l) : validB l = false := by unfold validB; simpa using h
theorem ret_false {l : List Geo.XY} (h : ¬ Valid l) : Ending.returned (.bool false) = .returned (.bool (validB l)) := by rw [validB_false h]
theorem ret_true {l : List Geo.XY} (h : Valid l) : Ending.returned (.bool true) = .returned (.bool (validB l)) := by rw [validB_true h]
def InF (p : Geo.XY) : Bool := decide (-5000 ≤ p.1) && (decide (p.1 ≤ 5000) && (decide (-5000 ≤ p.2) && decide (p.2 ≤ 5000)))
theorem InF_iff (p : Geo.XY) : InF p = true ↔ Geo.In p := by unfold InF Geo.In; simp

set_option maxHeartbeats 400000 in
theorem in_yes (x y : Int) (h : InF (x, y) = true) (w : World) :
    Calls Tryz.prog 38 #[.agg #[.int .i64 x, .int .i64 y]] w fun e w' => e = .returned (.bool true) ∧ Below w.heap.size w w' :=
  (in_any x y w).mono fun e w' ⟨he, hb⟩ => ⟨by rw [he]; unfold InF at h; rw [h], hb⟩
theorem in_no (x y : Int) (h : InF (x, y) = false) (w : World) :
    Calls Tryz.prog 38 #[.agg #[.int .i64 x, .int .i64 y]] w fun e w' => e = .returned (.bool false) ∧ Below w.heap.size w w' :=
  (in_any x y w).mono fun e w' ⟨he, hb⟩ => ⟨by rw [he]; unfold InF at h; rw [h], hb⟩

set_option maxHeartbeats 400000 in
theorem rvalid_short (A : Option Addr) (l : List Geo.XY) (c : Nat) (w : World) (h : l.length < 3 ∨ 64 < l.length) :
    Calls Tryz.prog 17 #[.slice A l.length c] w fun e w' => e = .returned (.bool (validB l)) ∧ Below w.heap.size w w' := by
  have hf : ¬ Valid l := fun hv => by have := hv.1; have := hv.2.1; omega
  have hfin := ret_false hf
  clear hf
  have H := Lib.hid hfin
  clear hfin
  rcases h with h | h
  · go_enter Tryz.func17, Tryz.ntmps17
    go_wp2
    go_ret
    exact ⟨H.out, Below.refl _ _⟩
  · have h' : ¬ l.length < 3 := by omega
    go_enter Tryz.func17, Tryz.ntmps17
    go_wp2
    go_ret
    exact ⟨H.out, Below.refl _ _⟩

/-- the first m sides have all other corners to their left -/
def Upto (l : List Geo.XY) (m : Nat) : Prop := ∀ i, i < m → ∀ j, j < l.length → j ≠ i → j ≠ (i + 1) % l.length → 0 < Geo.Cross (Geo.X l i) (Geo.X l ((i + 1) % l.length)) (Geo.X l j)

set_option maxHeartbeats 1000000 in
theorem rvalid_long (b off : Nat) (l : List Geo.XY) (c : Nat) (w : World) (hb : b < w.heap.size) (hc : ∀ k, k < l.length → w.cell? ⟨b, off + k * 2, none⟩ = some (.int .i64 (Geo.X l k).1) ∧ w.cell? ⟨b, off + k * 2 + 1, none⟩ = some (.int .i64 (Geo.X l k).2))
    (h3 : 3 ≤ l.length) (h64 : l.length ≤ 64) :
    Calls Tryz.prog 17 #[.slice (some ⟨b, off, none⟩) l.length c] w fun e w' => e = .returned (.bool (validB l)) ∧ Below w.heap.size w w' := by
  have HC := Lib.hid hc
  clear hc
  go_enter Tryz.func17, Tryz.ntmps17
  go_wp2
  go_loopw [19] (fun i wr => ∃ k : Nat, k ≤ l.length ∧ i = .int .i64 k ∧ (∀ j, j < k → Geo.In (Geo.X l j)) ∧ Below w.heap.size w wr) (fun i _ => l.length - (intOf i).toNat)
  case atStart => exact ⟨0, Nat.zero_le _, rfl, fun j hj => absurd hj (by omega), Below.refl _ _⟩
  case round =>
    obtain ⟨k, hk, rfl, hin, hB⟩ := hrel
    have HIN := Lib.hid hin
    clear hin
    by_cases hlt : k < l.length
    · have c1 : wr.cell? ⟨b, off + k * 2, none⟩ = some (.int .i64 (Geo.X l k).1) := (hB.cell (p := ⟨b, off + k * 2, none⟩) hb).trans (HC.out k hlt).1
      have c2 : wr.cell? ⟨b, off + k * 2 + 1, none⟩ = some (.int .i64 (Geo.X l k).2) := (hB.cell (p := ⟨b, off + k * 2 + 1, none⟩) hb).trans (HC.out k hlt).2
      cases hI : InF (Geo.X l k) with
      | false =>
        have hv : ¬ Valid l := fun hv => by have := (InF_iff _).2 (hv.2.2.1 k hlt); rw [hI] at this; cases this
        have H := Lib.hid (ret_false hv)
        have HI := Lib.hid hI
        clear hI hv
        go_wp2_with (go_at_call 38; refine (in_no _ _ HI.out _).mono ?_; rintro e w' ⟨rfl, hb'⟩)
        go_ret
        exact ⟨H.out, ((hB.alloc hB.size _)).trans (hb'.mono (by simp; have := hB.size; omega))⟩
      | true =>
        have HI := Lib.hid hI
        clear hI
        go_wp2_with (go_at_call 38; refine (in_yes _ _ HI.out _).mono ?_; rintro e w' ⟨rfl, hb'⟩)
        go_roundw
        case rel => exact ⟨k + 1, by omega, by go_num, fun j hj => by
          by_cases e : j = k
          · subst e; exact (InF_iff _).1 HI.out
          · exact HIN.out j (by omega), (hB.alloc hB.size _).trans (hb'.mono (by simp; have := hB.size; omega))⟩
        case measure => simp [intOf]; omega
    · obtain rfl : k = l.length := by omega
      go_wp2
      have HV := HIN
      go_loopw [29] (fun i wr => ∃ m : Nat, m ≤ l.length ∧ i = .int .i64 m ∧ Upto l m ∧ Below w.heap.size w wr) (fun i _ => l.length - (intOf i).toNat)
      case atStart => exact ⟨0, Nat.zero_le _, rfl, fun j hj => absurd hj (by omega), hB⟩
      case round =>
        clear hB
        obtain ⟨i, hi, rfl, hU, hB⟩ := hrel
        by_cases hlt : i < l.length
        · obtain ⟨k, hk⟩ : ∃ k, k = (i + 1) % l.length := ⟨_, rfl⟩
          have hkl : k < l.length := by rw [hk]; exact Nat.mod_lt _ (by omega)
          have HK := Lib.hid hk
          have hmod : ((i : Int) + 1) % (l.length : Int) = (k : Int) := by rw [hk]; simp
          clear hk
          have HM := Lib.hid hmod
          clear hmod
          go_wp2
          rw [HM.out]
          go_loopw [39] (fun j wr => ∃ m : Nat, m ≤ l.length ∧ j = .int .i64 m ∧ (∀ j, j < m → j ≠ i → j ≠ k → 0 < Geo.Cross (Geo.X l i) (Geo.X l k) (Geo.X l j)) ∧ Below w.heap.size w wr) (fun i _ => l.length - (intOf i).toNat)
          case atStart => exact ⟨0, Nat.zero_le _, rfl, fun j hj => absurd hj (by omega), hB⟩
          case round =>
            clear hB
            obtain ⟨j, hj, rfl, hJ, hB⟩ := hrel
            have HJ := Lib.hid hJ
            clear hJ
            by_cases hjlt : j < l.length
            · have c1 : wr.cell? ⟨b, off + j * 2, none⟩ = some (.int .i64 (Geo.X l j).1) := (hB.cell (p := ⟨b, off + j * 2, none⟩) hb).trans (HC.out j hjlt).1
              have c2 : wr.cell? ⟨b, off + j * 2 + 1, none⟩ = some (.int .i64 (Geo.X l j).2) := (hB.cell (p := ⟨b, off + j * 2 + 1, none⟩) hb).trans (HC.out j hjlt).2
              go_wp2
              obtain ⟨W, hW⟩ : ∃ W, W = wr.alloc (.cells #[.int .i64 (Geo.X l j).1, .int .i64 (Geo.X l j).2] 42) := ⟨_, rfl⟩
              have hb2 : Below w.heap.size w W := by rw [hW]; exact hB.alloc hB.size _
              have f5 : ∀ s : Ext W, s.w.cell? ⟨wr.heap.size, 0, none⟩ = some (.int .i64 (Geo.X l j).1) := fun s => s.cell (by rw [hW]; go_simp)
              have f6 : ∀ s : Ext W, s.w.cell? ⟨wr.heap.size, 1, none⟩ = some (.int .i64 (Geo.X l j).2) := fun s => s.cell (by rw [hW]; go_simp)
              rw [← hW]
              clear hW c1 c2
              have f1 : ∀ s : Ext W, s.w.cell? ⟨b, off + i * 2, none⟩ = some (.int .i64 (Geo.X l i).1) := fun s => s.cell ((hb2.cell (p := ⟨b, off + i * 2, none⟩) hb).trans (HC.out i hlt).1)
              have f2 : ∀ s : Ext W, s.w.cell? ⟨b, off + i * 2 + 1, none⟩ = some (.int .i64 (Geo.X l i).2) := fun s => s.cell ((hb2.cell (p := ⟨b, off + i * 2 + 1, none⟩) hb).trans (HC.out i hlt).2)
              have f3 : ∀ s : Ext W, s.w.cell? ⟨b, off + k * 2, none⟩ = some (.int .i64 (Geo.X l k).1) := fun s => s.cell ((hb2.cell (p := ⟨b, off + k * 2, none⟩) hb).trans (HC.out k hkl).1)
              have f4 : ∀ s : Ext W, s.w.cell? ⟨b, off + k * 2 + 1, none⟩ = some (.int .i64 (Geo.X l k).2) := fun s => s.cell ((hb2.cell (p := ⟨b, off + k * 2 + 1, none⟩) hb).trans (HC.out k hkl).2)
              by_cases e1 : j = i
              · have g1 : ((j : Int) != (i : Int)) = false := by simp [e1]
                have E1 := Lib.hid e1
                clear e1
                refine wp_region_ext (by kernel_rfl) (by kernel_rfl) ?_
                repeat (go_big_quiet_step (fail))
                refine wpQuiet_nil ?_
                rintro _ ⟨s, rfl⟩
                go_wp2
                go_roundw
                case rel => exact ⟨j + 1, by omega, by go_num, fun q hq h1 h2 => HJ.out q (by have := E1.out; omega) h1 h2, hb2.trans (s.h.mono hb2.size)⟩
                case measure => simp [intOf]; omega
              · have g1 : ((j : Int) != (i : Int)) = true := by simp; omega
                have E1 := Lib.hid e1
                clear e1
                by_cases e2 : j = k
                · have g2 : ((j : Int) != (k : Int)) = false := by simp [e2]
                  have E2 := Lib.hid e2
                  clear e2
                  refine wp_region_ext (by kernel_rfl) (by kernel_rfl) ?_
                  repeat (go_big_quiet_step (fail))
                  refine wpQuiet_nil ?_
                  rintro _ ⟨s, rfl⟩
                  go_wp2
                  go_roundw
                  case rel => exact ⟨j + 1, by omega, by go_num, fun q hq h1 h2 => HJ.out q (by have := E2.out; omega) h1 h2, hb2.trans (s.h.mono hb2.size)⟩
                  case measure => simp [intOf]; omega
                · have g2 : ((j : Int) != (k : Int)) = true := by simp; omega
                  have E2 := Lib.hid e2
                  clear e2
                  obtain ⟨a1, a2, a3, a4⟩ := HV.out i hlt
                  obtain ⟨a5, a6, a7, a8⟩ := HV.out k hkl
                  obtain ⟨a9, a10, a11, a12⟩ := HV.out j hjlt
                  by_cases hcr : ((Geo.X l k).1 - (Geo.X l i).1) * ((Geo.X l j).2 - (Geo.X l i).2) - ((Geo.X l k).2 - (Geo.X l i).2) * ((Geo.X l j).1 - (Geo.X l i).1) ≤ 0
                  · have hv : ¬ Valid l := fun hv => by
                      have := hv.2.2.2 i hlt j hjlt E1.out (by rw [← HK.out]; exact E2.out)
                      rw [Geo.At_lt l hlt, Geo.At_lt l hjlt, ← Geo.At_mod, ← HK.out, Geo.At_lt l hkl] at this
                      unfold Geo.Cross at this
                      omega
                    have H := Lib.hid (ret_false hv)
                    clear hv
                    refine wp_region_ext (by kernel_rfl) (by kernel_rfl) ?_
                    repeat (go_big_quiet_step ((go_at_call 39; refine calls_ext (cross_any _ _ _ _ _ _ (by omega) (by omega) (by omega) (by omega) (by omega) (by omega) (by omega) (by omega) (by omega) (by omega) (by omega) (by omega) _))))
                    refine wpQuiet_nil ?_
                    rintro _ ⟨s, rfl⟩
                    go_wp2
                    go_ret
                    exact ⟨H.out, hb2.trans (s.h.mono hb2.size)⟩
                  · have H := Lib.hid hcr
                    refine wp_region_ext (by kernel_rfl) (by kernel_rfl) ?_
                    repeat (go_big_quiet_step ((go_at_call 39; refine calls_ext (cross_any _ _ _ _ _ _ (by omega) (by omega) (by omega) (by omega) (by omega) (by omega) (by omega) (by omega) (by omega) (by omega) (by omega) (by omega) _))))
                    refine wpQuiet_nil ?_
                    rintro _ ⟨s, rfl⟩
                    go_wp2
                    go_roundw
                    case rel => exact ⟨j + 1, by omega, by go_num, fun q hq h1 h2 => by
                      by_cases e : q = j
                      · subst e; unfold Geo.Cross; have := H.out; omega
                      · exact HJ.out q (by omega) h1 h2, hb2.trans (s.h.mono hb2.size)⟩
                    case measure => simp [intOf]; omega
            · obtain rfl : j = l.length := by omega
              go_wp2
              go_roundw
              case rel => exact ⟨i + 1, by omega, by go_num, fun p hp q hq h1 h2 => by
                by_cases e : p = i
                · subst e
                  rw [← HK.out] at h2 ⊢
                  exact HJ.out q hq h1 h2
                · exact hU p (by omega) q hq h1 h2, hB⟩
              case measure => simp [intOf]; omega
        · obtain rfl : i = l.length := by omega
          have hv : Valid l := ⟨h3, h64, HV.out, fun i hi j hj h1 h2 => by
            have := hU i hi j hj h1 h2
            rw [Geo.At_lt l hi, Geo.At_lt l hj, ← Geo.At_mod l (i + 1), Geo.At_lt l (Nat.mod_lt _ (by omega))]
            exact this⟩
          have H := Lib.hid (ret_true hv)
          clear hv
          go_wp2
          go_ret
          exact ⟨H.out, hB⟩

theorem rvalid_any (A : Option Addr) (l : List Geo.XY) (c : Nat) (w : World) (h : Pts w A l) :
    Calls Tryz.prog 17 #[.slice A l.length c] w fun e w' => e = .returned (.bool (validB l)) ∧ Below w.heap.size w w' := by
  by_cases h3 : l.length < 3 ∨ 64 < l.length
  · exact rvalid_short A l c w h3
  · rcases h with h | ⟨b, off, rfl, hb, hc⟩
    · subst h; simp at h3
    · exact rvalid_long b off l c w hb hc (by omega) (by omega)
end Go.Proofs.YthabpgclnbmnpaaGreatDoor
