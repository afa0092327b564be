import Derived.Test.YthabpgclnbmnpaaGreatDoorA2
namespace Go.Proofs.YthabpgclnbmnpaaGreatDoor
open Go.RowKit

set_option maxHeartbeats 400000 in
theorem inrange_any (x y m : Int) (hm : 0 ≤ m) (hm' : m ≤ 1000000) (w : World) :
    Calls Tryz.prog 48 #[.agg #[.int .i64 x, .int .i64 y], .int .i64 m] w fun e w' => e = .returned (.bool (decide (-m ≤ x) && (decide (x ≤ m) && (decide (-m ≤ y) && decide (y ≤ m))))) ∧ Below w.heap.size w w' := by
  go_enter Tryz.func48, Tryz.ntmps48
  go_wp2
  all_goals (go_ret; exact ⟨by simp [*]; try omega, (Below.refl _ _).alloc (Nat.le_refl _) _⟩)

theorem inr_yes (x y : Int) (h : InF (x, y) = true) (w : World) :
    Calls Tryz.prog 48 #[.agg #[.int .i64 x, .int .i64 y], .int .i64 5000] w fun e w' => e = .returned (.bool true) ∧ Below w.heap.size w w' :=
  (inrange_any x y 5000 (by omega) (by omega) w).mono fun e w' ⟨he, hb⟩ => ⟨by rw [he]; unfold InF at h; rw [h], hb⟩
theorem inr_no (x y : Int) (h : InF (x, y) = false) (w : World) :
    Calls Tryz.prog 48 #[.agg #[.int .i64 x, .int .i64 y], .int .i64 5000] w fun e w' => e = .returned (.bool false) ∧ Below w.heap.size w w' :=
  (inrange_any x y 5000 (by omega) (by omega) w).mono fun e w' ⟨he, hb⟩ => ⟨by rw [he]; unfold InF at h; rw [h], hb⟩

def AllIn (l : List Geo.XY) : Prop := ∀ j, j < l.length → Geo.In (Geo.X l j)
instance (l : List Geo.XY) : Decidable (AllIn l) := by unfold AllIn; infer_instance
def allInB (l : List Geo.XY) : Bool := decide (AllIn l)

set_option maxHeartbeats 1000000 in
theorem allin_any (A : Option Addr) (l : List Geo.XY) (c : Nat) (w : World) (hr : Pts w A l) (hl : l.length ≤ 140737488355328) :
    Calls Tryz.prog 26 #[.slice A l.length c] w fun e w' => e = .returned (.bool (allInB l)) ∧ Below w.heap.size w w' := by
  have HR := Lib.hid hr
  clear hr
  go_enter Tryz.func26, Tryz.ntmps26
  go_wp2
  go_loopw [7] (fun i wr => ∃ k : Nat, k ≤ l.length ∧ i = .int .i64 k ∧ (∀ j, j < k → Geo.In (Geo.X l j)) ∧ Below w.heap.size w wr) (fun i _ => l.length - (intOf i).toNat)
  case atStart => exact ⟨0, Nat.zero_le _, rfl, fun j hj => absurd hj (by omega), Below.refl _ _⟩
  case round =>
    obtain ⟨k, hk, rfl, hin, hB⟩ := hrel
    have HIN := Lib.hid hin
    clear hin
    by_cases hlt : k < l.length
    · rcases HR.out with h0 | ⟨b, off, rfl, hb, hc⟩
      · rw [h0] at hlt; simp at hlt
      have c1 : wr.cell? ⟨b, off + k * 2, none⟩ = some (.int .i64 (Geo.X l k).1) := (hB.cell (p := ⟨b, off + k * 2, none⟩) hb).trans (hc k hlt).1
      have c2 : wr.cell? ⟨b, off + k * 2 + 1, none⟩ = some (.int .i64 (Geo.X l k).2) := (hB.cell (p := ⟨b, off + k * 2 + 1, none⟩) hb).trans (hc k hlt).2
      clear hc
      cases hI : InF (Geo.X l k) with
      | false =>
        have hv : ¬ AllIn l := fun hv => by have := (InF_iff _).2 (hv k hlt); rw [hI] at this; cases this
        have hfin : Ending.returned (.bool false) = .returned (.bool (allInB l)) := by unfold allInB; rw [decide_eq_false hv]
        have H := Lib.hid hfin
        have HI := Lib.hid hI
        clear hI hv hfin
        go_wp2_with (go_at_call 48; refine (inr_no _ _ HI.out _).mono ?_; rintro e w' ⟨rfl, hb'⟩)
        go_ret
        exact ⟨H.out, ((hB.alloc hB.size _)).trans (hb'.mono (by simp; have := hB.size; omega))⟩
      | true =>
        have HI := Lib.hid hI
        clear hI
        go_wp2_with (go_at_call 48; refine (inr_yes _ _ HI.out _).mono ?_; rintro e w' ⟨rfl, hb'⟩)
        go_roundw
        case rel => exact ⟨k + 1, by omega, by go_num, fun j hj => by
          by_cases e : j = k
          · subst e; exact (InF_iff _).1 HI.out
          · exact HIN.out j (by omega), (hB.alloc hB.size _).trans (hb'.mono (by simp; have := hB.size; omega))⟩
        case measure => simp [intOf]; omega
    · obtain rfl : k = l.length := by omega
      have hfin : Ending.returned (.bool true) = .returned (.bool (allInB l)) := by unfold allInB; rw [decide_eq_true (show AllIn l from HIN.out)]
      have H := Lib.hid hfin
      clear hfin
      go_wp2
      go_ret
      exact ⟨H.out, hB⟩
end Go.Proofs.YthabpgclnbmnpaaGreatDoor
