/- Ovens: Allowance of the program, with sort.Search. -/
import Derived.Test.YticjhkfidgkecaaGreatDoorO2
import Derived.Test.YticjhkfidgkecaaGreatDoorA4
import Derived.Shelf.Abstract
namespace Go.Proofs.YticjhkfidgkecaaGreatDoor
open Go.RowKit Go.Shelf Pl

theorem eg_alw : ∀ args w, (callFunc 99 args).run Tryz.prog w = .ok (.enter 99 args) w := enters_of Tryz.func99 (by kernel_rfl) rfl
set_option maxRecDepth 100000 in
set_option maxHeartbeats 2000000 in
/-- what is asked of each size -/
theorem alw1_any (A : Option Addr) (t : List Int) (len c : Nat) (hlen : t.length = len) (hc : len ≤ c) (hok : OkT t) (want : Int) (d : Nat) (hd : d ≤ 1000) (ba bd bw : Nat) (i : Nat) (hi : i < 100000) (w : World) (hI : Tb w A t)
    (ha : w.cell? ⟨ba, 0, none⟩ = some (.slice A len c)) (hdd : w.cell? ⟨bd, 0, none⟩ = some (.int .i64 d)) (hw : w.cell? ⟨bw, 0, none⟩ = some (.int .i64 want)) :
    Calls Tryz.prog 99 (#[.int .i64 i] ++ #[.pointer (some ⟨ba, 0, none⟩), .pointer (some ⟨bd, 0, none⟩), .pointer (some ⟨bw, 0, none⟩)]) w fun e w' => e = .returned (.bool (decide (want ≤ sea ((1 + i : Nat) : Int) t d))) ∧ Below w.heap.size w w' := by
  have HC := Lib.hid (fun w hI => seasoned_any ((1 + i : Nat) : Int) A t len c hlen hc hok d (by omega) (by omega) w hI)
  rw [show ((1 + i : Nat) : Int) = 1 + (i : Int) by omega] at HC
  rw [show ((1 + i : Nat) : Int) = 1 + (i : Int) by omega]
  have HIs := Lib.hid (fun s : Ext w => hI.below s.h)
  have f1 := fun s : Ext w => s.cell ha
  have f2 := fun s : Ext w => s.cell hdd
  have f3 := fun s : Ext w => s.cell hw
  have kw : IntKind.i64.wrap (1 + (i : Int)) = 1 + (i : Int) := IntWalk.i64_in _ (by omega)
  have HB := Lib.hid (Below.refl w.heap.size w)
  obtain ⟨y, hy⟩ : ∃ y, sea (1 + (i : Int)) t d = y := ⟨_, rfl⟩
  rw [hy] at HC ⊢
  clear hlen hc hok hI hy ha hdd hw
  change Calls _ _ #[.int .i64 i, .pointer (some ⟨ba, 0, none⟩), .pointer (some ⟨bd, 0, none⟩), .pointer (some ⟨bw, 0, none⟩)] _ _
  go_enter Tryz.func99, Tryz.ntmps99
  go_wp2_with fail
  refine wp_region_ext (by kernel_rfl) (by kernel_rfl) ?_
  repeat (go_big_quiet_step ((go_at_call 94; refine calls_ext (calls_same (HC.out _ (HIs.out _))))))
  refine wpQuiet_nil ?_
  rintro _ ⟨s, rfl⟩
  go_wp2_with fail
  go_ret
  exact ⟨rfl, s.h⟩
set_option maxRecDepth 100000 in
set_option maxHeartbeats 4000000 in
theorem search_any (N : Nat) (hN : N ≤ 1000000) (cb : Array Value) (p : Nat → Bool) (w : World)
    (hf : ∀ (w' : World) (i : Nat), Below w.heap.size w w' → i < N → Calls Tryz.prog 99 (#[.int .i64 i] ++ cb) w' fun e w'' => e = .returned (.bool (p i)) ∧ Below w'.heap.size w' w'')
    (hmono : ∀ a b : Nat, a ≤ b → b < N → p a = true → p b = true) :
    Calls Tryz.prog 98 #[.int .i64 N, .func (.func 99) #[] cb] w fun e w' => ∃ t : Nat, e = .returned (.int .i64 t) ∧ t ≤ N ∧ (∀ s, s < t → p s = false) ∧ (∀ s, t ≤ s → s < N → p s = true) ∧ Below w.heap.size w w' := by
  have HF := Lib.hid hf
  have M := Lib.hid hmono
  have HN := Lib.hid hN
  clear hf hmono
  have eg := eg_alw
  have H0 : Hid ((∀ t, t < 0 → p t = false) ∧ (∀ t, N ≤ t → t < N → p t = true)) := Lib.hid ⟨fun t ht => absurd ht (Nat.not_lt_zero _), fun t h1 h2 => by omega⟩
  go_enter Tryz.func98, Tryz.ntmps98
  go_wp2
  go_loopw [5, 6] (fun s5 s6 wr => ∃ lo hi : Nat, s5 = .int .i64 lo ∧ s6 = .int .i64 hi ∧ lo ≤ hi ∧ hi ≤ N ∧ Hid ((∀ t, t < lo → p t = false) ∧ (∀ t, hi ≤ t → t < N → p t = true)) ∧ Below w.heap.size w wr) (fun s5 s6 _ => (intOf s6).toNat - (intOf s5).toNat)
  case atStart => exact ⟨0, N, rfl, rfl, by omega, by omega, H0, Below.refl _ _⟩
  case round =>
    obtain ⟨lo, hi, rfl, rfl, hlh, hin, I, hB⟩ := hrel
    obtain ⟨wo, rfl⟩ : ∃ wo, wo = wr := ⟨_, rfl⟩
    by_cases hlt : lo < hi
    · have hltI : (lo : Int) < (hi : Int) := by omega
      have hhi : hi ≤ 1000000 := by have := HN.out; omega
      have hlo : lo ≤ 1000000 := by have := HN.out; omega
      have kw1 : wrap64 ((lo : Int) + (hi : Int)) = (lo : Int) + (hi : Int) := by unfold wrap64; omega
      have kw2 : IntKind.u64.wrap ((lo : Int) + (hi : Int)) = (lo : Int) + (hi : Int) := by rw [IntKind.wrap_u64]; omega
      have kw3 : wrap64 (((lo : Int) + (hi : Int)) / 2) = ((lo : Int) + (hi : Int)) / 2 := by unfold wrap64; omega
      have kw4 : wrap64 (((lo : Int) + (hi : Int)) / 2 + 1) = ((lo : Int) + (hi : Int)) / 2 + 1 := by unfold wrap64; omega
      have hc := HF.out wo ((lo + hi) / 2) hB (by omega)
      rw [show (((lo + hi) / 2 : Nat) : Int) = ((lo : Int) + (hi : Int)) / 2 by omega] at hc
      obtain ⟨x, hp⟩ : ∃ x, p ((lo + hi) / 2) = x := ⟨_, rfl⟩
      rw [hp] at hc
      have HC := Lib.hid hc
      have HP := Lib.hid hp
      clear hc hp
      cases x with
      | false =>
        go_wp2_with (go_at_fn 99; refine HC.out.mono ?_; rintro e w' ⟨rfl, hb1⟩)
        go_roundw
        case rel =>
          exact ⟨(lo + hi) / 2 + 1, hi, by rw [show ((lo : Int) + (hi : Int)) / 2 + 1 = (((lo + hi) / 2 + 1 : Nat) : Int) by omega], rfl, by omega, hin, Lib.hid ⟨fun t ht => (by
            cases h : p t with
            | false => rfl
            | true => have := M.out t ((lo + hi) / 2) (by omega) (by omega) h; rw [HP.out] at this; cases this), I.out.2⟩, hB.trans (hb1.mono hB.size)⟩
        case measure => simp [intOf]; omega
      | true =>
        go_wp2_with (go_at_fn 99; refine HC.out.mono ?_; rintro e w' ⟨rfl, hb1⟩)
        go_roundw
        case rel =>
          exact ⟨lo, (lo + hi) / 2, rfl, by rw [show ((lo : Int) + (hi : Int)) / 2 = (((lo + hi) / 2 : Nat) : Int) by omega], by omega, by omega, Lib.hid ⟨I.out.1, fun t ht htn => M.out ((lo + hi) / 2) t ht htn HP.out⟩, hB.trans (hb1.mono hB.size)⟩
        case measure => simp [intOf]; omega
    · obtain rfl : hi = lo := by omega
      go_wp2
      go_ret
      exact ⟨hi, rfl, hin, I.out.1, I.out.2, hB⟩
end Go.Proofs.YticjhkfidgkecaaGreatDoor
