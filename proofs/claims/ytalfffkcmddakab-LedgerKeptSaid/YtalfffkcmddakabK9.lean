/- spoil: it turns the bytes of a row of its caller's, and nothing else. -/
import Derived.Test.YtalfffkcmddakabZ9
namespace Go.Proofs.Ytalfffkcmddakab
open Go.RowKit Go.Shelf

set_option maxRecDepth 100000 in
set_option maxHeartbeats 4000000 in
theorem spoil_any (B g n c : Nat) (hm : n ≤ 100000) (xs : List Value) (hx : ∀ i, i < n → ∃ z, xs[i]? = some (.int .u8 z)) (w : World) (hO : w.ownsRow B 5 1 (.slice (some ⟨g, 0, none⟩) n c) n xs) :
    Calls Try.prog 29 #[.slice (some ⟨g, 0, none⟩) n c] w fun e w' => e = .returned (.tuple #[]) ∧ Fr [g] w w' := by
  have HX := Lib.hid hx
  clear hx
  go_enter Try.func29, Try.ntmps29
  go_wp2
  go_loopw [5] (fun i wr => ∃ k : Nat, ∃ ys : List Value, k ≤ n ∧ i = .int .i64 k ∧ Hid (∀ i, i < n → ∃ z, ys[i]? = some (.int .u8 z)) ∧ wr.ownsRow B 5 1 (.slice (some ⟨g, 0, none⟩) n c) n ys ∧ Hid (Fr [g] w wr)) (fun i _ => n - (intOf i).toNat)
  case atStart => exact ⟨0, xs, Nat.zero_le _, rfl, HX, hO, Lib.hid (Fr.refl _ _)⟩
  case round =>
    clear hO HX
    obtain ⟨k, ys, hk, rfl, HY, hO, HF⟩ := hrel
    obtain ⟨wo, rfl⟩ : ∃ wo, wo = wr := ⟨_, rfl⟩
    by_cases hlt : k < n
    · have hltI : (k : Int) < (n : Int) := by omega
      obtain ⟨z, hz⟩ := HY.out k hlt
      have cp := hO.cellAt k (by omega)
      rw [hz] at cp
      have fp := hO.frozenAt k
      have HS := Lib.hid (hO.stored k (.int .u8 (bits .xor .u8 z 255))).1
      have HF2 := Lib.hid (HF.out.trans (Fr.setCell wo g k (.int .u8 (bits .xor .u8 z 255))))
      have HY2 : Hid (∀ i, i < n → ∃ z', (ys.set k (.int .u8 (bits .xor .u8 z 255)))[i]? = some (.int .u8 z')) := Lib.hid (fun i hi => by
        rw [List.getElem?_set]
        by_cases h : k = i
        · subst h
          refine ⟨bits .xor .u8 z 255, ?_⟩
          rw [if_pos rfl, if_pos (by have := hO.1; omega)]
        · rw [if_neg h]; exact HY.out i hi)
      clear hO hz
      go_wp2
      go_roundw
      case rel => exact ⟨k + 1, _, by omega, by go_num, HY2, HS.out, HF2⟩
      case measure => simp [intOf]; omega
    · obtain rfl : k = n := by omega
      go_wp2
      go_end0
      exact ⟨rfl, HF.out⟩
set_option maxRecDepth 100000 in
set_option maxHeartbeats 4000000 in
theorem spoil_nil (w : World) : Calls Try.prog 29 #[.slice none 0 0] w fun e w' => e = .returned (.tuple #[]) ∧ w' = w := by
  go_enter Try.func29, Try.ntmps29
  go_wp2
  go_loopw [5] (fun i wr => i = .int .i64 0 ∧ wr = w) (fun _ _ => 0)
  case atStart => exact ⟨rfl, rfl⟩
  case round =>
    obtain ⟨rfl, rfl⟩ := hrel
    go_wp2
    go_end0
    exact ⟨rfl, rfl⟩
/-- spoil of an own row: no block but its own has turned -/
theorem spoil_own {B n : Nat} {v : Value} {l : Pl.Bs} {w : World} (hn : l.length = n) (hm : n ≤ 100000) (hO : w.ownsRow B 5 1 v n (flt u8L l)) :
    Calls Try.prog 29 #[v] w fun e w' => e = .returned (.tuple #[]) ∧ Fr v.ownBlock.toList w w' := by
  have hO' := hO
  rcases hO with ⟨_, ⟨rfl, h0⟩ | ⟨g, cap, cur, rfl, _⟩⟩
  · exact (spoil_nil w).mono fun e w' ⟨he, hw⟩ => ⟨he, by rw [hw]; exact Fr.refl _ _⟩
  · refine spoil_any B g n cap hm _ (fun i hi => ?_) w hO'
    have hi' : i < l.length := by omega
    have := flt_get encU8 l i 0 hi' (by decide)
    rw [Nat.mul_one, Nat.add_zero] at this
    exact ⟨_, this⟩
theorem own_frg {S : List Nat} {B k n : Nat} {t : TypeId} {v : Value} {xs : List Value} {w w' : World} (h : w.ownsRow B t k v n xs) (hf : Fr S w w') (hn : ∀ g, v.ownBlock = some g → g ∉ S) : w'.ownsRow B t k v n xs := by
  refine ⟨h.1, ?_⟩
  rcases h.2 with hn' | ⟨g, cap, cur, rfl, hb, hg, rest⟩
  · exact .inl hn'
  · refine .inr ⟨g, cap, cur, rfl, hb, ?_, rest⟩
    rw [hf.block g (Array.getElem?_eq_some_iff.1 hg).1 (hn g rfl)]
    exact hg
end Go.Proofs.Ytalfffkcmddakab
