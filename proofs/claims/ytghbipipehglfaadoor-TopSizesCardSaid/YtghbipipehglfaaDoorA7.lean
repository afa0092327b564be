/- The error of values, a width and a list; lists compared. -/
import Derived.Test.YtghbipipehglfaaDoorA5
import Derived.Test.YtghbipipehglfaaDoorP3
namespace Go.Proofs.YtghbipipehglfaaDoor
open Go.RowKit Go.Shelf

set_option maxRecDepth 100000 in
set_option maxHeartbeats 1000000 in
theorem allwithin_any (A : Option Addr) (l : List Int) (c : Nat) (a b : Int) (hlen : l.length ≤ 200) (w : World) (hI : Ints w A l) :
    Calls Tryd.prog 92 #[.slice A l.length c, .int .i64 a, .int .i64 b] w fun e w' => e = .returned (.bool (Pl.allIn l a b)) ∧ w' = w := by
  have HI := Lib.hid hI
  clear hI
  go_enter Tryd.func92, Tryd.ntmps92
  go_wp2
  go_loop [8, 11] (fun _ i => ∃ k : Nat, k ≤ l.length ∧ i = .int .i64 k ∧ Hid (Pl.allK (fun i => Pl.inB (l.getD i 0) a b) k = true)) (fun _ i => l.length - (intOf i).toNat)
  case atStart => exact ⟨0, by omega, rfl, Lib.hid rfl⟩
  case round =>
    obtain ⟨k, hk, rfl, hall⟩ := hrel
    by_cases hlt : k < l.length
    · obtain ⟨bb, off, rfl, hc⟩ : ∃ bb off, A = some ⟨bb, off, none⟩ ∧ w.cell? ⟨bb, off + k, none⟩ = some (.int .i64 (l.getD k 0)) := by
        rcases HI.out with h | ⟨bb, off, he, _, hc⟩
        · rw [h] at hlt; simp at hlt
        · exact ⟨bb, off, he, hc k hlt⟩
      generalize hx : l.getD k 0 = x at *
      have HX := Lib.hid hx
      clear hx
      cases hin : Pl.inB x a b with
      | true =>
        have H := Lib.hid hin
        clear hin
        go_wp2_with (go_at_call 72; refine (within_b _ _ _ true H.out _).mono ?_; rintro e w' ⟨rfl, rfl⟩)
        go_round
        case rel => exact ⟨k + 1, by omega, by go_num, Lib.hid (Pl.allK_succ hall.out (by rw [HX.out]; exact H.out))⟩
        case measure => simp [intOf]; omega
      | false =>
        have H := Lib.hid hin
        clear hin
        go_wp2_with (go_at_call 72; refine (within_b _ _ _ false H.out _).mono ?_; rintro e w' ⟨rfl, rfl⟩)
        go_ret
        have : Pl.allIn l a b = false := Pl.allK_false hlt (by rw [HX.out]; exact H.out)
        exact ⟨by rw [this]; rfl, rfl⟩
    · obtain rfl : k = l.length := by omega
      go_wp2
      go_ret
      have : Pl.allIn l a b = true := hall.out
      exact ⟨by rw [this]; rfl, rfl⟩

set_option maxRecDepth 100000 in
set_option maxHeartbeats 2000000 in
theorem checkline_any (A B : Option Addr) (vs ls : List Int) (c d : Nat) (x : Int) (w : World) (hI : Ints w A vs) (hJ : Ints w B ls) :
    Calls Tryd.prog 79 #[.slice A vs.length c, .int .i64 x, .slice B ls.length d] w fun e w' => e = .returned (.int .i64 (Pl.lineE vs x ls)) ∧ w' = w := by
  by_cases hv : 200 < vs.length
  · rw [Pl.lineE_limit (.inl hv)]
    go_enter Tryd.func79, Tryd.ntmps79
    go_wp2
    go_ret
    exact ⟨rfl, rfl⟩
  · by_cases hl : 200 < ls.length
    · rw [Pl.lineE_limit (.inr hl)]
      go_enter Tryd.func79, Tryd.ntmps79
      go_wp2
      go_ret
      exact ⟨rfl, rfl⟩
    · have hn : ¬ (200 < vs.length ∨ 200 < ls.length) := by omega
      have HE : Hid (Pl.lineOk vs x ls = (Pl.allIn vs (-1000000) 1000000 && (Pl.allIn ls (-2000000) 1000000 && Pl.inB x 0 1000000))) := Lib.hid rfl
      have HN := Lib.hid hn
      clear hn
      have hv' : vs.length ≤ 200 := by omega
      have hl' : ls.length ≤ 200 := by omega
      clear hv hl
      obtain ⟨b1, h1⟩ : ∃ b, Pl.allIn vs (-1000000) 1000000 = b := ⟨_, rfl⟩
      obtain ⟨b2, h2⟩ : ∃ b, Pl.allIn ls (-2000000) 1000000 = b := ⟨_, rfl⟩
      obtain ⟨b3, h3⟩ : ∃ b, Pl.inB x 0 1000000 = b := ⟨_, rfl⟩
      have HE2 : Hid (Pl.lineE vs x ls = if (b1 && (b2 && b3)) = true then 0 else 2) := Lib.hid (by
        cases hb : (b1 && (b2 && b3)) with
        | true => rw [if_pos rfl, Pl.lineE_ok HN.out (by rw [HE.out, h1, h2, h3, hb])]
        | false => rw [if_neg (by simp), Pl.lineE_arg HN.out (by rw [HE.out, h1, h2, h3, hb])])
      rw [HE2.out]
      clear HE HE2 HN
      cases b1 <;> cases b2 <;> cases b3 <;>
      (go_enter Tryd.func79, Tryd.ntmps79
       go_wp2_with (first | (go_at_call 92; refine (allwithin_any _ _ _ _ _ (by assumption) _ (by assumption)).mono ?_; rintro e w' ⟨rfl, rfl⟩) | (go_at_call 72; refine (within_any _ _ _ _).mono ?_; rintro e w' ⟨rfl, rfl⟩))
       go_ret
       exact ⟨rfl, rfl⟩)
end Go.Proofs.YtghbipipehglfaaDoor
