import Derived.Test.YtflkhjicgojcbaaV4
namespace Go.Proofs.Ytflkhjicgojcbaa
open Go.RowKit Go.Shelf

theorem sumV_len64 (o p : List Geo.XY) : (sumV o p).1.length ≤ 64 := by
  by_cases h : validB o = true ∧ validB p = true
  · rw [sumV_yes h]
    split
    · rename_i h2; exact h2.1
    · simp
  · rw [sumV_no h]; simp

set_option maxRecDepth 100000 in
set_option maxHeartbeats 4000000 in
theorem law_sums (A A' : Option Addr) (o p : List Geo.XY) (c c' : Nat) (w : World) (ho : Pts w A o) (hp : Pts w A' p) (hcap : o.length ≤ c) (hcap' : p.length ≤ c') :
    Calls Try.prog 8 #[.slice A o.length c, .slice A' p.length c'] w fun e w' => e = .returned (.bool true) ∧ Below w.heap.size w w' := by
  have HO := Lib.hid ho
  have HP := Lib.hid hp
  clear ho hp
  have hlen := sumV_len64 o p
  have heq : eqB (sumV o p).1 (sumV o p).1 = true := by unfold eqB; simp
  obtain ⟨⟨cs, ce⟩, hcs⟩ : ∃ r, sumV o p = r := ⟨_, rfl⟩
  rw [hcs] at hlen heq
  have HCS := Lib.hid hcs
  have HEQ := Lib.hid heq
  clear hcs heq
  dsimp only at hlen
  go_enter Try.func8, Try.ntmps8
  go_wp2_with fail
  refine (dsum_any A A' o p c c' _ HO.out HP.out hcap hcap').mono ?_
  rintro e w1 ⟨v1, rfl, hown1, hb1⟩
  rw [HCS.out] at hown1
  rw [HCS.out]
  obtain ⟨A1, c1, rfl, hp1⟩ := pts_of_owns hown1
  go_wp2_with fail
  refine (rsum_any A A' o p c c' _ (HO.out.below hb1) (HP.out.below hb1)).mono ?_
  rintro e w2 ⟨v2, rfl, hown2, hb2⟩
  have hB2 := hb1.trans (hb2.mono hb1.size)
  rw [HCS.out] at hown2
  rw [HCS.out]
  obtain ⟨A2, c2, rfl, hp2⟩ := pts_of_owns hown2
  have HP1 := Lib.hid (hp1.below hb2)
  have HP2 := Lib.hid hp2
  clear hp1 hp2 hown1 hown2
  dsimp only at HP1 HP2 ⊢
  go_wp2_with fail
  refine (same_any A1 A2 cs cs c1 c2 _ HP1.out HP2.out (by omega) true HEQ.out).mono ?_
  rintro e w7 ⟨rfl, hb7⟩
  have hB7 := hB2.trans (hb7.mono hB2.size)
  go_wp2_with fail
  refine (awake_any _).mono ?_
  rintro e w8 ⟨rfl, hb8⟩
  go_wp2
  go_ret
  exact ⟨rfl, hB7.trans (hb8.mono hB7.size)⟩
end Go.Proofs.Ytflkhjicgojcbaa
