/- SampleHistories, SampleRestarts. -/
import Derived.Test.YtfkhlglagokodaaG5
namespace Go.Proofs.Ytfkhlglagokodaa
open Go.RowKit Go.Shelf

theorem hist_len (S : Pl.Sc) : ∀ (xs : List Int) (st : Int) (l : List Bool), (Pl.hist S st l xs).2.2.length ≤ xs.length := by
  intro xs
  induction xs with
  | nil => intro st l; exact Nat.le_refl _
  | cons x xs ih =>
    intro st l
    by_cases h4 : st = 4
    · subst h4; rw [hist_stop]; exact Nat.zero_le _
    · by_cases hE : Pl.acE (Pl.pl S st) x = 0
      · rw [hist_ok h4 hE]
        unfold Pl.cat
        split
        · have := ih (Pl.nxt st (l ++ [Pl.acV (Pl.pl S st) x])) (Pl.snc st (l ++ [Pl.acV (Pl.pl S st) x]))
          simp
          omega
        · exact Nat.zero_le _
      · rw [hist_err h4 hE]; exact Nat.zero_le _
theorem hs_len (S : Pl.Sc) (st : Int) (xs : List Int) : (Pl.hs S st xs).2.2.length ≤ 200 := by
  unfold Pl.hs
  split
  · split
    · exact Nat.le_trans (hist_len S xs st []) (by assumption)
    · exact Nat.zero_le _
  · exact Nat.zero_le _
theorem rst_len (S : Pl.Sc) (xs ys : List Int) : (Pl.rst S xs ys).2.2.length ≤ 200 := by
  unfold Pl.rst
  split
  · exact Nat.zero_le _
  · split
    · exact Nat.zero_le _
    · exact hs_len S 2 ys

set_option maxRecDepth 100000 in
set_option maxHeartbeats 4000000 in
theorem law_histories (S : Pl.Sc) (A : Option Addr) (xs : List Int) (c : Nat) (hn63 : xs.length ≤ maxLen) (w : World) (hA : Rows inL 1 w A xs) :
    Calls Try.prog 4 #[.agg (scA S), .slice A xs.length c] w fun e w' => e = .returned (.bool true) ∧ Below w.heap.size w w' := by
  have hB0 := (Below.refl w.heap.size w).alloc (Nat.le_refl _) (.cells (scA S) 25)
  have bS := Blk.new w 25 (scA S)
  have hr := bS.range
  have H1 := Lib.hid (fun w' (hb : Below w.heap.size w w') => History_b S A xs c _ rfl hn63 w' (hA.below hb))
  have H2 := Lib.hid (fun w' (hb : Below w.heap.size w w') => rHistory_b S A xs c _ rfl hn63 w' (hA.below hb))
  have H3 := Lib.hid (fun w' (hb : Below w.heap.size w w') => State_b S A xs c _ rfl hn63 w' (hA.below hb))
  have H7 := Lib.hid awake_any
  have HL := Lib.hid (hs_len S 1 xs)
  generalize Pl.hs S 1 xs = R at *
  obtain ⟨E, s, out⟩ := R
  generalize xs.length = n at *
  dsimp only at HL
  obtain ⟨m, hm⟩ : ∃ m, out.length = m := ⟨_, rfl⟩
  have HM := Lib.hid hm
  rw [hm] at HL
  dsimp only at H1 H2 H3
  rw [hm] at H1 H2
  clear hA hm
  go_enter Try.func4, Try.ntmps4
  go_wp2_with (refine ldm_sc hr rfl _ rfl rfl ?_)
  refine (H1.out _ hB0).mono ?_
  rintro e w1 ⟨A1, c1, rfl, hr1, hb1⟩
  have hB1 := hB0.trans (hb1.mono hB0.size)
  have bS1 := bS.below hb1 bS.lt
  have hrS := bS1.range
  have HR1 := Lib.hid hr1
  clear hr1 hb1 bS hr hB0
  go_wp2_with (refine ldm_sc hrS rfl _ rfl rfl ?_)
  refine (H2.out _ hB1).mono ?_
  rintro e w2 ⟨A2, c2, rfl, hr2, hb2⟩
  have hB2 := hB1.trans (hb2.mono hB1.size)
  have bS2 := bS1.below hb2 bS1.lt
  have hrT := bS2.range
  have HR1b := Lib.hid (HR1.out.below hb2)
  have HR2 := Lib.hid hr2
  clear hr2 hb2 bS1 hrS hB1 HR1
  go_wp2_with (refine ldm_sc hrT rfl _ rfl rfl ?_)
  refine (H3.out _ hB2).mono ?_
  rintro e w3 ⟨rfl, hb3⟩
  have hB3 := hB2.trans (hb3.mono hB2.size)
  have HS := Lib.hid (samelots_b A1 A2 out c1 c2 m HM.out (by have := HL.out; omega) w3 (HR1b.out.below hb3) (HR2.out.below hb3))
  clear hb3 bS2 hrT hB2 HR1b HR2
  go_wp2_with fail
  refine HS.out.mono ?_
  rintro e w4 ⟨rfl, hb4⟩
  have hB4 := hB3.trans (hb4.mono hB3.size)
  go_wp2_with fail
  refine (H7.out _).mono ?_
  rintro e w5 ⟨rfl, hb5⟩
  have hB5 := hB4.trans (hb5.mono hB4.size)
  go_wp2
  go_ret
  exact ⟨rfl, hB5⟩

set_option maxRecDepth 100000 in
set_option maxHeartbeats 4000000 in
theorem law_restarts (S : Pl.Sc) (A B : Option Addr) (xs ys : List Int) (c d : Nat) (hn63 : xs.length ≤ maxLen) (hm63 : ys.length ≤ maxLen) (w : World) (hA : Rows inL 1 w A xs) (hBy : Rows inL 1 w B ys) :
    Calls Try.prog 5 #[.agg (scA S), .slice A xs.length c, .slice B ys.length d] w fun e w' => e = .returned (.bool true) ∧ Below w.heap.size w w' := by
  have hB0 := (Below.refl w.heap.size w).alloc (Nat.le_refl _) (.cells (scA S) 25)
  have bS := Blk.new w 25 (scA S)
  have hr := bS.range
  have H1 := Lib.hid (fun w' (hb : Below w.heap.size w w') => Restart_b S A B xs ys c _ d _ rfl hn63 rfl hm63 w' (hA.below hb) (hBy.below hb))
  have H2 := Lib.hid (fun w' (hb : Below w.heap.size w w') => rRestart_b S A B xs ys c _ d _ rfl hn63 rfl hm63 w' (hA.below hb) (hBy.below hb))
  have H7 := Lib.hid awake_any
  have HL := Lib.hid (rst_len S xs ys)
  generalize Pl.rst S xs ys = R at *
  obtain ⟨E, s, out⟩ := R
  generalize xs.length = n at *
  generalize ys.length = n2 at *
  dsimp only at HL
  obtain ⟨m, hm⟩ : ∃ m, out.length = m := ⟨_, rfl⟩
  have HM := Lib.hid hm
  rw [hm] at HL
  dsimp only at H1 H2
  rw [hm] at H1 H2
  clear hA hBy hm
  go_enter Try.func5, Try.ntmps5
  go_wp2_with (refine ldm_sc hr rfl _ rfl rfl ?_)
  refine (H1.out _ hB0).mono ?_
  rintro e w1 ⟨A1, c1, rfl, hr1, hb1⟩
  have hB1 := hB0.trans (hb1.mono hB0.size)
  have bS1 := bS.below hb1 bS.lt
  have hrS := bS1.range
  have HR1 := Lib.hid hr1
  clear hr1 hb1 bS hr hB0
  go_wp2_with (refine ldm_sc hrS rfl _ rfl rfl ?_)
  refine (H2.out _ hB1).mono ?_
  rintro e w2 ⟨A2, c2, rfl, hr2, hb2⟩
  have hB2 := hB1.trans (hb2.mono hB1.size)
  have HS := Lib.hid (samelots_b A1 A2 out c1 c2 m HM.out (by have := HL.out; omega) w2 (HR1.out.below hb2) hr2)
  clear hr2 hb2 bS1 hrS hB1 HR1
  go_wp2_with fail
  refine HS.out.mono ?_
  rintro e w4 ⟨rfl, hb4⟩
  have hB4 := hB2.trans (hb4.mono hB2.size)
  go_wp2_with fail
  refine (H7.out _).mono ?_
  rintro e w5 ⟨rfl, hb5⟩
  have hB5 := hB4.trans (hb5.mono hB4.size)
  go_wp2
  go_ret
  exact ⟨rfl, hB5⟩
end Go.Proofs.Ytfkhlglagokodaa
