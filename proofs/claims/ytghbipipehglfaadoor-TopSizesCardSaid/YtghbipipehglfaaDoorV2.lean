/- The law LastFewest. -/
import Derived.Test.YtghbipipehglfaaDoorC14
import Derived.Test.YtghbipipehglfaaDoorA13
namespace Go.Proofs.YtghbipipehglfaaDoor
open Go.RowKit Go.Shelf

theorem coL_len (ss : List Pl.Sz) (hs : List Pl.Hd) : (nts (coL ss hs)).length ≤ 20 := by
  rw [nts_len]
  rcases coE_four ss hs with ⟨_, _, h⟩ | ⟨_, _, _, h⟩ | ⟨_, _, _, _, h⟩ | ⟨_, h2, _, _, h⟩
  · rw [h]; simp
  · rw [h]; simp
  · rw [h]; simp
  · rw [h]; have := Pl.els_len (fwB ss hs) ss.length; omega
/-- what Greedy takes -/
theorem grL_props {ss : List Pl.Sz} {hs : List Pl.Hd} (h : grE ss hs = 0) : (∀ i ∈ grL ss hs, i < ss.length) ∧ (grL ss hs).Nodup ∧ Pl.cv ss hs (grL ss hs) = true ∧ (grL ss hs).length ≤ 40 := by
  rcases grE_three ss hs with ⟨hb, he, _⟩ | ⟨_, _, he, _⟩ | ⟨hb, hc, _, hl⟩
  · rw [h] at he; exact absurd he.symm hb
  · rw [h] at he; cases he
  · obtain ⟨_, ⟨h1, _⟩⟩ := bothE_ok hb
    have hF := isF_sets ss hs
    have hCb := Pl.cb_lft hF hc []
    rw [Pl.lft_nil] at hCb
    have hp := pow40 h1
    obtain ⟨k1, k2, k3, k4⟩ := Pl.gr_props 40 (2 ^ hs.length - 1) (Pl.cnt_le hp (by omega)) (by omega) hCb
    rw [hl]
    refine ⟨fun i hi => (k1 i hi).1, k2, ?_, Nat.le_trans k4 (Pl.cnt_le hp (by omega))⟩
    rw [← hF.cover, Pl.full_iff (hF.unl _)]
    intro j hj
    exact k3 j (by rw [Nat.testBit_two_pow_sub_one]; simpa using hj)
theorem grL_len (ss : List Pl.Sz) (hs : List Pl.Hd) : (nts (grL ss hs)).length ≤ 40 := by
  rw [nts_len]
  by_cases h : grE ss hs = 0
  · exact (grL_props h).2.2.2
  · rw [show grL ss hs = [] from if_neg h]; simp

set_option maxRecDepth 100000 in
set_option maxHeartbeats 4000000 in
theorem law_fewest (A B : Option Addr) (ss : List Pl.Sz) (hs : List Pl.Hd) (c d : Nat) (w : World) (hT : Tab w) (c1 : ss.length ≤ c) (c2 : ss.length ≤ 9223372036854775807) (c3 : hs.length ≤ d) (c4 : hs.length ≤ 9223372036854775807)
    (hI : Szs w A ss) (hJ : Hds w B hs) :
    Calls Tryd.prog 5 #[.slice A ss.length c, .slice B hs.length d] w fun e w' => e = .returned (.bool true) ∧ Below w.heap.size w w' := by
  have H1 := Lib.hid (Cover_any A B ss hs c d w hT hI hJ)
  have H2 := Lib.hid (fun (w' : World) (hb : Below w.heap.size w w') => rCover_any A B ss hs c d w' c1 c2 c3 c4 (hI.below hb) (hJ.below hb))
  have H3 := Lib.hid (fun (w' : World) (hb : Below w.heap.size w w') => Greedy_any A B ss hs c d w' (hT.below hb) (hI.below hb) (hJ.below hb))
  have H4 := Lib.hid (fun (w' : World) (hb : Below w.heap.size w w') => rGreedy_any A B ss hs c d w' c1 c2 c3 c4 (hI.below hb) (hJ.below hb))
  have l1 := Lib.hid (coL_len ss hs)
  have l2 := Lib.hid (grL_len ss hs)
  simp only [show (coL ss hs).length = (nts (coL ss hs)).length from (nts_len _).symm] at H2
  generalize nts (coL ss hs) = L1 at *
  generalize nts (grL ss hs) = L2 at *
  generalize coE ss hs = e1 at *
  generalize grE ss hs = e2 at *
  have n1 : (e1 != e1) = false := by simp
  have n2 : (e2 == e2) = true := by simp
  clear hI hJ hT
  go_enter Tryd.func5, Tryd.ntmps5
  go_wp2_with fail
  refine H1.out.mono ?_
  rintro e w1 ⟨v1, rfl, hown1, hb1⟩
  obtain ⟨A1, k1, rfl, hI1, _⟩ := own_list hown1
  have hH2 := H2.out _ hb1
  clear H1 H2 hown1
  go_wp2_with fail
  refine hH2.mono ?_
  rintro e w2 ⟨v2, rfl, ⟨A2, k2, rfl, hI2⟩, hb2⟩
  have hB2 := hb1.trans (hb2.mono hb1.size)
  have hS := same_yes A1 A2 L1 k1 k2 (by have := l1.out; omega) _ (hI1.below hb2) hI2
  clear hH2 hI1 hI2 hb1 hb2
  go_wp2_with fail
  refine hS.mono ?_
  rintro e w3 ⟨rfl, hb3⟩
  have hB3 := hB2.trans (hb3.mono hB2.size)
  have hH3 := H3.out _ hB3
  clear hS H3 hb3 hB2
  go_wp2_with fail
  refine hH3.mono ?_
  rintro e w4 ⟨v4, rfl, hown4, hb4⟩
  obtain ⟨A4, k4, rfl, hI4, _⟩ := own_list hown4
  have hB4 := hB3.trans (hb4.mono hB3.size)
  have hH4 := H4.out _ hB4
  clear hH3 H4 hown4 hb4 hB3
  go_wp2_with fail
  refine hH4.mono ?_
  rintro e w5 ⟨v5, rfl, hown5, hb5⟩
  obtain ⟨A5, k5, rfl, hI5, _⟩ := own_list hown5
  have hB5 := hB4.trans (hb5.mono hB4.size)
  have hS2 := same_yes A4 A5 L2 k4 k5 (by have := l2.out; omega) _ (hI4.below hb5) hI5
  clear hH4 hown5 hb5 hI4 hI5 hB4
  go_wp2_with fail
  refine hS2.mono ?_
  rintro e w6 ⟨rfl, hb6⟩
  have hB6 := hB5.trans (hb6.mono hB5.size)
  clear hS2 hb6 hB5
  go_wp2_with fail
  refine (awake_any _).mono ?_
  rintro e w7 ⟨rfl, hb7⟩
  go_wp2
  go_ret
  exact ⟨rfl, hB6.trans (hb7.mono hB6.size)⟩
end Go.Proofs.YtghbipipehglfaaDoor
