/- The law LastProofs. -/
import Derived.Test.YtghbipipehglfaaDoorD1
namespace Go.Proofs.YtghbipipehglfaaDoor
open Go.RowKit Go.Shelf

set_option maxRecDepth 100000 in
set_option maxHeartbeats 16000000 in
theorem law_proofs (A B Al Am : Option Addr) (ss : List Pl.Sz) (hs : List Pl.Hd) (l m : List Int) (c d cl cm : Nat) (w : World) (hT : Tab w) (hmax : l.length ≤ 9223372036854775807) (hmax2 : m.length ≤ 9223372036854775807)
    (hI : Szs w A ss) (hJ : Hds w B hs) (hL : Ints w Al l) (hM : Ints w Am m) :
    Calls Tryd.prog 6 #[.slice A ss.length c, .slice B hs.length d, .slice Al l.length cl, .slice Am m.length cm] w fun e w' => e = .returned (.bool true) ∧ Below w.heap.size w w' := by
  have H1 := Lib.hid (Covers_any A B Al ss hs l c d cl w hmax hT hI hJ hL)
  have H2 := Lib.hid (fun (w' : World) (hb : Below w.heap.size w w') => Apart_any A B Am ss hs m c d cm w' hmax2 (hI.below hb) (hJ.below hb) (hM.below hb))
  have H3 := Lib.hid (fun (w' : World) (hb : Below w.heap.size w w') => Cover_any A B ss hs c d w' (hT.below hb) (hI.below hb) (hJ.below hb))
  have H4 := Lib.hid (fun (w' : World) (hb : Below w.heap.size w w') => Greedy_any A B ss hs c d w' (hT.below hb) (hI.below hb) (hJ.below hb))
  have H5 := Lib.hid (fun (A' : Option Addr) (l' : List Int) (c' : Nat) (hl' : l'.length ≤ 100) (w' : World) (hb : Below w.heap.size w w') (hL' : Ints w' A' l') => Covers_any A B A' ss hs l' c d c' w' (by omega) (hT.below hb) (hI.below hb) (hJ.below hb) hL')
  have k1 := Lib.hid (coL_len ss hs)
  have k2 := Lib.hid (grL_len ss hs)
  have HX : Hid (cvV ss hs l = true → apV ss hs m = true → m.length ≤ l.length) := Lib.hid fun hx hy => by
    obtain ⟨_, a2, a3, a4⟩ := cover_yes hx
    rw [← a4]; exact cover_apart a2 a3 hy
  have HG : Hid (coE ss hs = 0 → grE ss hs = 0 ∧ (cvE ss hs (nts (coL ss hs)) = 0 ∧ cvV ss hs (nts (coL ss hs)) = true) ∧ (cvE ss hs (nts (grL ss hs)) = 0 ∧ cvV ss hs (nts (grL ss hs)) = true) ∧ (nts (coL ss hs)).length ≤ (nts (grL ss hs)).length ∧
      (cvV ss hs l = true → (nts (coL ss hs)).length ≤ l.length) ∧ (apV ss hs m = true → m.length ≤ (nts (coL ss hs)).length)) := Lib.hid fun h => by
    obtain ⟨b1, b2, b3, b4, b5, b6, b7⟩ := co_gr h
    obtain ⟨g1, g2, g3, _⟩ := grL_props b3
    have c1 := cover_nts b1 b6 b7
    have c2 := cover_nts b1 g2 g1
    refine ⟨b3, ⟨c1.1, by rw [c1.2]; exact b5⟩, ⟨c2.1, by rw [c2.2]; exact g3⟩, ?_, fun hx => ?_, fun hy => ?_⟩
    · rw [nts_len, nts_len, b4]; exact fwB_min b2 g1 g3
    · obtain ⟨_, a2, a3, a4⟩ := cover_yes hx
      rw [nts_len, b4, ← a4]; exact fwB_min b2 a2 a3
    · rw [nts_len]; exact cover_apart b7 b5 hy
  clear hI hJ hL hM hT
  have H5B := Lib.hid (fun (A' : Option Addr) (c' : Nat) (w' : World) (hb : Below w.heap.size w w') (hL' : Ints w' A' (nts (coL ss hs))) => H5.out A' (nts (coL ss hs)) c' (by have := k1.out; omega) w' hb hL')
  have H5G := Lib.hid (fun (A' : Option Addr) (c' : Nat) (w' : World) (hb : Below w.heap.size w w') (hL' : Ints w' A' (nts (grL ss hs))) => H5.out A' (nts (grL ss hs)) c' (by have := k2.out; omega) w' hb hL')
  clear H5 k1 k2
  generalize cvE ss hs (nts (coL ss hs)) = e5 at *
  generalize cvV ss hs (nts (coL ss hs)) = x5 at *
  generalize cvE ss hs (nts (grL ss hs)) = e6 at *
  generalize cvV ss hs (nts (grL ss hs)) = x6 at *
  generalize nts (coL ss hs) = L1 at *
  generalize nts (grL ss hs) = L2 at *
  generalize coE ss hs = e3 at *
  generalize grE ss hs = e4 at *
  generalize cvV ss hs l = x1 at *
  generalize cvE ss hs l = e1 at *
  generalize apV ss hs m = x2 at *
  generalize apE ss hs m = e2 at *
  by_cases h1 : e1 = 0
  · subst h1
    cases x1 with
    | false =>
      by_cases h2 : e2 = 0
      · subst h2
        cases x2 with
        | false =>
          clear HX
          go_enter Tryd.func6, Tryd.ntmps6
          go_wp2_with fail
          refine H1.out.mono ?_
          rintro e w1 ⟨rfl, hb1⟩
          have hH2 := H2.out _ hb1
          clear H1 H2
          go_wp2_with fail
          refine hH2.mono ?_
          rintro e w2 ⟨rfl, hb2⟩
          have hB2 := hb1.trans (hb2.mono hb1.size)
          have hH3 := H3.out _ hB2
          clear hH2 H3 hb1 hb2
          go_wp2_with fail
          refine hH3.mono ?_
          rintro e w3 ⟨v3, rfl, hown3, hb3⟩
          obtain ⟨A3, c3, rfl, hI3, _⟩ := own_list hown3
          have hB3 := hB2.trans (hb3.mono hB2.size)
          have hH4 := H4.out _ hB3
          clear hH3 H4 hb3 hB2 hown3
          go_wp2_with fail
          refine hH4.mono ?_
          rintro e w4 ⟨v4, rfl, hown4, hb4⟩
          obtain ⟨A4, c4, rfl, hI4, _⟩ := own_list hown4
          have hB4 := hB3.trans (hb4.mono hB3.size)
          have hI3' := hI3.below hb4
          clear hH4 hb4 hB3 hown4 hI3
          by_cases hg : e3 = 0
          · obtain ⟨g1, ⟨g2, g3⟩, ⟨g4, g5⟩, g6, g7, g8⟩ := HG.out hg
            subst g1 g2 g3 g4 g5 hg
            clear HG
            have hn5 : ¬ ((L2.length : Int) < L1.length) := by omega
            clear g7 g8
            have hH5 := H5B.out A3 c3 _ hB4 hI3'
            go_wp2_with fail
            refine hH5.mono ?_
            rintro e w5 ⟨rfl, hb5⟩
            have hB5 := hB4.trans (hb5.mono hB4.size)
            have hH6 := H5G.out A4 c4 _ hB5 (hI4.below hb5)
            clear hH5 H5B H5G hb5 hB4
            go_wp2_with fail
            refine hH6.mono ?_
            rintro e w6 ⟨rfl, hb6⟩
            have hB6 := hB5.trans (hb6.mono hB5.size)
            clear hH6 hb6 hB5
            go_wp2_with fail
            refine (awake_any _).mono ?_
            rintro e w7 ⟨rfl, hb7⟩
            go_wp2
            go_ret
            exact ⟨rfl, hB6.trans (hb7.mono hB6.size)⟩
          · have hge : (e3 != 0) = true := bne_iff_ne.2 hg
            clear HG hg H5B H5G
            go_wp2_with fail
            refine (awake_any _).mono ?_
            rintro e w7 ⟨rfl, hb7⟩
            go_wp2
            go_ret
            exact ⟨rfl, hB4.trans (hb7.mono hB4.size)⟩
        | true =>
          clear HX
          go_enter Tryd.func6, Tryd.ntmps6
          go_wp2_with fail
          refine H1.out.mono ?_
          rintro e w1 ⟨rfl, hb1⟩
          have hH2 := H2.out _ hb1
          clear H1 H2
          go_wp2_with fail
          refine hH2.mono ?_
          rintro e w2 ⟨rfl, hb2⟩
          have hB2 := hb1.trans (hb2.mono hb1.size)
          have hH3 := H3.out _ hB2
          clear hH2 H3 hb1 hb2
          go_wp2_with fail
          refine hH3.mono ?_
          rintro e w3 ⟨v3, rfl, hown3, hb3⟩
          obtain ⟨A3, c3, rfl, hI3, _⟩ := own_list hown3
          have hB3 := hB2.trans (hb3.mono hB2.size)
          have hH4 := H4.out _ hB3
          clear hH3 H4 hb3 hB2 hown3
          go_wp2_with fail
          refine hH4.mono ?_
          rintro e w4 ⟨v4, rfl, hown4, hb4⟩
          obtain ⟨A4, c4, rfl, hI4, _⟩ := own_list hown4
          have hB4 := hB3.trans (hb4.mono hB3.size)
          have hI3' := hI3.below hb4
          clear hH4 hb4 hB3 hown4 hI3
          by_cases hg : e3 = 0
          · obtain ⟨g1, ⟨g2, g3⟩, ⟨g4, g5⟩, g6, g7, g8⟩ := HG.out hg
            subst g1 g2 g3 g4 g5 hg
            clear HG
            have f6 : (m.length : Int) ≤ L1.length := by have := g8 (by first | rfl | trivial); omega
            have hn5 : ¬ ((L2.length : Int) < L1.length) := by omega
            clear g7 g8
            have hH5 := H5B.out A3 c3 _ hB4 hI3'
            go_wp2_with fail
            refine hH5.mono ?_
            rintro e w5 ⟨rfl, hb5⟩
            have hB5 := hB4.trans (hb5.mono hB4.size)
            have hH6 := H5G.out A4 c4 _ hB5 (hI4.below hb5)
            clear hH5 H5B H5G hb5 hB4
            go_wp2_with fail
            refine hH6.mono ?_
            rintro e w6 ⟨rfl, hb6⟩
            have hB6 := hB5.trans (hb6.mono hB5.size)
            clear hH6 hb6 hB5
            go_wp2_with fail
            refine (awake_any _).mono ?_
            rintro e w7 ⟨rfl, hb7⟩
            go_wp2
            go_ret
            exact ⟨rfl, hB6.trans (hb7.mono hB6.size)⟩
          · have hge : (e3 != 0) = true := bne_iff_ne.2 hg
            clear HG hg H5B H5G
            go_wp2_with fail
            refine (awake_any _).mono ?_
            rintro e w7 ⟨rfl, hb7⟩
            go_wp2
            go_ret
            exact ⟨rfl, hB4.trans (hb7.mono hB4.size)⟩
      · have f2 : (e2 == 0) = false := by simpa using h2
        have f3 : (e2 != 0) = true := by simpa using h2
        clear h2
        clear HX
        go_enter Tryd.func6, Tryd.ntmps6
        go_wp2_with fail
        refine H1.out.mono ?_
        rintro e w1 ⟨rfl, hb1⟩
        have hH2 := H2.out _ hb1
        clear H1 H2
        go_wp2_with fail
        refine hH2.mono ?_
        rintro e w2 ⟨rfl, hb2⟩
        have hB2 := hb1.trans (hb2.mono hb1.size)
        have hH3 := H3.out _ hB2
        clear hH2 H3 hb1 hb2
        go_wp2_with fail
        refine hH3.mono ?_
        rintro e w3 ⟨v3, rfl, hown3, hb3⟩
        obtain ⟨A3, c3, rfl, hI3, _⟩ := own_list hown3
        have hB3 := hB2.trans (hb3.mono hB2.size)
        have hH4 := H4.out _ hB3
        clear hH3 H4 hb3 hB2 hown3
        go_wp2_with fail
        refine hH4.mono ?_
        rintro e w4 ⟨v4, rfl, hown4, hb4⟩
        obtain ⟨A4, c4, rfl, hI4, _⟩ := own_list hown4
        have hB4 := hB3.trans (hb4.mono hB3.size)
        have hI3' := hI3.below hb4
        clear hH4 hb4 hB3 hown4 hI3
        by_cases hg : e3 = 0
        · obtain ⟨g1, ⟨g2, g3⟩, ⟨g4, g5⟩, g6, g7, g8⟩ := HG.out hg
          subst g1 g2 g3 g4 g5 hg
          clear HG
          have hn5 : ¬ ((L2.length : Int) < L1.length) := by omega
          clear g7 g8
          have hH5 := H5B.out A3 c3 _ hB4 hI3'
          go_wp2_with fail
          refine hH5.mono ?_
          rintro e w5 ⟨rfl, hb5⟩
          have hB5 := hB4.trans (hb5.mono hB4.size)
          have hH6 := H5G.out A4 c4 _ hB5 (hI4.below hb5)
          clear hH5 H5B H5G hb5 hB4
          go_wp2_with fail
          refine hH6.mono ?_
          rintro e w6 ⟨rfl, hb6⟩
          have hB6 := hB5.trans (hb6.mono hB5.size)
          clear hH6 hb6 hB5
          go_wp2_with fail
          refine (awake_any _).mono ?_
          rintro e w7 ⟨rfl, hb7⟩
          go_wp2
          go_ret
          exact ⟨rfl, hB6.trans (hb7.mono hB6.size)⟩
        · have hge : (e3 != 0) = true := bne_iff_ne.2 hg
          clear HG hg H5B H5G
          go_wp2_with fail
          refine (awake_any _).mono ?_
          rintro e w7 ⟨rfl, hb7⟩
          go_wp2
          go_ret
          exact ⟨rfl, hB4.trans (hb7.mono hB4.size)⟩
    | true =>
      by_cases h2 : e2 = 0
      · subst h2
        cases x2 with
        | false =>
          clear HX
          go_enter Tryd.func6, Tryd.ntmps6
          go_wp2_with fail
          refine H1.out.mono ?_
          rintro e w1 ⟨rfl, hb1⟩
          have hH2 := H2.out _ hb1
          clear H1 H2
          go_wp2_with fail
          refine hH2.mono ?_
          rintro e w2 ⟨rfl, hb2⟩
          have hB2 := hb1.trans (hb2.mono hb1.size)
          have hH3 := H3.out _ hB2
          clear hH2 H3 hb1 hb2
          go_wp2_with fail
          refine hH3.mono ?_
          rintro e w3 ⟨v3, rfl, hown3, hb3⟩
          obtain ⟨A3, c3, rfl, hI3, _⟩ := own_list hown3
          have hB3 := hB2.trans (hb3.mono hB2.size)
          have hH4 := H4.out _ hB3
          clear hH3 H4 hb3 hB2 hown3
          go_wp2_with fail
          refine hH4.mono ?_
          rintro e w4 ⟨v4, rfl, hown4, hb4⟩
          obtain ⟨A4, c4, rfl, hI4, _⟩ := own_list hown4
          have hB4 := hB3.trans (hb4.mono hB3.size)
          have hI3' := hI3.below hb4
          clear hH4 hb4 hB3 hown4 hI3
          by_cases hg : e3 = 0
          · obtain ⟨g1, ⟨g2, g3⟩, ⟨g4, g5⟩, g6, g7, g8⟩ := HG.out hg
            subst g1 g2 g3 g4 g5 hg
            clear HG
            have f5 : ¬ ((l.length : Int) < L1.length) := by have := g7 (by first | rfl | trivial); omega
            have hn5 : ¬ ((L2.length : Int) < L1.length) := by omega
            clear g7 g8
            have hH5 := H5B.out A3 c3 _ hB4 hI3'
            go_wp2_with fail
            refine hH5.mono ?_
            rintro e w5 ⟨rfl, hb5⟩
            have hB5 := hB4.trans (hb5.mono hB4.size)
            have hH6 := H5G.out A4 c4 _ hB5 (hI4.below hb5)
            clear hH5 H5B H5G hb5 hB4
            go_wp2_with fail
            refine hH6.mono ?_
            rintro e w6 ⟨rfl, hb6⟩
            have hB6 := hB5.trans (hb6.mono hB5.size)
            clear hH6 hb6 hB5
            go_wp2_with fail
            refine (awake_any _).mono ?_
            rintro e w7 ⟨rfl, hb7⟩
            go_wp2
            go_ret
            exact ⟨rfl, hB6.trans (hb7.mono hB6.size)⟩
          · have hge : (e3 != 0) = true := bne_iff_ne.2 hg
            clear HG hg H5B H5G
            go_wp2_with fail
            refine (awake_any _).mono ?_
            rintro e w7 ⟨rfl, hb7⟩
            go_wp2
            go_ret
            exact ⟨rfl, hB4.trans (hb7.mono hB4.size)⟩
        | true =>
          have f4 : ¬ ((l.length : Int) < m.length) := by have := HX.out rfl rfl; omega
          clear HX
          go_enter Tryd.func6, Tryd.ntmps6
          go_wp2_with fail
          refine H1.out.mono ?_
          rintro e w1 ⟨rfl, hb1⟩
          have hH2 := H2.out _ hb1
          clear H1 H2
          go_wp2_with fail
          refine hH2.mono ?_
          rintro e w2 ⟨rfl, hb2⟩
          have hB2 := hb1.trans (hb2.mono hb1.size)
          have hH3 := H3.out _ hB2
          clear hH2 H3 hb1 hb2
          go_wp2_with fail
          refine hH3.mono ?_
          rintro e w3 ⟨v3, rfl, hown3, hb3⟩
          obtain ⟨A3, c3, rfl, hI3, _⟩ := own_list hown3
          have hB3 := hB2.trans (hb3.mono hB2.size)
          have hH4 := H4.out _ hB3
          clear hH3 H4 hb3 hB2 hown3
          go_wp2_with fail
          refine hH4.mono ?_
          rintro e w4 ⟨v4, rfl, hown4, hb4⟩
          obtain ⟨A4, c4, rfl, hI4, _⟩ := own_list hown4
          have hB4 := hB3.trans (hb4.mono hB3.size)
          have hI3' := hI3.below hb4
          clear hH4 hb4 hB3 hown4 hI3
          by_cases hg : e3 = 0
          · obtain ⟨g1, ⟨g2, g3⟩, ⟨g4, g5⟩, g6, g7, g8⟩ := HG.out hg
            subst g1 g2 g3 g4 g5 hg
            clear HG
            have f5 : ¬ ((l.length : Int) < L1.length) := by have := g7 (by first | rfl | trivial); omega
            have f6 : (m.length : Int) ≤ L1.length := by have := g8 (by first | rfl | trivial); omega
            have hn5 : ¬ ((L2.length : Int) < L1.length) := by omega
            clear g7 g8
            have hH5 := H5B.out A3 c3 _ hB4 hI3'
            go_wp2_with fail
            refine hH5.mono ?_
            rintro e w5 ⟨rfl, hb5⟩
            have hB5 := hB4.trans (hb5.mono hB4.size)
            have hH6 := H5G.out A4 c4 _ hB5 (hI4.below hb5)
            clear hH5 H5B H5G hb5 hB4
            go_wp2_with fail
            refine hH6.mono ?_
            rintro e w6 ⟨rfl, hb6⟩
            have hB6 := hB5.trans (hb6.mono hB5.size)
            clear hH6 hb6 hB5
            go_wp2_with fail
            refine (awake_any _).mono ?_
            rintro e w7 ⟨rfl, hb7⟩
            go_wp2
            go_ret
            exact ⟨rfl, hB6.trans (hb7.mono hB6.size)⟩
          · have hge : (e3 != 0) = true := bne_iff_ne.2 hg
            clear HG hg H5B H5G
            go_wp2_with fail
            refine (awake_any _).mono ?_
            rintro e w7 ⟨rfl, hb7⟩
            go_wp2
            go_ret
            exact ⟨rfl, hB4.trans (hb7.mono hB4.size)⟩
      · have f2 : (e2 == 0) = false := by simpa using h2
        have f3 : (e2 != 0) = true := by simpa using h2
        clear h2
        clear HX
        go_enter Tryd.func6, Tryd.ntmps6
        go_wp2_with fail
        refine H1.out.mono ?_
        rintro e w1 ⟨rfl, hb1⟩
        have hH2 := H2.out _ hb1
        clear H1 H2
        go_wp2_with fail
        refine hH2.mono ?_
        rintro e w2 ⟨rfl, hb2⟩
        have hB2 := hb1.trans (hb2.mono hb1.size)
        have hH3 := H3.out _ hB2
        clear hH2 H3 hb1 hb2
        go_wp2_with fail
        refine hH3.mono ?_
        rintro e w3 ⟨v3, rfl, hown3, hb3⟩
        obtain ⟨A3, c3, rfl, hI3, _⟩ := own_list hown3
        have hB3 := hB2.trans (hb3.mono hB2.size)
        have hH4 := H4.out _ hB3
        clear hH3 H4 hb3 hB2 hown3
        go_wp2_with fail
        refine hH4.mono ?_
        rintro e w4 ⟨v4, rfl, hown4, hb4⟩
        obtain ⟨A4, c4, rfl, hI4, _⟩ := own_list hown4
        have hB4 := hB3.trans (hb4.mono hB3.size)
        have hI3' := hI3.below hb4
        clear hH4 hb4 hB3 hown4 hI3
        by_cases hg : e3 = 0
        · obtain ⟨g1, ⟨g2, g3⟩, ⟨g4, g5⟩, g6, g7, g8⟩ := HG.out hg
          subst g1 g2 g3 g4 g5 hg
          clear HG
          have f5 : ¬ ((l.length : Int) < L1.length) := by have := g7 (by first | rfl | trivial); omega
          have hn5 : ¬ ((L2.length : Int) < L1.length) := by omega
          clear g7 g8
          have hH5 := H5B.out A3 c3 _ hB4 hI3'
          go_wp2_with fail
          refine hH5.mono ?_
          rintro e w5 ⟨rfl, hb5⟩
          have hB5 := hB4.trans (hb5.mono hB4.size)
          have hH6 := H5G.out A4 c4 _ hB5 (hI4.below hb5)
          clear hH5 H5B H5G hb5 hB4
          go_wp2_with fail
          refine hH6.mono ?_
          rintro e w6 ⟨rfl, hb6⟩
          have hB6 := hB5.trans (hb6.mono hB5.size)
          clear hH6 hb6 hB5
          go_wp2_with fail
          refine (awake_any _).mono ?_
          rintro e w7 ⟨rfl, hb7⟩
          go_wp2
          go_ret
          exact ⟨rfl, hB6.trans (hb7.mono hB6.size)⟩
        · have hge : (e3 != 0) = true := bne_iff_ne.2 hg
          clear HG hg H5B H5G
          go_wp2_with fail
          refine (awake_any _).mono ?_
          rintro e w7 ⟨rfl, hb7⟩
          go_wp2
          go_ret
          exact ⟨rfl, hB4.trans (hb7.mono hB4.size)⟩
  · have f1 : (e1 == 0) = false := by simpa using h1
    clear h1
    by_cases h2 : e2 = 0
    · subst h2
      cases x2 with
      | false =>
        clear HX
        go_enter Tryd.func6, Tryd.ntmps6
        go_wp2_with fail
        refine H1.out.mono ?_
        rintro e w1 ⟨rfl, hb1⟩
        have hH2 := H2.out _ hb1
        clear H1 H2
        go_wp2_with fail
        refine hH2.mono ?_
        rintro e w2 ⟨rfl, hb2⟩
        have hB2 := hb1.trans (hb2.mono hb1.size)
        have hH3 := H3.out _ hB2
        clear hH2 H3 hb1 hb2
        go_wp2_with fail
        refine hH3.mono ?_
        rintro e w3 ⟨v3, rfl, hown3, hb3⟩
        obtain ⟨A3, c3, rfl, hI3, _⟩ := own_list hown3
        have hB3 := hB2.trans (hb3.mono hB2.size)
        have hH4 := H4.out _ hB3
        clear hH3 H4 hb3 hB2 hown3
        go_wp2_with fail
        refine hH4.mono ?_
        rintro e w4 ⟨v4, rfl, hown4, hb4⟩
        obtain ⟨A4, c4, rfl, hI4, _⟩ := own_list hown4
        have hB4 := hB3.trans (hb4.mono hB3.size)
        have hI3' := hI3.below hb4
        clear hH4 hb4 hB3 hown4 hI3
        by_cases hg : e3 = 0
        · obtain ⟨g1, ⟨g2, g3⟩, ⟨g4, g5⟩, g6, g7, g8⟩ := HG.out hg
          subst g1 g2 g3 g4 g5 hg
          clear HG
          have hn5 : ¬ ((L2.length : Int) < L1.length) := by omega
          clear g7 g8
          have hH5 := H5B.out A3 c3 _ hB4 hI3'
          go_wp2_with fail
          refine hH5.mono ?_
          rintro e w5 ⟨rfl, hb5⟩
          have hB5 := hB4.trans (hb5.mono hB4.size)
          have hH6 := H5G.out A4 c4 _ hB5 (hI4.below hb5)
          clear hH5 H5B H5G hb5 hB4
          go_wp2_with fail
          refine hH6.mono ?_
          rintro e w6 ⟨rfl, hb6⟩
          have hB6 := hB5.trans (hb6.mono hB5.size)
          clear hH6 hb6 hB5
          go_wp2_with fail
          refine (awake_any _).mono ?_
          rintro e w7 ⟨rfl, hb7⟩
          go_wp2
          go_ret
          exact ⟨rfl, hB6.trans (hb7.mono hB6.size)⟩
        · have hge : (e3 != 0) = true := bne_iff_ne.2 hg
          clear HG hg H5B H5G
          go_wp2_with fail
          refine (awake_any _).mono ?_
          rintro e w7 ⟨rfl, hb7⟩
          go_wp2
          go_ret
          exact ⟨rfl, hB4.trans (hb7.mono hB4.size)⟩
      | true =>
        clear HX
        go_enter Tryd.func6, Tryd.ntmps6
        go_wp2_with fail
        refine H1.out.mono ?_
        rintro e w1 ⟨rfl, hb1⟩
        have hH2 := H2.out _ hb1
        clear H1 H2
        go_wp2_with fail
        refine hH2.mono ?_
        rintro e w2 ⟨rfl, hb2⟩
        have hB2 := hb1.trans (hb2.mono hb1.size)
        have hH3 := H3.out _ hB2
        clear hH2 H3 hb1 hb2
        go_wp2_with fail
        refine hH3.mono ?_
        rintro e w3 ⟨v3, rfl, hown3, hb3⟩
        obtain ⟨A3, c3, rfl, hI3, _⟩ := own_list hown3
        have hB3 := hB2.trans (hb3.mono hB2.size)
        have hH4 := H4.out _ hB3
        clear hH3 H4 hb3 hB2 hown3
        go_wp2_with fail
        refine hH4.mono ?_
        rintro e w4 ⟨v4, rfl, hown4, hb4⟩
        obtain ⟨A4, c4, rfl, hI4, _⟩ := own_list hown4
        have hB4 := hB3.trans (hb4.mono hB3.size)
        have hI3' := hI3.below hb4
        clear hH4 hb4 hB3 hown4 hI3
        by_cases hg : e3 = 0
        · obtain ⟨g1, ⟨g2, g3⟩, ⟨g4, g5⟩, g6, g7, g8⟩ := HG.out hg
          subst g1 g2 g3 g4 g5 hg
          clear HG
          have f6 : (m.length : Int) ≤ L1.length := by have := g8 (by first | rfl | trivial); omega
          have hn5 : ¬ ((L2.length : Int) < L1.length) := by omega
          clear g7 g8
          have hH5 := H5B.out A3 c3 _ hB4 hI3'
          go_wp2_with fail
          refine hH5.mono ?_
          rintro e w5 ⟨rfl, hb5⟩
          have hB5 := hB4.trans (hb5.mono hB4.size)
          have hH6 := H5G.out A4 c4 _ hB5 (hI4.below hb5)
          clear hH5 H5B H5G hb5 hB4
          go_wp2_with fail
          refine hH6.mono ?_
          rintro e w6 ⟨rfl, hb6⟩
          have hB6 := hB5.trans (hb6.mono hB5.size)
          clear hH6 hb6 hB5
          go_wp2_with fail
          refine (awake_any _).mono ?_
          rintro e w7 ⟨rfl, hb7⟩
          go_wp2
          go_ret
          exact ⟨rfl, hB6.trans (hb7.mono hB6.size)⟩
        · have hge : (e3 != 0) = true := bne_iff_ne.2 hg
          clear HG hg H5B H5G
          go_wp2_with fail
          refine (awake_any _).mono ?_
          rintro e w7 ⟨rfl, hb7⟩
          go_wp2
          go_ret
          exact ⟨rfl, hB4.trans (hb7.mono hB4.size)⟩
    · have f2 : (e2 == 0) = false := by simpa using h2
      have f3 : (e2 != 0) = true := by simpa using h2
      clear h2
      clear HX
      go_enter Tryd.func6, Tryd.ntmps6
      go_wp2_with fail
      refine H1.out.mono ?_
      rintro e w1 ⟨rfl, hb1⟩
      have hH2 := H2.out _ hb1
      clear H1 H2
      go_wp2_with fail
      refine hH2.mono ?_
      rintro e w2 ⟨rfl, hb2⟩
      have hB2 := hb1.trans (hb2.mono hb1.size)
      have hH3 := H3.out _ hB2
      clear hH2 H3 hb1 hb2
      go_wp2_with fail
      refine hH3.mono ?_
      rintro e w3 ⟨v3, rfl, hown3, hb3⟩
      obtain ⟨A3, c3, rfl, hI3, _⟩ := own_list hown3
      have hB3 := hB2.trans (hb3.mono hB2.size)
      have hH4 := H4.out _ hB3
      clear hH3 H4 hb3 hB2 hown3
      go_wp2_with fail
      refine hH4.mono ?_
      rintro e w4 ⟨v4, rfl, hown4, hb4⟩
      obtain ⟨A4, c4, rfl, hI4, _⟩ := own_list hown4
      have hB4 := hB3.trans (hb4.mono hB3.size)
      have hI3' := hI3.below hb4
      clear hH4 hb4 hB3 hown4 hI3
      by_cases hg : e3 = 0
      · obtain ⟨g1, ⟨g2, g3⟩, ⟨g4, g5⟩, g6, g7, g8⟩ := HG.out hg
        subst g1 g2 g3 g4 g5 hg
        clear HG
        have hn5 : ¬ ((L2.length : Int) < L1.length) := by omega
        clear g7 g8
        have hH5 := H5B.out A3 c3 _ hB4 hI3'
        go_wp2_with fail
        refine hH5.mono ?_
        rintro e w5 ⟨rfl, hb5⟩
        have hB5 := hB4.trans (hb5.mono hB4.size)
        have hH6 := H5G.out A4 c4 _ hB5 (hI4.below hb5)
        clear hH5 H5B H5G hb5 hB4
        go_wp2_with fail
        refine hH6.mono ?_
        rintro e w6 ⟨rfl, hb6⟩
        have hB6 := hB5.trans (hb6.mono hB5.size)
        clear hH6 hb6 hB5
        go_wp2_with fail
        refine (awake_any _).mono ?_
        rintro e w7 ⟨rfl, hb7⟩
        go_wp2
        go_ret
        exact ⟨rfl, hB6.trans (hb7.mono hB6.size)⟩
      · have hge : (e3 != 0) = true := bne_iff_ne.2 hg
        clear HG hg H5B H5G
        go_wp2_with fail
        refine (awake_any _).mono ?_
        rintro e w7 ⟨rfl, hb7⟩
        go_wp2
        go_ret
        exact ⟨rfl, hB4.trans (hb7.mono hB4.size)⟩
end Go.Proofs.YtghbipipehglfaaDoor
