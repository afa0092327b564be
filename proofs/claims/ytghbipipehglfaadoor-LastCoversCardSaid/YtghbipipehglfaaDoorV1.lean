/- The law LastCovers. -/
import Derived.Test.YtghbipipehglfaaDoorC8
namespace Go.Proofs.YtghbipipehglfaaDoor
open Go.RowKit Go.Shelf

set_option maxRecDepth 100000 in
set_option maxHeartbeats 4000000 in
theorem law_covers (A B Al : Option Addr) (ss : List Pl.Sz) (hs : List Pl.Hd) (l : List Int) (c d cl : Nat) (w : World) (hT : Tab w) (c1 : ss.length ≤ c) (c2 : ss.length ≤ 9223372036854775807) (c3 : hs.length ≤ d) (c4 : hs.length ≤ 9223372036854775807) (c5 : l.length ≤ cl)
    (hmax : l.length ≤ 9223372036854775807) (hI : Szs w A ss) (hJ : Hds w B hs) (hL : Ints w Al l) :
    Calls Tryd.prog 4 #[.slice A ss.length c, .slice B hs.length d, .slice Al l.length cl] w fun e w' => e = .returned (.bool true) ∧ Below w.heap.size w w' := by
  have H1 := Lib.hid (Covers_any A B Al ss hs l c d cl w hmax hT hI hJ hL)
  have H2 := Lib.hid (fun (w' : World) (hb : Below w.heap.size w w') => rCovers_any A B Al ss hs l c d cl w' c1 c2 c3 c4 c5 hmax (hI.below hb) (hJ.below hb) (hL.below hb))
  have H3 := Lib.hid (fun (w' : World) (hb : Below w.heap.size w w') => Apart_any A B Al ss hs l c d cl w' hmax (hI.below hb) (hJ.below hb) (hL.below hb))
  have H4 := Lib.hid (fun (w' : World) (hb : Below w.heap.size w w') => rApart_any A B Al ss hs l c d cl w' c1 c2 c3 c4 c5 hmax (hI.below hb) (hJ.below hb) (hL.below hb))
  generalize cvV ss hs l = x1 at *
  generalize cvE ss hs l = e1 at *
  generalize apV ss hs l = x2 at *
  generalize apE ss hs l = e2 at *
  have n1 : (e1 != e1) = false := by simp
  have n2 : (e2 == e2) = true := by simp
  have n3 : (x1 != x1) = false := by simp
  have n4 : (x2 == x2) = true := by simp
  clear hI hJ hL hT
  go_enter Tryd.func4, Tryd.ntmps4
  go_wp2_with (first
    | (go_at_call 19; refine H1.out.mono ?_; rintro e w1 ⟨rfl, hb1⟩)
    | (go_at_call 20; refine (H2.out _ hb1).mono ?_; rintro e w2 ⟨rfl, hb2⟩; have hB2 := hb1.trans (hb2.mono hb1.size))
    | (go_at_call 21; refine (H3.out _ hB2).mono ?_; rintro e w3 ⟨rfl, hb3⟩; have hB3 := hB2.trans (hb3.mono hB2.size))
    | (go_at_call 22; refine (H4.out _ hB3).mono ?_; rintro e w4 ⟨rfl, hb4⟩; have hB4 := hB3.trans (hb4.mono hB3.size))
    | (go_at_call 18; refine (awake_any _).mono ?_; rintro e w5 ⟨rfl, hb5⟩))
  go_ret
  exact ⟨rfl, hB4.trans (hb5.mono hB4.size)⟩
end Go.Proofs.YtghbipipehglfaaDoor
