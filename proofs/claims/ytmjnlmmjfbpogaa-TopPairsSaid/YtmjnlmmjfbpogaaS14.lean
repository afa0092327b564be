/- Guard, of the program. -/
import Derived.Test.YtmjnlmmjfbpogaaS13
import Derived.Test.YtmjnlmmjfbpogaaP14
namespace Go.Proofs.Ytmjnlmmjfbpogaa
open Go.RowKit Go.Shelf

set_option maxRecDepth 100000 in
set_option maxHeartbeats 1000000 in
theorem Guard_any (A : Option Addr) (l : List Pl.Tm) (c n : Nat) (hn : l.length = n) (tol : Int) (w : World) (hI : Tms w A l) :
    Calls Try.prog 34 #[.slice A n c, .int .i64 tol] w fun e w' => ∃ v g, e = .returned (.tuple #[v, .int .i64 (Pl.ck l tol)]) ∧ Pl.Gp l tol g ∧ w'.ownsRow w.heap.size 3 1 v g.length (flt irc g) ∧ Below w.heap.size w w' := by
  subst hn
  obtain ⟨v, hv⟩ : ∃ v, Pl.ck l tol = v := ⟨_, rfl⟩
  have HC := Lib.hid (checklist_b A l c tol v hv w hI)
  have HI := Lib.hid hI
  have HNO : Hid (¬ v = 0 → Pl.Gp l tol []) := Lib.hid (fun h => Pl.gp_nil (by rw [hv]; exact h))
  have HMt : Hid (v = 0 → ∀ w', Tms w' A l → Calls Try.prog 64 #[.slice A l.length c, .int .i64 tol] w' fun e w'' => ∃ v g, e = .returned v ∧ Pl.Gp l tol g ∧ w''.ownsRow w'.heap.size 3 1 v g.length (flt irc g) ∧ Below w'.heap.size w' w'') :=
    Lib.hid (fun h0 w' hI' => by
      obtain ⟨h1, h2⟩ := Pl.ck_ok (hv.trans h0)
      refine (guard_any A l c _ rfl (Pl.ok_of h1) tol h2 w' hI').mono ?_
      rintro e w2 ⟨v2, S, he, hrt, ho, hb⟩
      exact ⟨v2, _, he, Pl.gp_gu (Pl.ok_of h1) hrt (hv.trans h0), ho, hb⟩)
  rw [hv]
  clear hv hI
  by_cases h0 : v = 0
  · subst h0
    go_enter Try.func34, Try.ntmps34
    go_wp2_with fail
    refine HC.out.mono ?_
    rintro e w1 ⟨rfl, hb1⟩
    have HI1 := Lib.hid (HI.out.below hb1)
    go_wp2_with fail
    refine (HMt.out trivial _ HI1.out).mono ?_
    rintro e w2 ⟨v2, g, rfl, hg, hown, hb2⟩
    have HO := Lib.hid hown
    have HG := Lib.hid hg
    clear hown hg
    go_wp2
    go_ret2
    first | exact ⟨_, g, rfl, HG.out, own_mono HO.out hb1.size, hb1.trans (hb2.mono hb1.size)⟩ | exact ⟨_, rfl, g, HG.out, own_mono HO.out hb1.size, hb1.trans (hb2.mono hb1.size)⟩
  · have h1 : (v != 0) = true := by simp [h0]
    have HG := Lib.hid (HNO.out h0)
    clear h0
    go_enter Try.func34, Try.ntmps34
    go_wp2_with fail
    refine HC.out.mono ?_
    rintro e w1 ⟨rfl, hb1⟩
    go_wp2
    go_ret2
    first | exact ⟨_, [], rfl, HG.out, World.ownsRow_nil _ _ _ _, hb1⟩ | exact ⟨_, rfl, [], HG.out, World.ownsRow_nil _ _ _ _, hb1⟩
end Go.Proofs.Ytmjnlmmjfbpogaa
