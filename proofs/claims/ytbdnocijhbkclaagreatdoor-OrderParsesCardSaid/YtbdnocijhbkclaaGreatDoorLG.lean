/- OrderParses. -/
import Derived.Test.YtbdnocijhbkclaaGreatDoorZ7
import Derived.Test.YtbdnocijhbkclaaGreatDoorXQ
import Derived.Test.YtbdnocijhbkclaaGreatDoorWA
namespace Go.Proofs.YtbdnocijhbkclaaGreatDoor
open Go.RowKit Go.Shelf

theorem same_of (f g : Pl.Fm) (h1 : f.cus = g.cus) (h2 : f.d = g.d) (h3 : f.cur = g.cur) (h4 : f.ls = g.ls) (w : World) (hF : FmIn w f) (hG : FmIn w g) :
    Calls Tryz.prog 10 #[.agg (fmA f), .agg (fmA g)] w fun e w' => e = .returned (.bool true) ∧ Below w.heap.size w w' := by
  obtain ⟨cus, d, cur, ls, A, c⟩ := f
  obtain ⟨cus', d', cur', ls', B, e⟩ := g
  simp only at h1 h2 h3 h4
  subst h1; subst h2; subst h3; subst h4
  exact sameform_b cus d cur ls A B c e _ rfl w hF hG
set_option maxRecDepth 100000 in
set_option maxHeartbeats 8000000 in
theorem law_parses (s : ByteArray) (w : World) (hE : Env w) :
    Calls Tryz.prog 4 #[.string s] w fun e w' => e = .returned (.bool true) ∧ Below w.heap.size w w' := by
  have HC := Lib.hid sane_any
  by_cases h3 : 3000 < s.size
  · have hI : (3000 : Int) < (s.size : Int) := by omega
    clear h3
    go_enter Tryz.func4, Tryz.ntmps4
    go_wp2_with fail
    refine (HC.out _).mono ?_
    rintro e w1 ⟨rfl, hb1⟩
    go_wp2_with fail
    go_ret
    exact ⟨rfl, hb1⟩
  have hI : decide ((3000 : Int) < (s.size : Int)) = false := by simp; omega
  have HP := Lib.hid (fun W hW => parse_any s (by omega) W hW)
  have HQ := Lib.hid (rparse_any s (by omega))
  have HE := Lib.hid hE
  clear h3 hE
  go_enter Tryz.func4, Tryz.ntmps4
  go_wp2_with fail
  refine (HP.out _ HE.out).mono ?_
  rintro e w1 ⟨f, E, rfl, hb1, hfi, hfk⟩
  have HB1 := Lib.hid hb1
  have hbx := (Below.refl w1.heap.size w1).alloc (Nat.le_refl _) (.cells (fmA f) 24)
  have bF := Blk.new w1 24 (fmA f)
  have HB2 := Lib.hid (hb1.trans (hbx.mono hb1.size))
  have HF2 := Lib.hid bF
  have HFI2 := Lib.hid (hfi.below hbx)
  have hlF := bF.lt
  have HFK := Lib.hid hfk
  clear hb1 hbx bF hfi hfk
  generalize hW2 : w1.alloc (.cells (fmA f) 24) = W2 at *
  go_wp2_with fail
  refine (HQ.out W2).mono ?_
  rintro e w3 ⟨g, E2, rfl, hb3, hgi, hgk⟩
  have hE2 : E2 = E ∧ f.cus = g.cus ∧ f.d = g.d ∧ f.cur = g.cur ∧ f.ls = g.ls := by
    rcases HFK.out with ⟨e1, v1, t1⟩ | ⟨e1, z1, n1⟩ <;> rcases hgk with ⟨e2, v2, t2⟩ | ⟨e2, z2, n2⟩
    · exact ⟨e2.trans e1.symm, Pl.txt_inj v1 v2 (t1.trans t2.symm)⟩
    · exact absurd t1 (n2 f v1)
    · exact absurd t2 (n1 g v2)
    · exact ⟨e2.trans e1.symm, by rw [z1, z2], by rw [z1, z2], by rw [z1, z2], by rw [z1, z2]⟩
  obtain ⟨rfl, c1, c2, c3, c4⟩ := hE2
  have HF3 := Lib.hid (HF2.out.below hb3 hlF)
  have hbx := (Below.refl w3.heap.size w3).alloc (Nat.le_refl _) (.cells (fmA g) 24)
  have bG := Blk.new w3 24 (fmA g)
  have HF4 := Lib.hid (HF3.out.below hbx HF3.out.lt)
  have HB4 := Lib.hid (HB2.out.trans ((hb3.trans (hbx.mono hb3.size)).mono HB2.out.size))
  have HFI4 := Lib.hid ((HFI2.out.below hb3).below hbx)
  have HGI4 := Lib.hid (hgi.below hbx)
  have HS := Lib.hid (fun W (hb : Below _ _ W) => same_of f g c1 c2 c3 c4 W (HFI4.out.below hb) (HGI4.out.below hb))
  have HS0 := Lib.hid (HS.out _ (Below.refl _ _))
  have r1 := HF4.out.range
  have r2 := bG.range
  have hlF4 := HF4.out.lt
  clear hb3 hgi hgk c1 c2 c3 c4 hbx bG HS HF3 HF2 HB2 HFI2 hW2 hlF
  generalize hW4 : w3.alloc (.cells (fmA g) 24) = W4 at *
  go_wp2_with (first | refine ldm_fm (s := f) r1 rfl _ rfl rfl ?_ | refine ldm_fm (s := g) r2 rfl _ rfl rfl ?_)
  refine HS0.out.mono ?_
  rintro e w5 ⟨rfl, hb5⟩
  have HB5 := Lib.hid (HB4.out.trans (hb5.mono HB4.out.size))
  have HF5 := Lib.hid (HF4.out.below hb5 hlF4)
  have HFI5 := Lib.hid (HFI4.out.below hb5)
  have hE' : ((E2 == E2) = true) := by simp
  clear hb5 r1 r2 hW4 HF4 HB4 HFI4 HGI4 HS0 hlF4
  go_wp2_with fail
  refine (HC.out _).mono ?_
  rintro e w6 ⟨rfl, hb6⟩
  have HB6 := Lib.hid (HB5.out.trans (hb6.mono HB5.out.size))
  have HF6 := Lib.hid (HF5.out.below hb6 HF5.out.lt)
  have HFI6 := Lib.hid (HFI5.out.below hb6)
  have HE6 := Lib.hid (HE.out.below HB6.out)
  have r6 := HF6.out.range
  clear hb6 HF5 HFI5 HB5 hE'
  have hcs : E2 = 0 ∧ Pl.Vf f ∧ Pl.txt f = Pl.byt s ∨ E2 = 3 := by
    rcases HFK.out with h | h
    · exact .inl h
    · exact .inr h.1
  rcases hcs with ⟨rfl, hv, ht⟩ | rfl
  · have HFo := Lib.hid (Format_any f w6 HE6.out HFI6.out)
    have e1 : Pl.foT f = Pl.byt s := by unfold Pl.foT; rw [Pl.vf_true.2 hv, if_pos rfl, ht]
    have e2 : Pl.foE f = 0 := by unfold Pl.foE; rw [Pl.vf_true.2 hv, if_pos rfl]
    rw [e1, e2, Pl.byt_back] at HFo
    have hss : (s.toList == s.toList) = true := by simp
    clear e1 e2 hv ht
    go_wp2_with (refine ldm_fm (s := f) r6 rfl _ rfl rfl ?_)
    refine HFo.out.mono ?_
    rintro e w7 ⟨rfl, hb7⟩
    have HB7 := Lib.hid (HB6.out.trans (hb7.mono HB6.out.size))
    clear hb7
    go_wp2_with fail
    go_ret
    exact ⟨rfl, HB7.out⟩
  · go_wp2_with fail
    go_ret
    exact ⟨rfl, HB6.out⟩
end Go.Proofs.YtbdnocijhbkclaaGreatDoor
