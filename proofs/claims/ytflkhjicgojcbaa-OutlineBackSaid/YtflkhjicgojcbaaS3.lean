import Derived.Test.YtflkhjicgojcbaaS1
import Derived.Test.YtflkhjicgojcbaaS2
namespace Go.Proofs.Ytflkhjicgojcbaa
open Go.RowKit Go.Shelf

theorem near_r (A : Option Addr) (b off cl cg : Nat) (l g : List Geo.XY) (play : Int) (hvl : Valid l) (hvg : Valid g) (y1 : 0 ≤ play) (y2 : play ≤ 1000) (w : World) (hP : Pts w A l) (hG : Pts w (some ⟨b, off, none⟩) g) (r : Bool) (h : nearB l g play = r) :
    Calls Try.prog 86 #[.slice A l.length cl, .slice (some ⟨b, off, none⟩) g.length cg, .int .i64 play] w fun e W' => e = .returned (.bool r) ∧ Below w.heap.size w W' := by
  subst h
  rcases hG with h | ⟨b', off', he, hb, hc⟩
  · have := hvg.1
    rw [h] at this
    simp at this
  · cases he
    exact callsIn_wide.1 (near_in A b off cl cg l g play hvl hvg y1 y2 w hP hb hc)

theorem within_r (A A' : Option Addr) (o l : List Geo.XY) (c c' : Nat) (w : World) (ho : Pts w A o) (hr : Pts w A' l) (hv : Valid l) (hvo : Valid o) (r : Bool) (h : holdAllB l o = r) :
    Calls Try.prog 84 #[.slice A' l.length c', .slice A o.length c] w fun e w' => e = .returned (.bool r) ∧ Below w.heap.size w w' := by
  subst h
  exact holdsall_any A A' o l c c' w ho hr hvo.2.1 hv hvo.allin

set_option maxHeartbeats 1000000 in
theorem dseat_any (A A' : Option Addr) (l g : List Geo.XY) (cl cg : Nat) (play : Int) (w : World) (hP : Pts w A l) (hG : Pts w A' g) :
    Calls Try.prog 41 #[.slice A l.length cl, .slice A' g.length cg, .int .i64 play] w fun e w' => e = tupB (seatV l g play) ∧ Below w.heap.size w w' := by
  have HP := Lib.hid hP
  have HPG := Lib.hid hG
  cases hv : validB l with
  | false =>
    have HV := Lib.hid hv
    have H := Lib.hid (seatV_no (l := l) (g := g) (by rw [hv]; simp) play)
    clear hv hP hG
    go_enter Try.func41, Try.ntmps41
    go_wp2_with (go_at_call 19; refine (dvalid_b _ _ _ _ HP.out false HV.out).mono ?_; rintro e w' ⟨rfl, hb'⟩)
    go_ret2
    exact ⟨by rw [H.out]; rfl, hb'⟩
  | true =>
    have HV := Lib.hid hv
    cases hv2 : validB g with
    | false =>
      have HV2 := Lib.hid hv2
      have H := Lib.hid (seatV_no (l := l) (g := g) (by rw [hv2]; simp) play)
      clear hv hv2 hP hG
      go_enter Try.func41, Try.ntmps41
      go_wp2_with fail
      refine (dvalid_b _ _ _ _ HP.out true HV.out).mono ?_
      rintro e w1 ⟨rfl, hb1⟩
      go_wp2_with fail
      refine (dvalid_b _ _ _ _ (HPG.out.below hb1) false HV2.out).mono ?_
      rintro e w2 ⟨rfl, hb2⟩
      go_wp2
      go_ret2
      exact ⟨by rw [H.out]; rfl, hb1.trans (hb2.mono hb1.size)⟩
    | true =>
      have HV2 := Lib.hid hv2
      by_cases hp : 0 ≤ play ∧ play ≤ 1000
      · rcases hG with h | ⟨b, off, rfl, hb, hc⟩
        · have := (valid_of hv2).1
          rw [h] at this
          simp at this
        · have H := Lib.hid (seatV_ok ⟨hv, hv2⟩ hp)
          have HL := Lib.hid (valid_of hv)
          have HG := Lib.hid (valid_of hv2)
          obtain ⟨y1, y2⟩ := hp
          obtain ⟨r1, hr1⟩ : ∃ r, holdAllB g l = r := ⟨_, rfl⟩
          obtain ⟨r2, hr2⟩ : ∃ r, nearB l g play = r := ⟨_, rfl⟩
          have HR1 := Lib.hid hr1
          have HR2 := Lib.hid hr2
          clear hv hv2 hP hb hc hr1 hr2
          go_enter Try.func41, Try.ntmps41
          go_wp2_with fail
          refine (dvalid_b _ _ _ _ HP.out true HV.out).mono ?_
          rintro e w1 ⟨rfl, hb1⟩
          go_wp2_with fail
          refine (dvalid_b _ _ _ _ (HPG.out.below hb1) true HV2.out).mono ?_
          rintro e w2 ⟨rfl, hb2⟩
          have hB2 := hb1.trans (hb2.mono hb1.size)
          clear hb1 hb2
          go_wp2_with fail
          refine (within_r A (some ⟨b, off, none⟩) l g cl cg _ (HP.out.below hB2) (HPG.out.below hB2) HG.out HL.out _ HR1.out).mono ?_
          rintro e w3 ⟨rfl, hb3⟩
          have hB3 := hB2.trans (hb3.mono hB2.size)
          cases r1 with
          | false =>
            go_wp2
            go_ret2
            exact ⟨by rw [H.out, HR1.out]; rfl, hB3⟩
          | true =>
            go_wp2_with fail
            refine (near_r A b off cl cg l g play HL.out HG.out y1 y2 _ (HP.out.below hB3) (HPG.out.below hB3) _ HR2.out).mono ?_
            rintro e w4 ⟨rfl, hb4⟩
            go_wp2
            go_ret2
            exact ⟨by rw [H.out, HR1.out, HR2.out]; rfl, hB3.trans (hb4.mono hB3.size)⟩
      · have H := Lib.hid (seatV_arg ⟨hv, hv2⟩ hp)
        have HX := Lib.hid hp
        clear hv hv2 hP hG hp
        go_enter Try.func41, Try.ntmps41
        go_wp2_with fail
        refine (dvalid_b _ _ _ _ HP.out true HV.out).mono ?_
        rintro e w1 ⟨rfl, hb1⟩
        go_wp2_with fail
        refine (dvalid_b _ _ _ _ (HPG.out.below hb1) true HV2.out).mono ?_
        rintro e w2 ⟨rfl, hb2⟩
        by_cases h0 : play < 0
        · go_wp2
          go_ret2
          exact ⟨by rw [H.out]; rfl, hb1.trans (hb2.mono hb1.size)⟩
        · have h1 : 1000 < play := by have := HX.out; omega
          go_wp2
          go_ret2
          exact ⟨by rw [H.out]; rfl, hb1.trans (hb2.mono hb1.size)⟩

set_option maxHeartbeats 1000000 in
theorem law_seats (A A' : Option Addr) (o l : List Geo.XY) (c c' : Nat) (play : Int) (w : World) (ho : Pts w A o) (hr : Pts w A' l) :
    Calls Try.prog 7 #[.slice A o.length c, .slice A' l.length c', .int .i64 play] w fun e w' => e = .returned (.bool true) ∧ Below w.heap.size w w' := by
  have HO := Lib.hid ho
  have HR := Lib.hid hr
  clear ho hr
  go_enter Try.func7, Try.ntmps7
  go_wp2_with fail
  refine (dseat_any A A' o l c c' play _ HO.out HR.out).mono ?_
  rintro e w1 ⟨rfl, hb1⟩
  obtain ⟨⟨rn, re⟩, hrv⟩ : ∃ r, seatV o l play = r := ⟨_, rfl⟩
  rw [hrv]
  have HRV := Lib.hid hrv
  clear hrv
  unfold tupB
  go_wp2_with fail
  refine (rseat_any A A' o l c c' play _ (HO.out.below hb1) (HR.out.below hb1)).mono ?_
  rintro e w2 ⟨rfl, hb2⟩
  rw [HRV.out]
  unfold tupB
  have hB2 := hb1.trans (hb2.mono hb1.size)
  go_wp2_with fail
  refine (awake_any _).mono ?_
  rintro e w7 ⟨rfl, hb7⟩
  go_wp2
  go_ret
  exact ⟨rfl, hB2.trans (hb7.mono hB2.size)⟩
end Go.Proofs.Ytflkhjicgojcbaa
