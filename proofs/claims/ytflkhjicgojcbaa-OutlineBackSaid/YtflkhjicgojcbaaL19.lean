import Derived.Test.YtflkhjicgojcbaaG5
namespace Go.Proofs.Ytflkhjicgojcbaa
open Go.RowKit Go.Shelf

theorem dreach_r (A : Option Addr) (l : List Geo.XY) (n c : Nat) (u v r : Int) (e : l.length = n) (h : reachV l u v = (r, 0)) (w : World) (hr : Pts w A l) :
    Calls Try.prog 35 #[.slice A n c, .int .i64 u, .int .i64 v] w fun e w' => e = .returned (.tuple #[.int .i64 r, .int .i64 0]) ∧ Below w.heap.size w w' := by
  subst e
  have := dreach_any A l c u v w hr
  rw [h] at this
  exact this
theorem dcentred_r (A : Option Addr) (l : List Geo.XY) (n c : Nat) (m : List Geo.XY) (e : l.length = n) (h : lstV l (l.map (subXY (midP l))) = (m, 0)) (w : World) (hP : Pts w A l) :
    Calls Try.prog 25 #[.slice A n c] w fun e w' => ListErr w m 0 e w' := by
  subst e
  have := dcentred_any A l c w hP
  rw [h] at this
  exact this
theorem dbox_r (A : Option Addr) (l : List Geo.XY) (n c : Nat) (a b : Int) (e : l.length = n) (hv : validB l = true) (ha : boxA l = a) (hb : boxB l = b) (w : World) (hr : Pts w A l) :
    Calls Try.prog 23 #[.slice A n c] w fun e w' => e = .returned (.tuple #[.int .i64 a, .int .i64 b, .int .i64 0]) ∧ Below w.heap.size w w' := by
  subst e
  have := dbox_any A l c w hr
  rw [okOr3_yes hv, ha, hb] at this
  exact this
theorem diameter_r (A : Option Addr) (l : List Geo.XY) (n c : Nat) (d : Int) (e : l.length = n) (hv : validB l = true) (hd : (Geo.csq (4 * farK l l.length) : Int) = d) (w : World) (hr : Pts w A l) :
    Calls Try.prog 49 #[.slice A n c] w fun e w' => e = .returned (.tuple #[.int .i64 d, .int .i64 0]) ∧ Below w.heap.size w w' := by
  subst e
  have := diameter_any A l c w hr
  rw [okOr_yes hv, hd] at this
  exact this
theorem same_r (A B : Option Addr) (a b : List Geo.XY) (n m c c' : Nat) (e1 : a.length = n) (e2 : b.length = m) (w : World) (ha : Pts w A a) (hb : Pts w B b) (hl : a.length ≤ 256) (r : Bool) (hr : eqB a b = r) :
    Calls Try.prog 21 #[.slice A n c, .slice B m c'] w fun e w' => e = .returned (.bool r) ∧ Below w.heap.size w w' := by
  subst e1 e2
  exact same_any A B a b c c' w ha hb hl r hr

set_option maxRecDepth 100000 in
set_option maxHeartbeats 4000000 in
theorem law_centres (A : Option Addr) (l : List Geo.XY) (c : Nat) (w : World) (hr : Pts w A l) :
    Calls Try.prog 14 #[.slice A l.length c] w fun e w' => e = .returned (.bool true) ∧ Below w.heap.size w w' := by
  have HR := Lib.hid hr
  clear hr
  cases hv : validB l with
  | false =>
    have HE := Lib.hid (lstV_no (m := l.map (subXY (midP l))) hv)
    clear hv
    go_enter Try.func14, Try.ntmps14
    go_wp2_with fail
    refine (dcentred_any A l c _ HR.out).mono ?_
    rintro e w1 ⟨v1, rfl, hown1, hb1⟩
    rw [HE.out] at hown1
    rw [HE.out]
    obtain ⟨A1, c1, rfl, hp1⟩ := pts_of_owns hown1
    clear hown1
    dsimp only at hp1 ⊢
    go_wp2_with (go_at_call 22; refine (awake_any _).mono ?_; rintro e w2 ⟨rfl, hb2⟩)
    go_ret
    exact ⟨rfl, hb1.trans (hb2.mono hb1.size)⟩
  | true =>
    have hval := valid_of hv
    have h3 := hval.1
    have h64 := hval.2.1
    obtain ⟨m, hm⟩ : ∃ m, m = cenL l := ⟨_, rfl⟩
    obtain ⟨ba, hba⟩ : ∃ x, boxA m = x := ⟨_, rfl⟩
    obtain ⟨bb, hbb⟩ : ∃ x, boxB m = x := ⟨_, rfl⟩
    obtain ⟨d, hd⟩ : ∃ x : Int, (Geo.csq (4 * farK m m.length) : Int) = x := ⟨_, rfl⟩
    have k1 := cen_reach hval
    have k2 := cen_dia hval
    have k3 := box_pos (cen_valid hval)
    have k4 := boxA_bd (cen_valid hval).allin
    have k5 := boxB_bd (cen_valid hval).allin
    have k6 := dia_bd (cen_valid hval).allin
    have k7 := cen_again hval
    have k8 := validB_true (cen_valid hval)
    have k9 := cen_len l
    rw [← hm] at k1 k2 k3 k4 k5 k6 k7 k8 k9
    rw [hba, hbb] at k1 k2 k3
    rw [hba] at k4
    rw [hbb] at k5
    rw [hd] at k2 k6
    have r1 : reachV m 1 0 = (ba - ba / 2, 0) := by
      have := reachV_ok k8 (u := 1) (v := 0) ⟨by decide, by decide⟩
      unfold reachV
      rw [if_pos k8, if_pos ⟨by decide, by decide⟩, k1.1]
    have r2 : reachV m 0 1 = (bb - bb / 2, 0) := by
      unfold reachV
      rw [if_pos k8, if_pos ⟨by decide, by decide⟩, k1.2]
    have HE : Hid (lstV l (l.map (subXY (midP l))) = (m, 0)) := Lib.hid (by rw [lstV_ok hv, hm]; rfl)
    have HL := Lib.hid k9
    have HAG := Lib.hid k7
    have HV := Lib.hid k8
    have HA := Lib.hid hba
    have HB := Lib.hid hbb
    have HD := Lib.hid hd
    have HR1 := Lib.hid r1
    have HR2 := Lib.hid r2
    have HEQ : Hid (eqB m m = true) := Lib.hid (by unfold eqB; simp)
    obtain ⟨k3a, k3b⟩ := k3
    obtain ⟨k4a, k4b⟩ := k4
    obtain ⟨k5a, k5b⟩ := k5
    obtain ⟨k6a, k6b⟩ := k6
    have K2 := Lib.hid k2
    clear hv hval hm hba hbb hd k1 k2 k7 k8 k9 r1 r2
    go_enter Try.func14, Try.ntmps14
    go_wp2_with fail
    refine (dcentred_r A l l.length c m rfl HE.out _ HR.out).mono ?_
    rintro e w1 ⟨v1, rfl, hown1, hb1⟩
    obtain ⟨A1, c1, rfl, hp1⟩ := pts_of_owns hown1
    rw [HL.out]
    have HP1 := Lib.hid hp1
    clear hown1 hp1
    go_wp2_with fail
    refine (dcentred_r A1 m l.length c1 m HL.out HAG.out _ HP1.out).mono ?_
    rintro e w2 ⟨v2, rfl, hown2, hb2⟩
    have hB2 := hb1.trans (hb2.mono hb1.size)
    obtain ⟨A2, c2, rfl, hp2⟩ := pts_of_owns hown2
    rw [HL.out]
    have HP2 := Lib.hid hp2
    have HP1' := Lib.hid (HP1.out.below hb2)
    clear hown2 hp2
    go_wp2_with fail
    refine (dbox_r A1 m l.length c1 ba bb HL.out HV.out HA.out HB.out _ HP1'.out).mono ?_
    rintro e w3 ⟨rfl, hb3⟩
    have hB3 := hB2.trans (hb3.mono hB2.size)
    go_wp2_with fail
    refine (diameter_r A1 m l.length c1 d HL.out HV.out HD.out _ (HP1'.out.below hb3)).mono ?_
    rintro e w4 ⟨rfl, hb4⟩
    have hB4 := hB3.trans (hb4.mono hB3.size)
    go_wp2_with fail
    refine (same_r A2 A1 m m l.length l.length c2 c1 HL.out HL.out _ ((HP2.out.below hb3).below hb4) ((HP1'.out.below hb3).below hb4) (by rw [HL.out]; omega) true HEQ.out).mono ?_
    rintro e w5 ⟨rfl, hb5⟩
    have hB5 := hB4.trans (hb5.mono hB4.size)
    go_wp2_with fail
    refine (dreach_r A1 m l.length c1 1 0 (ba - ba / 2) HL.out HR1.out _ (((HP1'.out.below hb3).below hb4).below hb5)).mono ?_
    rintro e w6 ⟨rfl, hb6⟩
    have hB6 := hB5.trans (hb6.mono hB5.size)
    go_wp2_with fail
    refine (dreach_r A1 m l.length c1 0 1 (bb - bb / 2) HL.out HR2.out _ ((((HP1'.out.below hb3).below hb4).below hb5).below hb6)).mono ?_
    rintro e w7 ⟨rfl, hb7⟩
    have hB7 := hB6.trans (hb7.mono hB6.size)
    have fin : ∀ w8, Below w7.heap.size w7 w8 → Below w.heap.size w w8 := fun w8 h => hB7.trans (h.mono hB7.size)
    by_cases ea : ba % 2 = 0
    · have ea2 := K2.out.1 ea
      by_cases eb : bb % 2 = 0
      · have eb2 := K2.out.2 eb
        go_wp2_with (go_at_call 22; refine (awake_any _).mono ?_; rintro e w8 ⟨rfl, hb8⟩)
        go_ret
        exact ⟨rfl, fin _ hb8⟩
      · go_wp2_with (go_at_call 22; refine (awake_any _).mono ?_; rintro e w8 ⟨rfl, hb8⟩)
        go_ret
        exact ⟨rfl, fin _ hb8⟩
    · by_cases eb : bb % 2 = 0
      · have eb2 := K2.out.2 eb
        go_wp2_with (go_at_call 22; refine (awake_any _).mono ?_; rintro e w8 ⟨rfl, hb8⟩)
        go_ret
        exact ⟨rfl, fin _ hb8⟩
      · go_wp2_with (go_at_call 22; refine (awake_any _).mono ?_; rintro e w8 ⟨rfl, hb8⟩)
        go_ret
        exact ⟨rfl, fin _ hb8⟩
end Go.Proofs.Ytflkhjicgojcbaa
