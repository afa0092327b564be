/- converted and Convert, of the program. -/
import Derived.Test.YtbdnocijhbkclaaGreatDoorW7
namespace Go.Proofs.YtbdnocijhbkclaaGreatDoor
open Go.RowKit Go.Shelf

set_option maxRecDepth 100000 in
set_option maxHeartbeats 4000000 in
theorem conv_b (A : Option Addr) (l : List Pl.Rt) (c m : Nat) (hm : l.length = m) (hm6 : m ≤ 60) (hv : ∀ x, x ∈ l → Pl.vr x = true) (cur : ByteArray) (d a : Int) (ha : Hid (-1099511627776 ≤ a ∧ a ≤ 1099511627776)) (w : World) (hI : Rows rtL 4 w A l) :
    Calls Tryz.prog 30 #[.slice A m c, .string cur, .int .i64 d, .int .i64 a] w fun e w' => e = .returned (.tuple #[.int .i64 (Pl.cV l cur d a), .int .i64 (Pl.cE l cur d a)]) ∧ Below w.heap.size w w' := by
  have HL := Lib.hid (latest_r A l c m hm (by omega) (fun x hx => ⟨(Pl.vr_true.1 (hv x hx)).d0, (Pl.vr_true.1 (hv x hx)).d1⟩) cur d w hI)
  obtain ⟨V, hV⟩ : ∃ V, Pl.cV l cur d a = V := ⟨_, rfl⟩
  obtain ⟨E, hE⟩ : ∃ E, Pl.cE l cur d a = E := ⟨_, rfl⟩
  rw [hV, hE]
  unfold Pl.cV at hV
  unfold Pl.cE at hE
  rw [hm] at hV hE
  have hB := Below.refl w.heap.size w
  by_cases hq : cur = Pl.eurB
  · rw [if_pos hq] at hV hE
    have q0 : (cur.toList == [69, 85, 82]) = true := by rw [eur_eq]; exact decide_eq_true hq
    subst hV hE
    clear hq HL hI hv hm
    go_enter Tryz.func30, Tryz.ntmps30
    go_wp2
    go_ret2
    exact ⟨rfl, hB⟩
  · rw [if_neg hq] at hV hE
    have q0 : (cur.toList == [69, 85, 82]) = false := by rw [eur_eq]; exact decide_eq_false hq
    clear hq
    obtain ⟨r, hr⟩ : ∃ r, Pl.lt (l.map Pl.rk) cur d m = r := ⟨_, rfl⟩
    rw [hr] at hV hE HL
    cases r with
    | none =>
      simp only at hV hE
      subst hV hE
      simp only [Pl.fnd, Option.isSome_none] at HL
      clear hI hv hm hr
      go_enter Tryz.func30, Tryz.ntmps30
      go_wp2_with fail
      refine HL.out.mono ?_
      rintro e w1 ⟨rfl, hb⟩
      have hB2 := hb.alloc hb.size (.cells (rtA default) 43)
      go_wp2
      go_ret2
      exact ⟨rfl, hB2⟩
    | some j =>
      have hj : j < l.length := by rw [hm]; exact Pl.lt_lt hr
      have hx := Pl.vr_true.1 (hv _ (List.getElem_mem hj))
      have e1 : l.getD j default = l[j] := by rw [List.getD_eq_getElem?_getD, List.getElem?_eq_getElem hj]; rfl
      simp only at hV hE
      rw [Pl.fnd_some hj] at HL
      rw [e1] at hV hE
      simp only [Option.isSome_some] at HL
      clear hI hv hm hr e1
      generalize l[j] = x at *
      obtain ⟨p, hp⟩ : ∃ p, a * x.num = p := ⟨_, rfl⟩
      have hpr : -1099511627776000000 ≤ p ∧ p ≤ 1099511627776000000 := by
        rw [← hp]
        have h0 := hx.n0
        exact Pl.mul_le ha.out.1 ha.out.2 (show 0 ≤ x.num by omega) hx.n1 (by decide)
      obtain ⟨u, hu⟩ : ∃ u, Pl.hu p x.den = u := ⟨_, rfl⟩
      obtain ⟨y, hy⟩ : ∃ y, Pl.am u = y := ⟨_, rfl⟩
      rw [hp, hu, hy] at hV hE
      have kp : IntKind.i64.wrap (a * x.num) = p := by rw [hp]; exact IntWalk.i64_in _ (by omega)
      have HH := Lib.hid (fun (w' : World) => halfup_b p x.den u hx.e0 hx.e1 (Lib.hid (by omega)) hu w')
      have HA := Lib.hid (fun (w' : World) => am_b u y hy w')
      clear hpr hu hy ha hx hp
      go_enter Tryz.func30, Tryz.ntmps30
      go_wp2_with fail
      refine HL.out.mono ?_
      rintro e w1 ⟨rfl, hb⟩
      have hB2 := hb.alloc hb.size (.cells (rtA x) 43)
      have bX := Blk.new w1 43 (rtA x)
      have x2 := bX.cell 2
      have x3 := bX.cell 3
      clear bX hb hB HL
      go_wp2_with fail
      refine (HH.out _).mono ?_
      rintro e w2 ⟨rfl, hw2⟩
      subst hw2
      go_wp2_with fail
      refine (HA.out _).mono ?_
      rintro e w2 ⟨rfl, hw2⟩
      subst hw2
      cases y
      · have e1 : 0 = V := hV
        have e2 : 4 = E := hE
        subst e1 e2
        go_wp2
        go_ret2
        exact ⟨rfl, hB2⟩
      · have e1 : u = V := hV
        have e2 : 0 = E := hE
        subst e1 e2
        go_wp2
        go_ret2
        exact ⟨rfl, hB2⟩

set_option maxRecDepth 100000 in
set_option maxHeartbeats 4000000 in
theorem Convert_b (A : Option Addr) (l : List Pl.Rt) (c m : Nat) (hm : l.length = m) (hm6 : m ≤ maxLen) (hs : ∀ x, x ∈ l → x.cur.size ≤ maxLen) (cur : ByteArray) (hc : cur.size ≤ maxLen) (d a : Int) (w : World) (hI : Rows rtL 4 w A l) :
    Calls Tryz.prog 13 #[.slice A m c, .string cur, .int .i64 d, .int .i64 a] w fun e w' => e = .returned (.tuple #[.int .i64 (Pl.coV l cur d a), .int .i64 (Pl.coE l cur d a)]) ∧ Below w.heap.size w w' := by
  obtain ⟨x0, h0⟩ : ∃ x, Pl.vrs l = x := ⟨_, rfl⟩
  obtain ⟨x1, h1⟩ : ∃ x, Pl.cyB cur = x := ⟨_, rfl⟩
  obtain ⟨x2, h2⟩ : ∃ x, Pl.dy d = x := ⟨_, rfl⟩
  obtain ⟨x3, h3⟩ : ∃ x, Pl.am a = x := ⟨_, rfl⟩
  have H0 := Lib.hid (vrates_b A l c m hm hm6 hs x0 h0 w hI)
  have H1 := Lib.hid (fun w' : World => cur_b cur _ rfl hc x1 h1 w')
  have H2 := Lib.hid (fun w' : World => dy_b d x2 h2 w')
  have H3 := Lib.hid (fun w' : World => am_b a x3 h3 w')
  have H4 : Hid (x0 = true → x3 = true → ∀ w', Below w.heap.size w w' → Calls Tryz.prog 30 #[.slice A m c, .string cur, .int .i64 d, .int .i64 a] w' fun e w'' => e = .returned (.tuple #[.int .i64 (Pl.cV l cur d a), .int .i64 (Pl.cE l cur d a)]) ∧ Below w'.heap.size w' w'') := Lib.hid (fun e0 e3 w' hb => by
    rw [e0] at h0
    rw [e3] at h3
    rw [Pl.vrs_eq, Pl.vls_true] at h0
    exact conv_b A l c m hm (by omega) (fun x hx => by
      obtain ⟨i, hi, rfl⟩ := List.getElem_of_mem hx
      exact h0.2.1 i hi) cur d a (Lib.hid (Pl.inB_true.1 h3)) w' (hI.below hb))
  obtain ⟨V, hV⟩ : ∃ V, Pl.coV l cur d a = V := ⟨_, rfl⟩
  obtain ⟨E, hE⟩ : ∃ E, Pl.coE l cur d a = E := ⟨_, rfl⟩
  rw [hV, hE]
  unfold Pl.coV at hV
  unfold Pl.coE at hE
  rw [h0, h1, h2, h3] at hV hE
  generalize Pl.cV l cur d a = CV at *
  generalize Pl.cE l cur d a = CE at *
  clear h0 h1 h2 h3 hI hm hs hc hm6
  cases x0
  · have e1 : 0 = V := hV
    have e2 : 81 = E := hE
    subst e1 e2
    go_enter Tryz.func13, Tryz.ntmps13
    go_wp2_with fail
    refine H0.out.mono ?_
    rintro e w1 ⟨rfl, hb⟩
    go_wp2
    go_ret2
    exact ⟨rfl, hb⟩
  go_enter Tryz.func13, Tryz.ntmps13
  go_wp2_with fail
  refine H0.out.mono ?_
  rintro e w1 ⟨rfl, hb⟩
  go_wp2_with fail
  refine (H1.out _).mono ?_
  rintro e w2 ⟨rfl, hb2⟩
  have hB2 := hb.trans (hb2.mono hb.size)
  clear hb hb2 H0
  cases x1
  · have e1 : 0 = V := hV
    have e2 : 2 = E := hE
    subst e1 e2
    go_wp2
    go_ret2
    exact ⟨rfl, hB2⟩
  go_wp2_with fail
  refine (H2.out _).mono ?_
  rintro e w3 ⟨rfl, hw3⟩
  subst hw3
  cases x2
  · have e1 : 0 = V := hV
    have e2 : 2 = E := hE
    subst e1 e2
    go_wp2
    go_ret2
    exact ⟨rfl, hB2⟩
  go_wp2_with fail
  refine (H3.out _).mono ?_
  rintro e w3 ⟨rfl, hw3⟩
  subst hw3
  cases x3
  · have e1 : 0 = V := hV
    have e2 : 2 = E := hE
    subst e1 e2
    go_wp2
    go_ret2
    exact ⟨rfl, hB2⟩
  have e1 : CV = V := hV
  have e2 : CE = E := hE
  subst e1 e2
  go_wp2_with fail
  refine (H4.out (by first | rfl | trivial) (by first | rfl | trivial) _ hB2).mono ?_
  rintro e w4 ⟨rfl, hb4⟩
  have hB4 := hB2.trans (hb4.mono hB2.size)
  go_wp2
  go_ret2
  exact ⟨rfl, hB4⟩
end Go.Proofs.YtbdnocijhbkclaaGreatDoor
