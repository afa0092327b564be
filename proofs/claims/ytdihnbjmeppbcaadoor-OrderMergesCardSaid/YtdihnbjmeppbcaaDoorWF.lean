/- Convert, of the document; OrderConverts. -/
import Derived.Test.YtdihnbjmeppbcaaDoorWE
import Derived.Test.YtdihnbjmeppbcaaDoorWC
namespace Go.Proofs.YtdihnbjmeppbcaaDoor
open Go.RowKit Go.Shelf

theorem Go.Proofs.YtdihnbjmeppbcaaDoor.calls_same {P : Program} {f : FuncId} {args : Array Value} {w : World} {v : Value}
    (h : Calls P f args w fun e w' => e = .returned v ∧ w' = w) : Calls P f args w fun e w' => e = .returned v ∧ Below w.heap.size w w' :=
  h.mono fun _ w' ⟨he, hb⟩ => ⟨he, by rw [hb]; exact Below.refl _ _⟩

set_option maxRecDepth 100000 in
set_option maxHeartbeats 8000000 in
theorem rConvert_b (A : Option Addr) (l : List Pl.Rt) (c m : Nat) (hm : l.length = m) (hm6 : m ≤ maxLen) (hs : ∀ x, x ∈ l → x.cur.size ≤ maxLen) (cur : ByteArray) (hc : cur.size ≤ maxLen) (d a : Int) (w : World) (hI : Rows rtL 4 w A l) :
    Calls Tryd.prog 26 #[.slice A m c, .string cur, .int .i64 d, .int .i64 a] w fun e w' => e = .returned (.tuple #[.int .i64 (Pl.coV l cur d a), .int .i64 (Pl.coE l cur d a)]) ∧ Below w.heap.size w w' := by
  obtain ⟨x0, h0⟩ : ∃ x, Pl.vrs l = x := ⟨_, rfl⟩
  obtain ⟨x1, h1⟩ : ∃ x, Pl.cyB cur = x := ⟨_, rfl⟩
  obtain ⟨x2, h2⟩ : ∃ x, Pl.dy d = x := ⟨_, rfl⟩
  obtain ⟨x3, h3⟩ : ∃ x, Pl.am a = x := ⟨_, rfl⟩
  have H0 := Lib.hid (rvrates_b A l c m hm hm6 hs x0 h0 w hI)
  have H1 := Lib.hid (fun w' : World => rcur_b cur _ rfl hc x1 h1 w')
  have H2 := Lib.hid (fun w' : World => rdy_b d x2 h2 w')
  have H3 := Lib.hid (fun w' : World => ram_b a x3 h3 w')
  obtain ⟨V, hV⟩ : ∃ V, Pl.coV l cur d a = V := ⟨_, rfl⟩
  obtain ⟨E, hE⟩ : ∃ E, Pl.coE l cur d a = E := ⟨_, rfl⟩
  rw [hV, hE]
  unfold Pl.coV at hV
  unfold Pl.coE at hE
  rw [h0, h1, h2, h3] at hV hE
  cases x0
  · have e1 : 0 = V := hV
    have e2 : 81 = E := hE
    subst e1 e2
    clear h0 h1 h2 h3 hI hm hs hc hm6
    go_enter Tryd.func26, Tryd.ntmps26
    go_wp2_with fail
    refine H0.out.mono ?_
    rintro e w1 ⟨rfl, hb⟩
    go_wp2
    go_ret2
    exact ⟨rfl, hb⟩
  rw [Pl.vrs_eq, Pl.vls_true] at h0
  obtain ⟨h60, hall, _⟩ := h0
  have hm60 : m ≤ 60 := by omega
  have HV1 : Hid (∀ x, x ∈ l → Pl.Vr x) := Lib.hid (fun x hx => by
    obtain ⟨i, hi, rfl⟩ := List.getElem_of_mem hx
    exact Pl.vr_true.1 (hall i hi))
  have HL := Lib.hid (fun w' hb => rrateOf_b A l c m hm (by omega) (fun x hx => (HV1.out x hx).d0) cur d w' (hI.below (W' := w') hb))
  have HI := Lib.hid hI
  have HM := Lib.hid hm
  cases x1
  · have e1 : 0 = V := hV
    have e2 : 2 = E := hE
    subst e1 e2
    clear h1 h2 h3 hI hm hs hc hm6 h60 hall
    go_enter Tryd.func26, Tryd.ntmps26
    go_wp2_with fail
    refine H0.out.mono ?_
    rintro e w1 ⟨rfl, hb⟩
    go_wp2_with fail
    refine (H1.out _).mono ?_
    rintro e w2 ⟨rfl, hw2⟩
    subst hw2
    go_wp2
    go_ret2
    exact ⟨rfl, hb⟩
  cases x2
  · have e1 : 0 = V := hV
    have e2 : 2 = E := hE
    subst e1 e2
    clear h1 h2 h3 hI hm hs hc hm6 h60 hall
    go_enter Tryd.func26, Tryd.ntmps26
    go_wp2_with fail
    refine H0.out.mono ?_
    rintro e w1 ⟨rfl, hb⟩
    go_wp2_with fail
    refine (H1.out _).mono ?_
    rintro e w2 ⟨rfl, hw2⟩
    subst hw2
    go_wp2_with fail
    refine (H2.out _).mono ?_
    rintro e w2 ⟨rfl, hw2⟩
    subst hw2
    go_wp2
    go_ret2
    exact ⟨rfl, hb⟩
  cases x3
  · have e1 : 0 = V := hV
    have e2 : 2 = E := hE
    subst e1 e2
    clear h1 h2 h3 hI hm hs hc hm6 h60 hall
    go_enter Tryd.func26, Tryd.ntmps26
    go_wp2_with fail
    refine H0.out.mono ?_
    rintro e w1 ⟨rfl, hb⟩
    go_wp2_with fail
    refine (H1.out _).mono ?_
    rintro e w2 ⟨rfl, hw2⟩
    subst hw2
    go_wp2_with fail
    refine (H2.out _).mono ?_
    rintro e w2 ⟨rfl, hw2⟩
    subst hw2
    go_wp2_with fail
    refine (H3.out _).mono ?_
    rintro e w2 ⟨rfl, hw2⟩
    subst hw2
    go_wp2
    go_ret2
    exact ⟨rfl, hb⟩
  have ha := Lib.hid (Pl.inB_true.1 h3)
  replace hV : Pl.cV l cur d a = V := hV
  replace hE : Pl.cE l cur d a = E := hE
  unfold Pl.cV at hV
  unfold Pl.cE at hE
  rw [hm] at hV hE
  by_cases hq : cur = Pl.eurB
  · rw [if_pos hq] at hV hE
    have q0 : (cur.toList == [69, 85, 82]) = true := by rw [eur_eq]; exact decide_eq_true hq
    subst hV hE
    clear h1 h2 h3 hI hm hs hc hm6 h60 hall hq HL
    go_enter Tryd.func26, Tryd.ntmps26
    go_wp2_with fail
    refine H0.out.mono ?_
    rintro e w1 ⟨rfl, hb⟩
    go_wp2_with fail
    refine (H1.out _).mono ?_
    rintro e w2 ⟨rfl, hw2⟩
    subst hw2
    go_wp2_with fail
    refine (H2.out _).mono ?_
    rintro e w2 ⟨rfl, hw2⟩
    subst hw2
    go_wp2_with fail
    refine (H3.out _).mono ?_
    rintro e w2 ⟨rfl, hw2⟩
    subst hw2
    go_wp2
    go_ret2
    exact ⟨rfl, hb⟩
  rw [if_neg hq] at hV hE
  have q0 : (cur.toList == [69, 85, 82]) = false := by rw [eur_eq]; exact decide_eq_false hq
  obtain ⟨r, hr⟩ : ∃ r, Pl.lt (l.map Pl.rk) cur d m = r := ⟨_, rfl⟩
  rw [hr] at hV hE HL
  cases r with
  | none =>
    have e1 : 0 = V := hV
    have e2 : 81 = E := hE
    subst e1 e2
    have ea : Pl.ati none = -1 := rfl
    rw [ea] at HL
    clear h1 h2 h3 hI hm hs hc hm6 h60 hall hq hr
    go_enter Tryd.func26, Tryd.ntmps26
    go_wp2_with fail
    refine H0.out.mono ?_
    rintro e w1 ⟨rfl, hb⟩
    go_wp2_with fail
    refine (H1.out _).mono ?_
    rintro e w2 ⟨rfl, hw2⟩
    subst hw2
    go_wp2_with fail
    refine (H2.out _).mono ?_
    rintro e w2 ⟨rfl, hw2⟩
    subst hw2
    go_wp2_with fail
    refine (H3.out _).mono ?_
    rintro e w2 ⟨rfl, hw2⟩
    subst hw2
    go_wp2_with fail
    refine (HL.out _ hb).mono ?_
    rintro e w3 ⟨rfl, hb3⟩
    have hB3 := hb.trans (hb3.mono hb.size)
    go_wp2
    go_ret2
    exact ⟨rfl, hB3⟩
  | some j =>
    have hj : j < l.length := by rw [hm]; exact Pl.lt_lt hr
    have hjI : (j : Int) < (m : Int) := by omega
    have hx := HV1.out _ (List.getElem_mem hj)
    have e1 : l.getD j default = l[j] := by rw [List.getD_eq_getElem?_getD, List.getElem?_eq_getElem hj]; rfl
    simp only at hV hE
    rw [e1] at hV hE
    have ea : Pl.ati (some j) = (j : Int) := rfl
    rw [ea] at HL
    have HX : Hid (∀ b off, (∀ (i : Nat) (hi : i < l.length), w.rangeAt b (off + i * 4) (rtL l[i])) → w.rangeAt b (off + j * 4) (rtL l[j])) := Lib.hid (fun b off h => h j hj)
    obtain ⟨bx, ox, rfl, hbx, hcx⟩ := HI.out.open (by omega)
    have hrx := hcx j hj
    clear h1 h2 h3 hI hm hs hc hm6 h60 hall hq hr e1 ea HX hcx HV1
    generalize l[j] = x at *
    obtain ⟨u, hu⟩ : ∃ u, Pl.hu (a * x.num) x.den = u := ⟨_, rfl⟩
    obtain ⟨y, hy⟩ : ∃ y, Pl.am u = y := ⟨_, rfl⟩
    rw [hu, hy] at hV hE
    have HH := Lib.hid (fun (w' : World) => Go.Proofs.YtdihnbjmeppbcaaDoor.calls_same (rhalfup_b a x.num x.den u hx.e0 hx.e1 (by have := hx.n0; omega) hx.n1 ha hu w'))
    have HA := Lib.hid (fun (w' : World) => ram_b u y hy w')
    have hj0 : decide ((j : Int) < 0) = false := decide_eq_false (by omega)
    clear hu hy ha hx
    go_enter Tryd.func26, Tryd.ntmps26
    go_wp2_with fail
    refine H0.out.mono ?_
    rintro e w1 ⟨rfl, hb⟩
    go_wp2_with fail
    refine (H1.out _).mono ?_
    rintro e w2 ⟨rfl, hw2⟩
    subst hw2
    go_wp2_with fail
    refine (H2.out _).mono ?_
    rintro e w2 ⟨rfl, hw2⟩
    subst hw2
    go_wp2_with fail
    refine (H3.out _).mono ?_
    rintro e w2 ⟨rfl, hw2⟩
    subst hw2
    go_wp2_with fail
    refine (HL.out _ hb).mono ?_
    rintro e w3 ⟨rfl, hb3⟩
    have hB3 := hb.trans (hb3.mono hb.size)
    have hr3 := rangeAt_below hrx hbx hB3
    have c2 : _ = some (Value.int .i64 x.num) := hr3 2 _ rfl
    have c3 : _ = some (Value.int .i64 x.den) := hr3 3 _ rfl
    have z2 := fun s : Ext w3 => s.cell (p := ⟨bx, ox + j * 4 + 2, none⟩) c2
    have z3 := fun s : Ext w3 => s.cell (p := ⟨bx, ox + j * 4 + 3, none⟩) c3
    clear hr3 c2 c3 hb hb3 HL H0 H1 H2 H3
    go_wp2
    refine wp_region_ext (by kernel_rfl) (by kernel_rfl) ?_
    repeat (go_big_quiet_step (first | (go_at_call 69; refine calls_ext (HH.out _))))
    refine wpQuiet_nil ?_
    rintro _ ⟨s, rfl⟩
    have hB4 := hB3.trans (s.h.mono hB3.size)
    clear z2 z3
    generalize s.w = w4 at *
    clear s
    go_wp2_with fail
    refine (HA.out _).mono ?_
    rintro e w5 ⟨rfl, hw5⟩
    subst hw5
    cases y
    · have e1 : 0 = V := hV
      have e2 : 4 = E := hE
      subst e1 e2
      go_wp2
      go_ret2
      exact ⟨rfl, hB4⟩
    · have e1 : u = V := hV
      have e2 : 0 = E := hE
      subst e1 e2
      go_wp2
      go_ret2
      exact ⟨rfl, hB4⟩
end Go.Proofs.YtdihnbjmeppbcaaDoor
