/- nest: the document's Apart; the law that order, moves and half turns play no part. -/
import Derived.Test.YtlikmlhlfbdchaaQ1
import Derived.Test.YtlikmlhlfbdchaaL13
import Derived.Test.YtlikmlhlfbdchaaBZ
namespace Go.Proofs.Ytlikmlhlfbdchaa
open Go.RowKit Go.Shelf

set_option maxRecDepth 100000 in
set_option maxHeartbeats 2000000 in
theorem rApart_b (A B : Option Addr) (o p : List Geo.XY) (c c' m n : Nat) (hm : o.length = m) (hn : p.length = n) (g : Int) (E : Int) (hE : Ne.apE o p g = E) (V : Bool) (hV : Ne.apV o p g = V) (w : World) (hA : Pts w A o) (hB : Pts w B p) :
    Calls Try.prog 14 #[.slice A m c, .slice B n c', .int .i64 g] w fun e w' => e = .returned (.tuple #[.bool V, .int .i64 E]) ∧ Below w.heap.size w w' := by
  obtain ⟨x, hx⟩ : ∃ x, validB o = x := ⟨_, rfl⟩
  obtain ⟨y, hy⟩ : ∃ y, validB p = y := ⟨_, rfl⟩
  have HX := Lib.hid (fun W (h : Pts W A o) => by have := rvalid_b A o c W h x hx; rwa [hm] at this)
  have HY := Lib.hid (fun W (h : Pts W B p) => by have := rvalid_b B p c' W h y hy; rwa [hn] at this)
  have HA := Lib.hid hA
  have HB := Lib.hid hB
  have HEE : Hid (E = if (x && y) = true then (if 0 ≤ g ∧ g ≤ 2000 then 0 else 2) else 10) := Lib.hid (by
    rw [← hE, ← hx, ← hy]; rfl)
  have HVV : Hid (V = if E = 0 then Ne.apB o p g else false) := Lib.hid (by rw [← hV, ← hE]; rfl)
  have HAP := Lib.hid (fun (h : E = 0) W (h1 : Pts W A o) (h2 : Pts W B p) => by
    have h' := Ne.apE_ok (hE.trans h)
    have := rapart_b A B o p c c' g (by have := h'.1.1; omega) (by have := h'.1.2.1; omega) (by have := h'.2.1.1; omega) (by have := h'.2.1.2.1; omega) (Ne.allBd_in h'.1.allin) (Ne.allBd_in h'.2.1.allin) (Ne.dir_in h'.1).alldir (Ne.dir_in h'.2.1).alldir h'.2.2.1 h'.2.2.2 _ rfl W h1 h2
    rwa [hm, hn] at this)
  clear hx hy hE hV hA hB hm hn
  cases x
  · have h1 := HEE.out
    simp at h1
    subst h1
    have h2 := HVV.out
    rw [if_neg (by decide)] at h2
    subst h2
    go_enter Try.func14, Try.ntmps14
    go_wp2_with fail
    refine (HX.out _ HA.out).mono ?_
    rintro e w1 ⟨rfl, b1⟩
    go_wp2
    go_ret2
    exact ⟨rfl, b1⟩
  cases y
  · have h1 := HEE.out
    simp at h1
    subst h1
    have h2 := HVV.out
    rw [if_neg (by decide)] at h2
    subst h2
    go_enter Try.func14, Try.ntmps14
    go_wp2_with fail
    refine (HX.out _ HA.out).mono ?_
    rintro e w1 ⟨rfl, b1⟩
    go_wp2_with fail
    refine (HY.out _ (HB.out.below b1)).mono ?_
    rintro e w2 ⟨rfl, b2⟩
    have hb2 := b1.trans (b2.mono b1.size)
    go_wp2
    go_ret2
    exact ⟨rfl, hb2⟩
  by_cases g0 : g < 0
  · have h1 := HEE.out
    rw [if_pos (by rfl), if_neg (by omega)] at h1
    subst h1
    have h2 := HVV.out
    rw [if_neg (by decide)] at h2
    subst h2
    have d1 : decide (g < 0) = true := by simp; omega
    go_enter Try.func14, Try.ntmps14
    go_wp2_with fail
    refine (HX.out _ HA.out).mono ?_
    rintro e w1 ⟨rfl, b1⟩
    go_wp2_with fail
    refine (HY.out _ (HB.out.below b1)).mono ?_
    rintro e w2 ⟨rfl, b2⟩
    have hb2 := b1.trans (b2.mono b1.size)
    go_wp2
    go_ret2
    exact ⟨rfl, hb2⟩
  have d1 : decide (g < 0) = false := by simp; omega
  by_cases g1 : 2000 < g
  · have h1 := HEE.out
    rw [if_pos (by rfl), if_neg (by omega)] at h1
    subst h1
    have h2 := HVV.out
    rw [if_neg (by decide)] at h2
    subst h2
    have d2 : decide (2000 < g) = true := by simp; omega
    go_enter Try.func14, Try.ntmps14
    go_wp2_with fail
    refine (HX.out _ HA.out).mono ?_
    rintro e w1 ⟨rfl, b1⟩
    go_wp2_with fail
    refine (HY.out _ (HB.out.below b1)).mono ?_
    rintro e w2 ⟨rfl, b2⟩
    have hb2 := b1.trans (b2.mono b1.size)
    go_wp2
    go_ret2
    exact ⟨rfl, hb2⟩
  · have h1 := HEE.out
    rw [if_pos (by rfl), if_pos (by omega)] at h1
    subst h1
    have h2 := HVV.out
    rw [if_pos rfl] at h2
    subst h2
    have d2 : decide (2000 < g) = false := by simp; omega
    have HAP1 := Lib.hid (HAP.out rfl)
    go_enter Try.func14, Try.ntmps14
    go_wp2_with fail
    refine (HX.out _ HA.out).mono ?_
    rintro e w1 ⟨rfl, b1⟩
    go_wp2_with fail
    refine (HY.out _ (HB.out.below b1)).mono ?_
    rintro e w2 ⟨rfl, b2⟩
    have hb2 := b1.trans (b2.mono b1.size)
    go_wp2_with fail
    refine (HAP1.out _ (HA.out.below hb2) (HB.out.below hb2)).mono ?_
    rintro e w3 ⟨rfl, b3⟩
    go_wp2
    go_ret2
    exact ⟨rfl, hb2.trans (b3.mono hb2.size)⟩
namespace Ne
theorem apE_comm (o p : List Geo.XY) (g : Int) : apE p o g = apE o p g := by unfold apE; rw [Bool.and_comm]
theorem apV_comm (o p : List Geo.XY) (g : Int) : apV p o g = apV o p g := by unfold apV; rw [apE_comm, ap_comm]
theorem apE_two {o p o' p' : List Geo.XY} {g : Int} (h : apE o p g = 0) (ho : Valid o') (hp : Valid p') : apE o' p' g = 0 := by
  obtain ⟨_, _, g1, g2⟩ := apE_ok h
  unfold apE
  rw [validB_true ho, validB_true hp, if_pos (by rfl), if_pos ⟨g1, g2⟩]
theorem apV_ok {o p : List Geo.XY} {g : Int} (h : apE o p g = 0) : apV o p g = apB o p g := by unfold apV; rw [if_pos h]
theorem valid_map {l : List Geo.XY} (h : Valid l) {d : Geo.XY} (hin : AllIn (l.map (addXY d))) : Valid (l.map (addXY d)) := by
  refine valid_of_rg (by rw [List.length_map]; exact h.1) (by rw [List.length_map]; exact h.2.1) (fun p hp => ?_) (h.rg.map _ (fun a b c => ?_))
  · obtain ⟨i, hi, rfl⟩ := Geo.mem_X hp
    exact hin i hi
  · unfold Geo.Cross addXY; simp only; grind
end Ne
theorem pts_listerr {w w' : World} {v : Value} {ps : List Geo.XY} (h : w'.ownsRow w.heap.size 76 2 v ps.length (flat ps)) : ∃ A c, v = .slice A ps.length c ∧ Pts w' A ps ∧ ps.length ≤ c := pts_of_owns' h

set_option maxRecDepth 100000 in
set_option maxHeartbeats 4000000 in
theorem law_aparts (A B : Option Addr) (o p : List Geo.XY) (c c' : Nat) (g dx dy : Int) (w : World) (hA : Pts w A o) (hB : Pts w B p) (hoc : o.length ≤ c) (hpc : p.length ≤ c') :
    Calls Try.prog 3 #[.slice A o.length c, .slice B p.length c', .int .i64 g, .int .i64 dx, .int .i64 dy] w fun e w' => e = .returned (.bool true) ∧ Below w.heap.size w w' := by
  obtain ⟨m, hm⟩ : ∃ m, o.length = m := ⟨_, rfl⟩
  obtain ⟨n, hn⟩ : ∃ n, p.length = n := ⟨_, rfl⟩
  obtain ⟨E, hE⟩ : ∃ E, Ne.apE o p g = E := ⟨_, rfl⟩
  obtain ⟨V, hV⟩ : ∃ V, Ne.apV o p g = V := ⟨_, rfl⟩
  have H1 := Lib.hid (fun W (h1 : Pts W A o) (h2 : Pts W B p) => Apart_b A B o p c c' m n hm hn g (by omega) (by omega) E hE V hV W h1 h2)
  have H2 := Lib.hid (fun W (h1 : Pts W A o) (h2 : Pts W B p) => rApart_b A B o p c c' m n hm hn g E hE V hV W h1 h2)
  have H3 := Lib.hid (fun W (h1 : Pts W A o) (h2 : Pts W B p) => Apart_b B A p o c' c n m hn hm g (by omega) (by omega) E (by rw [Ne.apE_comm]; exact hE) V (by rw [Ne.apV_comm]; exact hV) W h2 h1)
  have HT1 := Lib.hid (fun W (h : Pts W A o) => by have := rturned_any A o c W h; rwa [hm] at this)
  have HT2 := Lib.hid (fun W (h : Pts W B p) => by have := rturned_any B p c' W h; rwa [hn] at this)
  have HM1 := Lib.hid (fun W (h : Pts W A o) => by have := rmoved_any A o c dx dy W h; rwa [hm] at this)
  have HM2 := Lib.hid (fun W (h : Pts W B p) => by have := rmoved_any B p c' dx dy W h; rwa [hn] at this)
  have HA := Lib.hid hA
  have HB := Lib.hid hB
  rw [hm, hn]
  by_cases h0 : E = 0
  · subst h0
    obtain ⟨vo, vp, g1, g2⟩ := Ne.apE_ok hE
    have hap : Ne.apB o p g = V := by rw [← hV, Ne.apV_ok hE]
    have o0 : 0 < o.length := vo.pos
    have p0 : 0 < p.length := vp.pos
    obtain ⟨o1, ho1⟩ : ∃ o1, Geo.canon (o.map negXY) = o1 := ⟨_, rfl⟩
    obtain ⟨p1, hp1⟩ : ∃ p1, Geo.canon (p.map negXY) = p1 := ⟨_, rfl⟩
    have vo1 : Valid o1 := by rw [← ho1]; exact vo.neg.canon
    have vp1 : Valid p1 := by rw [← hp1]; exact vp.neg.canon
    have hE1 := Ne.apE_two hE vo1 vp1
    have hV1 : Ne.apV o1 p1 g = V := by
      rw [Ne.apV_ok hE1, ← ho1, ← hp1, Ne.ap_canon (by rw [List.length_map]; exact o0) (by rw [List.length_map]; exact p0), Ne.ap_neg o0 p0, hap]
    have e1 : lstV o (o.map negXY) = (o1, 0) := by unfold lstV; rw [if_pos (validB_true vo), ho1]
    have e2 : lstV p (p.map negXY) = (p1, 0) := by unfold lstV; rw [if_pos (validB_true vp), hp1]
    rw [e1] at HT1
    rw [e2] at HT2
    have HMV : Hid ((movedV o dx dy).2 = 0 → (movedV p dx dy).2 = 0 → Ne.apE (movedV o dx dy).1 (movedV p dx dy).1 g = 0 ∧ Ne.apV (movedV o dx dy).1 (movedV p dx dy).1 g = V) := Lib.hid (fun a b => by
      have key : ∀ {l : List Geo.XY}, Valid l → (movedV l dx dy).2 = 0 → (movedV l dx dy).1 = Geo.canon (l.map (addXY (dx, dy))) ∧ Valid (l.map (addXY (dx, dy))) := by
        intro l hl h
        unfold movedV at h ⊢
        rw [if_pos (validB_true hl)] at h ⊢
        split at h
        · split at h
          · rename_i h1 h2
            rw [if_pos h1, if_pos h2]
            exact ⟨rfl, Ne.valid_map hl (by unfold allInB at h2; simpa using h2)⟩
          · cases h
        · cases h
      obtain ⟨k1, k2⟩ := key vo a
      obtain ⟨k3, k4⟩ := key vp b
      rw [k1, k3]
      have hE2 := Ne.apE_two hE k2.canon k4.canon
      exact ⟨hE2, by rw [Ne.apV_ok hE2, Ne.ap_canon k2.pos k4.pos, Ne.ap_map o0 p0, hap]⟩)
    obtain ⟨mo, hmo⟩ : ∃ mo, movedV o dx dy = mo := ⟨_, rfl⟩
    obtain ⟨mp, hmp⟩ : ∃ mp, movedV p dx dy = mp := ⟨_, rfl⟩
    rw [hmo] at HM1 HMV
    rw [hmp] at HM2 HMV
    have HV1 := Lib.hid hV1
    have HE1 := Lib.hid hE1
    have hvv : (V != V) = false := by cases V <;> rfl
    have hve : (V == V) = true := by cases V <;> rfl
    clear hA hB hE hV hm hn hap vo vp vo1 vp1 hE1 hV1 e1 e2 hmo hmp ho1 hp1 o0 p0 hoc hpc
    cases V <;> (
    go_enter Try.func3, Try.ntmps3
    go_wp2_with fail
    refine (H1.out _ HA.out HB.out).mono ?_
    rintro e w1 ⟨rfl, b1⟩
    go_wp2_with fail
    refine (H2.out _ (HA.out.below b1) (HB.out.below b1)).mono ?_
    rintro e w2 ⟨rfl, b2⟩
    have k2 := b1.trans (b2.mono b1.size)
    go_wp2_with fail
    refine (H3.out _ (HA.out.below k2) (HB.out.below k2)).mono ?_
    rintro e w3 ⟨rfl, b3⟩
    have k3 := k2.trans (b3.mono k2.size)
    go_wp2_with fail
    refine (HT1.out _ (HA.out.below k3)).mono ?_
    rintro e w4 ⟨v1, rfl, hO1, b4⟩
    have k4 := k3.trans (b4.mono k3.size)
    obtain ⟨A1, c1, rfl, q1, r1⟩ := pts_listerr hO1
    have Q1 := Lib.hid q1
    have R1 := Lib.hid r1
    clear hO1 q1 r1 b1 b2 b3 b4
    go_wp2_with fail
    refine (HT2.out _ (HB.out.below k4)).mono ?_
    rintro e w5 ⟨v2, rfl, hO2, b5⟩
    have k5 := k4.trans (b5.mono k4.size)
    obtain ⟨A2, c2, rfl, q2, r2⟩ := pts_listerr hO2
    have Q2 := Lib.hid q2
    have R2 := Lib.hid r2
    have Q1' := Lib.hid (Q1.out.below b5)
    clear hO2 q2 r2
    go_wp2_with fail
    refine (Apart_b A1 A2 o1 p1 c1 c2 o1.length p1.length rfl rfl g R1.out R2.out 0 HE1.out _ HV1.out w5 Q1'.out Q2.out).mono ?_
    rintro e w6 ⟨rfl, b6⟩
    have k6 := k5.trans (b6.mono k5.size)
    clear b5 b6
    go_wp2_with fail
    refine (HM1.out _ (HA.out.below k6)).mono ?_
    rintro e w7 ⟨v1, rfl, hO1, b7⟩
    have k7 := k6.trans (b7.mono k6.size)
    obtain ⟨A3, c3, rfl, q3, r3⟩ := pts_listerr hO1
    have Q3 := Lib.hid q3
    have R3 := Lib.hid r3
    clear hO1 q3 r3 b7
    go_wp2_with fail
    refine (HM2.out _ (HB.out.below k7)).mono ?_
    rintro e w8 ⟨v2, rfl, hO2, b8⟩
    have k8 := k7.trans (b8.mono k7.size)
    obtain ⟨A4, c4, rfl, q4, r4⟩ := pts_listerr hO2
    have Q4 := Lib.hid q4
    have R4 := Lib.hid r4
    have Q3' := Lib.hid (Q3.out.below b8)
    clear hO2 q4 r4 b8
    by_cases x1 : mo.2 = 0
    · by_cases x2 : mp.2 = 0
      · have HW := Lib.hid (HMV.out x1 x2)
        obtain ⟨mo1, mo2⟩ := mo
        obtain ⟨mp1, mp2⟩ := mp
        dsimp only at x1 x2
        subst x1 x2
        go_wp2_with fail
        refine (Apart_b A3 A4 mo1 mp1 c3 c4 mo1.length mp1.length rfl rfl g R3.out R4.out 0 HW.out.1 _ HW.out.2 w8 Q3'.out Q4.out).mono ?_
        rintro e w9 ⟨rfl, b9⟩
        have k9 := k8.trans (b9.mono k8.size)
        go_wp2_with fail
        refine (awake_any _).mono ?_
        rintro e w10 ⟨rfl, b10⟩
        go_wp2
        go_ret
        exact ⟨rfl, k9.trans (b10.mono k9.size)⟩
      · have d2 : (mp.2 == 0) = false := by simp; exact x2
        have d3 : (mo.2 == 0) = true := by simp; exact x1
        go_wp2_with fail
        refine (awake_any _).mono ?_
        rintro e w10 ⟨rfl, b10⟩
        go_wp2
        go_ret
        exact ⟨rfl, k8.trans (b10.mono k8.size)⟩
    · have d3 : (mo.2 == 0) = false := by simp; exact x1
      go_wp2_with fail
      refine (awake_any _).mono ?_
      rintro e w10 ⟨rfl, b10⟩
      go_wp2
      go_ret
      exact ⟨rfl, k8.trans (b10.mono k8.size)⟩)
  · have hne : (E == 0) = false := by simp; exact h0
    have hvv : (V != V) = false := by cases V <;> rfl
    clear hA hB hE hV hm hn hoc hpc HT1 HT2 HM1 HM2
    cases V <;> (
    go_enter Try.func3, Try.ntmps3
    go_wp2_with fail
    refine (H1.out _ HA.out HB.out).mono ?_
    rintro e w1 ⟨rfl, b1⟩
    go_wp2_with fail
    refine (H2.out _ (HA.out.below b1) (HB.out.below b1)).mono ?_
    rintro e w2 ⟨rfl, b2⟩
    have k2 := b1.trans (b2.mono b1.size)
    go_wp2_with fail
    refine (H3.out _ (HA.out.below k2) (HB.out.below k2)).mono ?_
    rintro e w3 ⟨rfl, b3⟩
    have k3 := k2.trans (b3.mono k2.size)
    go_wp2_with fail
    refine (awake_any _).mono ?_
    rintro e w10 ⟨rfl, b10⟩
    go_wp2
    go_ret
    exact ⟨rfl, k3.trans (b10.mono k3.size)⟩)
end Go.Proofs.Ytlikmlhlfbdchaa
