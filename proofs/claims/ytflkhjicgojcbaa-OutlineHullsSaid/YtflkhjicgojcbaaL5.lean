import Derived.Test.YtflkhjicgojcbaaL4
import Derived.Test.YtflkhjicgojcbaaH6
namespace Go.Proofs.Ytflkhjicgojcbaa
open Go.RowKit Go.Shelf

theorem own_nil (w : World) : w.ownsRow w.heap.size 38 2 (.slice none 0 0) ([] : List Geo.XY).length (flat []) := World.ownsRow_nil _ _ _ _
theorem own_nil' (w : World) (B : Nat) : w.ownsRow B 38 2 (.slice none 0 0) ([] : List Geo.XY).length (flat []) := World.ownsRow_nil _ _ _ _

/-- if l is an outline: its canonical form; otherwise an error -/
noncomputable def canonV (l : List Geo.XY) : List Geo.XY × Int := if validB l = true then (Geo.canon l, 0) else ([], 10)
theorem canonV_ok {l : List Geo.XY} (h : validB l = true) : canonV l = (Geo.canon l, 0) := if_pos h
theorem canonV_no {l : List Geo.XY} (h : validB l = false) : canonV l = ([], 10) := by unfold canonV; rw [h]; rfl
noncomputable def sameV (o p : List Geo.XY) : Bool × Int := if validB o = true ∧ validB p = true then (eqB (Geo.canon o) (Geo.canon p), 0) else (false, 10)
theorem sameV_ok {o p : List Geo.XY} (h : validB o = true ∧ validB p = true) : sameV o p = (eqB (Geo.canon o) (Geo.canon p), 0) := if_pos h
theorem sameV_no {o p : List Geo.XY} (h : ¬ (validB o = true ∧ validB p = true)) : sameV o p = (false, 10) := if_neg h

/-- what an outline's list looks like in memory -/
theorem pts_open {W : World} {A : Option Addr} {l : List Geo.XY} (h : Pts W A l) (h0 : 0 < l.length) : ∃ b off, A = some ⟨b, off, none⟩ ∧ b < W.heap.size ∧ ∀ k, k < l.length → W.cell? ⟨b, off + k * 2, none⟩ = some (.int .i64 (Geo.X l k).1) ∧ W.cell? ⟨b, off + k * 2 + 1, none⟩ = some (.int .i64 (Geo.X l k).2) := by
  rcases h with h | ⟨b, off, rfl, hb, hc⟩
  · subst h; simp at h0
  · exact ⟨b, off, rfl, hb, hc⟩

theorem canon_len64 {l : List Geo.XY} (h : Valid l) : (Geo.canon l).length ≤ 64 := by rw [Geo.canon_length]; exact h.2.1

theorem dcanon_p (A : Option Addr) (l : List Geo.XY) (c : Nat) (h0 : 0 < l.length) (h64 : l.length ≤ 64) (hcap : l.length ≤ c) (w : World) (hP : Pts w A l) :
    Calls Try.prog 54 #[.slice A l.length c] w fun e w' => ∃ v, e = .returned v ∧ w'.ownsRow w.heap.size 38 2 v (Geo.canon l).length (flat (Geo.canon l)) ∧ Below w.heap.size w w' := by
  obtain ⟨b, off, rfl, hb, hc⟩ := pts_open hP h0
  exact canonical_any b off c l h0 h64 hcap w hb hc
theorem rcanon_p (A : Option Addr) (l : List Geo.XY) (c : Nat) (h0 : 0 < l.length) (h64 : l.length ≤ 64) (_hcap : l.length ≤ c) (w : World) (hP : Pts w A l) :
    Calls Try.prog 55 #[.slice A l.length c] w fun e w' => ∃ v, e = .returned v ∧ w'.ownsRow w.heap.size 38 2 v (Geo.canon l).length (flat (Geo.canon l)) ∧ Below w.heap.size w w' := by
  obtain ⟨b, off, rfl, hb, hc⟩ := pts_open hP h0
  exact turnlist_any b off c l h0 h64 w hb hc

set_option maxHeartbeats 1000000 in
theorem dcanonical (A : Option Addr) (l : List Geo.XY) (c : Nat) (w : World) (hP : Pts w A l) (hcap : l.length ≤ c) :
    Calls Try.prog 15 #[.slice A l.length c] w fun e w' => ListErr w (canonV l).1 (canonV l).2 e w' := by
  have HP := Lib.hid hP
  cases hv : validB l with
  | false =>
    have HV := Lib.hid hv
    rw [canonV_no hv]
    clear hv hP
    unfold ListErr
    go_enter Try.func15, Try.ntmps15
    go_wp2_with (go_at_call 19; refine (dvalid_b _ _ _ _ HP.out false HV.out).mono ?_; rintro e w' ⟨rfl, hb'⟩)
    go_ret2
    exact ⟨_, rfl, own_nil' _ _, hb'⟩
  | true =>
    have HV := Lib.hid hv
    have hval := valid_of hv
    have h3 := hval.1
    have h64 := hval.2.1
    rw [canonV_ok hv]
    clear hv hval hP
    unfold ListErr
    go_enter Try.func15, Try.ntmps15
    go_wp2_with fail
    refine (dvalid_b _ _ _ _ HP.out true HV.out).mono ?_
    rintro e w1 ⟨rfl, hb1⟩
    go_wp2_with fail
    refine (dcanon_p A l c (by omega) h64 hcap w1 (HP.out.below hb1)).mono ?_
    rintro e w2 ⟨v, rfl, hown, hb2⟩
    go_wp2
    go_ret2
    exact ⟨_, rfl, hown.mono hb1.size, hb1.trans (hb2.mono hb1.size)⟩

set_option maxHeartbeats 2000000 in
theorem dsame_any (A A' : Option Addr) (o p : List Geo.XY) (c c' : Nat) (w : World) (hP : Pts w A o) (hQ : Pts w A' p) (hcap : o.length ≤ c) (hcap' : p.length ≤ c') :
    Calls Try.prog 17 #[.slice A o.length c, .slice A' p.length c'] w fun e w' => e = tupB (sameV o p) ∧ Below w.heap.size w w' := by
  have HP := Lib.hid hP
  have HQ := Lib.hid hQ
  clear hP hQ
  cases hv : validB o with
  | false =>
    have HV := Lib.hid hv
    rw [sameV_no (by rw [hv]; simp)]
    clear hv
    go_enter Try.func17, Try.ntmps17
    go_wp2_with (go_at_call 19; refine (dvalid_b _ _ _ _ HP.out false HV.out).mono ?_; rintro e w' ⟨rfl, hb'⟩)
    go_ret2
    exact ⟨rfl, hb'⟩
  | true =>
    have HV := Lib.hid hv
    cases hv2 : validB p with
    | false =>
      have HV2 := Lib.hid hv2
      rw [sameV_no (by rw [hv2]; simp)]
      clear hv hv2
      go_enter Try.func17, Try.ntmps17
      go_wp2_with fail
      refine (dvalid_b _ _ _ _ HP.out true HV.out).mono ?_
      rintro e w1 ⟨rfl, hb1⟩
      go_wp2_with fail
      refine (dvalid_b _ _ _ _ (HQ.out.below hb1) false HV2.out).mono ?_
      rintro e w2 ⟨rfl, hb2⟩
      go_wp2
      go_ret2
      exact ⟨rfl, hb1.trans (hb2.mono hb1.size)⟩
    | true =>
      have HV2 := Lib.hid hv2
      have VO := Lib.hid (valid_of hv)
      have VP := Lib.hid (valid_of hv2)
      rw [sameV_ok ⟨hv, hv2⟩]
      clear hv hv2
      go_enter Try.func17, Try.ntmps17
      go_wp2_with fail
      refine (dvalid_b _ _ _ _ HP.out true HV.out).mono ?_
      rintro e w1 ⟨rfl, hb1⟩
      go_wp2_with fail
      refine (dvalid_b _ _ _ _ (HQ.out.below hb1) true HV2.out).mono ?_
      rintro e w2 ⟨rfl, hb2⟩
      have hB2 := hb1.trans (hb2.mono hb1.size)
      go_wp2_with fail
      refine (dcanon_p A o c (by have := VO.out.1; omega) VO.out.2.1 hcap w2 (HP.out.below hB2)).mono ?_
      rintro e w3 ⟨v, rfl, hown, hb3⟩
      have hB3 := hB2.trans (hb3.mono hB2.size)
      obtain ⟨A1, c1, rfl, hp1⟩ := pts_of_owns hown
      go_wp2_with fail
      refine (dcanon_p A' p c' (by have := VP.out.1; omega) VP.out.2.1 hcap' w3 (HQ.out.below hB3)).mono ?_
      rintro e w4 ⟨v, rfl, hown2, hb4⟩
      have hB4 := hB3.trans (hb4.mono hB3.size)
      obtain ⟨A2, c2, rfl, hp2⟩ := pts_of_owns hown2
      go_wp2_with fail
      refine (dequal_any A1 A2 (Geo.canon o) (Geo.canon p) c1 c2 _ (hp1.below hb4) hp2 (by have := canon_len64 VO.out; omega)).mono ?_
      rintro e w5 ⟨rfl, hb5⟩
      go_wp2
      go_ret2
      exact ⟨rfl, hB4.trans (hb5.mono hB4.size)⟩

set_option maxHeartbeats 1000000 in
theorem rcanonical (A : Option Addr) (l : List Geo.XY) (c : Nat) (w : World) (hP : Pts w A l) (hcap : l.length ≤ c) :
    Calls Try.prog 16 #[.slice A l.length c] w fun e w' => ListErr w (canonV l).1 (canonV l).2 e w' := by
  have HP := Lib.hid hP
  cases hv : validB l with
  | false =>
    have HV := Lib.hid hv
    rw [canonV_no hv]
    clear hv hP
    unfold ListErr
    go_enter Try.func16, Try.ntmps16
    go_wp2_with (go_at_call 20; refine (rvalid_b _ _ _ _ HP.out false HV.out).mono ?_; rintro e w' ⟨rfl, hb'⟩)
    go_ret2
    exact ⟨_, rfl, own_nil' _ _, hb'⟩
  | true =>
    have HV := Lib.hid hv
    have hval := valid_of hv
    have h3 := hval.1
    have h64 := hval.2.1
    rw [canonV_ok hv]
    clear hv hval hP
    unfold ListErr
    go_enter Try.func16, Try.ntmps16
    go_wp2_with fail
    refine (rvalid_b _ _ _ _ HP.out true HV.out).mono ?_
    rintro e w1 ⟨rfl, hb1⟩
    go_wp2_with fail
    refine (rcanon_p A l c (by omega) h64 hcap w1 (HP.out.below hb1)).mono ?_
    rintro e w2 ⟨v, rfl, hown, hb2⟩
    go_wp2
    go_ret2
    exact ⟨_, rfl, hown.mono hb1.size, hb1.trans (hb2.mono hb1.size)⟩

set_option maxHeartbeats 2000000 in
theorem rsame_any (A A' : Option Addr) (o p : List Geo.XY) (c c' : Nat) (w : World) (hP : Pts w A o) (hQ : Pts w A' p) (hcap : o.length ≤ c) (hcap' : p.length ≤ c') :
    Calls Try.prog 18 #[.slice A o.length c, .slice A' p.length c'] w fun e w' => e = tupB (sameV o p) ∧ Below w.heap.size w w' := by
  have HP := Lib.hid hP
  have HQ := Lib.hid hQ
  clear hP hQ
  cases hv : validB o with
  | false =>
    have HV := Lib.hid hv
    rw [sameV_no (by rw [hv]; simp)]
    clear hv
    go_enter Try.func18, Try.ntmps18
    go_wp2_with (go_at_call 20; refine (rvalid_b _ _ _ _ HP.out false HV.out).mono ?_; rintro e w' ⟨rfl, hb'⟩)
    go_ret2
    exact ⟨rfl, hb'⟩
  | true =>
    have HV := Lib.hid hv
    cases hv2 : validB p with
    | false =>
      have HV2 := Lib.hid hv2
      rw [sameV_no (by rw [hv2]; simp)]
      clear hv hv2
      go_enter Try.func18, Try.ntmps18
      go_wp2_with fail
      refine (rvalid_b _ _ _ _ HP.out true HV.out).mono ?_
      rintro e w1 ⟨rfl, hb1⟩
      go_wp2_with fail
      refine (rvalid_b _ _ _ _ (HQ.out.below hb1) false HV2.out).mono ?_
      rintro e w2 ⟨rfl, hb2⟩
      go_wp2
      go_ret2
      exact ⟨rfl, hb1.trans (hb2.mono hb1.size)⟩
    | true =>
      have HV2 := Lib.hid hv2
      have VO := Lib.hid (valid_of hv)
      have VP := Lib.hid (valid_of hv2)
      rw [sameV_ok ⟨hv, hv2⟩]
      clear hv hv2
      go_enter Try.func18, Try.ntmps18
      go_wp2_with fail
      refine (rvalid_b _ _ _ _ HP.out true HV.out).mono ?_
      rintro e w1 ⟨rfl, hb1⟩
      go_wp2_with fail
      refine (rvalid_b _ _ _ _ (HQ.out.below hb1) true HV2.out).mono ?_
      rintro e w2 ⟨rfl, hb2⟩
      have hB2 := hb1.trans (hb2.mono hb1.size)
      go_wp2_with fail
      refine (rcanon_p A o c (by have := VO.out.1; omega) VO.out.2.1 hcap w2 (HP.out.below hB2)).mono ?_
      rintro e w3 ⟨v, rfl, hown, hb3⟩
      have hB3 := hB2.trans (hb3.mono hB2.size)
      obtain ⟨A1, c1, rfl, hp1⟩ := pts_of_owns hown
      go_wp2_with fail
      refine (rcanon_p A' p c' (by have := VP.out.1; omega) VP.out.2.1 hcap' w3 (HQ.out.below hB3)).mono ?_
      rintro e w4 ⟨v, rfl, hown2, hb4⟩
      have hB4 := hB3.trans (hb4.mono hB3.size)
      obtain ⟨A2, c2, rfl, hp2⟩ := pts_of_owns hown2
      go_wp2_with fail
      refine (requal_any A1 A2 (Geo.canon o) (Geo.canon p) c1 c2 _ (hp1.below hb4) hp2 (by have := canon_len64 VO.out; omega)).mono ?_
      rintro e w5 ⟨rfl, hb5⟩
      go_wp2
      go_ret2
      exact ⟨rfl, hB4.trans (hb5.mono hB4.size)⟩

theorem pts_of_listerr {w w' : World} {v : Value} {ps : List Geo.XY} (h : w'.ownsRow w.heap.size 38 2 v ps.length (flat ps)) : ∃ A c, v = .slice A ps.length c ∧ Pts w' A ps := pts_of_owns h

set_option maxRecDepth 100000 in
set_option maxHeartbeats 4000000 in
theorem law_forms (A A' : Option Addr) (o p : List Geo.XY) (c c' : Nat) (w : World) (ho : Pts w A o) (hp : Pts w A' p) (hcap : o.length ≤ c) (hcap' : p.length ≤ c') :
    Calls Try.prog 3 #[.slice A o.length c, .slice A' p.length c'] w fun e w' => e = .returned (.bool true) ∧ Below w.heap.size w w' := by
  have HO := Lib.hid ho
  have HP := Lib.hid hp
  clear ho hp
  have hlen : (canonV o).1.length ≤ 256 := by
    cases hv : validB o with
    | true => rw [canonV_ok hv]; exact Nat.le_trans (canon_len64 (valid_of hv)) (by omega)
    | false => rw [canonV_no hv]; simp
  have heq : eqB (canonV o).1 (canonV o).1 = true := by unfold eqB; simp
  obtain ⟨⟨cs, ce⟩, hcs⟩ : ∃ r, canonV o = r := ⟨_, rfl⟩
  obtain ⟨⟨sb, se⟩, hss⟩ : ∃ r, sameV o p = r := ⟨_, rfl⟩
  obtain ⟨vb, hvb⟩ : ∃ r, validB o = r := ⟨_, rfl⟩
  rw [hcs] at hlen heq
  have HCS := Lib.hid hcs
  have HSS := Lib.hid hss
  have HVB := Lib.hid hvb
  have HEQ := Lib.hid heq
  clear hcs hss hvb heq
  dsimp only at hlen
  go_enter Try.func3, Try.ntmps3
  go_wp2_with fail
  refine (dcanonical A o c _ HO.out hcap).mono ?_
  rintro e w1 ⟨v1, rfl, hown1, hb1⟩
  rw [HCS.out] at hown1
  rw [HCS.out]
  obtain ⟨A1, c1, rfl, hp1⟩ := pts_of_owns hown1
  go_wp2_with fail
  refine (rcanonical A o c _ (HO.out.below hb1) hcap).mono ?_
  rintro e w2 ⟨v2, rfl, hown2, hb2⟩
  have hB2 := hb1.trans (hb2.mono hb1.size)
  rw [HCS.out] at hown2
  rw [HCS.out]
  obtain ⟨A2, c2, rfl, hp2⟩ := pts_of_owns hown2
  have HP1 := Lib.hid (hp1.below hb2)
  have HP2 := Lib.hid hp2
  clear hp1 hp2 hown1 hown2
  dsimp only at HP1 HP2 ⊢
  go_wp2_with fail
  refine (dsame_any A A' o p c c' _ (HO.out.below hB2) (HP.out.below hB2) hcap hcap').mono ?_
  rintro e w3 ⟨rfl, hb3⟩
  have hB3 := hB2.trans (hb3.mono hB2.size)
  rw [HSS.out]
  unfold tupB
  go_wp2_with fail
  refine (rsame_any A A' o p c c' _ (HO.out.below hB3) (HP.out.below hB3) hcap hcap').mono ?_
  rintro e w4 ⟨rfl, hb4⟩
  have hB4 := hB3.trans (hb4.mono hB3.size)
  rw [HSS.out]
  unfold tupB
  go_wp2_with fail
  refine (dvalid_b A o c _ (HO.out.below hB4) vb HVB.out).mono ?_
  rintro e w5 ⟨rfl, hb5⟩
  have hB5 := hB4.trans (hb5.mono hB4.size)
  go_wp2_with fail
  refine (rvalid_b A o c _ (HO.out.below hB5) vb HVB.out).mono ?_
  rintro e w6 ⟨rfl, hb6⟩
  have hB6 := hB5.trans (hb6.mono hB5.size)
  go_wp2_with fail
  refine (same_any A1 A2 cs cs c1 c2 _ (((HP1.out.below hb3).below hb4).below hb5 |>.below hb6) (((HP2.out.below hb3).below hb4).below hb5 |>.below hb6) hlen true HEQ.out).mono ?_
  rintro e w7 ⟨rfl, hb7⟩
  have hB7 := hB6.trans (hb7.mono hB6.size)
  go_wp2_with fail
  refine (awake_any _).mono ?_
  rintro e w8 ⟨rfl, hb8⟩
  go_wp2
  go_ret
  exact ⟨rfl, hB7.trans (hb8.mono hB7.size)⟩
end Go.Proofs.Ytflkhjicgojcbaa
