import Derived.Test.YtflkhjicgojcbaaQ3
import Derived.Test.YtflkhjicgojcbaaL12
import Derived.Test.YtflkhjicgojcbaaG3
import Derived.Deep.RegionHeld3
namespace Go.Proofs.Ytflkhjicgojcbaa
open Go.RowKit Go.Shelf

theorem merge_len (s t : List Geo.XY) : (Geo.merge s t).length ≤ s.length + t.length := by
  induction s, t using Geo.merge.induct with
  | case1 t => rw [Geo.merge]; simp
  | case2 a s => rw [Geo.merge]; simp
  | case3 a s b t hlt ih => rw [Geo.merge, if_pos hlt]; simp only [List.length_cons] at *; omega
  | case4 a s b t hlt hgt ih => rw [Geo.merge, if_neg hlt, if_pos hgt]; simp only [List.length_cons] at *; omega
  | case5 a s b t hlt hgt ih => rw [Geo.merge, if_neg hlt, if_neg hgt]; simp only [List.length_cons] at *; omega
theorem Stp.two {p : Geo.XY} (h : Stp p) : Stp2 p := by obtain ⟨⟨h1, h2⟩, h3, h4⟩ := h; exact ⟨⟨by omega, by omega⟩, by omega, by omega⟩
theorem merge_stp {s t : List Geo.XY} (hs : ∀ p, p ∈ s → Stp p) (ht : ∀ p, p ∈ t → Stp p) : ∀ c, c ∈ Geo.merge s t → Stp2 c := by
  induction s, t using Geo.merge.induct with
  | case1 t => intro c hc; rw [Geo.merge] at hc; exact (ht c hc).two
  | case2 a s => intro c hc; rw [Geo.merge] at hc; exact (hs c hc).two
  | case3 a s b t hlt ih =>
    intro c hc
    rw [Geo.merge, if_pos hlt] at hc
    rcases List.mem_cons.1 hc with rfl | hc
    · exact (hs _ (List.mem_cons_self ..)).two
    · exact ih (fun p hp => hs p (List.mem_cons_of_mem _ hp)) ht c hc
  | case4 a s b t hlt hgt ih =>
    intro c hc
    rw [Geo.merge, if_neg hlt, if_pos hgt] at hc
    rcases List.mem_cons.1 hc with rfl | hc
    · exact (ht _ (List.mem_cons_self ..)).two
    · exact ih hs (fun p hp => ht p (List.mem_cons_of_mem _ hp)) c hc
  | case5 a s b t hlt hgt ih =>
    intro c hc
    rw [Geo.merge, if_neg hlt, if_neg hgt] at hc
    rcases List.mem_cons.1 hc with rfl | hc
    · obtain ⟨⟨h1, h2⟩, h3, h4⟩ := hs _ (List.mem_cons_self ..)
      obtain ⟨⟨k1, k2⟩, k3, k4⟩ := ht _ (List.mem_cons_self ..)
      unfold Stp2 Geo.add
      dsimp only
      omega
    · exact ih (fun p hp => hs p (List.mem_cons_of_mem _ hp)) (fun p hp => ht p (List.mem_cons_of_mem _ hp)) c hc
theorem steps_stp {l : List Geo.XY} (h : AllIn l) (h0 : 0 < l.length) : ∀ p, p ∈ Geo.stepsL l → Stp p := by
  intro p hp
  obtain ⟨i, hi, rfl⟩ := Geo.stepsL_mem hp
  unfold Geo.edge Stp
  rw [Geo.At_X l h0, Geo.At_X l h0]
  obtain ⟨a1, a2, a3, a4⟩ := in_all h ((i + 1) % l.length)
  obtain ⟨b1, b2, b3, b4⟩ := in_all h (i % l.length)
  unfold Geo.sub
  dsimp only
  omega

noncomputable def sumL (o p : List Geo.XY) : List Geo.XY := Geo.sumPoly (Geo.canon o) (Geo.canon p)
/-- what Sum answers -/
noncomputable def sumV (o p : List Geo.XY) : List Geo.XY × Int :=
  if validB o = true ∧ validB p = true then (if (sumL o p).length ≤ 64 ∧ allInB (sumL o p) = true then (sumL o p, 0) else ([], 4)) else ([], 10)
theorem sumV_no {o p : List Geo.XY} (h : ¬ (validB o = true ∧ validB p = true)) : sumV o p = ([], 10) := by unfold sumV; rw [if_neg h]
theorem sumV_yes {o p : List Geo.XY} (h : validB o = true ∧ validB p = true) : sumV o p = if (sumL o p).length ≤ 64 ∧ allInB (sumL o p) = true then (sumL o p, 0) else ([], 4) := by unfold sumV; rw [if_pos h]

theorem steps_r (b off cap n : Nat) (l : List Geo.XY) (e : l.length = n) (h3 : 3 ≤ n) (h64 : n ≤ 64) (hin : AllIn l) (w : World) (hP : Pts w (some ⟨b, off, none⟩) l) :
    Calls Try.prog 89 #[.slice (some ⟨b, off, none⟩) n cap] w fun e W' => ∃ g c, e = .returned (.slice (some ⟨g, 0, none⟩) n c) ∧ n ≤ c ∧ Pts W' (some ⟨g, 0, none⟩) (Geo.stepsL l) ∧ Below w.heap.size w W' := by
  subst e
  obtain ⟨b', off', he, hb, hc⟩ := pts_open hP (by omega)
  cases he
  refine (steps_any b off cap l h3 h64 hin w hb hc).mono ?_
  rintro e w' ⟨v, rfl, hown, hB⟩
  have hl := Geo.stepsL_len l
  obtain ⟨g, c, rfl⟩ := owns_addr hown (by omega)
  rw [← hl] at hown
  obtain ⟨A, c', he, hp, hc'⟩ := pts_of_owns' hown
  cases he
  exact ⟨g, c, rfl, by omega, hp, hB⟩
theorem joined_r (b1 o1 c1 b2 o2 c2 n1 n2 : Nat) (s t mg : List Geo.XY) (m : Nat) (hmg : mg = Geo.merge s t) (hm : mg.length = m) (e1 : s.length = n1) (e2 : t.length = n2) (h0 : 0 < n1) (hn1 : n1 ≤ 64) (hn2 : n2 ≤ 64) (hs : ∀ p, p ∈ s → Stp p) (ht : ∀ p, p ∈ t → Stp p) (w : World)
    (hP1 : Pts w (some ⟨b1, o1, none⟩) s) (hP2 : Pts w (some ⟨b2, o2, none⟩) t) (hc1 : n1 ≤ c1) (hc2 : n2 ≤ c2) :
    Calls Try.prog 88 #[.slice (some ⟨b1, o1, none⟩) n1 c1, .slice (some ⟨b2, o2, none⟩) n2 c2] w fun e w' => ∃ g c, e = .returned (.slice (some ⟨g, 0, none⟩) m c) ∧ Pts w' (some ⟨g, 0, none⟩) mg ∧ Below w.heap.size w w' := by
  subst e1 e2 hm hmg
  refine (joined_any b1 o1 c1 b2 o2 c2 s t hn1 hn2 hs ht w hP1 hP2 hc1 hc2).mono ?_
  rintro e w' ⟨v, rfl, hown, hB⟩
  have hpos : 0 < (Geo.merge s t).length := Geo.merge_pos (fun h => by rw [h] at h0; simp at h0)
  obtain ⟨g, c, rfl⟩ := owns_addr hown hpos
  obtain ⟨A, c', he, hp, hc'⟩ := pts_of_owns' hown
  cases he
  exact ⟨g, c, rfl, hp, hB⟩
theorem walk_r (b off c n : Nat) (x y : Int) (at_ : Geo.XY) (zs : List Geo.XY) (hx : at_ = (x, y)) (e : zs.length = n) (h0 : 0 < n) (hl : n ≤ 128) (ha : (-20000 ≤ x ∧ x ≤ 20000) ∧ -20000 ≤ y ∧ y ≤ 20000) (hz : ∀ p, p ∈ zs → Stp2 p) (w : World) (hP : Pts w (some ⟨b, off, none⟩) zs) :
    Calls Try.prog 87 #[.agg #[.int .i64 x, .int .i64 y], .slice (some ⟨b, off, none⟩) n c] w fun e w' => ∃ v, e = .returned v ∧ w'.ownsRow w.heap.size 38 2 v n (flat (Geo.walkL at_ zs)) ∧ Below w.heap.size w w' := by
  subst e hx
  obtain ⟨b', off', he, hb, hc⟩ := pts_open hP h0
  cases he
  have := walk_any b off c (x, y) zs hl ha hz w hb hc
  rw [Geo.walkL_len] at this
  exact this

set_option maxRecDepth 100000 in
set_option maxHeartbeats 4000000 in
theorem dsum_any (A A' : Option Addr) (o p : List Geo.XY) (c c' : Nat) (w : World) (hP : Pts w A o) (hQ : Pts w A' p) (hcap : o.length ≤ c) (hcap' : p.length ≤ c') :
    Calls Try.prog 43 #[.slice A o.length c, .slice A' p.length c'] w fun e w' => ListErr w (sumV o p).1 (sumV o p).2 e w' := by
  have HP := Lib.hid hP
  have HQ := Lib.hid hQ
  clear hP hQ
  cases hv : validB o with
  | false =>
    have HV := Lib.hid hv
    rw [sumV_no (by rw [hv]; simp)]
    clear hv
    unfold ListErr
    go_enter Try.func43, Try.ntmps43
    go_wp2_with (go_at_call 19; refine (dvalid_b _ _ _ _ HP.out false HV.out).mono ?_; rintro e w' ⟨rfl, hb'⟩)
    go_ret2
    exact ⟨_, rfl, own_nil' _ _, hb'⟩
  | true =>
    have HV := Lib.hid hv
    cases hv2 : validB p with
    | false =>
      have HV2 := Lib.hid hv2
      rw [sumV_no (by rw [hv2]; simp)]
      clear hv hv2
      unfold ListErr
      go_enter Try.func43, Try.ntmps43
      go_wp2_with fail
      refine (dvalid_b _ _ _ _ HP.out true HV.out).mono ?_
      rintro e w1 ⟨rfl, hb1⟩
      go_wp2_with fail
      refine (dvalid_b _ _ _ _ (HQ.out.below hb1) false HV2.out).mono ?_
      rintro e w2 ⟨rfl, hb2⟩
      go_wp2
      go_ret2
      exact ⟨_, rfl, own_nil' _ _, hb1.trans (hb2.mono hb1.size)⟩
    | true =>
      have HV2 := Lib.hid hv2
      have vo := valid_of hv
      have vp := valid_of hv2
      have ho3 := vo.1
      have ho64 := vo.2.1
      have hp3 := vp.1
      have hp64 := vp.2.1
      have HSV := Lib.hid (sumV_yes ⟨hv, hv2⟩)
      obtain ⟨oc, hoc⟩ : ∃ x, x = Geo.canon o := ⟨_, rfl⟩
      obtain ⟨pc, hpc⟩ : ∃ x, x = Geo.canon p := ⟨_, rfl⟩
      have vo' : Valid oc := by rw [hoc]; exact vo.canon
      have vp' : Valid pc := by rw [hpc]; exact vp.canon
      have L1 : Hid (oc.length = o.length) := Lib.hid (by rw [hoc, Geo.canon_length])
      have L2 : Hid (pc.length = p.length) := Lib.hid (by rw [hpc, Geo.canon_length])
      have HOC := Lib.hid hoc
      have HPC := Lib.hid hpc
      have AO := Lib.hid vo'.allin
      have AP := Lib.hid vp'.allin
      have SO := Lib.hid (steps_stp vo'.allin vo'.pos)
      have SP := Lib.hid (steps_stp vp'.allin vp'.pos)
      obtain ⟨x1, x2, x3, x4⟩ := in_all vo'.allin 0
      obtain ⟨y1, y2, y3, y4⟩ := in_all vp'.allin 0
      obtain ⟨mg, hmg⟩ : ∃ m, m = Geo.merge (Geo.stepsL oc) (Geo.stepsL pc) := ⟨_, rfl⟩
      have hml := merge_len (Geo.stepsL oc) (Geo.stepsL pc)
      rw [Geo.stepsL_len, Geo.stepsL_len, ← hmg, L1.out, L2.out] at hml
      have hm0 : 0 < mg.length := by rw [hmg]; exact Geo.merge_pos (fun h => by have := Geo.stepsL_len oc; rw [h] at this; have := vo'.1; simp at *; omega)
      have SM : Hid (∀ c, c ∈ mg → Stp2 c) := Lib.hid (by rw [hmg]; exact merge_stp SO.out SP.out)
      have HMG := Lib.hid hmg
      obtain ⟨q, hq⟩ : ∃ q, q = sumL o p := ⟨_, rfl⟩
      have HQS : Hid (Geo.walkL (Geo.add (Geo.X oc 0) (Geo.X pc 0)) mg = q) := Lib.hid (by rw [hq, hmg, hoc, hpc]; rfl)
      have HQL : Hid (q.length = mg.length) := Lib.hid (by rw [← HQS.out, Geo.walkL_len])
      have HSV2 : Hid (sumV o p = if q.length ≤ 64 ∧ allInB q = true then (q, 0) else ([], 4)) := Lib.hid (by rw [hq]; exact HSV.out)
      have S1 : Hid ((Geo.stepsL oc).length = o.length) := Lib.hid (by rw [Geo.stepsL_len, L1.out])
      have S2 : Hid ((Geo.stepsL pc).length = p.length) := Lib.hid (by rw [Geo.stepsL_len, L2.out])
      obtain ⟨m, hm⟩ : ∃ n, mg.length = n := ⟨_, rfl⟩
      have HMN := Lib.hid hm
      rw [hm] at hml hm0
      obtain ⟨⟨r1, r2⟩, hr12⟩ : ∃ r, sumV o p = r := ⟨_, rfl⟩
      have HR12 := Lib.hid hr12
      rw [hr12]
      clear hv hv2 vo vp vo' vp' HSV hoc hpc hmg hq hm hr12
      unfold ListErr
      dsimp only
      go_enter Try.func43, Try.ntmps43
      go_wp2_with fail
      refine (dvalid_b _ _ _ _ HP.out true HV.out).mono ?_
      rintro e w1 ⟨rfl, hb1⟩
      go_wp2_with fail
      refine (dvalid_b _ _ _ _ (HQ.out.below hb1) true HV2.out).mono ?_
      rintro e w2 ⟨rfl, hb2⟩
      have hB2 := hb1.trans (hb2.mono hb1.size)
      go_wp2_with fail
      refine (dcanon_p A o c (by omega) ho64 hcap w2 (HP.out.below hB2)).mono ?_
      rintro e w3 ⟨v, rfl, hown, hb3⟩
      rw [← HOC.out] at hown
      have hB3 := hB2.trans (hb3.mono hB2.size)
      obtain ⟨g1, k1, rfl⟩ := owns_addr hown (by rw [L1.out]; omega)
      obtain ⟨_, _, he, hp1, hk1⟩ := pts_of_owns' hown
      cases he
      rw [L1.out] at hk1 ⊢
      clear hown
      go_wp2_with fail
      refine (dcanon_p A' p c' (by omega) hp64 hcap' w3 (HQ.out.below hB3)).mono ?_
      rintro e w4 ⟨v, rfl, hown, hb4⟩
      rw [← HPC.out] at hown
      have hB4 := hB3.trans (hb4.mono hB3.size)
      obtain ⟨g2, k2, rfl⟩ := owns_addr hown (by rw [L2.out]; omega)
      obtain ⟨_, _, he, hp2, hk2⟩ := pts_of_owns' hown
      cases he
      rw [L2.out] at hk2 ⊢
      clear hown
      replace hp1 := hp1.below hb4
      have P1 := Lib.hid hp1
      have P2 := Lib.hid hp2
      obtain ⟨_, _, he, _, hc1⟩ := pts_open hp1 (by rw [L1.out]; omega)
      cases he
      obtain ⟨_, _, he, _, hc2⟩ := pts_open hp2 (by rw [L2.out]; omega)
      cases he
      have d1 := (hc1 0 (by rw [L1.out]; omega)).1
      have d2 := (hc1 0 (by rw [L1.out]; omega)).2
      have d3 := (hc2 0 (by rw [L2.out]; omega)).1
      have d4 := (hc2 0 (by rw [L2.out]; omega)).2
      simp only [Nat.zero_mul, Nat.add_zero, Nat.zero_add] at d1 d2 d3 d4
      clear hc1 hc2 hp1 hp2
      generalize hX1 : Geo.X oc 0 = a at *
      generalize hX2 : Geo.X pc 0 = b at *
      clear hX1 hX2
      have g6 : (0 : Int) < (o.length : Int) := by omega
      have g7 : (0 : Int) < (p.length : Int) := by omega
      have g8 : 0 < o.length := by omega
      have g9 : 0 < p.length := by omega
      go_wp2_with fail
      refine Code.wp_mono (Q := fun e a' w' => e = .normal ∧ ∃ v u19 u20 u21 u22 u23 u24 u25 u26 u27 u28 u29 u30 u31, a' = { tmps := #[.slice (some ⟨g1, 0, none⟩) o.length k1, .slice (some ⟨g2, 0, none⟩) p.length k2, undef, undef, .slice none 0 0, .int .i64 0, v, .slice A o.length c, .bool true, .bool false, .bool false, .slice A' p.length c', .bool true, .bool false, .bool false, .slice A o.length c, .slice (some ⟨g1, 0, none⟩) o.length k1, .slice A' p.length c', .slice (some ⟨g2, 0, none⟩) p.length k2, u19, u20, u21, u22, u23, u24, u25, u26, u27, u28, u29, u30, u31, undef, undef, undef, undef, undef, undef, undef, undef, undef], defers := [] } ∧ w'.ownsRow w.heap.size 38 2 v m (flat q) ∧ Below w.heap.size w w') ?goon ?region
      case region =>
        refine wp_region_any (by kernel_rfl) ?_
        change wpAny _ _ _ _ _ _ _ (World.drew _)
        refine wpAny_take (i := 0) (v := ?_) rfl (by kernel_rfl) (by decide +kernel) (by decide +kernel) (fun _ _ _ h => by cases h.1) (Or.inl ⟨by rfl, ?_⟩) ?_
        rotate_left
        · intro w; first | (go_simp; done) | (go_simp; with_reducible rfl)
        refine wpAny_take (i := 1) (v := ?_) rfl (by kernel_rfl) (by decide +kernel) (by decide +kernel) (fun _ _ _ h => by cases h.1) (Or.inl ⟨by rfl, ?_⟩) ?_
        rotate_left
        · intro w; first | (go_simp; done) | (go_simp; with_reducible rfl)
        refine wpAny_take (i := 3) (v := ?_) rfl (by kernel_rfl) (by decide +kernel) (by decide +kernel) (fun _ _ _ h => by cases h.1) (Or.inl ⟨by rfl, ?_⟩) ?_
        rotate_left
        · intro w; first | (go_simp; done) | (go_simp; with_reducible rfl)
        refine wpAny_take (i := 4) (v := ?_) rfl (by kernel_rfl) (by decide +kernel) (by decide +kernel) (fun _ _ _ h => by cases h.1) (Or.inl ⟨by rfl, ?_⟩) ?_
        rotate_left
        · intro w; first | (go_simp; done) | (go_simp; with_reducible rfl)
        refine wpAny_take (i := 7) (v := ?_) rfl (by kernel_rfl) (by decide +kernel) (by decide +kernel) (fun _ _ _ h => by cases h.1) (Or.inl ⟨by rfl, ?_⟩) ?_
        rotate_left
        · intro w; first | (go_simp; done) | (go_simp; with_reducible rfl)
        refine wpAny_take (i := 9) (v := ?_) rfl (by kernel_rfl) (by decide +kernel) (by decide +kernel) (fun _ _ _ h => by cases h.1) (Or.inl ⟨by rfl, ?_⟩) ?_
        rotate_left
        · intro w; first | (go_simp; done) | (go_simp; with_reducible rfl)
        refine wpAny_ready (rs := [2, 5]) (by decide +kernel) (by simp) ?_
        refine AllReady.cons rfl (fun K hK => ?_) ?_
        · go_simp
          refine hK _ _ ?_
          clear hK K
          refine wpAny_ready (rs := [5]) (by decide +kernel) (by simp) ?_
          refine AllReady.cons rfl (fun K hK => ?_) AllReady.nil
          go_simp
          refine hK _ _ ?_
          clear hK K
          refine wpAny_ready (rs := [6]) (by decide +kernel) (by simp) ?_
          refine AllReady.cons rfl (fun K hK => ?_) AllReady.nil
          go_simp
          go_at_call 79
          refine (plus_any _ _ _ _ (by omega) (by omega) (by omega) (by omega) (by omega) (by omega) (by omega) (by omega) _).mono ?_
          rintro e w5 ⟨rfl, hu1⟩
          have hU1 : Below w4.heap.size w4 w5 := ((Below.refl _ w4).drew).trans hu1
          have p1 := P1.out.below hU1
          dsimp only
          refine hK _ _ ?_
          clear hK K
          refine wpAny_ready (rs := [8]) (by decide +kernel) (by simp) ?_
          refine AllReady.cons rfl (fun K hK => ?_) AllReady.nil
          go_simp
          go_at_call 89
          refine (steps_r g1 0 k1 o.length oc L1.out ho3 ho64 AO.out _ p1).mono ?_
          rintro e w6 ⟨g3, k3, rfl, hk3, hp3', hu2⟩
          have hU2 := hU1.trans (hu2.mono hU1.size)
          have p2 := P2.out.below hU2
          dsimp only
          refine hK _ _ ?_
          clear hK K
          refine wpAny_ready (rs := [10]) (by decide +kernel) (by simp) ?_
          refine AllReady.cons rfl (fun K hK => ?_) AllReady.nil
          go_simp
          go_at_call 89
          refine (steps_r g2 0 k2 p.length pc L2.out hp3 hp64 AP.out _ p2).mono ?_
          rintro e w7 ⟨g4, k4, rfl, hk4, hp4', hu3⟩
          have hU3 := hU2.trans (hu3.mono hU2.size)
          have p3 := hp3'.below hu3
          dsimp only
          refine hK _ _ ?_
          clear hK K
          refine wpAny_ready (rs := [11]) (by decide +kernel) (by simp) ?_
          refine AllReady.cons rfl (fun K hK => ?_) AllReady.nil
          go_simp
          go_at_call 88
          refine (joined_r g3 0 k3 g4 0 k4 o.length p.length (Geo.stepsL oc) (Geo.stepsL pc) mg m HMG.out HMN.out S1.out S2.out g8 ho64 hp64 SO.out SP.out _ p3 hp4' hk3 hk4).mono ?_
          rintro e w8 ⟨g5, k5, rfl, hp5', hu4⟩
          have hU4 := hU3.trans (hu4.mono hU3.size)
          dsimp only
          refine hK _ _ ?_
          clear hK K
          refine wpAny_ready (rs := [12]) (by decide +kernel) (by simp) ?_
          refine AllReady.cons rfl (fun K hK => ?_) AllReady.nil
          go_simp
          go_at_call 87
          refine (walk_r g5 0 k5 m _ _ (Geo.add a b) mg rfl HMN.out hm0 (by omega) (by omega) SM.out _ hp5').mono ?_
          rintro e w9 ⟨v, rfl, hown, hu5⟩
          have hU5 := hU4.trans (hu5.mono hU4.size)
          dsimp only
          refine hK _ _ ?_
          clear hK K
          refine wpAny_ready (rs := [13]) (by decide +kernel) (by simp) ?_
          refine AllReady.cons rfl (fun K hK => ?_) AllReady.nil
          go_simp
          refine hK _ _ ?_
          clear hK K
          refine wpAny_done (by decide +kernel) ?_ _
          rw [HQS.out] at hown
          exact ⟨rfl, _, _, _, _, _, _, _, _, _, _, _, _, _, _, rfl, hown.mono (Nat.le_trans hB4.size hU4.size), hB4.trans (hU5.mono hB4.size)⟩
        · refine AllReady.cons rfl (fun K hK => ?_) AllReady.nil
          go_simp
          refine hK _ _ ?_
          clear hK K
          refine wpAny_ready (rs := [2]) (by decide +kernel) (by simp) ?_
          refine AllReady.cons rfl (fun K hK => ?_) AllReady.nil
          go_simp
          refine hK _ _ ?_
          clear hK K
          refine wpAny_ready (rs := [6]) (by decide +kernel) (by simp) ?_
          refine AllReady.cons rfl (fun K hK => ?_) AllReady.nil
          go_simp
          go_at_call 79
          refine (plus_any _ _ _ _ (by omega) (by omega) (by omega) (by omega) (by omega) (by omega) (by omega) (by omega) _).mono ?_
          rintro e w5 ⟨rfl, hu1⟩
          have hU1 : Below w4.heap.size w4 w5 := ((Below.refl _ w4).drew).trans hu1
          have p1 := P1.out.below hU1
          dsimp only
          refine hK _ _ ?_
          clear hK K
          refine wpAny_ready (rs := [8]) (by decide +kernel) (by simp) ?_
          refine AllReady.cons rfl (fun K hK => ?_) AllReady.nil
          go_simp
          go_at_call 89
          refine (steps_r g1 0 k1 o.length oc L1.out ho3 ho64 AO.out _ p1).mono ?_
          rintro e w6 ⟨g3, k3, rfl, hk3, hp3', hu2⟩
          have hU2 := hU1.trans (hu2.mono hU1.size)
          have p2 := P2.out.below hU2
          dsimp only
          refine hK _ _ ?_
          clear hK K
          refine wpAny_ready (rs := [10]) (by decide +kernel) (by simp) ?_
          refine AllReady.cons rfl (fun K hK => ?_) AllReady.nil
          go_simp
          go_at_call 89
          refine (steps_r g2 0 k2 p.length pc L2.out hp3 hp64 AP.out _ p2).mono ?_
          rintro e w7 ⟨g4, k4, rfl, hk4, hp4', hu3⟩
          have hU3 := hU2.trans (hu3.mono hU2.size)
          have p3 := hp3'.below hu3
          dsimp only
          refine hK _ _ ?_
          clear hK K
          refine wpAny_ready (rs := [11]) (by decide +kernel) (by simp) ?_
          refine AllReady.cons rfl (fun K hK => ?_) AllReady.nil
          go_simp
          go_at_call 88
          refine (joined_r g3 0 k3 g4 0 k4 o.length p.length (Geo.stepsL oc) (Geo.stepsL pc) mg m HMG.out HMN.out S1.out S2.out g8 ho64 hp64 SO.out SP.out _ p3 hp4' hk3 hk4).mono ?_
          rintro e w8 ⟨g5, k5, rfl, hp5', hu4⟩
          have hU4 := hU3.trans (hu4.mono hU3.size)
          dsimp only
          refine hK _ _ ?_
          clear hK K
          refine wpAny_ready (rs := [12]) (by decide +kernel) (by simp) ?_
          refine AllReady.cons rfl (fun K hK => ?_) AllReady.nil
          go_simp
          go_at_call 87
          refine (walk_r g5 0 k5 m _ _ (Geo.add a b) mg rfl HMN.out hm0 (by omega) (by omega) SM.out _ hp5').mono ?_
          rintro e w9 ⟨v, rfl, hown, hu5⟩
          have hU5 := hU4.trans (hu5.mono hU4.size)
          dsimp only
          refine hK _ _ ?_
          clear hK K
          refine wpAny_ready (rs := [13]) (by decide +kernel) (by simp) ?_
          refine AllReady.cons rfl (fun K hK => ?_) AllReady.nil
          go_simp
          refine hK _ _ ?_
          clear hK K
          refine wpAny_done (by decide +kernel) ?_ _
          rw [HQS.out] at hown
          exact ⟨rfl, _, _, _, _, _, _, _, _, _, _, _, _, _, _, rfl, hown.mono (Nat.le_trans hB4.size hU4.size), hB4.trans (hU5.mono hB4.size)⟩
      case goon =>
        rintro _ _ w5 ⟨rfl, v, u19, u20, u21, u22, u23, u24, u25, u26, u27, u28, u29, u30, u31, rfl, hown, hB5⟩
        clear d1 d2 d3 d4 P1 P2 hB4 hB3 hB2 hb1 hb2 hb3 hb4
        rw [← HMN.out, ← HQL.out] at hown
        obtain ⟨A1, c1, rfl, hp1, hc1⟩ := pts_of_owns' hown
        have HQM : Hid (q.length = m) := Lib.hid (by rw [HQL.out, HMN.out])
        have HO : Hid (w5.ownsRow w.heap.size 38 2 (.slice A1 m c1) q.length (flat q)) := Lib.hid (by rw [← HQM.out]; exact hown)
        have HPQ := Lib.hid hp1
        rw [HQM.out]
        clear hown hp1 hc1
        by_cases hm64 : 64 < m
        · have hre := HR12.out.symm.trans (HSV2.out.trans (if_neg (by rw [HQM.out]; omega)))
          obtain ⟨rfl, rfl⟩ := Prod.mk.inj hre
          clear hre HR12
          go_wp2
          go_ret2
          exact ⟨_, rfl, own_nil' _ _, hB5⟩
        · obtain ⟨ai, hai⟩ : ∃ r, allInB q = r := ⟨_, rfl⟩
          have HAI := Lib.hid hai
          clear hai
          go_wp2_with fail
          refine (allin_r A1 q m c1 HQM.out _ HPQ.out (by omega) ai HAI.out).mono ?_
          rintro e w6 ⟨rfl, hb6⟩
          have hB6 := hB5.trans (hb6.mono hB5.size)
          cases ai with
          | false =>
            have hre := HR12.out.symm.trans (HSV2.out.trans (if_neg (by rw [HAI.out]; simp)))
            obtain ⟨rfl, rfl⟩ := Prod.mk.inj hre
            clear hre HR12
            go_wp2
            go_ret2
            exact ⟨_, rfl, own_nil' _ _, hB6⟩
          | true =>
            have hre := HR12.out.symm.trans (HSV2.out.trans (if_pos ⟨by rw [HQM.out]; omega, HAI.out⟩))
            obtain ⟨rfl, rfl⟩ := Prod.mk.inj hre
            clear hre HR12
            go_wp2
            go_ret2
            exact ⟨_, rfl, own_keep HO.out hb6, hB6⟩
end Go.Proofs.Ytflkhjicgojcbaa
