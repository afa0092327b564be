import Derived.Test.YtflkhjicgojcbaaQ4
import Derived.Test.YtflkhjicgojcbaaG9
import Derived.Test.YtflkhjicgojcbaaG5
import Derived.Test.YtflkhjicgojcbaaL17
namespace Go.Proofs.Ytflkhjicgojcbaa
open Go.RowKit Go.Shelf

theorem q_exists_min (f : Nat → Int) (n : Nat) (hn : 0 < n) : ∃ m, m < n ∧ ∀ j, j < n → f m ≤ f j := by
  induction n with
  | zero => omega
  | succ n ih =>
    by_cases h : n = 0
    · subst h
      exact ⟨0, by omega, fun j hj => by obtain rfl : j = 0 := by omega
                                         exact Int.le_refl _⟩
    · obtain ⟨m, hm, hl⟩ := ih (by omega)
      by_cases hc : f m ≤ f n
      · exact ⟨m, by omega, fun j hj => by
          by_cases e : j = n
          · subst e; exact hc
          · exact hl j (by omega)⟩
      · exact ⟨n, by omega, fun j hj => by
          by_cases e : j = n
          · subst e; exact Int.le_refl _
          · have := hl j (by omega); omega⟩

/-- what a linear function does at d, when d lies between e1 and the way back along e0 -/
theorem q_corner_cone (u v : Int) (e0 e1 d : Geo.XY) (hc : 0 < Geo.cr e0 e1) (h0 : 0 ≤ Geo.cr e0 d) (h1 : 0 ≤ Geo.cr e1 d) (f0 : u * e0.1 + v * e0.2 ≤ 0) (f1 : 0 ≤ u * e1.1 + v * e1.2) : 0 ≤ u * d.1 + v * d.2 := by
  have key : (u * d.1 + v * d.2) * Geo.cr e0 e1 = Geo.cr e0 d * (u * e1.1 + v * e1.2) - Geo.cr e1 d * (u * e0.1 + v * e0.2) := by unfold Geo.cr; grind
  have a := Int.mul_nonneg h0 f1
  have b := Int.mul_nonneg h1 (show 0 ≤ -(u * e0.1 + v * e0.2) by omega)
  rw [Int.mul_neg] at b
  have hk : 0 ≤ (u * d.1 + v * d.2) * Geo.cr e0 e1 := by omega
  by_cases hn : 0 ≤ u * d.1 + v * d.2
  · exact hn
  · have := Int.mul_neg_of_neg_of_pos (show u * d.1 + v * d.2 < 0 by omega) hc
    omega

theorem q_mod_prev {n i : Nat} (hi : i < n) : ((i + n - 1) % n + 1) % n = i := by
  by_cases h : i = 0
  · subst h
    rw [show 0 + n - 1 = n - 1 by omega, Nat.mod_eq_of_lt (by omega : n - 1 < n), show n - 1 + 1 = n by omega, Nat.mod_self]
  · rw [show i + n - 1 = (i - 1) + n by omega, Nat.add_mod_right, Nat.mod_eq_of_lt (by omega : i - 1 < n), show i - 1 + 1 = i by omega, Nat.mod_eq_of_lt hi]

theorem q_cross_valid {p : List Geo.XY} (hv : Valid p) {i j : Nat} (hi : i < p.length) (hj : j < p.length) (h1 : j ≠ i) (h2 : j ≠ (i + 1) % p.length) : 0 < Geo.Cross (Geo.X p i) (Geo.X p ((i + 1) % p.length)) (Geo.X p j) := by
  have h := hv.2.2.2 i hi j hj h1 h2
  have hm : (i + 1) % p.length < p.length := Nat.mod_lt _ (by omega)
  rw [Geo.At_lt p hi, Geo.At_lt p hj, ← Geo.At_mod, Geo.At_lt p hm] at h
  exact h

/-- a corner with the least value of a linear function has it over all that the outline holds -/
theorem q_least_corner {p : List Geo.XY} (hv : Valid p) (u v : Int) : ∃ i, i < p.length ∧ ∀ x, Hold p x → u * (Geo.X p i).1 + v * (Geo.X p i).2 ≤ u * x.1 + v * x.2 := by
  have hn := hv.1
  obtain ⟨i, hi, hl⟩ := q_exists_min (fun i => u * (Geo.X p i).1 + v * (Geo.X p i).2) p.length (by omega)
  refine ⟨i, hi, fun x hx => ?_⟩
  obtain ⟨j, hj⟩ : ∃ j, j = (i + p.length - 1) % p.length := ⟨_, rfl⟩
  have hjl : j < p.length := by rw [hj]; exact Nat.mod_lt _ (by omega)
  have hji : (j + 1) % p.length = i := by rw [hj]; exact q_mod_prev hi
  obtain ⟨k, hk⟩ : ∃ k, k = (i + 1) % p.length := ⟨_, rfl⟩
  have hkl : k < p.length := by rw [hk]; exact Nat.mod_lt _ (by omega)
  have a1 := hx i hi
  have a2 := hx j hjl
  rw [hji] at a2
  rw [← hk] at a1
  have c0 := q_cross_valid hv hjl hkl (by
    intro e
    have e1 : (k + 1) % p.length = i := by rw [e]; exact hji
    rw [hk] at e1
    by_cases g : i + 1 = p.length
    · rw [g, Nat.mod_self] at e1
      rw [Nat.mod_eq_of_lt (by omega : 0 + 1 < p.length)] at e1
      omega
    · rw [Nat.mod_eq_of_lt (by omega : i + 1 < p.length)] at e1
      by_cases g2 : i + 1 + 1 = p.length
      · rw [g2, Nat.mod_self] at e1; omega
      · rw [Nat.mod_eq_of_lt (by omega : i + 1 + 1 < p.length)] at e1; omega) (by
    rw [hji, hk]
    intro e
    by_cases g : i + 1 = p.length
    · rw [g, Nat.mod_self] at e; omega
    · rw [Nat.mod_eq_of_lt (by omega : i + 1 < p.length)] at e; omega)
  rw [hji] at c0
  have m1 := hl k hkl
  have m2 := hl j hjl
  generalize Geo.X p i = A at *
  generalize Geo.X p j = B at *
  generalize Geo.X p k = C at *
  have := q_corner_cone u v (Geo.sub A B) (Geo.sub C A) (Geo.sub x A)
    (by unfold Geo.cr Geo.sub; unfold Geo.Cross at c0; grind) (by unfold Geo.cr Geo.sub; unfold Geo.Cross at a2; grind) (by unfold Geo.cr Geo.sub; unfold Geo.Cross at a1; grind)
    (by unfold Geo.sub; simp only [Int.mul_sub]; omega) (by unfold Geo.sub; simp only [Int.mul_sub]; omega)
  unfold Geo.sub at this
  simp only [Int.mul_sub] at this
  omega


theorem q_same_r (A B : Option Addr) (a b : List Geo.XY) (n m c c' : Nat) (e1 : a.length = n) (e2 : b.length = m) (w : World) (ha : Pts w A a) (hb : Pts w B b) (hl : a.length ≤ 256) (r : Bool) (hr : eqB a b = r) :
    Calls Try.prog 21 #[.slice A n c, .slice B m c'] w fun e w' => e = .returned (.bool r) ∧ Below w.heap.size w w' := by
  subst e1 e2
  exact same_any A B a b c c' w ha hb hl r hr

theorem q_area_r (A : Option Addr) (l : List Geo.XY) (n c : Nat) (d : Int) (e : l.length = n) (hv : validB l = true) (hd : Geo.areaK l l.length = d) (w : World) (hr : Pts w A l) :
    Calls Try.prog 27 #[.slice A n c] w fun e w' => e = .returned (.tuple #[.int .i64 d, .int .i64 0]) ∧ Below w.heap.size w w' := by
  subst e
  have := area_any A l c w hr
  rw [okOr_yes hv, hd] at this
  exact this

theorem sumL_comm (o p : List Geo.XY) : sumL o p = sumL p o := Geo.sumPoly_comm _ _
theorem sumV_comm (o p : List Geo.XY) : sumV o p = sumV p o := by
  by_cases h : validB o = true ∧ validB p = true
  · rw [sumV_yes h, sumV_yes ⟨h.2, h.1⟩, sumL_comm]
  · rw [sumV_no h, sumV_no (fun k => h ⟨k.2, k.1⟩)]
theorem sumV_len (o p : List Geo.XY) : (sumV o p).1.length ≤ 64 := by
  by_cases h : validB o = true ∧ validB p = true
  · rw [sumV_yes h]
    split
    · rename_i h2; exact h2.1
    · simp
  · rw [sumV_no h]; simp
theorem Valid.std {l : List Geo.XY} (h : Valid l) : Geo.Std (Geo.canon l) := Geo.std_canon h.1 h.rg
/-- what is known of a sum -/
theorem sumV_ok {o p q : List Geo.XY} (h : sumV o p = (q, 0)) : Valid o ∧ Valid p ∧ Valid q ∧ q = sumL o p := by
  by_cases hv : validB o = true ∧ validB p = true
  · rw [sumV_yes hv] at h
    split at h
    · rename_i h2
      obtain ⟨rfl, _⟩ := Prod.mk.inj h
      have vo := valid_of hv.1
      have vp := valid_of hv.2
      have hs := Geo.sp_std vo.std vp.std
      have hin : AllIn (sumL o p) := of_decide_eq_true h2.2
      exact ⟨vo, vp, valid_of_rg hs.h3 h2.1 (fun x hx => by obtain ⟨i, hi, rfl⟩ := Geo.mem_X hx; exact hin i hi) hs.rg, rfl⟩
    · cases (Prod.mk.inj h).2
  · rw [sumV_no hv] at h
    cases (Prod.mk.inj h).2
theorem sumV_err {o p : List Geo.XY} : (sumV o p).2 = 0 ∨ (sumV o p).2 = 4 ∨ (sumV o p).2 = 10 := by
  by_cases h : validB o = true ∧ validB p = true
  · rw [sumV_yes h]
    split
    · exact .inl rfl
    · exact .inr (.inl rfl)
  · rw [sumV_no h]; exact .inr (.inr rfl)
theorem sum_area {o p q : List Geo.XY} (h : sumV o p = (q, 0)) : Geo.areaK o o.length + Geo.areaK p p.length ≤ Geo.areaK q q.length := by
  obtain ⟨vo, vp, _, rfl⟩ := sumV_ok h
  have := Geo.sp_area vo.std vp.std
  rw [area_canon, area_canon] at this
  exact this
theorem rch_canon {l : List Geo.XY} (u v : Int) (h0 : 0 < l.length) : rchK (Geo.canon l) u v (Geo.canon l).length = rchK l u v l.length :=
  (rch_max _ u v (canon_pos h0)).unique ((rch_max l u v h0).of_mem fun _ => Geo.mem_canon)
theorem sum_reach {o p q : List Geo.XY} (u v : Int) (h : sumV o p = (q, 0)) : rchK q u v q.length = rchK o u v o.length + rchK p u v p.length := by
  obtain ⟨vo, vp, vq, rfl⟩ := sumV_ok h
  refine (rch_max _ u v vq.pos).unique ⟨fun x hx => ?_, ?_⟩
  · obtain ⟨a, b, ha, hb, rfl⟩ := Geo.sp_mem vo.std vp.std hx
    have h1 := (rch_max o u v vo.pos).1 a (Geo.mem_canon.1 ha)
    have h2 := (rch_max p u v vp.pos).1 b (Geo.mem_canon.1 hb)
    unfold Geo.add
    simp only [Int.mul_add] at h1 h2 ⊢
    omega
  · obtain ⟨a, ha, ea⟩ := (rch_max o u v vo.pos).2
    obtain ⟨b, hb, eb⟩ := (rch_max p u v vp.pos).2
    obtain ⟨i, hi, hl⟩ := q_least_corner vq (-u) (-v)
    refine ⟨_, Geo.X_mem hi, ?_⟩
    have hh : Hold (sumL o p) (Geo.add a b) := by
      intro k hk
      have := Geo.sp_hold vo.std vp.std (Geo.mem_canon.2 ha) (Geo.mem_canon.2 hb) hk
      rw [Geo.Cross_cr]
      have e : Geo.edge (Geo.At (sumL o p)) k = Geo.sub (Geo.X (sumL o p) ((k + 1) % (sumL o p).length)) (Geo.X (sumL o p) k) := by
        unfold Geo.edge
        rw [Geo.At_lt _ hk, Geo.At_X _ vq.pos]
      rw [← e]
      exact this
    have k1 := hl _ hh
    obtain ⟨a', b', ha', hb', he⟩ := Geo.sp_mem vo.std vp.std (Geo.X_mem hi)
    have h1 := (rch_max o u v vo.pos).1 a' (Geo.mem_canon.1 ha')
    have h2 := (rch_max p u v vp.pos).1 b' (Geo.mem_canon.1 hb')
    have he' : Geo.X (sumL o p) i = Geo.add a' b' := he
    rw [he'] at k1 ⊢
    unfold Geo.add at k1 ⊢
    simp only [Int.mul_add, Int.neg_mul] at k1 h1 h2 ea eb ⊢
    omega

theorem dsum_r (A A' : Option Addr) (o p q : List Geo.XY) (e : Int) (n m c c' : Nat) (en : o.length = n) (em : p.length = m) (h : sumV o p = (q, e)) (w : World) (hP : Pts w A o) (hQ : Pts w A' p) (hcap : n ≤ c) (hcap' : m ≤ c') :
    Calls Try.prog 43 #[.slice A n c, .slice A' m c'] w fun en w' => ListErr w q e en w' := by
  subst en em
  have := dsum_any A A' o p c c' w hP hQ hcap hcap'
  rw [h] at this
  exact this
theorem dreach_v (A : Option Addr) (l : List Geo.XY) (n c : Nat) (u v r x : Int) (e : l.length = n) (h : reachV l u v = (r, x)) (w : World) (hr : Pts w A l) :
    Calls Try.prog 35 #[.slice A n c, .int .i64 u, .int .i64 v] w fun e w' => e = .returned (.tuple #[.int .i64 r, .int .i64 x]) ∧ Below w.heap.size w w' := by
  subst e
  have := dreach_any A l c u v w hr
  rw [h] at this
  exact this

set_option maxRecDepth 100000 in
set_option maxHeartbeats 4000000 in
theorem law_adds (A A' : Option Addr) (o p : List Geo.XY) (c c' : Nat) (u v : Int) (w : World) (ho : Pts w A o) (hp : Pts w A' p) (hcap : o.length ≤ c) (hcap' : p.length ≤ c') :
    Calls Try.prog 12 #[.slice A o.length c, .slice A' p.length c', .int .i64 u, .int .i64 v] w fun e w' => e = .returned (.bool true) ∧ Below w.heap.size w w' := by
  have HO := Lib.hid ho
  have HP := Lib.hid hp
  clear ho hp
  obtain ⟨⟨q, er⟩, hq⟩ : ∃ r, sumV o p = r := ⟨_, rfl⟩
  have hlen := sumV_len o p
  rw [hq] at hlen
  dsimp only at hlen
  have HQ1 := Lib.hid hq
  have HQ2 : Hid (sumV p o = (q, er)) := Lib.hid (by rw [sumV_comm, hq])
  have HEQ : Hid (eqB q q = true) := Lib.hid (by unfold eqB; simp)
  have her := sumV_err (o := o) (p := p)
  rw [hq] at her
  dsimp only at her
  by_cases h0 : er = 0
  · obtain rfl := h0
    have area := sum_area hq
    obtain ⟨vo, vp, vq, _⟩ := sumV_ok hq
    obtain ⟨n, hn⟩ : ∃ n, q.length = n := ⟨_, rfl⟩
    have HN := Lib.hid hn
    rw [hn] at hlen
    obtain ⟨z1, e1⟩ : ∃ z, Geo.areaK o o.length = z := ⟨_, rfl⟩
    obtain ⟨z2, e2⟩ : ∃ z, Geo.areaK p p.length = z := ⟨_, rfl⟩
    obtain ⟨z3, e3⟩ : ∃ z, Geo.areaK q q.length = z := ⟨_, rfl⟩
    rw [e1, e2, e3] at area
    obtain ⟨⟨y1, x1⟩, f1⟩ : ∃ z, reachV o u v = z := ⟨_, rfl⟩
    obtain ⟨⟨y2, x2⟩, f2⟩ : ∃ z, reachV p u v = z := ⟨_, rfl⟩
    obtain ⟨⟨y3, x3⟩, f3⟩ : ∃ z, reachV q u v = z := ⟨_, rfl⟩
    have hr : x1 = x2 ∧ x2 = x3 ∧ y3 = y1 + y2 ∧ (-100000000 ≤ y1 ∧ y1 ≤ 100000000) ∧ -100000000 ≤ y2 ∧ y2 ≤ 100000000 := by
      by_cases hb : rngB 10000 (u, v) = true ∧ ¬ (u = 0 ∧ v = 0)
      · have g : ∀ l, Valid l → reachV l u v = (rchK l u v l.length, 0) := fun l hl => by unfold reachV; rw [if_pos (validB_true hl), if_pos hb]
        rw [g o vo] at f1
        rw [g p vp] at f2
        rw [g q vq] at f3
        obtain ⟨rfl, rfl⟩ := Prod.mk.inj f1
        obtain ⟨rfl, rfl⟩ := Prod.mk.inj f2
        obtain ⟨rfl, rfl⟩ := Prod.mk.inj f3
        obtain ⟨u1, u2, v1, v2⟩ := (rngB_iff _ _).1 hb.1
        simp only at u1 u2 v1 v2
        exact ⟨rfl, rfl, sum_reach u v hq, rchK_bd vo.allin u1 u2 v1 v2 _, rchK_bd vp.allin u1 u2 v1 v2 _⟩
      · have g : ∀ l, Valid l → reachV l u v = (0, 2) := fun l hl => by unfold reachV; rw [if_pos (validB_true hl), if_neg hb]
        rw [g o vo] at f1
        rw [g p vp] at f2
        rw [g q vq] at f3
        obtain ⟨rfl, rfl⟩ := Prod.mk.inj f1
        obtain ⟨rfl, rfl⟩ := Prod.mk.inj f2
        obtain ⟨rfl, rfl⟩ := Prod.mk.inj f3
        exact ⟨rfl, rfl, rfl, ⟨by omega, by omega⟩, by omega, by omega⟩
    obtain ⟨rfl, rfl, rfl, ⟨m1, m2⟩, m3, m4⟩ := hr
    have hA : ∀ l : List Geo.XY, Valid l → -20000000000 ≤ Geo.areaK l l.length ∧ Geo.areaK l l.length ≤ 20000000000 := fun l hl => by
      have h1 := fanK_bd hl.allin (l.length - 2)
      have h2 := hl.1
      have h3 := hl.2.1
      rw [Geo.area_fan l (by omega)]
      omega
    have hA1 := hA o vo
    have hA2 := hA p vp
    rw [e1] at hA1
    rw [e2] at hA2
    clear hA
    have E1 := Lib.hid e1
    have E2 := Lib.hid e2
    have E3 := Lib.hid e3
    have F1 := Lib.hid f1
    have F2 := Lib.hid f2
    have F3 := Lib.hid f3
    have VO := Lib.hid (validB_true vo)
    have VP := Lib.hid (validB_true vp)
    have VQ := Lib.hid (validB_true vq)
    clear hq e1 e2 e3 f1 f2 f3 vo vp vq hn her
    go_enter Try.func12, Try.ntmps12
    go_wp2_with fail
    refine (dsum_r A A' o p q 0 o.length p.length c c' rfl rfl HQ1.out _ HO.out HP.out hcap hcap').mono ?_
    rintro e w1 ⟨a1, rfl, hown1, hb1⟩
    obtain ⟨A1, c1, rfl, hp1⟩ := pts_of_owns hown1
    rw [HN.out]
    have HP1 := Lib.hid hp1
    clear hown1 hp1
    go_wp2_with fail
    refine (dsum_r A' A p o q 0 p.length o.length c' c rfl rfl HQ2.out _ (HP.out.below hb1) (HO.out.below hb1) hcap' hcap).mono ?_
    rintro e w2 ⟨a2, rfl, hown2, hb2⟩
    have hB2 := hb1.trans (hb2.mono hb1.size)
    obtain ⟨A2, c2, rfl, hp2⟩ := pts_of_owns hown2
    rw [HN.out]
    have HP2 := Lib.hid hp2
    have HP12 := Lib.hid (HP1.out.below hb2)
    clear hown2 hp2
    go_wp2_with fail
    refine (q_same_r A1 A2 q q n n c1 c2 HN.out HN.out _ HP12.out HP2.out (by rw [HN.out]; omega) true HEQ.out).mono ?_
    rintro e w3 ⟨rfl, hb3⟩
    have hB3 := hB2.trans (hb3.mono hB2.size)
    go_wp2_with fail
    refine (q_area_r A o o.length c z1 rfl VO.out E1.out _ (HO.out.below hB3)).mono ?_
    rintro e w4 ⟨rfl, hb4⟩
    have hB4 := hB3.trans (hb4.mono hB3.size)
    go_wp2_with fail
    refine (q_area_r A' p p.length c' z2 rfl VP.out E2.out _ (HP.out.below hB4)).mono ?_
    rintro e w5 ⟨rfl, hb5⟩
    have hB5 := hB4.trans (hb5.mono hB4.size)
    go_wp2_with fail
    refine (q_area_r A1 q n c1 z3 HN.out VQ.out E3.out _ (((HP12.out.below hb3).below hb4).below hb5)).mono ?_
    rintro e w6 ⟨rfl, hb6⟩
    have hB6 := hB5.trans (hb6.mono hB5.size)
    have HP6 := Lib.hid ((((HP12.out.below hb3).below hb4).below hb5).below hb6)
    go_wp2_with fail
    refine (dreach_v A o o.length c u v y1 _ rfl F1.out _ (HO.out.below hB6)).mono ?_
    rintro e w7 ⟨rfl, hb7⟩
    have hB7 := hB6.trans (hb7.mono hB6.size)
    go_wp2_with fail
    refine (dreach_v A' p p.length c' u v y2 _ rfl F2.out _ (HP.out.below hB7)).mono ?_
    rintro e w8 ⟨rfl, hb8⟩
    have hB8 := hB7.trans (hb8.mono hB7.size)
    go_wp2_with fail
    refine (dreach_v A1 q n c1 u v _ _ HN.out F3.out _ ((HP6.out.below hb7).below hb8)).mono ?_
    rintro e w9 ⟨rfl, hb9⟩
    have hB9 := hB8.trans (hb9.mono hB8.size)
    go_wp2_with fail
    refine (awake_any _).mono ?_
    rintro e w10 ⟨rfl, hb10⟩
    go_wp2
    go_ret
    exact ⟨rfl, hB9.trans (hb10.mono hB9.size)⟩
  · have hne : (er == 0) = false := by simp [h0]
    have hne2 : (er != 0) = true := by simp [h0]
    obtain ⟨n, hn⟩ : ∃ n, q.length = n := ⟨_, rfl⟩
    have HN := Lib.hid hn
    rw [hn] at hlen
    clear hq hn her h0
    go_enter Try.func12, Try.ntmps12
    go_wp2_with fail
    refine (dsum_r A A' o p q er o.length p.length c c' rfl rfl HQ1.out _ HO.out HP.out hcap hcap').mono ?_
    rintro e w1 ⟨a1, rfl, hown1, hb1⟩
    obtain ⟨A1, c1, rfl, hp1⟩ := pts_of_owns hown1
    rw [HN.out]
    have HP1 := Lib.hid hp1
    clear hown1 hp1
    go_wp2_with fail
    refine (dsum_r A' A p o q er p.length o.length c' c rfl rfl HQ2.out _ (HP.out.below hb1) (HO.out.below hb1) hcap' hcap).mono ?_
    rintro e w2 ⟨a2, rfl, hown2, hb2⟩
    have hB2 := hb1.trans (hb2.mono hb1.size)
    obtain ⟨A2, c2, rfl, hp2⟩ := pts_of_owns hown2
    rw [HN.out]
    have HP2 := Lib.hid hp2
    have HP12 := Lib.hid (HP1.out.below hb2)
    clear hown2 hp2
    go_wp2_with fail
    refine (q_same_r A1 A2 q q n n c1 c2 HN.out HN.out _ HP12.out HP2.out (by rw [HN.out]; omega) true HEQ.out).mono ?_
    rintro e w3 ⟨rfl, hb3⟩
    have hB3 := hB2.trans (hb3.mono hB2.size)
    go_wp2_with (go_at_call 22; refine (awake_any _).mono ?_; rintro e w4 ⟨rfl, hb4⟩)
    go_ret
    exact ⟨rfl, hB3.trans (hb4.mono hB3.size)⟩
end Go.Proofs.Ytflkhjicgojcbaa
