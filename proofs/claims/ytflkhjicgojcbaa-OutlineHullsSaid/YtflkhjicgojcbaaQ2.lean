import Derived.Test.YtflkhjicgojcbaaQ1
import Derived.Deep.RegionHeld3
namespace Go.Proofs.Ytflkhjicgojcbaa
open Go.RowKit Go.Shelf

theorem flat_lenm (l : List Geo.XY) (m : Nat) (h : l.length = m) : (flat l).length = m * 2 := by subst h; exact flat_length l
def lenOf : Value → Nat
  | .slice _ n _ => n
  | _ => 0
/-- a step of an outline -/
def Stp (p : Geo.XY) : Prop := (-20000 ≤ p.1 ∧ p.1 ≤ 20000) ∧ -20000 ≤ p.2 ∧ p.2 ≤ 20000
/-- the heads' cross, by a name -/
def crD (a b : Geo.XY) : Int := a.1 * b.2 - a.2 * b.1
theorem cross72_r (ax ay bx bY : Int) (ha : Stp (ax, ay)) (hb : Stp (bx, bY)) (r : Int) (h : crD (ax, ay) (bx, bY) = r) (w : World) :
    Calls Try.prog 72 #[.agg #[.int .i64 ax, .int .i64 ay], .agg #[.int .i64 bx, .int .i64 bY]] w fun e w' => e = .returned (.int .i64 r) ∧ Below w.heap.size w w' := by
  subst h
  obtain ⟨⟨a1, a2⟩, a3, a4⟩ := ha
  obtain ⟨⟨b1, b2⟩, b3, b4⟩ := hb
  dsimp only at *
  exact cross72_any ax ay bx bY (by omega) (by omega) (by omega) (by omega) (by omega) (by omega) (by omega) (by omega) w

theorem pts_head {W : World} {b off : Nat} {p : Geo.XY} {l : List Geo.XY} (h : Pts W (some ⟨b, off, none⟩) (p :: l)) : W.cell? ⟨b, off, none⟩ = some (.int .i64 p.1) ∧ W.cell? ⟨b, off + 1, none⟩ = some (.int .i64 p.2) := by
  rcases h with h | ⟨b', off', he, hb, hc⟩
  · cases h
  · cases he
    have := hc 0 (by simp)
    rw [Nat.zero_mul, Nat.add_zero] at this
    exact this
theorem pts_tail {W : World} {b off : Nat} {p : Geo.XY} {l : List Geo.XY} (h : Pts W (some ⟨b, off, none⟩) (p :: l)) : Pts W (some ⟨b, off + 2, none⟩) l := by
  rcases h with h | ⟨b', off', he, hb, hc⟩
  · cases h
  · cases he
    refine .inr ⟨b, off + 2, rfl, hb, fun k hk => ?_⟩
    have := hc (k + 1) (by simp; omega)
    have e : Geo.X (p :: l) (k + 1) = Geo.X l k := by unfold Geo.X; rw [List.getElem?_cons_succ]
    rw [e, show off + (k + 1) * 2 = off + 2 + k * 2 by omega] at this
    exact this

theorem own_set {W : World} {B n : Nat} {v : Value} {xs : List Value} (h : W.ownsRow B 38 2 v n xs) {G : Nat} (hn : v.ownBlock ≠ some G) (i : Nat) (x : Value) : (W.setCell ⟨G, i, none⟩ x).ownsRow B 38 2 v n xs :=
  h.kept (row := some G) ⟨rfl, rfl, rfl, (KeepsWalks.setCell W _ x).size, fun k _ hk => Below.heap_setCell _ _ _ k (fun e => hk (by rw [e]))⟩ (.inr hn)

theorem pts_nil {W : World} {A : Option Addr} {l : List Geo.XY} (h : l.length = 0) : Pts W A l := .inl (List.length_eq_zero_iff.1 h)

/-- what stands at the head of a round: the lists that are left, what has come out -/
def JSt (w : World) (s t : List Geo.XY) (u0 u1 v : Value) (wr : World) : Prop := ∃ (b1 o1 c1 b2 o2 c2 : Nat) (s' t' d : List Geo.XY),
  u0 = .slice (some ⟨b1, o1, none⟩) s'.length c1 ∧ u1 = .slice (some ⟨b2, o2, none⟩) t'.length c2 ∧ (Pts w (some ⟨b1, o1, none⟩) s' ∧ Pts w (some ⟨b2, o2, none⟩) t') ∧ (s'.length ≤ c1 ∧ t'.length ≤ c2) ∧
  ((∀ p, p ∈ s' → Stp p) ∧ ∀ p, p ∈ t' → Stp p) ∧ wr.ownsRow w.heap.size 38 2 v d.length (flat d) ∧ Geo.merge s t = d ++ Geo.merge s' t' ∧ d.length + s'.length + t'.length ≤ 128 ∧ Below w.heap.size w wr

set_option maxRecDepth 100000 in
set_option maxHeartbeats 4000000 in
theorem joined_any (b1 o1 c1 b2 o2 c2 : Nat) (s t : List Geo.XY) (hn1 : s.length ≤ 64) (hn2 : t.length ≤ 64) (hs : ∀ p, p ∈ s → Stp p) (ht : ∀ p, p ∈ t → Stp p) (w : World)
    (hP1 : Pts w (some ⟨b1, o1, none⟩) s) (hP2 : Pts w (some ⟨b2, o2, none⟩) t) (hc1 : s.length ≤ c1) (hc2 : t.length ≤ c2) :
    Calls Try.prog 88 #[.slice (some ⟨b1, o1, none⟩) s.length c1, .slice (some ⟨b2, o2, none⟩) t.length c2] w fun e w' => ∃ v, e = .returned v ∧ w'.ownsRow w.heap.size 38 2 v (Geo.merge s t).length (flat (Geo.merge s t)) ∧ Below w.heap.size w w' := by
  have HP1 := Lib.hid hP1
  have HP2 := Lib.hid hP2
  have HS := Lib.hid hs
  have HT := Lib.hid ht
  clear hP1 hP2 hs ht
  obtain ⟨n1, hl1⟩ : ∃ n, n = s.length := ⟨_, rfl⟩
  obtain ⟨n2, hl2⟩ : ∃ n, n = t.length := ⟨_, rfl⟩
  obtain ⟨i0, hi, hz0, hz1, hz2⟩ := info_parts info38'
  go_enter Try.func88, Try.ntmps88
  go_wp2_with (at_make; refine wpList_make_own _ rfl _ _ 22 rfl w.heap.size 38 i0 _ 2 Try.underlying22 hi hz0 hz1 .i64 .i64 _ (s.length + t.length) rfl rfl (by omega) (by rw [hz2]; omega) (by unfold maxLen; omega) (Nat.le_refl _) ?_; intro w0 hown0 hgrow0)
  have hB0 : Below w.heap.size w w0 := (Below.refl _ w).grown hgrow0 (Nat.le_refl _) (fun k e => by cases e)
  clear hgrow0
  go_loopw [0, 1, 5] (fun u0 u1 v wr => JSt w s t u0 u1 v wr) (fun u0 u1 _ _ => lenOf u0 + lenOf u1)
  case atStart => exact ⟨b1, o1, c1, b2, o2, c2, s, t, [], rfl, rfl, ⟨HP1.out, HP2.out⟩, ⟨hc1, hc2⟩, ⟨HS.out, HT.out⟩, hown0, rfl, by simp; omega, hB0⟩
  case round =>
    clear hown0 hB0 hc1 hc2
    obtain ⟨b1', o1', k1, b2', o2', k2, s', t', d, rfl, rfl, ⟨q1, q2⟩, ⟨hk1, hk2⟩, ⟨hs', ht'⟩, hown, hm, hd, hB⟩ := hrel
    have HM := Lib.hid hm
    have HS' := Lib.hid hs'
    have HT' := Lib.hid ht'
    clear hm hs' ht'
    have Q1 := Lib.hid (q1.below hB)
    have Q2 := Lib.hid (q2.below hB)
    by_cases hne : 0 < s'.length ∧ 0 < t'.length
    · obtain ⟨a, s1, rfl⟩ : ∃ a s1, s' = a :: s1 := by
        rcases s' with _ | ⟨a, s1⟩
        · exact absurd hne.1 (by simp)
        · exact ⟨a, s1, rfl⟩
      obtain ⟨b, t1, rfl⟩ : ∃ b t1, t' = b :: t1 := by
        rcases t' with _ | ⟨b, t1⟩
        · exact absurd hne.2 (by simp)
        · exact ⟨b, t1, rfl⟩
      clear hne
      have sa := HS'.out a (List.mem_cons_self ..)
      have sb := HT'.out b (List.mem_cons_self ..)
      have bl1 := pts_lt q1 (by simp)
      have bl2 := pts_lt q2 (by simp)
      obtain ⟨a1, a2⟩ := pts_head Q1.out
      obtain ⟨a3, a4⟩ := pts_head Q2.out
      have P1 := Lib.hid (pts_tail q1)
      have P2 := Lib.hid (pts_tail q2)
      have QQ1 := Lib.hid q1
      have QQ2 := Lib.hid q2
      clear q1 q2
      obtain ⟨m1, hm1⟩ : ∃ n, s1.length = n := ⟨_, rfl⟩
      obtain ⟨m2, hm2⟩ : ∃ n, t1.length = n := ⟨_, rfl⟩
      have L1 := Lib.hid hm1
      have L2 := Lib.hid hm2
      rw [List.length_cons, List.length_cons, hm1, hm2] at hd
      rw [List.length_cons, hm1] at hk1 ⊢
      rw [List.length_cons, hm2] at hk2 ⊢
      clear hm1 hm2
      obtain ⟨r, hr⟩ : ∃ r, crD (a.1, a.2) (b.1, b.2) = r := ⟨_, rfl⟩
      have HRr : Hid (Geo.cr a b = r) := Lib.hid hr
      have HRc := Lib.hid hr
      clear hr
      have SA := Lib.hid sa
      have SB := Lib.hid sb
      obtain ⟨⟨x1, x2⟩, x3, x4⟩ := sa
      obtain ⟨⟨y1, y2⟩, y3, y4⟩ := sb
      go_wp2
      have g6 : (0 : Int) < ((m1 + 1 : Nat) : Int) := by omega
      have g7 : (0 : Int) < ((m2 + 1 : Nat) : Int) := by omega
      have z1 := fun s : Ext wr => s.cell a1
      have z2 := fun s : Ext wr => s.cell a2
      have z3 := fun s : Ext wr => s.cell a3
      have z4 := fun s : Ext wr => s.cell a4
      refine wp_region_ext (by kernel_rfl) (by kernel_rfl) ?_
      repeat (go_big_quiet_step ((go_at_call 72; refine calls_ext (cross72_r _ _ _ _ SA.out SB.out r HRc.out _))))
      refine wpQuiet_nil ?_
      rintro _ ⟨e, rfl⟩
      have hBe := hB.trans (e.h.mono hB.size)
      have a1 := z1 e
      have a2 := z2 e
      have a3 := z3 e
      have a4 := z4 e
      have hown := own_keep hown e.h
      clear z1 z2 z3 z4
      generalize e.w = w3 at *
      clear e
      by_cases h1 : 0 < r
      · have h2 : ¬ r ≤ 0 := by omega
        by_cases hk : k1 = 1
        · obtain rfl := hk
          obtain rfl : m1 = 0 := by omega
          go_wp2
          have hNG : u5.ownBlock ≠ some w3.heap.size := fun e => by have := (hown.lt _ e).2; omega
          obtain ⟨G, hG⟩ : ∃ G, G = w3.heap.size := ⟨_, rfl⟩
          have bG := Blk.new w3 38 #[.int .i64 0, .int .i64 0]
          have hB4 := hBe.alloc hBe.size (.cells #[.int .i64 0, .int .i64 0] 38)
          have hown4 := hown.alloc (.cells #[.int .i64 0, .int .i64 0] 38)
          have hGw : w.heap.size ≤ w3.heap.size := hBe.size
          clear a1 a2 a3 a4 hown g6 g7
          generalize w3.alloc (.cells #[.int .i64 0, .int .i64 0] 38) = w4 at *
          rw [← hG] at bG hGw hNG ⊢
          clear hG
          have a1 := (pts_head (QQ1.out.below hB4)).1
          have a2 := (pts_head (QQ1.out.below hB4)).2
          have d1 := bG.cell 0
          have d2 := bG.cell 1
          have f1 := bG.frozen 0
          have f2 := bG.frozen 1
          have hGl := bG.lt
          simp only [List.getElem?_toArray, List.getElem?_cons_zero, List.getElem?_cons_succ] at d1 d2
          have n1 : ¬ b1' = G := by omega
          have n2 : ¬ G = b1' := by omega
          go_region_with ((go_at_call 79; refine (plus_any _ _ _ _ (by omega) (by omega) (by omega) (by omega) (by omega) (by omega) (by omega) (by omega) _).mono ?_; rintro e w5 ⟨rfl, hb5⟩; have z3 : w5.cell? ⟨G, 0, none⟩ = some (.int .i64 0) := (hb5.cell (p := ⟨G, 0, none⟩) hGl).trans d1; have z4 : w5.cell? ⟨G, 1, none⟩ = some (.int .i64 0) := (hb5.cell (p := ⟨G, 1, none⟩) hGl).trans d2; have z5 := hb5.frozen (p := ⟨G, 0, none⟩) hGl; have z6 := hb5.frozen (p := ⟨G, 1, none⟩) hGl))
          all_goals (
            clear z3 z4 a1 a2 d1 d2 f1 f2 n1 n2 z5 z6
            have bG6 : Blk ((w5.setCell ⟨G, 0, none⟩ (.int .i64 (a.1))).setCell ⟨G, 1, none⟩ (.int .i64 (a.2))) G 38 #[.int .i64 (a.1), .int .i64 (a.2)] := ((bG.drew.below hb5 hGl).set_ 0 (.int .i64 (a.1))).set_ 1 (.int .i64 (a.2))
            have hB6 := (((hB4.drew).trans (hb5.mono hB4.size)).setCell (p := ⟨G, 0, none⟩) hGw (.int .i64 (a.1))).setCell (p := ⟨G, 1, none⟩) hGw (.int .i64 (a.2))
            have hown6 := own_set (own_set (own_keep hown4.drew hb5) hNG 0 (.int .i64 (a.1))) hNG 1 (.int .i64 (a.2))
            generalize hW6 : (w5.setCell ⟨G, 0, none⟩ (.int .i64 (a.1))).setCell ⟨G, 1, none⟩ (.int .i64 (a.2)) = w6 at bG6 hB6 hown6 ⊢
            clear hW6 bG hb5 hown4
            have d1 := bG6.cell 0
            have d2 := bG6.cell 1
            simp only [List.getElem?_toArray, List.getElem?_cons_zero, List.getElem?_cons_succ] at d1 d2
            go_wp2_with (at_builtin; refine wpList_append_own _ rfl (.tmp 48) (.tmp 50) 22 rfl w.heap.size 38 i0 _ 2 16 Try.underlying22 hi hz0 hz1 hz2 rfl (by decide) _ _ _ rfl (hown6.alloc _) ⟨w6.heap.size, 0, none⟩ 1 1 [.int .i64 (a.1), .int .i64 (a.2)] rfl rfl (new_cells w6 _ _) (one_two _ _) (by unfold maxLen; omega) (by omega) (by simp; have := hB6.size; omega) ?_; intro v7 w7 hown7 hgrow7 _)
            have hB7 : Below w.heap.size w w7 := (hB6.alloc hB6.size _).grown hgrow7 (by have := hB6.size; simp; omega) (fun k e => (hown6.lt k e).1)
            clear hown6 hgrow7 d1 d2
            go_wp2
            go_roundw
            case rel =>
              refine ⟨_, _, _, _, _, _, s1, (b :: t1), d ++ [a], by rw [L1.out], by rw [List.length_cons, L2.out], ⟨pts_nil L1.out, QQ2.out⟩, ⟨by rw [L1.out]; omega, by rw [List.length_cons, L2.out]; omega⟩, ⟨fun p hp => HS'.out p (List.mem_cons_of_mem _ hp), HT'.out⟩, by rw [List.length_append, flat_append]; exact hown7, ?_, by have e1 := L1.out; have e2 := L2.out; simp only [List.length_append, List.length_cons, List.length_nil]; omega, hB7⟩
              rw [HM.out, Geo.merge, if_pos (by rw [HRr.out]; omega), List.append_assoc]; rfl
            case measure => first | (simp [lenOf]; done) | (simp [lenOf]; omega))
        · have hk' : ¬ k1 - 1 = 0 := by omega
          go_wp2
          have hNG : u5.ownBlock ≠ some w3.heap.size := fun e => by have := (hown.lt _ e).2; omega
          obtain ⟨G, hG⟩ : ∃ G, G = w3.heap.size := ⟨_, rfl⟩
          have bG := Blk.new w3 38 #[.int .i64 0, .int .i64 0]
          have hB4 := hBe.alloc hBe.size (.cells #[.int .i64 0, .int .i64 0] 38)
          have hown4 := hown.alloc (.cells #[.int .i64 0, .int .i64 0] 38)
          have hGw : w.heap.size ≤ w3.heap.size := hBe.size
          clear a1 a2 a3 a4 hown g6 g7
          generalize w3.alloc (.cells #[.int .i64 0, .int .i64 0] 38) = w4 at *
          rw [← hG] at bG hGw hNG ⊢
          clear hG
          have a1 := (pts_head (QQ1.out.below hB4)).1
          have a2 := (pts_head (QQ1.out.below hB4)).2
          have d1 := bG.cell 0
          have d2 := bG.cell 1
          have f1 := bG.frozen 0
          have f2 := bG.frozen 1
          have hGl := bG.lt
          simp only [List.getElem?_toArray, List.getElem?_cons_zero, List.getElem?_cons_succ] at d1 d2
          have n1 : ¬ b1' = G := by omega
          have n2 : ¬ G = b1' := by omega
          go_region_with ((go_at_call 79; refine (plus_any _ _ _ _ (by omega) (by omega) (by omega) (by omega) (by omega) (by omega) (by omega) (by omega) _).mono ?_; rintro e w5 ⟨rfl, hb5⟩; have z3 : w5.cell? ⟨G, 0, none⟩ = some (.int .i64 0) := (hb5.cell (p := ⟨G, 0, none⟩) hGl).trans d1; have z4 : w5.cell? ⟨G, 1, none⟩ = some (.int .i64 0) := (hb5.cell (p := ⟨G, 1, none⟩) hGl).trans d2; have z5 := hb5.frozen (p := ⟨G, 0, none⟩) hGl; have z6 := hb5.frozen (p := ⟨G, 1, none⟩) hGl))
          all_goals (
            clear z3 z4 a1 a2 d1 d2 f1 f2 n1 n2 z5 z6
            have bG6 : Blk ((w5.setCell ⟨G, 0, none⟩ (.int .i64 (a.1))).setCell ⟨G, 1, none⟩ (.int .i64 (a.2))) G 38 #[.int .i64 (a.1), .int .i64 (a.2)] := ((bG.drew.below hb5 hGl).set_ 0 (.int .i64 (a.1))).set_ 1 (.int .i64 (a.2))
            have hB6 := (((hB4.drew).trans (hb5.mono hB4.size)).setCell (p := ⟨G, 0, none⟩) hGw (.int .i64 (a.1))).setCell (p := ⟨G, 1, none⟩) hGw (.int .i64 (a.2))
            have hown6 := own_set (own_set (own_keep hown4.drew hb5) hNG 0 (.int .i64 (a.1))) hNG 1 (.int .i64 (a.2))
            generalize hW6 : (w5.setCell ⟨G, 0, none⟩ (.int .i64 (a.1))).setCell ⟨G, 1, none⟩ (.int .i64 (a.2)) = w6 at bG6 hB6 hown6 ⊢
            clear hW6 bG hb5 hown4
            have d1 := bG6.cell 0
            have d2 := bG6.cell 1
            simp only [List.getElem?_toArray, List.getElem?_cons_zero, List.getElem?_cons_succ] at d1 d2
            go_wp2_with (at_builtin; refine wpList_append_own _ rfl (.tmp 48) (.tmp 50) 22 rfl w.heap.size 38 i0 _ 2 16 Try.underlying22 hi hz0 hz1 hz2 rfl (by decide) _ _ _ rfl (hown6.alloc _) ⟨w6.heap.size, 0, none⟩ 1 1 [.int .i64 (a.1), .int .i64 (a.2)] rfl rfl (new_cells w6 _ _) (one_two _ _) (by unfold maxLen; omega) (by omega) (by simp; have := hB6.size; omega) ?_; intro v7 w7 hown7 hgrow7 _)
            have hB7 : Below w.heap.size w w7 := (hB6.alloc hB6.size _).grown hgrow7 (by have := hB6.size; simp; omega) (fun k e => (hown6.lt k e).1)
            clear hown6 hgrow7 d1 d2
            go_wp2
            go_roundw
            case rel =>
              refine ⟨_, _, _, _, _, _, s1, (b :: t1), d ++ [a], by rw [L1.out], by rw [List.length_cons, L2.out], ⟨P1.out, QQ2.out⟩, ⟨by rw [L1.out]; omega, by rw [List.length_cons, L2.out]; omega⟩, ⟨fun p hp => HS'.out p (List.mem_cons_of_mem _ hp), HT'.out⟩, by rw [List.length_append, flat_append]; exact hown7, ?_, by have e1 := L1.out; have e2 := L2.out; simp only [List.length_append, List.length_cons, List.length_nil]; omega, hB7⟩
              rw [HM.out, Geo.merge, if_pos (by rw [HRr.out]; omega), List.append_assoc]; rfl
            case measure => first | (simp [lenOf]; done) | (simp [lenOf]; omega))
      · by_cases h2 : r < 0
        · have h3 : ¬ 0 ≤ r := by omega
          by_cases hk : k2 = 1
          · obtain rfl := hk
            obtain rfl : m2 = 0 := by omega
            go_wp2
            have hNG : u5.ownBlock ≠ some w3.heap.size := fun e => by have := (hown.lt _ e).2; omega
            obtain ⟨G, hG⟩ : ∃ G, G = w3.heap.size := ⟨_, rfl⟩
            have bG := Blk.new w3 38 #[.int .i64 0, .int .i64 0]
            have hB4 := hBe.alloc hBe.size (.cells #[.int .i64 0, .int .i64 0] 38)
            have hown4 := hown.alloc (.cells #[.int .i64 0, .int .i64 0] 38)
            have hGw : w.heap.size ≤ w3.heap.size := hBe.size
            clear a1 a2 a3 a4 hown g6 g7
            generalize w3.alloc (.cells #[.int .i64 0, .int .i64 0] 38) = w4 at *
            rw [← hG] at bG hGw hNG ⊢
            clear hG
            have a1 := (pts_head (QQ2.out.below hB4)).1
            have a2 := (pts_head (QQ2.out.below hB4)).2
            have d1 := bG.cell 0
            have d2 := bG.cell 1
            have f1 := bG.frozen 0
            have f2 := bG.frozen 1
            have hGl := bG.lt
            simp only [List.getElem?_toArray, List.getElem?_cons_zero, List.getElem?_cons_succ] at d1 d2
            have n1 : ¬ b2' = G := by omega
            have n2 : ¬ G = b2' := by omega
            go_region_with ((go_at_call 79; refine (plus_any _ _ _ _ (by omega) (by omega) (by omega) (by omega) (by omega) (by omega) (by omega) (by omega) _).mono ?_; rintro e w5 ⟨rfl, hb5⟩; have z3 : w5.cell? ⟨G, 0, none⟩ = some (.int .i64 0) := (hb5.cell (p := ⟨G, 0, none⟩) hGl).trans d1; have z4 : w5.cell? ⟨G, 1, none⟩ = some (.int .i64 0) := (hb5.cell (p := ⟨G, 1, none⟩) hGl).trans d2; have z5 := hb5.frozen (p := ⟨G, 0, none⟩) hGl; have z6 := hb5.frozen (p := ⟨G, 1, none⟩) hGl))
            all_goals (
              clear z3 z4 a1 a2 d1 d2 f1 f2 n1 n2 z5 z6
              have bG6 : Blk ((w5.setCell ⟨G, 0, none⟩ (.int .i64 (b.1))).setCell ⟨G, 1, none⟩ (.int .i64 (b.2))) G 38 #[.int .i64 (b.1), .int .i64 (b.2)] := ((bG.drew.below hb5 hGl).set_ 0 (.int .i64 (b.1))).set_ 1 (.int .i64 (b.2))
              have hB6 := (((hB4.drew).trans (hb5.mono hB4.size)).setCell (p := ⟨G, 0, none⟩) hGw (.int .i64 (b.1))).setCell (p := ⟨G, 1, none⟩) hGw (.int .i64 (b.2))
              have hown6 := own_set (own_set (own_keep hown4.drew hb5) hNG 0 (.int .i64 (b.1))) hNG 1 (.int .i64 (b.2))
              generalize hW6 : (w5.setCell ⟨G, 0, none⟩ (.int .i64 (b.1))).setCell ⟨G, 1, none⟩ (.int .i64 (b.2)) = w6 at bG6 hB6 hown6 ⊢
              clear hW6 bG hb5 hown4
              have d1 := bG6.cell 0
              have d2 := bG6.cell 1
              simp only [List.getElem?_toArray, List.getElem?_cons_zero, List.getElem?_cons_succ] at d1 d2
              go_wp2_with (at_builtin; refine wpList_append_own _ rfl (.tmp 48) (.tmp 50) 22 rfl w.heap.size 38 i0 _ 2 16 Try.underlying22 hi hz0 hz1 hz2 rfl (by decide) _ _ _ rfl (hown6.alloc _) ⟨w6.heap.size, 0, none⟩ 1 1 [.int .i64 (b.1), .int .i64 (b.2)] rfl rfl (new_cells w6 _ _) (one_two _ _) (by unfold maxLen; omega) (by omega) (by simp; have := hB6.size; omega) ?_; intro v7 w7 hown7 hgrow7 _)
              have hB7 : Below w.heap.size w w7 := (hB6.alloc hB6.size _).grown hgrow7 (by have := hB6.size; simp; omega) (fun k e => (hown6.lt k e).1)
              clear hown6 hgrow7 d1 d2
              go_wp2
              go_roundw
              case rel =>
                refine ⟨_, _, _, _, _, _, (a :: s1), t1, d ++ [b], by rw [List.length_cons, L1.out], by rw [L2.out], ⟨QQ1.out, pts_nil L2.out⟩, ⟨by rw [List.length_cons, L1.out]; omega, by rw [L2.out]; omega⟩, ⟨HS'.out, fun p hp => HT'.out p (List.mem_cons_of_mem _ hp)⟩, by rw [List.length_append, flat_append]; exact hown7, ?_, by have e1 := L1.out; have e2 := L2.out; simp only [List.length_append, List.length_cons, List.length_nil]; omega, hB7⟩
                rw [HM.out, Geo.merge, if_neg (by rw [HRr.out]; omega), if_pos (by rw [HRr.out]; omega), List.append_assoc]; rfl
              case measure => first | (simp [lenOf]; done) | (simp [lenOf]; omega))
          · have hk' : ¬ k2 - 1 = 0 := by omega
            go_wp2
            have hNG : u5.ownBlock ≠ some w3.heap.size := fun e => by have := (hown.lt _ e).2; omega
            obtain ⟨G, hG⟩ : ∃ G, G = w3.heap.size := ⟨_, rfl⟩
            have bG := Blk.new w3 38 #[.int .i64 0, .int .i64 0]
            have hB4 := hBe.alloc hBe.size (.cells #[.int .i64 0, .int .i64 0] 38)
            have hown4 := hown.alloc (.cells #[.int .i64 0, .int .i64 0] 38)
            have hGw : w.heap.size ≤ w3.heap.size := hBe.size
            clear a1 a2 a3 a4 hown g6 g7
            generalize w3.alloc (.cells #[.int .i64 0, .int .i64 0] 38) = w4 at *
            rw [← hG] at bG hGw hNG ⊢
            clear hG
            have a1 := (pts_head (QQ2.out.below hB4)).1
            have a2 := (pts_head (QQ2.out.below hB4)).2
            have d1 := bG.cell 0
            have d2 := bG.cell 1
            have f1 := bG.frozen 0
            have f2 := bG.frozen 1
            have hGl := bG.lt
            simp only [List.getElem?_toArray, List.getElem?_cons_zero, List.getElem?_cons_succ] at d1 d2
            have n1 : ¬ b2' = G := by omega
            have n2 : ¬ G = b2' := by omega
            go_region_with ((go_at_call 79; refine (plus_any _ _ _ _ (by omega) (by omega) (by omega) (by omega) (by omega) (by omega) (by omega) (by omega) _).mono ?_; rintro e w5 ⟨rfl, hb5⟩; have z3 : w5.cell? ⟨G, 0, none⟩ = some (.int .i64 0) := (hb5.cell (p := ⟨G, 0, none⟩) hGl).trans d1; have z4 : w5.cell? ⟨G, 1, none⟩ = some (.int .i64 0) := (hb5.cell (p := ⟨G, 1, none⟩) hGl).trans d2; have z5 := hb5.frozen (p := ⟨G, 0, none⟩) hGl; have z6 := hb5.frozen (p := ⟨G, 1, none⟩) hGl))
            all_goals (
              clear z3 z4 a1 a2 d1 d2 f1 f2 n1 n2 z5 z6
              have bG6 : Blk ((w5.setCell ⟨G, 0, none⟩ (.int .i64 (b.1))).setCell ⟨G, 1, none⟩ (.int .i64 (b.2))) G 38 #[.int .i64 (b.1), .int .i64 (b.2)] := ((bG.drew.below hb5 hGl).set_ 0 (.int .i64 (b.1))).set_ 1 (.int .i64 (b.2))
              have hB6 := (((hB4.drew).trans (hb5.mono hB4.size)).setCell (p := ⟨G, 0, none⟩) hGw (.int .i64 (b.1))).setCell (p := ⟨G, 1, none⟩) hGw (.int .i64 (b.2))
              have hown6 := own_set (own_set (own_keep hown4.drew hb5) hNG 0 (.int .i64 (b.1))) hNG 1 (.int .i64 (b.2))
              generalize hW6 : (w5.setCell ⟨G, 0, none⟩ (.int .i64 (b.1))).setCell ⟨G, 1, none⟩ (.int .i64 (b.2)) = w6 at bG6 hB6 hown6 ⊢
              clear hW6 bG hb5 hown4
              have d1 := bG6.cell 0
              have d2 := bG6.cell 1
              simp only [List.getElem?_toArray, List.getElem?_cons_zero, List.getElem?_cons_succ] at d1 d2
              go_wp2_with (at_builtin; refine wpList_append_own _ rfl (.tmp 48) (.tmp 50) 22 rfl w.heap.size 38 i0 _ 2 16 Try.underlying22 hi hz0 hz1 hz2 rfl (by decide) _ _ _ rfl (hown6.alloc _) ⟨w6.heap.size, 0, none⟩ 1 1 [.int .i64 (b.1), .int .i64 (b.2)] rfl rfl (new_cells w6 _ _) (one_two _ _) (by unfold maxLen; omega) (by omega) (by simp; have := hB6.size; omega) ?_; intro v7 w7 hown7 hgrow7 _)
              have hB7 : Below w.heap.size w w7 := (hB6.alloc hB6.size _).grown hgrow7 (by have := hB6.size; simp; omega) (fun k e => (hown6.lt k e).1)
              clear hown6 hgrow7 d1 d2
              go_wp2
              go_roundw
              case rel =>
                refine ⟨_, _, _, _, _, _, (a :: s1), t1, d ++ [b], by rw [List.length_cons, L1.out], by rw [L2.out], ⟨QQ1.out, P2.out⟩, ⟨by rw [List.length_cons, L1.out]; omega, by rw [L2.out]; omega⟩, ⟨HS'.out, fun p hp => HT'.out p (List.mem_cons_of_mem _ hp)⟩, by rw [List.length_append, flat_append]; exact hown7, ?_, by have e1 := L1.out; have e2 := L2.out; simp only [List.length_append, List.length_cons, List.length_nil]; omega, hB7⟩
                rw [HM.out, Geo.merge, if_neg (by rw [HRr.out]; omega), if_pos (by rw [HRr.out]; omega), List.append_assoc]; rfl
              case measure => first | (simp [lenOf]; done) | (simp [lenOf]; omega))
        · obtain rfl : r = 0 := by omega
          by_cases hk : k1 = 1
          · obtain rfl := hk
            obtain rfl : m1 = 0 := by omega
            by_cases hj : k2 = 1
            · obtain rfl := hj
              obtain rfl : m2 = 0 := by omega
              go_wp2
              have hNG : u5.ownBlock ≠ some w3.heap.size := fun e => by have := (hown.lt _ e).2; omega
              obtain ⟨G, hG⟩ : ∃ G, G = w3.heap.size := ⟨_, rfl⟩
              have bG := Blk.new w3 38 #[.int .i64 0, .int .i64 0]
              have hB4 := hBe.alloc hBe.size (.cells #[.int .i64 0, .int .i64 0] 38)
              have hown4 := hown.alloc (.cells #[.int .i64 0, .int .i64 0] 38)
              have hGw : w.heap.size ≤ w3.heap.size := hBe.size
              clear a1 a2 a3 a4 hown g6 g7
              generalize w3.alloc (.cells #[.int .i64 0, .int .i64 0] 38) = w4 at *
              rw [← hG] at bG hGw hNG ⊢
              clear hG
              have a1 := (pts_head (QQ1.out.below hB4)).1
              have a2 := (pts_head (QQ1.out.below hB4)).2
              have d1 := bG.cell 0
              have d2 := bG.cell 1
              have f1 := bG.frozen 0
              have f2 := bG.frozen 1
              have hGl := bG.lt
              simp only [List.getElem?_toArray, List.getElem?_cons_zero, List.getElem?_cons_succ] at d1 d2
              have n1 : ¬ b1' = G := by omega
              have n2 : ¬ G = b1' := by omega
              go_region_with ((go_at_call 79; refine (plus_any _ _ _ _ (by omega) (by omega) (by omega) (by omega) (by omega) (by omega) (by omega) (by omega) _).mono ?_; rintro e w5 ⟨rfl, hb5⟩; have z3 : w5.cell? ⟨G, 0, none⟩ = some (.int .i64 0) := (hb5.cell (p := ⟨G, 0, none⟩) hGl).trans d1; have z4 : w5.cell? ⟨G, 1, none⟩ = some (.int .i64 0) := (hb5.cell (p := ⟨G, 1, none⟩) hGl).trans d2; have z5 := hb5.frozen (p := ⟨G, 0, none⟩) hGl; have z6 := hb5.frozen (p := ⟨G, 1, none⟩) hGl))
              all_goals (
                clear z3 z4 a1 a2 d1 d2 f1 f2 n1 n2 z5 z6
                have bG6 : Blk ((w5.setCell ⟨G, 0, none⟩ (.int .i64 (a.1))).setCell ⟨G, 1, none⟩ (.int .i64 (a.2))) G 38 #[.int .i64 (a.1), .int .i64 (a.2)] := ((bG.drew.below hb5 hGl).set_ 0 (.int .i64 (a.1))).set_ 1 (.int .i64 (a.2))
                have hB6 := (((hB4.drew).trans (hb5.mono hB4.size)).setCell (p := ⟨G, 0, none⟩) hGw (.int .i64 (a.1))).setCell (p := ⟨G, 1, none⟩) hGw (.int .i64 (a.2))
                have hown6 := own_set (own_set (own_keep hown4.drew hb5) hNG 0 (.int .i64 (a.1))) hNG 1 (.int .i64 (a.2))
                generalize hW6 : (w5.setCell ⟨G, 0, none⟩ (.int .i64 (a.1))).setCell ⟨G, 1, none⟩ (.int .i64 (a.2)) = w6 at bG6 hB6 hown6 ⊢
                clear hW6 bG hb5 hown4
                go_wp2
                have a1 := (pts_head (QQ2.out.below hB6)).1
                have a2 := (pts_head (QQ2.out.below hB6)).2
                have d1 := bG6.cell 0
                have d2 := bG6.cell 1
                have f1 := bG6.frozen 0
                have f2 := bG6.frozen 1
                have hGl6 := bG6.lt
                simp only [List.getElem?_toArray, List.getElem?_cons_zero, List.getElem?_cons_succ] at d1 d2
                have n1 : ¬ b2' = G := by omega
                have n2 : ¬ G = b2' := by omega
                go_region_with ((go_at_call 79; refine (plus_any _ _ _ _ (by omega) (by omega) (by omega) (by omega) (by omega) (by omega) (by omega) (by omega) _).mono ?_; rintro e w5 ⟨rfl, hb5⟩; have z3 : w5.cell? ⟨G, 0, none⟩ = some (.int .i64 a.1) := (hb5.cell (p := ⟨G, 0, none⟩) hGl6).trans d1; have z4 : w5.cell? ⟨G, 1, none⟩ = some (.int .i64 a.2) := (hb5.cell (p := ⟨G, 1, none⟩) hGl6).trans d2; have z5 := hb5.frozen (p := ⟨G, 0, none⟩) hGl6; have z6 := hb5.frozen (p := ⟨G, 1, none⟩) hGl6))
                all_goals (
                  clear z3 z4 a1 a2 d1 d2 f1 f2 n1 n2 z5 z6
                  have bG8 : Blk ((w5.setCell ⟨G, 0, none⟩ (.int .i64 (a.1 + b.1))).setCell ⟨G, 1, none⟩ (.int .i64 (a.2 + b.2))) G 38 #[.int .i64 (a.1 + b.1), .int .i64 (a.2 + b.2)] := ((bG6.drew.below hb5 hGl6).set_ 0 (.int .i64 (a.1 + b.1))).set_ 1 (.int .i64 (a.2 + b.2))
                  have hB8 := (((hB6.drew).trans (hb5.mono hB6.size)).setCell (p := ⟨G, 0, none⟩) hGw (.int .i64 (a.1 + b.1))).setCell (p := ⟨G, 1, none⟩) hGw (.int .i64 (a.2 + b.2))
                  have hown8 := own_set (own_set (own_keep hown6.drew hb5) hNG 0 (.int .i64 (a.1 + b.1))) hNG 1 (.int .i64 (a.2 + b.2))
                  generalize hW8 : (w5.setCell ⟨G, 0, none⟩ (.int .i64 (a.1 + b.1))).setCell ⟨G, 1, none⟩ (.int .i64 (a.2 + b.2)) = w8 at bG8 hB8 hown8 ⊢
                  clear hW8 bG6 hb5 hown6
                  have d1 := bG8.cell 0
                  have d2 := bG8.cell 1
                  simp only [List.getElem?_toArray, List.getElem?_cons_zero, List.getElem?_cons_succ] at d1 d2
                  go_wp2_with (at_builtin; refine wpList_append_own _ rfl (.tmp 48) (.tmp 50) 22 rfl w.heap.size 38 i0 _ 2 16 Try.underlying22 hi hz0 hz1 hz2 rfl (by decide) _ _ _ rfl (hown8.alloc _) ⟨w8.heap.size, 0, none⟩ 1 1 [.int .i64 (a.1 + b.1), .int .i64 (a.2 + b.2)] rfl rfl (new_cells w8 _ _) (one_two _ _) (by unfold maxLen; omega) (by omega) (by simp; have := hB8.size; omega) ?_; intro v7 w7 hown7 hgrow7 _)
                  have hB7 : Below w.heap.size w w7 := (hB8.alloc hB8.size _).grown hgrow7 (by have := hB8.size; simp; omega) (fun k e => (hown8.lt k e).1)
                  clear hown8 hgrow7 d1 d2
                  go_wp2
                  go_roundw
                  case rel =>
                    refine ⟨_, _, _, _, _, _, s1, t1, d ++ [Geo.add a b], by rw [L1.out], by rw [L2.out], ⟨pts_nil L1.out, pts_nil L2.out⟩, ⟨by rw [L1.out]; omega, by rw [L2.out]; omega⟩, ⟨fun p hp => HS'.out p (List.mem_cons_of_mem _ hp), fun p hp => HT'.out p (List.mem_cons_of_mem _ hp)⟩, by rw [List.length_append, flat_append]; exact hown7, ?_, by have e1 := L1.out; have e2 := L2.out; simp only [List.length_append, List.length_cons, List.length_nil]; omega, hB7⟩
                    rw [HM.out, Geo.merge, if_neg (by rw [HRr.out]; omega), if_neg (by rw [HRr.out]; omega), List.append_assoc]; rfl
                  case measure => first | (simp [lenOf]; done) | (simp [lenOf]; omega)))
            · have hj' : ¬ k2 - 1 = 0 := by omega
              go_wp2
              have hNG : u5.ownBlock ≠ some w3.heap.size := fun e => by have := (hown.lt _ e).2; omega
              obtain ⟨G, hG⟩ : ∃ G, G = w3.heap.size := ⟨_, rfl⟩
              have bG := Blk.new w3 38 #[.int .i64 0, .int .i64 0]
              have hB4 := hBe.alloc hBe.size (.cells #[.int .i64 0, .int .i64 0] 38)
              have hown4 := hown.alloc (.cells #[.int .i64 0, .int .i64 0] 38)
              have hGw : w.heap.size ≤ w3.heap.size := hBe.size
              clear a1 a2 a3 a4 hown g6 g7
              generalize w3.alloc (.cells #[.int .i64 0, .int .i64 0] 38) = w4 at *
              rw [← hG] at bG hGw hNG ⊢
              clear hG
              have a1 := (pts_head (QQ1.out.below hB4)).1
              have a2 := (pts_head (QQ1.out.below hB4)).2
              have d1 := bG.cell 0
              have d2 := bG.cell 1
              have f1 := bG.frozen 0
              have f2 := bG.frozen 1
              have hGl := bG.lt
              simp only [List.getElem?_toArray, List.getElem?_cons_zero, List.getElem?_cons_succ] at d1 d2
              have n1 : ¬ b1' = G := by omega
              have n2 : ¬ G = b1' := by omega
              go_region_with ((go_at_call 79; refine (plus_any _ _ _ _ (by omega) (by omega) (by omega) (by omega) (by omega) (by omega) (by omega) (by omega) _).mono ?_; rintro e w5 ⟨rfl, hb5⟩; have z3 : w5.cell? ⟨G, 0, none⟩ = some (.int .i64 0) := (hb5.cell (p := ⟨G, 0, none⟩) hGl).trans d1; have z4 : w5.cell? ⟨G, 1, none⟩ = some (.int .i64 0) := (hb5.cell (p := ⟨G, 1, none⟩) hGl).trans d2; have z5 := hb5.frozen (p := ⟨G, 0, none⟩) hGl; have z6 := hb5.frozen (p := ⟨G, 1, none⟩) hGl))
              all_goals (
                clear z3 z4 a1 a2 d1 d2 f1 f2 n1 n2 z5 z6
                have bG6 : Blk ((w5.setCell ⟨G, 0, none⟩ (.int .i64 (a.1))).setCell ⟨G, 1, none⟩ (.int .i64 (a.2))) G 38 #[.int .i64 (a.1), .int .i64 (a.2)] := ((bG.drew.below hb5 hGl).set_ 0 (.int .i64 (a.1))).set_ 1 (.int .i64 (a.2))
                have hB6 := (((hB4.drew).trans (hb5.mono hB4.size)).setCell (p := ⟨G, 0, none⟩) hGw (.int .i64 (a.1))).setCell (p := ⟨G, 1, none⟩) hGw (.int .i64 (a.2))
                have hown6 := own_set (own_set (own_keep hown4.drew hb5) hNG 0 (.int .i64 (a.1))) hNG 1 (.int .i64 (a.2))
                generalize hW6 : (w5.setCell ⟨G, 0, none⟩ (.int .i64 (a.1))).setCell ⟨G, 1, none⟩ (.int .i64 (a.2)) = w6 at bG6 hB6 hown6 ⊢
                clear hW6 bG hb5 hown4
                go_wp2
                have a1 := (pts_head (QQ2.out.below hB6)).1
                have a2 := (pts_head (QQ2.out.below hB6)).2
                have d1 := bG6.cell 0
                have d2 := bG6.cell 1
                have f1 := bG6.frozen 0
                have f2 := bG6.frozen 1
                have hGl6 := bG6.lt
                simp only [List.getElem?_toArray, List.getElem?_cons_zero, List.getElem?_cons_succ] at d1 d2
                have n1 : ¬ b2' = G := by omega
                have n2 : ¬ G = b2' := by omega
                go_region_with ((go_at_call 79; refine (plus_any _ _ _ _ (by omega) (by omega) (by omega) (by omega) (by omega) (by omega) (by omega) (by omega) _).mono ?_; rintro e w5 ⟨rfl, hb5⟩; have z3 : w5.cell? ⟨G, 0, none⟩ = some (.int .i64 a.1) := (hb5.cell (p := ⟨G, 0, none⟩) hGl6).trans d1; have z4 : w5.cell? ⟨G, 1, none⟩ = some (.int .i64 a.2) := (hb5.cell (p := ⟨G, 1, none⟩) hGl6).trans d2; have z5 := hb5.frozen (p := ⟨G, 0, none⟩) hGl6; have z6 := hb5.frozen (p := ⟨G, 1, none⟩) hGl6))
                all_goals (
                  clear z3 z4 a1 a2 d1 d2 f1 f2 n1 n2 z5 z6
                  have bG8 : Blk ((w5.setCell ⟨G, 0, none⟩ (.int .i64 (a.1 + b.1))).setCell ⟨G, 1, none⟩ (.int .i64 (a.2 + b.2))) G 38 #[.int .i64 (a.1 + b.1), .int .i64 (a.2 + b.2)] := ((bG6.drew.below hb5 hGl6).set_ 0 (.int .i64 (a.1 + b.1))).set_ 1 (.int .i64 (a.2 + b.2))
                  have hB8 := (((hB6.drew).trans (hb5.mono hB6.size)).setCell (p := ⟨G, 0, none⟩) hGw (.int .i64 (a.1 + b.1))).setCell (p := ⟨G, 1, none⟩) hGw (.int .i64 (a.2 + b.2))
                  have hown8 := own_set (own_set (own_keep hown6.drew hb5) hNG 0 (.int .i64 (a.1 + b.1))) hNG 1 (.int .i64 (a.2 + b.2))
                  generalize hW8 : (w5.setCell ⟨G, 0, none⟩ (.int .i64 (a.1 + b.1))).setCell ⟨G, 1, none⟩ (.int .i64 (a.2 + b.2)) = w8 at bG8 hB8 hown8 ⊢
                  clear hW8 bG6 hb5 hown6
                  have d1 := bG8.cell 0
                  have d2 := bG8.cell 1
                  simp only [List.getElem?_toArray, List.getElem?_cons_zero, List.getElem?_cons_succ] at d1 d2
                  go_wp2_with (at_builtin; refine wpList_append_own _ rfl (.tmp 48) (.tmp 50) 22 rfl w.heap.size 38 i0 _ 2 16 Try.underlying22 hi hz0 hz1 hz2 rfl (by decide) _ _ _ rfl (hown8.alloc _) ⟨w8.heap.size, 0, none⟩ 1 1 [.int .i64 (a.1 + b.1), .int .i64 (a.2 + b.2)] rfl rfl (new_cells w8 _ _) (one_two _ _) (by unfold maxLen; omega) (by omega) (by simp; have := hB8.size; omega) ?_; intro v7 w7 hown7 hgrow7 _)
                  have hB7 : Below w.heap.size w w7 := (hB8.alloc hB8.size _).grown hgrow7 (by have := hB8.size; simp; omega) (fun k e => (hown8.lt k e).1)
                  clear hown8 hgrow7 d1 d2
                  go_wp2
                  go_roundw
                  case rel =>
                    refine ⟨_, _, _, _, _, _, s1, t1, d ++ [Geo.add a b], by rw [L1.out], by rw [L2.out], ⟨pts_nil L1.out, P2.out⟩, ⟨by rw [L1.out]; omega, by rw [L2.out]; omega⟩, ⟨fun p hp => HS'.out p (List.mem_cons_of_mem _ hp), fun p hp => HT'.out p (List.mem_cons_of_mem _ hp)⟩, by rw [List.length_append, flat_append]; exact hown7, ?_, by have e1 := L1.out; have e2 := L2.out; simp only [List.length_append, List.length_cons, List.length_nil]; omega, hB7⟩
                    rw [HM.out, Geo.merge, if_neg (by rw [HRr.out]; omega), if_neg (by rw [HRr.out]; omega), List.append_assoc]; rfl
                  case measure => first | (simp [lenOf]; done) | (simp [lenOf]; omega)))
          · have hk' : ¬ k1 - 1 = 0 := by omega
            by_cases hj : k2 = 1
            · obtain rfl := hj
              obtain rfl : m2 = 0 := by omega
              go_wp2
              have hNG : u5.ownBlock ≠ some w3.heap.size := fun e => by have := (hown.lt _ e).2; omega
              obtain ⟨G, hG⟩ : ∃ G, G = w3.heap.size := ⟨_, rfl⟩
              have bG := Blk.new w3 38 #[.int .i64 0, .int .i64 0]
              have hB4 := hBe.alloc hBe.size (.cells #[.int .i64 0, .int .i64 0] 38)
              have hown4 := hown.alloc (.cells #[.int .i64 0, .int .i64 0] 38)
              have hGw : w.heap.size ≤ w3.heap.size := hBe.size
              clear a1 a2 a3 a4 hown g6 g7
              generalize w3.alloc (.cells #[.int .i64 0, .int .i64 0] 38) = w4 at *
              rw [← hG] at bG hGw hNG ⊢
              clear hG
              have a1 := (pts_head (QQ1.out.below hB4)).1
              have a2 := (pts_head (QQ1.out.below hB4)).2
              have d1 := bG.cell 0
              have d2 := bG.cell 1
              have f1 := bG.frozen 0
              have f2 := bG.frozen 1
              have hGl := bG.lt
              simp only [List.getElem?_toArray, List.getElem?_cons_zero, List.getElem?_cons_succ] at d1 d2
              have n1 : ¬ b1' = G := by omega
              have n2 : ¬ G = b1' := by omega
              go_region_with ((go_at_call 79; refine (plus_any _ _ _ _ (by omega) (by omega) (by omega) (by omega) (by omega) (by omega) (by omega) (by omega) _).mono ?_; rintro e w5 ⟨rfl, hb5⟩; have z3 : w5.cell? ⟨G, 0, none⟩ = some (.int .i64 0) := (hb5.cell (p := ⟨G, 0, none⟩) hGl).trans d1; have z4 : w5.cell? ⟨G, 1, none⟩ = some (.int .i64 0) := (hb5.cell (p := ⟨G, 1, none⟩) hGl).trans d2; have z5 := hb5.frozen (p := ⟨G, 0, none⟩) hGl; have z6 := hb5.frozen (p := ⟨G, 1, none⟩) hGl))
              all_goals (
                clear z3 z4 a1 a2 d1 d2 f1 f2 n1 n2 z5 z6
                have bG6 : Blk ((w5.setCell ⟨G, 0, none⟩ (.int .i64 (a.1))).setCell ⟨G, 1, none⟩ (.int .i64 (a.2))) G 38 #[.int .i64 (a.1), .int .i64 (a.2)] := ((bG.drew.below hb5 hGl).set_ 0 (.int .i64 (a.1))).set_ 1 (.int .i64 (a.2))
                have hB6 := (((hB4.drew).trans (hb5.mono hB4.size)).setCell (p := ⟨G, 0, none⟩) hGw (.int .i64 (a.1))).setCell (p := ⟨G, 1, none⟩) hGw (.int .i64 (a.2))
                have hown6 := own_set (own_set (own_keep hown4.drew hb5) hNG 0 (.int .i64 (a.1))) hNG 1 (.int .i64 (a.2))
                generalize hW6 : (w5.setCell ⟨G, 0, none⟩ (.int .i64 (a.1))).setCell ⟨G, 1, none⟩ (.int .i64 (a.2)) = w6 at bG6 hB6 hown6 ⊢
                clear hW6 bG hb5 hown4
                go_wp2
                have a1 := (pts_head (QQ2.out.below hB6)).1
                have a2 := (pts_head (QQ2.out.below hB6)).2
                have d1 := bG6.cell 0
                have d2 := bG6.cell 1
                have f1 := bG6.frozen 0
                have f2 := bG6.frozen 1
                have hGl6 := bG6.lt
                simp only [List.getElem?_toArray, List.getElem?_cons_zero, List.getElem?_cons_succ] at d1 d2
                have n1 : ¬ b2' = G := by omega
                have n2 : ¬ G = b2' := by omega
                go_region_with ((go_at_call 79; refine (plus_any _ _ _ _ (by omega) (by omega) (by omega) (by omega) (by omega) (by omega) (by omega) (by omega) _).mono ?_; rintro e w5 ⟨rfl, hb5⟩; have z3 : w5.cell? ⟨G, 0, none⟩ = some (.int .i64 a.1) := (hb5.cell (p := ⟨G, 0, none⟩) hGl6).trans d1; have z4 : w5.cell? ⟨G, 1, none⟩ = some (.int .i64 a.2) := (hb5.cell (p := ⟨G, 1, none⟩) hGl6).trans d2; have z5 := hb5.frozen (p := ⟨G, 0, none⟩) hGl6; have z6 := hb5.frozen (p := ⟨G, 1, none⟩) hGl6))
                all_goals (
                  clear z3 z4 a1 a2 d1 d2 f1 f2 n1 n2 z5 z6
                  have bG8 : Blk ((w5.setCell ⟨G, 0, none⟩ (.int .i64 (a.1 + b.1))).setCell ⟨G, 1, none⟩ (.int .i64 (a.2 + b.2))) G 38 #[.int .i64 (a.1 + b.1), .int .i64 (a.2 + b.2)] := ((bG6.drew.below hb5 hGl6).set_ 0 (.int .i64 (a.1 + b.1))).set_ 1 (.int .i64 (a.2 + b.2))
                  have hB8 := (((hB6.drew).trans (hb5.mono hB6.size)).setCell (p := ⟨G, 0, none⟩) hGw (.int .i64 (a.1 + b.1))).setCell (p := ⟨G, 1, none⟩) hGw (.int .i64 (a.2 + b.2))
                  have hown8 := own_set (own_set (own_keep hown6.drew hb5) hNG 0 (.int .i64 (a.1 + b.1))) hNG 1 (.int .i64 (a.2 + b.2))
                  generalize hW8 : (w5.setCell ⟨G, 0, none⟩ (.int .i64 (a.1 + b.1))).setCell ⟨G, 1, none⟩ (.int .i64 (a.2 + b.2)) = w8 at bG8 hB8 hown8 ⊢
                  clear hW8 bG6 hb5 hown6
                  have d1 := bG8.cell 0
                  have d2 := bG8.cell 1
                  simp only [List.getElem?_toArray, List.getElem?_cons_zero, List.getElem?_cons_succ] at d1 d2
                  go_wp2_with (at_builtin; refine wpList_append_own _ rfl (.tmp 48) (.tmp 50) 22 rfl w.heap.size 38 i0 _ 2 16 Try.underlying22 hi hz0 hz1 hz2 rfl (by decide) _ _ _ rfl (hown8.alloc _) ⟨w8.heap.size, 0, none⟩ 1 1 [.int .i64 (a.1 + b.1), .int .i64 (a.2 + b.2)] rfl rfl (new_cells w8 _ _) (one_two _ _) (by unfold maxLen; omega) (by omega) (by simp; have := hB8.size; omega) ?_; intro v7 w7 hown7 hgrow7 _)
                  have hB7 : Below w.heap.size w w7 := (hB8.alloc hB8.size _).grown hgrow7 (by have := hB8.size; simp; omega) (fun k e => (hown8.lt k e).1)
                  clear hown8 hgrow7 d1 d2
                  go_wp2
                  go_roundw
                  case rel =>
                    refine ⟨_, _, _, _, _, _, s1, t1, d ++ [Geo.add a b], by rw [L1.out], by rw [L2.out], ⟨P1.out, pts_nil L2.out⟩, ⟨by rw [L1.out]; omega, by rw [L2.out]; omega⟩, ⟨fun p hp => HS'.out p (List.mem_cons_of_mem _ hp), fun p hp => HT'.out p (List.mem_cons_of_mem _ hp)⟩, by rw [List.length_append, flat_append]; exact hown7, ?_, by have e1 := L1.out; have e2 := L2.out; simp only [List.length_append, List.length_cons, List.length_nil]; omega, hB7⟩
                    rw [HM.out, Geo.merge, if_neg (by rw [HRr.out]; omega), if_neg (by rw [HRr.out]; omega), List.append_assoc]; rfl
                  case measure => first | (simp [lenOf]; done) | (simp [lenOf]; omega)))
            · have hj' : ¬ k2 - 1 = 0 := by omega
              go_wp2
              have hNG : u5.ownBlock ≠ some w3.heap.size := fun e => by have := (hown.lt _ e).2; omega
              obtain ⟨G, hG⟩ : ∃ G, G = w3.heap.size := ⟨_, rfl⟩
              have bG := Blk.new w3 38 #[.int .i64 0, .int .i64 0]
              have hB4 := hBe.alloc hBe.size (.cells #[.int .i64 0, .int .i64 0] 38)
              have hown4 := hown.alloc (.cells #[.int .i64 0, .int .i64 0] 38)
              have hGw : w.heap.size ≤ w3.heap.size := hBe.size
              clear a1 a2 a3 a4 hown g6 g7
              generalize w3.alloc (.cells #[.int .i64 0, .int .i64 0] 38) = w4 at *
              rw [← hG] at bG hGw hNG ⊢
              clear hG
              have a1 := (pts_head (QQ1.out.below hB4)).1
              have a2 := (pts_head (QQ1.out.below hB4)).2
              have d1 := bG.cell 0
              have d2 := bG.cell 1
              have f1 := bG.frozen 0
              have f2 := bG.frozen 1
              have hGl := bG.lt
              simp only [List.getElem?_toArray, List.getElem?_cons_zero, List.getElem?_cons_succ] at d1 d2
              have n1 : ¬ b1' = G := by omega
              have n2 : ¬ G = b1' := by omega
              go_region_with ((go_at_call 79; refine (plus_any _ _ _ _ (by omega) (by omega) (by omega) (by omega) (by omega) (by omega) (by omega) (by omega) _).mono ?_; rintro e w5 ⟨rfl, hb5⟩; have z3 : w5.cell? ⟨G, 0, none⟩ = some (.int .i64 0) := (hb5.cell (p := ⟨G, 0, none⟩) hGl).trans d1; have z4 : w5.cell? ⟨G, 1, none⟩ = some (.int .i64 0) := (hb5.cell (p := ⟨G, 1, none⟩) hGl).trans d2; have z5 := hb5.frozen (p := ⟨G, 0, none⟩) hGl; have z6 := hb5.frozen (p := ⟨G, 1, none⟩) hGl))
              all_goals (
                clear z3 z4 a1 a2 d1 d2 f1 f2 n1 n2 z5 z6
                have bG6 : Blk ((w5.setCell ⟨G, 0, none⟩ (.int .i64 (a.1))).setCell ⟨G, 1, none⟩ (.int .i64 (a.2))) G 38 #[.int .i64 (a.1), .int .i64 (a.2)] := ((bG.drew.below hb5 hGl).set_ 0 (.int .i64 (a.1))).set_ 1 (.int .i64 (a.2))
                have hB6 := (((hB4.drew).trans (hb5.mono hB4.size)).setCell (p := ⟨G, 0, none⟩) hGw (.int .i64 (a.1))).setCell (p := ⟨G, 1, none⟩) hGw (.int .i64 (a.2))
                have hown6 := own_set (own_set (own_keep hown4.drew hb5) hNG 0 (.int .i64 (a.1))) hNG 1 (.int .i64 (a.2))
                generalize hW6 : (w5.setCell ⟨G, 0, none⟩ (.int .i64 (a.1))).setCell ⟨G, 1, none⟩ (.int .i64 (a.2)) = w6 at bG6 hB6 hown6 ⊢
                clear hW6 bG hb5 hown4
                go_wp2
                have a1 := (pts_head (QQ2.out.below hB6)).1
                have a2 := (pts_head (QQ2.out.below hB6)).2
                have d1 := bG6.cell 0
                have d2 := bG6.cell 1
                have f1 := bG6.frozen 0
                have f2 := bG6.frozen 1
                have hGl6 := bG6.lt
                simp only [List.getElem?_toArray, List.getElem?_cons_zero, List.getElem?_cons_succ] at d1 d2
                have n1 : ¬ b2' = G := by omega
                have n2 : ¬ G = b2' := by omega
                go_region_with ((go_at_call 79; refine (plus_any _ _ _ _ (by omega) (by omega) (by omega) (by omega) (by omega) (by omega) (by omega) (by omega) _).mono ?_; rintro e w5 ⟨rfl, hb5⟩; have z3 : w5.cell? ⟨G, 0, none⟩ = some (.int .i64 a.1) := (hb5.cell (p := ⟨G, 0, none⟩) hGl6).trans d1; have z4 : w5.cell? ⟨G, 1, none⟩ = some (.int .i64 a.2) := (hb5.cell (p := ⟨G, 1, none⟩) hGl6).trans d2; have z5 := hb5.frozen (p := ⟨G, 0, none⟩) hGl6; have z6 := hb5.frozen (p := ⟨G, 1, none⟩) hGl6))
                all_goals (
                  clear z3 z4 a1 a2 d1 d2 f1 f2 n1 n2 z5 z6
                  have bG8 : Blk ((w5.setCell ⟨G, 0, none⟩ (.int .i64 (a.1 + b.1))).setCell ⟨G, 1, none⟩ (.int .i64 (a.2 + b.2))) G 38 #[.int .i64 (a.1 + b.1), .int .i64 (a.2 + b.2)] := ((bG6.drew.below hb5 hGl6).set_ 0 (.int .i64 (a.1 + b.1))).set_ 1 (.int .i64 (a.2 + b.2))
                  have hB8 := (((hB6.drew).trans (hb5.mono hB6.size)).setCell (p := ⟨G, 0, none⟩) hGw (.int .i64 (a.1 + b.1))).setCell (p := ⟨G, 1, none⟩) hGw (.int .i64 (a.2 + b.2))
                  have hown8 := own_set (own_set (own_keep hown6.drew hb5) hNG 0 (.int .i64 (a.1 + b.1))) hNG 1 (.int .i64 (a.2 + b.2))
                  generalize hW8 : (w5.setCell ⟨G, 0, none⟩ (.int .i64 (a.1 + b.1))).setCell ⟨G, 1, none⟩ (.int .i64 (a.2 + b.2)) = w8 at bG8 hB8 hown8 ⊢
                  clear hW8 bG6 hb5 hown6
                  have d1 := bG8.cell 0
                  have d2 := bG8.cell 1
                  simp only [List.getElem?_toArray, List.getElem?_cons_zero, List.getElem?_cons_succ] at d1 d2
                  go_wp2_with (at_builtin; refine wpList_append_own _ rfl (.tmp 48) (.tmp 50) 22 rfl w.heap.size 38 i0 _ 2 16 Try.underlying22 hi hz0 hz1 hz2 rfl (by decide) _ _ _ rfl (hown8.alloc _) ⟨w8.heap.size, 0, none⟩ 1 1 [.int .i64 (a.1 + b.1), .int .i64 (a.2 + b.2)] rfl rfl (new_cells w8 _ _) (one_two _ _) (by unfold maxLen; omega) (by omega) (by simp; have := hB8.size; omega) ?_; intro v7 w7 hown7 hgrow7 _)
                  have hB7 : Below w.heap.size w w7 := (hB8.alloc hB8.size _).grown hgrow7 (by have := hB8.size; simp; omega) (fun k e => (hown8.lt k e).1)
                  clear hown8 hgrow7 d1 d2
                  go_wp2
                  go_roundw
                  case rel =>
                    refine ⟨_, _, _, _, _, _, s1, t1, d ++ [Geo.add a b], by rw [L1.out], by rw [L2.out], ⟨P1.out, P2.out⟩, ⟨by rw [L1.out]; omega, by rw [L2.out]; omega⟩, ⟨fun p hp => HS'.out p (List.mem_cons_of_mem _ hp), fun p hp => HT'.out p (List.mem_cons_of_mem _ hp)⟩, by rw [List.length_append, flat_append]; exact hown7, ?_, by have e1 := L1.out; have e2 := L2.out; simp only [List.length_append, List.length_cons, List.length_nil]; omega, hB7⟩
                    rw [HM.out, Geo.merge, if_neg (by rw [HRr.out]; omega), if_neg (by rw [HRr.out]; omega), List.append_assoc]; rfl
                  case measure => first | (simp [lenOf]; done) | (simp [lenOf]; omega)))
    · have HR : Hid (d ++ s' ++ t' = Geo.merge s t) := Lib.hid (by
        rw [HM.out, List.append_assoc]
        rcases s' with _ | ⟨a, s'⟩
        · rw [Geo.merge]; rfl
        · rcases t' with _ | ⟨b, t'⟩
          · rw [Geo.merge_nil, List.append_nil]
          · exact absurd ⟨by simp, by simp⟩ hne)
      have HQ2 := Lib.hid q2
      clear q1 q2
      obtain ⟨m1, hm1⟩ : ∃ n, s'.length = n := ⟨_, rfl⟩
      obtain ⟨m2, hm2⟩ : ∃ n, t'.length = n := ⟨_, rfl⟩
      have L1 := Lib.hid hm1
      have L2 := Lib.hid hm2
      rw [hm1, hm2] at hd hne
      rw [hm1] at hk1 ⊢
      rw [hm2] at hk2 ⊢
      clear hm1 hm2
      by_cases h1 : 0 < m1
      · obtain rfl : m2 = 0 := by omega
        clear hne
        go_wp2_with (first
          | (at_builtin; refine wpList_append_own _ rfl (.tmp 52) (.tmp 53) 22 rfl w.heap.size 38 i0 _ 2 16 Try.underlying22 hi hz0 hz1 hz2 rfl (by decide) _ _ _ rfl hown ⟨b1', o1', none⟩ m1 k1 (flat s') rfl (flat_lenm s' m1 L1.out) (pts_cells Q1.out) (oneCell_flat s') (by unfold maxLen; omega) (by omega) hB.size ?_; intro v1 w1 hown1 hgrow1 _; have hB1 : Below w.heap.size w w1 := hB.grown hgrow1 hB.size (fun k e => (hown.lt k e).1); have q2' := pts_cells (HQ2.out.below hB1))
          | (at_builtin; refine wpList_append_own _ rfl (.tmp 55) (.tmp 56) 22 rfl w.heap.size 38 i0 _ 2 16 Try.underlying22 hi hz0 hz1 hz2 rfl (by decide) _ _ _ rfl hown1 ⟨b2', o2', none⟩ 0 k2 (flat t') rfl (flat_lenm t' 0 L2.out) q2' (oneCell_flat t') (by unfold maxLen; omega) (by omega) hB1.size ?_; intro v2 w2 hown2 hgrow2 _))
        have hB2 : Below w.heap.size w w2 := hB1.grown hgrow2 hB1.size (fun k e => (hown1.lt k e).1)
        go_ret
        refine ⟨_, rfl, ?_, hB2⟩
        rw [← HR.out, List.length_append, List.length_append, L1.out, L2.out, flat_append, flat_append]
        exact hown2
      · obtain rfl : m1 = 0 := by omega
        clear hne
        go_wp2_with (first
          | (at_builtin; refine wpList_append_own _ rfl (.tmp 52) (.tmp 53) 22 rfl w.heap.size 38 i0 _ 2 16 Try.underlying22 hi hz0 hz1 hz2 rfl (by decide) _ _ _ rfl hown ⟨b1', o1', none⟩ 0 k1 (flat s') rfl (flat_lenm s' 0 L1.out) (pts_cells Q1.out) (oneCell_flat s') (by unfold maxLen; omega) (by omega) hB.size ?_; intro v1 w1 hown1 hgrow1 _; have hB1 : Below w.heap.size w w1 := hB.grown hgrow1 hB.size (fun k e => (hown.lt k e).1); have q2' := pts_cells (HQ2.out.below hB1))
          | (at_builtin; refine wpList_append_own _ rfl (.tmp 55) (.tmp 56) 22 rfl w.heap.size 38 i0 _ 2 16 Try.underlying22 hi hz0 hz1 hz2 rfl (by decide) _ _ _ rfl hown1 ⟨b2', o2', none⟩ m2 k2 (flat t') rfl (flat_lenm t' m2 L2.out) q2' (oneCell_flat t') (by unfold maxLen; omega) (by omega) hB1.size ?_; intro v2 w2 hown2 hgrow2 _))
        have hB2 : Below w.heap.size w w2 := hB1.grown hgrow2 hB1.size (fun k e => (hown1.lt k e).1)
        go_ret
        refine ⟨_, rfl, ?_, hB2⟩
        rw [← HR.out, List.length_append, List.length_append, L1.out, L2.out, flat_append, flat_append]
        exact hown2
end Go.Proofs.Ytflkhjicgojcbaa
