import Derived.Test.YtflkhjicgojcbaaL20
import Derived.Test.YtflkhjicgojcbaaN2
import Derived.Test.YtflkhjicgojcbaaL11
import Derived.Test.YtflkhjicgojcbaaZ1
namespace Go.Proofs.Ytflkhjicgojcbaa
open Go.RowKit Go.Shelf

theorem eqB_self' (l : List Geo.XY) : eqB l l = true := by unfold eqB; simp
theorem dcanonical_r (A : Option Addr) (l : List Geo.XY) (n c : Nat) (m : List Geo.XY) (e : l.length = n) (h : canonV l = (m, 0)) (w : World) (hP : Pts w A l) (hcap : n ≤ c) :
    Calls Try.prog 15 #[.slice A n c] w fun e w' => ListErr w m 0 e w' := by
  subst e
  have := dcanonical A l c w hP hcap
  rw [h] at this
  exact this
theorem dmirror_r (A : Option Addr) (l : List Geo.XY) (n c : Nat) (m : List Geo.XY) (e : l.length = n) (h : lstV l (mirL l) = (m, 0)) (w : World) (hP : Pts w A l) :
    Calls Try.prog 29 #[.slice A n c] w fun e w' => ListErr w m 0 e w' := by
  subst e
  have := dmirror_any A l c w hP
  rw [h] at this
  exact this
theorem dturned_r (A : Option Addr) (l : List Geo.XY) (n c : Nat) (m : List Geo.XY) (e : l.length = n) (h : lstV l (l.map negXY) = (m, 0)) (w : World) (hP : Pts w A l) :
    Calls Try.prog 31 #[.slice A n c] w fun e w' => ListErr w m 0 e w' := by
  subst e
  have := dturned_any A l c w hP
  rw [h] at this
  exact this

theorem own_empty (W : World) (B : Nat) (hB : B ≤ W.heap.size) : (W.alloc (.cells #[] 38)).ownsRow B 38 2 (.slice (some ⟨W.heap.size, 0, none⟩) 0 0) 0 [] :=
  ⟨rfl, .inr ⟨W.heap.size, 0, #[], rfl, hB, World.alloc_heap_new W _, Nat.le_refl _, Nat.zero_le _, rfl, rfl⟩⟩
theorem flat_len2 (l : List Geo.XY) (m : Nat) (h : l.length = m) : (flat l).length = m * 2 := by subst h; exact flat_length l

set_option maxRecDepth 100000 in
set_option maxHeartbeats 4000000 in
theorem law_back (A : Option Addr) (l : List Geo.XY) (c : Nat) (x : Int) (x1 : 0 ≤ x) (x2 : x ≤ 255) (w : World) (hr : Pts w A l) (hcap : l.length ≤ c) :
    Calls Try.prog 11 #[.slice A l.length c, .int .u8 x] w fun e w' => e = .returned (.bool true) ∧ Below w.heap.size w w' := by
  have HR := Lib.hid hr
  cases hv : validB l with
  | false =>
    have HE := Lib.hid (canonV_no hv)
    clear hv hr
    go_enter Try.func11, Try.ntmps11
    go_wp2_with fail
    refine (dcanonical A l c _ HR.out hcap).mono ?_
    rintro e w1 ⟨v1, rfl, hown1, hb1⟩
    rw [HE.out] at hown1
    rw [HE.out]
    obtain ⟨A1, c1, rfl, hp1⟩ := pts_of_owns hown1
    clear hown1
    dsimp only at hp1 ⊢
    go_wp2_with (go_at_call 22; refine (awake_any _).mono ?_; rintro e w2 ⟨rfl, hb2⟩)
    go_ret
    exact ⟨rfl, hb1.trans (hb2.mono hb1.size)⟩
  | true =>
    have hval := valid_of hv
    have h3 := hval.1
    have h64 := hval.2.1
    obtain ⟨b, off, rfl, hb, hc⟩ := pts_open hr (by omega)
    have HC := Lib.hid hc
    clear hc hr
    obtain ⟨n, hn⟩ : ∃ n : Nat, n = (x % (l.length : Int)).toNat := ⟨_, rfl⟩
    have hn0 : 0 ≤ x % (l.length : Int) := Int.emod_nonneg _ (by omega)
    have hn1 : x % (l.length : Int) < (l.length : Int) := Int.emod_lt_of_pos _ (by omega)
    have hnl : n < l.length := by omega
    have HN : Hid (x % (l.length : Int) = (n : Int)) := Lib.hid (by omega)
    clear hn hn0 hn1
    obtain ⟨ro, hro⟩ : ∃ m, m = Geo.Rot l n := ⟨_, rfl⟩
    obtain ⟨m, hm⟩ : ∃ m, m = Geo.canon (mirL l) := ⟨_, rfl⟩
    obtain ⟨t, ht⟩ : ∃ m, m = Geo.canon (l.map negXY) := ⟨_, rfl⟩
    obtain ⟨cn, hcn⟩ : ∃ m, m = Geo.canon l := ⟨_, rfl⟩
    have vm : Valid m := by rw [hm]; exact hval.mir.canon
    have vt : Valid t := by rw [ht]; exact hval.neg.canon
    have vro : Valid ro := by rw [hro]; exact hval.rot (by omega)
    have L1 : Hid (m.length = l.length) := Lib.hid (by rw [hm, Geo.canon_length, mirL_len])
    have L2 : Hid (t.length = l.length) := Lib.hid (by rw [ht, Geo.canon_length, List.length_map])
    have L3 : Hid (cn.length = l.length) := Lib.hid (by rw [hcn, Geo.canon_length])
    have L4 : Hid (ro.length = l.length) := Lib.hid (by rw [hro, Geo.Rot_length (by omega)])
    have C1 : Hid (canonV l = (cn, 0)) := Lib.hid (by rw [canonV_ok hv, hcn])
    have C2 : Hid (canonV ro = (cn, 0)) := Lib.hid (by rw [canonV_ok (validB_true vro), hcn, hro, canon_rot hval (by omega)])
    have M1 : Hid (lstV l (mirL l) = (m, 0)) := Lib.hid (by rw [lstV_ok hv, hm])
    have M2 : Hid (lstV m (mirL m) = (cn, 0)) := Lib.hid (by rw [lstV_ok (validB_true vm), hm, canon_mir_back hval, hcn])
    have T1 : Hid (lstV l (l.map negXY) = (t, 0)) := Lib.hid (by rw [lstV_ok hv, ht])
    have T2 : Hid (lstV t (t.map negXY) = (cn, 0)) := Lib.hid (by rw [lstV_ok (validB_true vt), ht, canon_neg_back hval, hcn])
    obtain ⟨z1, e1⟩ : ∃ z, Geo.areaK l l.length = z := ⟨_, rfl⟩
    obtain ⟨z2, e2⟩ : ∃ z, boxA l = z := ⟨_, rfl⟩
    obtain ⟨z3, e3⟩ : ∃ z, boxB l = z := ⟨_, rfl⟩
    obtain ⟨z4, e4⟩ : ∃ z : Int, (lowK l l.length : Int) = z := ⟨_, rfl⟩
    obtain ⟨z5, e5⟩ : ∃ z : Int, (highK l l.length : Int) = z := ⟨_, rfl⟩
    have lh := low_high l l.length
    have lh1 : z4 ≤ z5 := by omega
    have lh2 : z5 ≤ z4 + (l.length : Int) := by omega
    have lh3 : 0 ≤ z4 := by omega
    have lh4 : z4 ≤ 2000000 := by have := (lhK_bd hval.allin l.length).1; omega
    have VM := Lib.hid (validB_true vm)
    have VT := Lib.hid (validB_true vt)
    have VL := Lib.hid hv
    have bm := box_mir hval.pos
    have bn := box_neg hval.pos
    have cm := box_canon (l := mirL l) hval.mir.pos
    have ct := box_canon (l := l.map negXY) hval.neg.pos
    have am := around_canon (mirL l)
    have at' := around_canon (l.map negXY)
    have am2 := around_mir l
    have at2 := around_neg l
    have F1 := Lib.hid e1
    have F2 := Lib.hid e2
    have F3 := Lib.hid e3
    have F4 := Lib.hid e4
    have F5 := Lib.hid e5
    have G1 : Hid (Geo.areaK m m.length = z1) := Lib.hid (by rw [hm, area_canon, area_mir, e1])
    have G2 : Hid (boxA m = z2) := Lib.hid (by rw [hm, cm.1, bm.1, e2])
    have G3 : Hid (boxB m = z3) := Lib.hid (by rw [hm, cm.2, bm.2, e3])
    have G4 : Hid ((lowK m m.length : Int) = z4) := Lib.hid (by rw [hm, am.1, am2.1, e4])
    have G5 : Hid ((highK m m.length : Int) = z5) := Lib.hid (by rw [hm, am.2, am2.2, e5])
    have K1 : Hid (Geo.areaK t t.length = z1) := Lib.hid (by rw [ht, area_canon, area_neg, e1])
    have K2 : Hid (boxA t = z2) := Lib.hid (by rw [ht, ct.1, bn.1, e2])
    have K3 : Hid (boxB t = z3) := Lib.hid (by rw [ht, ct.2, bn.2, e3])
    have K4 : Hid ((lowK t t.length : Int) = z4) := Lib.hid (by rw [ht, at'.1, at2.1, e4])
    have K5 : Hid ((highK t t.length : Int) = z5) := Lib.hid (by rw [ht, at'.2, at2.2, e5])
    have HRO := Lib.hid hro
    have HEQ : Hid (eqB cn cn = true) := Lib.hid (eqB_self' cn)
    clear hv hval hro hm ht hcn vm vt vro e1 e2 e3 e4 e5 lh bm bn cm ct am at' am2 at2
    obtain ⟨i0, hi, hz0, hz1, hz2⟩ := info_parts info38'
    go_enter Try.func11, Try.ntmps11
    go_wp2_with fail
    refine (dcanonical_r _ l l.length c cn rfl C1.out _ HR.out hcap).mono ?_
    rintro e w1 ⟨v1, rfl, hown1, hb1⟩
    obtain ⟨A1, c1, rfl, hp1⟩ := pts_of_owns hown1
    rw [L3.out]
    have HP1 := Lib.hid hp1
    clear hown1 hp1
    go_wp2_with fail
    rw [HN.out]
    have hB1 := hb1
    have hc1 : ∀ k, k < l.length → w1.cell? ⟨b, off + k * 2, none⟩ = some (.int .i64 (Geo.X l k).1) ∧ w1.cell? ⟨b, off + k * 2 + 1, none⟩ = some (.int .i64 (Geo.X l k).2) := fun k hk => ⟨(hB1.cell (p := ⟨b, off + k * 2, none⟩) hb).trans (HC.out k hk).1, (hB1.cell (p := ⟨b, off + k * 2 + 1, none⟩) hb).trans (HC.out k hk).2⟩
    have hbl : b < w1.heap.size := Nat.lt_of_lt_of_le hb hB1.size
    have PD := Lib.hid (pts_drop hbl hc1 n)
    have PT := Lib.hid (pts_take hbl hc1 n)
    clear hc1
    have g1 : n ≤ l.length := by omega
    have g2 : n ≤ c := by omega
    have g3 : ¬ c = n := by omega
    have hbE0 := ((Below.refl _ w1).alloc (Nat.le_refl _) (.cells #[] 38)).drew
    go_region_law (first
      | (refine step_append_own' rfl (.tmp 46) (.tmp 49) 22 rfl w1.heap.size 38 i0 _ 2 16 Try.underlying22 hi hz0 hz1 hz2 rfl (by decide) (.slice (some ⟨w1.heap.size, 0, none⟩) 0 0) 0 [] rfl (own_empty w1 w1.heap.size (Nat.le_refl _)).drew ⟨b, off + n * 2, none⟩ (l.length - n) (c - n) (flat (l.drop n)) rfl (flat_len2 _ _ (by simp)) (pts_cells (PD.out.below ((Below.refl _ w1).alloc (Nat.le_refl _) _).drew)) (oneCell_flat _) (by unfold maxLen; omega) (by omega) (by simp) ?_; intro v' w2 hown' hgrow; have hBy : Below w1.heap.size w1 w2 := hbE0.grown hgrow (by simp) (fun k e => by cases e; exact Nat.le_refl _))
      | (refine step_append_own' rfl (.tmp 50) (.tmp 53) 22 rfl w1.heap.size 38 i0 _ 2 16 Try.underlying22 hi hz0 hz1 hz2 rfl (by decide) v' _ _ rfl hown' ⟨b, off, none⟩ n c (flat (l.take n)) rfl (flat_len2 _ _ (by simp; omega)) (pts_cells (PT.out.below hBy)) (oneCell_flat _) (by unfold maxLen; omega) (by omega) hBy.size ?_; intro v'' w3 hown'' hgrow'))
    all_goals (
      have hBy3 : Below w1.heap.size w1 w3 := hBy.grown hgrow' hBy.size (fun k e => (hown'.lt k e).1)
      have hB3 : Below w.heap.size w w3 := hB1.trans (hBy3.mono hB1.size)
      have hown3 : w3.ownsRow w1.heap.size 38 2 v'' ro.length (flat ro) := by
        have e : flat ro = [] ++ flat (l.drop n) ++ flat (l.take n) := by rw [HRO.out]; unfold Geo.Rot; rw [flat_append]; rfl
        rw [L4.out, e, show l.length = 0 + (l.length - n) + n by omega]
        exact hown''
      clear hown' hown'' hgrow hgrow' hBy hbE0
      obtain ⟨A2, c2, rfl, hp2, hc2⟩ := pts_of_owns' hown3
      have HP2 := Lib.hid hp2
      rw [L4.out] at hc2 ⊢
      clear hown3 hp2 g1 g2 g3
      have HP1w := Lib.hid (HP1.out.below hBy3)
      go_wp2_with fail
      refine (dcanonical_r A2 ro l.length c2 cn L4.out C2.out _ HP2.out hc2).mono ?_
      rintro e w4 ⟨v, rfl, hown, hb4⟩
      have hB4 := hB3.trans (hb4.mono hB3.size)
      obtain ⟨A3, c3, rfl, hp3⟩ := pts_of_owns hown
      rw [L3.out]
      have HP3 := Lib.hid hp3
      have HP14 := Lib.hid (HP1w.out.below hb4)
      clear hown hp3 HP1 HP1w HP2
      go_wp2_with fail
      refine (dmirror_r _ l l.length c m rfl M1.out _ (HR.out.below hB4)).mono ?_
      rintro e w5 ⟨v, rfl, hown, hb5⟩
      have hB5 := hB4.trans (hb5.mono hB4.size)
      obtain ⟨A4, c4, rfl, hp4⟩ := pts_of_owns hown
      rw [L1.out]
      have HP4 := Lib.hid hp4
      clear hown hp4
      go_wp2_with fail
      refine (dmirror_r A4 m l.length c4 cn L1.out M2.out _ HP4.out).mono ?_
      rintro e w6 ⟨v, rfl, hown, hb6⟩
      have hB6 := hB5.trans (hb6.mono hB5.size)
      obtain ⟨A5, c5, rfl, hp5⟩ := pts_of_owns hown
      rw [L3.out]
      have HP5 := Lib.hid hp5
      clear hown hp5
      go_wp2_with fail
      refine (dturned_r _ l l.length c t rfl T1.out _ (HR.out.below hB6)).mono ?_
      rintro e w7 ⟨v, rfl, hown, hb7⟩
      have hB7 := hB6.trans (hb7.mono hB6.size)
      obtain ⟨A6, c6, rfl, hp6⟩ := pts_of_owns hown
      rw [L2.out]
      have HP6 := Lib.hid hp6
      clear hown hp6
      go_wp2_with fail
      refine (dturned_r A6 t l.length c6 cn L2.out T2.out _ HP6.out).mono ?_
      rintro e w8 ⟨v, rfl, hown, hb8⟩
      have hB8 := hB7.trans (hb8.mono hB7.size)
      obtain ⟨A7, c7, rfl, hp7⟩ := pts_of_owns hown
      rw [L3.out]
      have HP7 := Lib.hid hp7
      have HP18 := Lib.hid ((((HP14.out.below hb5).below hb6).below hb7).below hb8)
      have HP38 := Lib.hid ((((HP3.out.below hb5).below hb6).below hb7).below hb8)
      have HP48 := Lib.hid (((HP4.out.below hb6).below hb7).below hb8)
      have HP58 := Lib.hid ((HP5.out.below hb7).below hb8)
      have HP68 := Lib.hid (HP6.out.below hb8)
      clear hown hp7 HP14 HP3 HP4 HP5 HP6
      go_wp2_with fail
      refine (same_r A1 A3 cn cn l.length l.length c1 c3 L3.out L3.out _ HP18.out HP38.out (by rw [L3.out]; omega) true HEQ.out).mono ?_
      rintro e w9 ⟨rfl, hb9⟩
      have hB9 := hB8.trans (hb9.mono hB8.size)
      go_wp2_with fail
      refine (same_r A1 A5 cn cn l.length l.length c1 c5 L3.out L3.out _ (HP18.out.below hb9) (HP58.out.below hb9) (by rw [L3.out]; omega) true HEQ.out).mono ?_
      rintro e w10 ⟨rfl, hb10⟩
      have hB10 := hB9.trans (hb10.mono hB9.size)
      go_wp2_with fail
      refine (same_r A1 A7 cn cn l.length l.length c1 c7 L3.out L3.out _ ((HP18.out.below hb9).below hb10) ((HP7.out.below hb9).below hb10) (by rw [L3.out]; omega) true HEQ.out).mono ?_
      rintro e w11 ⟨rfl, hb11⟩
      have hB11 := hB10.trans (hb11.mono hB10.size)
      have HP4b := Lib.hid (((HP48.out.below hb9).below hb10).below hb11)
      have HP6b := Lib.hid (((HP68.out.below hb9).below hb10).below hb11)
      clear HP18 HP38 HP48 HP58 HP68 HP7
      go_wp2_with fail
      refine (measures_r _ l l.length c z1 z2 z3 z4 z5 rfl VL.out F1.out F2.out F3.out F4.out F5.out _ (HR.out.below hB11)).mono ?_
      rintro e w12 ⟨rfl, hb12⟩
      have hB12 := hB11.trans (hb12.mono hB11.size)
      go_wp2_with fail
      have bA := Blk.new w12 45 #[.int .i64 z1, .int .i64 z2, .int .i64 z3, .int .i64 z4, .int .i64 z5]
      have hB13 := hB12.alloc hB12.size (.cells #[.int .i64 z1, .int .i64 z2, .int .i64 z3, .int .i64 z4, .int .i64 z5] 45)
      have HP4c := Lib.hid ((HP4b.out.below hb12).below ((Below.refl _ w12).alloc (Nat.le_refl _) (.cells #[.int .i64 z1, .int .i64 z2, .int .i64 z3, .int .i64 z4, .int .i64 z5] 45)))
      have HP6c := Lib.hid ((HP6b.out.below hb12).below ((Below.refl _ w12).alloc (Nat.le_refl _) (.cells #[.int .i64 z1, .int .i64 z2, .int .i64 z3, .int .i64 z4, .int .i64 z5] 45)))
      generalize w12.alloc (.cells #[.int .i64 z1, .int .i64 z2, .int .i64 z3, .int .i64 z4, .int .i64 z5] 45) = w13 at bA hB13 HP4c HP6c ⊢
      obtain ⟨S1, hS1⟩ : ∃ S, S = w12.heap.size := ⟨_, rfl⟩
      rw [← hS1] at bA ⊢
      clear hS1
      refine (measures_r A4 m l.length c4 z1 z2 z3 z4 z5 L1.out VM.out G1.out G2.out G3.out G4.out G5.out _ HP4c.out).mono ?_
      rintro e w14 ⟨rfl, hb14⟩
      have hB14 := hB13.trans (hb14.mono hB13.size)
      replace bA := bA.below hb14 bA.lt
      go_wp2_with fail
      have bB := Blk.new w14 45 #[.int .i64 z1, .int .i64 z2, .int .i64 z3, .int .i64 z4, .int .i64 z5]
      have hB15 := hB14.alloc hB14.size (.cells #[.int .i64 z1, .int .i64 z2, .int .i64 z3, .int .i64 z4, .int .i64 z5] 45)
      replace bA := bA.alloc (.cells #[.int .i64 z1, .int .i64 z2, .int .i64 z3, .int .i64 z4, .int .i64 z5] 45)
      have HP6d := Lib.hid ((HP6c.out.below hb14).below ((Below.refl _ w14).alloc (Nat.le_refl _) (.cells #[.int .i64 z1, .int .i64 z2, .int .i64 z3, .int .i64 z4, .int .i64 z5] 45)))
      generalize w14.alloc (.cells #[.int .i64 z1, .int .i64 z2, .int .i64 z3, .int .i64 z4, .int .i64 z5] 45) = w15 at bA bB hB15 HP6d ⊢
      obtain ⟨S2, hS2⟩ : ∃ S, S = w14.heap.size := ⟨_, rfl⟩
      rw [← hS2] at bB ⊢
      clear hS2
      refine (measures_r A6 t l.length c6 z1 z2 z3 z4 z5 L2.out VT.out K1.out K2.out K3.out K4.out K5.out _ HP6d.out).mono ?_
      rintro e w16 ⟨rfl, hb16⟩
      have hB16 := hB15.trans (hb16.mono hB15.size)
      replace bA := bA.below hb16 bA.lt
      replace bB := bB.below hb16 bB.lt
      have bC := Blk.new w16 45 #[.int .i64 z1, .int .i64 z2, .int .i64 z3, .int .i64 z4, .int .i64 z5]
      have hB17 := hB16.alloc hB16.size (.cells #[.int .i64 z1, .int .i64 z2, .int .i64 z3, .int .i64 z4, .int .i64 z5] 45)
      replace bA := bA.alloc (.cells #[.int .i64 z1, .int .i64 z2, .int .i64 z3, .int .i64 z4, .int .i64 z5] 45)
      replace bB := bB.alloc (.cells #[.int .i64 z1, .int .i64 z2, .int .i64 z3, .int .i64 z4, .int .i64 z5] 45)
      have p0 := bA.cell 0
      have p1 := bA.cell 1
      have p2 := bA.cell 2
      have p3 := bA.cell 3
      have p4 := bA.cell 4
      have q0 := bB.cell 0
      have q1 := bB.cell 1
      have q2 := bB.cell 2
      have q3 := bB.cell 3
      have q4 := bB.cell 4
      simp only [List.getElem?_toArray, List.getElem?_cons_zero, List.getElem?_cons_succ] at p0 p1 p2 p3 p4 q0 q1 q2 q3 q4
      have heq := fun w => run_eq5 z1 z2 z3 z4 z5 w
      go_wp2_with (go_at_call 22; refine (awake_any _).mono ?_; rintro e w18 ⟨rfl, hb18⟩)
      go_ret
      exact ⟨rfl, hB17.trans (hb18.mono hB17.size)⟩)
theorem law_back_row (A : Option Addr) (l : List Geo.XY) (c : Nat) (x : Int) (w : World) (hr : Pts w A l) (hcap : l.length ≤ c) (hw : (Lit.int .u8 x).wf = true) :
    Calls Try.prog 11 #[.slice A l.length c, .int .u8 x] w fun e w' => e = .returned (.bool true) ∧ Below w.heap.size w w' :=
  law_back A l c x (u8_bd hw).1 (u8_bd hw).2 w hr hcap
end Go.Proofs.Ytflkhjicgojcbaa
