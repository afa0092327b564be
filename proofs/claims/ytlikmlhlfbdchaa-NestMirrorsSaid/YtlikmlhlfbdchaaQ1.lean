/- nest: stabs, the document's Apart; the law of gaps. -/
import Derived.Test.YtlikmlhlfbdchaaNY
import Derived.Test.YtlikmlhlfbdchaaBY
namespace Go.Proofs.Ytlikmlhlfbdchaa
open Go.RowKit Go.Shelf
namespace Ne
/-- left of the first k sides -/
def inK (p : List Geo.XY) (c : Geo.XY) : Nat → Bool
  | 0 => true
  | k + 1 => inK p c k && decide (0 < Geo.Cross (Geo.X p k) (Geo.X p ((k + 1) % p.length)) c)
theorem inK_at {p : List Geo.XY} {c : Geo.XY} : ∀ {k : Nat}, inK p c k = true → ∀ j, j < k → 0 < Geo.Cross (Geo.X p j) (Geo.X p ((j + 1) % p.length)) c
  | 0, _, j, hj => absurd hj (by omega)
  | k + 1, h, j, hj => by
    unfold inK at h
    simp only [Bool.and_eq_true, decide_eq_true_eq] at h
    by_cases e : j = k
    · subst e; exact h.2
    · exact inK_at h.1 j (by omega)
end Ne

set_option maxRecDepth 100000 in
set_option maxHeartbeats 4000000 in
theorem stabs_no (A B : Option Addr) (o p : List Geo.XY) (c c' m n : Nat) (hm : o.length = m) (hn : p.length = n) (hm64 : m ≤ 64) (hn64 : n ≤ 64) (hn0 : 0 < n) (ho : AllIn o) (hp : AllIn p) (h : ∀ i, i < o.length → ¬ Ne.Stb p (Geo.X o i)) (w : World) (hA : Pts w A o) (hB : Pts w B p) :
    Calls Try.prog 47 #[.slice A m c, .slice B n c'] w fun e w' => e = .returned (.bool false) ∧ Below w.heap.size w w' := by
  have HM := Lib.hid hm
  have HN := Lib.hid hn
  have HO := Lib.hid ho
  have HP := Lib.hid hp
  have HS := Lib.hid h
  have HA := Lib.hid hA
  have HB := Lib.hid hB
  clear hm hn ho hp h hA hB
  go_enter Try.func47, Try.ntmps47
  go_wp2
  go_loopw [12] (fun i wr => ∃ k : Nat, k ≤ m ∧ i = .int .i64 k ∧ Below w.heap.size w wr) (fun i _ => m - (intOf i).toNat)
  case atStart => exact ⟨0, Nat.zero_le _, rfl, Below.refl _ _⟩
  case round =>
    obtain ⟨k, hk, rfl, hBk⟩ := hrel
    obtain ⟨wo, rfl⟩ : ∃ wo, wo = wr := ⟨_, rfl⟩
    by_cases hlt : k < m
    · have hk0 : k < o.length := by rw [HM.out]; exact hlt
      obtain ⟨b, off, rfl, hb, hc⟩ := pts_open (HA.out.below hBk) (by omega)
      obtain ⟨g, of2, rfl, hg, hc2⟩ := pts_open (HB.out.below hBk) (by rw [HN.out]; exact hn0)
      obtain ⟨c1, c2⟩ := hc k hk0
      obtain ⟨z1, z2, z3, z4⟩ := HO.out k hk0
      obtain ⟨q, hq⟩ : ∃ q, Geo.X o k = q := ⟨_, rfl⟩
      have HSK := Lib.hid (HS.out k hk0)
      rw [hq] at c1 c2 z1 z2 z3 z4 HSK
      have HC2 := Lib.hid hc2
      clear hc hc2 hq hk0
      go_wp2
      have bQ := Blk.new wo 76 #[.int .i64 q.1, .int .i64 q.2]
      have hB1 := hBk.alloc hBk.size (.cells #[.int .i64 q.1, .int .i64 q.2] 76)
      have hK1 := (Below.refl wo.heap.size wo).alloc (Nat.le_refl _) (.cells #[.int .i64 q.1, .int .i64 q.2] 76)
      generalize wo.alloc (.cells #[.int .i64 q.1, .int .i64 q.2] 76) = w1 at *
      clear c1 c2 hBk
      go_loopw [7, 18] (fun x i wr => ∃ j : Nat, j ≤ n ∧ i = .int .i64 j ∧ x = .bool (Ne.inK p q j) ∧ Below w1.heap.size w1 wr) (fun _ i _ => n - (intOf i).toNat)
      case atStart => exact ⟨0, Nat.zero_le _, rfl, rfl, Below.refl _ _⟩
      case round =>
        obtain ⟨j, hj, rfl, rfl, hBj⟩ := hrel
        by_cases hjl : j < n
        · obtain ⟨j', hj'⟩ : ∃ j', j' = (j + 1) % n := ⟨_, rfl⟩
          have hj'l : j' < n := by rw [hj']; exact Nat.mod_lt _ hn0
          have e3 : ((j : Int) + 1) % (n : Int) = (j' : Int) := by rw [hj']; simp
          have e2 : ((j : Int) + 1).tmod (n : Int) = (j' : Int) := by rw [Int.tmod_eq_emod_of_nonneg (show (0 : Int) ≤ (j : Int) + 1 by omega)]; exact e3
          have e4 : ¬ (n : Int) = 0 := by clear e2 e3; omega
          have e6 : ¬ n = 0 := by omega
          have hgs : g < w1.heap.size := Nat.lt_of_lt_of_le hg hK1.size
          have hcell : ∀ i, i < n → wr.cell? ⟨g, of2 + i * 2, none⟩ = some (.int .i64 (Geo.X p i).1) ∧ wr.cell? ⟨g, of2 + i * 2 + 1, none⟩ = some (.int .i64 (Geo.X p i).2) := fun i hi =>
            have h := HC2.out i (by rw [HN.out]; exact hi)
            ⟨(hBj.cell (p := ⟨g, of2 + i * 2, none⟩) hgs).trans ((hK1.cell (p := ⟨g, of2 + i * 2, none⟩) hg).trans h.1), (hBj.cell (p := ⟨g, of2 + i * 2 + 1, none⟩) hgs).trans ((hK1.cell (p := ⟨g, of2 + i * 2 + 1, none⟩) hg).trans h.2)⟩
          obtain ⟨a1, a2⟩ := hcell j hjl
          obtain ⟨b1, b2⟩ := hcell j' hj'l
          have HT : Hid (Ne.inK p q (j + 1) = (Ne.inK p q j && decide (0 < Geo.Cross (Geo.X p j) (Geo.X p j') q))) := Lib.hid (by rw [Ne.inK, HN.out, ← hj'])
          obtain ⟨y1, y2, y3, y4⟩ := HP.out j (by rw [HN.out]; exact hjl)
          obtain ⟨x1, x2, x3, x4⟩ := HP.out j' (by rw [HN.out]; exact hj'l)
          obtain ⟨u, hu⟩ : ∃ u, Geo.X p j = u := ⟨_, rfl⟩
          obtain ⟨v, hv⟩ : ∃ v, Geo.X p j' = v := ⟨_, rfl⟩
          rw [hu] at a1 a2 HT y1 y2 y3 y4
          rw [hv] at b1 b2 HT x1 x2 x3 x4
          obtain ⟨t, ht⟩ : ∃ t, Ne.inK p q j = t := ⟨_, rfl⟩
          rw [ht] at HT ⊢
          have bQ1 := bQ.below hBj bQ.lt
          have HJJ := Lib.hid hj'
          clear hcell hu hv ht hj'
          have d1 := bQ1.cell 0
          have d2 := bQ1.cell 1
          simp only [List.getElem?_toArray, List.getElem?_cons_zero, List.getElem?_cons_succ] at d1 d2
          obtain ⟨W, hW⟩ : ∃ W, W = wr.alloc (.cells #[.int .i64 u.1, .int .i64 u.2] 76) := ⟨_, rfl⟩
          have bU : Blk W wr.heap.size 76 #[.int .i64 u.1, .int .i64 u.2] := by rw [hW]; exact Blk.new _ _ _
          have hBW : Below w1.heap.size w1 W := by rw [hW]; exact hBj.alloc hBj.size _
          have bQ2 : Blk W wo.heap.size 76 #[.int .i64 q.1, .int .i64 q.2] := by rw [hW]; exact bQ1.alloc _
          have hWr : Below wr.heap.size wr W := by rw [hW]; exact (Below.refl _ _).alloc (Nat.le_refl _) _
          have hgr : g < wr.heap.size := Nat.lt_of_lt_of_le hgs hBj.size
          have f1 : ∀ s : Ext W, s.w.cell? ⟨wr.heap.size, 0, none⟩ = some (.int .i64 u.1) := fun s => s.cell (bU.cell 0)
          have f2 : ∀ s : Ext W, s.w.cell? ⟨wr.heap.size, 1, none⟩ = some (.int .i64 u.2) := fun s => s.cell (bU.cell 1)
          have f3 : ∀ s : Ext W, s.w.cell? ⟨wo.heap.size, 0, none⟩ = some (.int .i64 q.1) := fun s => s.cell (bQ2.cell 0)
          have f4 : ∀ s : Ext W, s.w.cell? ⟨wo.heap.size, 1, none⟩ = some (.int .i64 q.2) := fun s => s.cell (bQ2.cell 1)
          have f5 : ∀ s : Ext W, s.w.cell? ⟨g, of2 + j' * 2, none⟩ = some (.int .i64 v.1) := fun s => s.cell ((hWr.cell (p := ⟨g, of2 + j' * 2, none⟩) hgr).trans b1)
          have f6 : ∀ s : Ext W, s.w.cell? ⟨g, of2 + j' * 2 + 1, none⟩ = some (.int .i64 v.2) := fun s => s.cell ((hWr.cell (p := ⟨g, of2 + j' * 2 + 1, none⟩) hgr).trans b2)
          clear bU bQ2 hWr b1 b2 d1 d2
          obtain ⟨z, hz⟩ : ∃ z, decide (0 < (v.1 - u.1) * (q.2 - u.2) - (v.2 - u.2) * (q.1 - u.1)) = z := ⟨_, rfl⟩
          have HTT : Hid (Ne.inK p q (j + 1) = (t && z)) := Lib.hid (by rw [HT.out, ← hz]; rfl)
          clear HT
          cases t with
          | false =>
            go_wp2
            rw [← hW]
            refine wp_region_ext (by kernel_rfl) (by kernel_rfl) ?_
            repeat (go_big_quiet_step (fail))
            refine wpQuiet_nil ?_
            rintro _ ⟨s, rfl⟩
            clear f1 f2 f3 f4 f5 f6 e2 e3 hz
            go_wp2
            go_roundw
            case rel => exact ⟨j + 1, by omega, by go_num, by rw [HTT.out]; rfl, hBW.trans (s.h.mono hBW.size)⟩
            case measure => simp [intOf]; omega
          | true =>
            go_wp2
            rw [← hW]
            refine wp_region_ext (by kernel_rfl) (by kernel_rfl) ?_
            repeat (go_big_quiet_step ((go_at_call 84; refine calls_ext (cross_any _ _ _ _ _ _ (by clear e2 e3 hz; omega) (by clear e2 e3 hz; omega) (by clear e2 e3 hz; omega) (by clear e2 e3 hz; omega) (by clear e2 e3 hz; omega) (by clear e2 e3 hz; omega) (by clear e2 e3 hz; omega) (by clear e2 e3 hz; omega) (by clear e2 e3 hz; omega) (by clear e2 e3 hz; omega) (by clear e2 e3 hz; omega) (by clear e2 e3 hz; omega) _))))
            refine wpQuiet_nil ?_
            rintro _ ⟨s, rfl⟩
            clear f1 f2 f3 f4 f5 f6 e2 e3
            have HZ : Hid (Value.bool (decide ((v.2 - u.2) * (q.1 - u.1) < (v.1 - u.1) * (q.2 - u.2))) = .bool (Ne.inK p q (j + 1))) := Lib.hid (by
              rw [HTT.out, ← hz]; simp)
            clear hz
            rw [HZ.out]
            go_wp2
            go_roundw
            case rel => exact ⟨j + 1, by omega, by go_num, rfl, hBW.trans (s.h.mono hBW.size)⟩
            case measure => simp [intOf]; omega
        · obtain rfl : j = n := by omega
          obtain ⟨t, ht⟩ : ∃ t, Ne.inK p q j = t := ⟨_, rfl⟩
          have hf : t = false := by
            cases t with
            | false => rfl
            | true => exact absurd (fun i hi => Ne.inK_at ht i (by rw [← HN.out]; exact hi)) HSK.out
          subst hf
          rw [ht]
          clear ht
          go_wp2
          go_roundw
          case rel => exact ⟨k + 1, by omega, by go_num, hB1.trans (hBj.mono hB1.size)⟩
          case measure => simp [intOf]; omega
    · obtain rfl : k = m := by omega
      go_wp2
      go_ret
      exact ⟨rfl, hBk⟩

set_option maxRecDepth 100000 in
set_option maxHeartbeats 2000000 in
theorem law_gaps (A B : Option Addr) (o p : List Geo.XY) (c c' : Nat) (g h : Int) (w : World) (hA : Pts w A o) (hB : Pts w B p) (hoc : o.length ≤ c) (hpc : p.length ≤ c') :
    Calls Try.prog 9 #[.slice A o.length c, .slice B p.length c', .int .i64 g, .int .i64 h] w fun e w' => e = .returned (.bool true) ∧ Below w.heap.size w w' := by
  obtain ⟨m, hm⟩ : ∃ m, o.length = m := ⟨_, rfl⟩
  obtain ⟨n, hn⟩ : ∃ n, p.length = n := ⟨_, rfl⟩
  obtain ⟨E, hE⟩ : ∃ E, Ne.apE o p g = E := ⟨_, rfl⟩
  obtain ⟨V, hV⟩ : ∃ V, Ne.apV o p g = V := ⟨_, rfl⟩
  have H1 := Lib.hid (fun W (h1 : Pts W A o) (h2 : Pts W B p) => Apart_b A B o p c c' m n hm hn g (by omega) (by omega) E hE V hV W h1 h2)
  rw [hm, hn]
  by_cases hbad : E = 0 ∧ V = true
  · obtain ⟨rfl, rfl⟩ := hbad
    obtain ⟨vo, vp, g1, g2⟩ := Ne.apE_ok hE
    have hap : Ne.apB o p g = true := by unfold Ne.apV at hV; rw [hE, if_pos rfl] at hV; exact hV
    have hap' : Ne.apB p o g = true := by rw [Ne.ap_comm]; exact hap
    have S1 := Lib.hid (fun W (h1 : Pts W A o) (h2 : Pts W B p) => stabs_no A B o p c c' m n hm hn (by have := vo.2.1; omega) (by have := vp.2.1; omega) (by have := vp.1; omega) vo.allin vp.allin (fun i hi => Ne.no_stab vo vp hap hi) W h1 h2)
    have S2 := Lib.hid (fun W (h1 : Pts W A o) (h2 : Pts W B p) => stabs_no B A p o c' c n m hn hm (by have := vp.2.1; omega) (by have := vo.2.1; omega) (by have := vo.1; omega) vp.allin vo.allin (fun i hi => Ne.no_stab vp vo hap' hi) W h2 h1)
    have hless : 0 ≤ h → h ≤ g → Ne.apE o p h = 0 ∧ Ne.apV o p h = true := fun a b => by
      have e : Ne.apE o p h = 0 := by
        unfold Ne.apE
        rw [validB_true vo, validB_true vp]
        rw [if_pos (show (true && true) = true from rfl), if_pos ⟨a, by omega⟩]
      exact ⟨e, by unfold Ne.apV; rw [e, if_pos rfl]; exact Ne.ap_less a b hap⟩
    have H2 := Lib.hid (fun (a : 0 ≤ h) (b : h ≤ g) W (h1 : Pts W A o) (h2 : Pts W B p) => Apart_b A B o p c c' m n hm hn h (by omega) (by omega) 0 (hless a b).1 true (hless a b).2 W h1 h2)
    have HA := Lib.hid hA
    have HB := Lib.hid hB
    clear hA hB hE hV hap hap' vo vp hless hm hn hoc hpc
    by_cases h0 : 0 ≤ h
    · by_cases hg : h ≤ g
      · have H3 := Lib.hid (H2.out h0 hg)
        go_enter Try.func9, Try.ntmps9
        go_wp2_with fail
        refine (H1.out _ HA.out HB.out).mono ?_
        rintro e w1 ⟨rfl, b1⟩
        go_wp2_with fail
        refine (H3.out _ (HA.out.below b1) (HB.out.below b1)).mono ?_
        rintro e w2 ⟨rfl, b2⟩
        have k2 := b1.trans (b2.mono b1.size)
        go_wp2_with fail
        refine (S1.out _ (HA.out.below k2) (HB.out.below k2)).mono ?_
        rintro e w3 ⟨rfl, b3⟩
        have k3 := k2.trans (b3.mono k2.size)
        go_wp2_with fail
        refine (S2.out _ (HA.out.below k3) (HB.out.below k3)).mono ?_
        rintro e w4 ⟨rfl, b4⟩
        have k4 := k3.trans (b4.mono k3.size)
        go_wp2_with fail
        refine (awake_any _).mono ?_
        rintro e w5 ⟨rfl, b5⟩
        go_wp2
        go_ret
        exact ⟨rfl, k4.trans (b5.mono k4.size)⟩
      · have dg : decide (h ≤ g) = false := by simp; omega
        go_enter Try.func9, Try.ntmps9
        go_wp2_with fail
        refine (H1.out _ HA.out HB.out).mono ?_
        rintro e w2 ⟨rfl, k2⟩
        go_wp2_with fail
        refine (S1.out _ (HA.out.below k2) (HB.out.below k2)).mono ?_
        rintro e w3 ⟨rfl, b3⟩
        have k3 := k2.trans (b3.mono k2.size)
        go_wp2_with fail
        refine (S2.out _ (HA.out.below k3) (HB.out.below k3)).mono ?_
        rintro e w4 ⟨rfl, b4⟩
        have k4 := k3.trans (b4.mono k3.size)
        go_wp2_with fail
        refine (awake_any _).mono ?_
        rintro e w5 ⟨rfl, b5⟩
        go_wp2
        go_ret
        exact ⟨rfl, k4.trans (b5.mono k4.size)⟩
    · have dg : decide (0 ≤ h) = false := by simp; omega
      go_enter Try.func9, Try.ntmps9
      go_wp2_with fail
      refine (H1.out _ HA.out HB.out).mono ?_
      rintro e w2 ⟨rfl, k2⟩
      go_wp2_with fail
      refine (S1.out _ (HA.out.below k2) (HB.out.below k2)).mono ?_
      rintro e w3 ⟨rfl, b3⟩
      have k3 := k2.trans (b3.mono k2.size)
      go_wp2_with fail
      refine (S2.out _ (HA.out.below k3) (HB.out.below k3)).mono ?_
      rintro e w4 ⟨rfl, b4⟩
      have k4 := k3.trans (b4.mono k3.size)
      go_wp2_with fail
      refine (awake_any _).mono ?_
      rintro e w5 ⟨rfl, b5⟩
      go_wp2
      go_ret
      exact ⟨rfl, k4.trans (b5.mono k4.size)⟩
  · have HA := Lib.hid hA
    have HB := Lib.hid hB
    clear hA hB hE hV hm hn hoc hpc
    by_cases h0 : E = 0
    · subst h0
      have hv : V = false := by cases V with
        | false => rfl
        | true => exact absurd ⟨rfl, rfl⟩ hbad
      subst hv
      clear hbad
      go_enter Try.func9, Try.ntmps9
      go_wp2_with fail
      refine (H1.out _ HA.out HB.out).mono ?_
      rintro e w1 ⟨rfl, b1⟩
      go_wp2_with fail
      refine (awake_any _).mono ?_
      rintro e w5 ⟨rfl, b5⟩
      go_wp2
      go_ret
      exact ⟨rfl, b1.trans (b5.mono b1.size)⟩
    · have hne : (E == 0) = false := by simp; exact h0
      clear hbad
      go_enter Try.func9, Try.ntmps9
      go_wp2_with fail
      refine (H1.out _ HA.out HB.out).mono ?_
      rintro e w1 ⟨rfl, b1⟩
      go_wp2_with fail
      refine (awake_any _).mono ?_
      rintro e w5 ⟨rfl, b5⟩
      go_wp2
      go_ret
      exact ⟨rfl, b1.trans (b5.mono b1.size)⟩
end Go.Proofs.Ytlikmlhlfbdchaa
