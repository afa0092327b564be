import Derived.Test.YtflkhjicgojcbaaV3
import Derived.Test.YtflkhjicgojcbaaL16
namespace Go.Proofs.Ytflkhjicgojcbaa
open Go.RowKit Go.Shelf

theorem own_cells {W : World} {B n g cap : Nat} {xs : List Value} (h : W.ownsRow B 38 2 (.slice (some ⟨g, 0, none⟩) n cap) n xs) : ∀ j u, xs[j]? = some u → W.cell? ((⟨g, 0, none⟩ : Addr).add j) = some u := by
  intro j u hj
  rcases h with ⟨_, ⟨he, _⟩ | ⟨g', cap', cur, he, _, hg, _, _, _, ht⟩⟩
  · cases he
  · cases he
    rw [show (⟨g, 0, none⟩ : Addr).add j = ⟨g, j, none⟩ from by cases j <;> simp [Addr.add], cell_of_row W g j cur 38 (0, 0) hg]
    rw [← ht, List.getElem?_take] at hj
    split at hj
    · simpa using hj
    · cases hj

set_option maxRecDepth 100000 in
set_option maxHeartbeats 4000000 in
theorem rsum_any (A A' : Option Addr) (o p : List Geo.XY) (c c' : Nat) (w : World) (hP : Pts w A o) (hQ : Pts w A' p) :
    Calls Try.prog 44 #[.slice A o.length c, .slice A' p.length c'] w fun e w' => ListErr w (sumV o p).1 (sumV o p).2 e w' := by
  have HP := Lib.hid hP
  have HQ := Lib.hid hQ
  clear hP hQ
  cases hv : validB o with
  | false =>
    have HV := Lib.hid hv
    rw [sumV_no (by rw [hv]; simp)]
    clear hv
    unfold ListErr
    go_enter Try.func44, Try.ntmps44
    go_wp2_with (go_at_call 20; refine (rvalid_b _ _ _ _ HP.out false HV.out).mono ?_; rintro e w' ⟨rfl, hb'⟩)
    go_ret2
    exact ⟨_, rfl, own_nil' _ _, hb'⟩
  | true =>
    have HV := Lib.hid hv
    cases hv2 : validB p with
    | false =>
      have HV2 := Lib.hid hv2
      rw [sumV_no (by rw [hv2]; simp)]
      clear hv hv2
      unfold ListErr
      go_enter Try.func44, Try.ntmps44
      go_wp2_with fail
      refine (rvalid_b _ _ _ _ HP.out true HV.out).mono ?_
      rintro e w1 ⟨rfl, hb1⟩
      go_wp2_with fail
      refine (rvalid_b _ _ _ _ (HQ.out.below hb1) false HV2.out).mono ?_
      rintro e w2 ⟨rfl, hb2⟩
      go_wp2
      go_ret2
      exact ⟨_, rfl, own_nil' _ _, hb1.trans (hb2.mono hb1.size)⟩
    | true =>
      have HV2 := Lib.hid hv2
      have vo := valid_of hv
      have vp := valid_of hv2
      have ho3 := vo.1
      have ho64 := vo.2.1
      have hp3 := vp.1
      have hp64 := vp.2.1
      have HSV := Lib.hid (sumV_yes ⟨hv, hv2⟩)
      have HF := Lib.hid (sum_facts vo vp)
      have HWd := Lib.hid (allS_wid vo.allin vp.allin)
      have HAO := Lib.hid vo.allin
      have HAP := Lib.hid vp.allin
      obtain ⟨q, hq⟩ : ∃ q, sumL o p = q := ⟨_, rfl⟩
      rw [hq] at HSV HF
      obtain ⟨L, hL⟩ : ∃ L, allS o p = L := ⟨_, rfl⟩
      have hLl : L.length = o.length * p.length := by rw [← hL, allS_len]
      rw [hL] at HF HWd
      have HLL := Lib.hid hLl
      have HL := Lib.hid hL
      have hPP : ∀ k, k ≤ o.length → k * p.length ≤ 4096 := fun k hk => Nat.le_trans (Nat.mul_le_mul hk hp64) (by omega)
      have HPP := Lib.hid hPP
      have hL0 : 0 < L.length := by rw [hLl]; exact Nat.mul_pos (by omega) (by omega)
      have hL5 : L.length ≤ 5000 := by rw [hLl]; have := hPP o.length (Nat.le_refl _); omega
      obtain ⟨⟨r1, r2⟩, hr12⟩ : ∃ r, sumV o p = r := ⟨_, rfl⟩
      have HR12 := Lib.hid hr12
      rw [hr12]
      clear hv hv2 vo vp hq hL hLl hPP hr12
      obtain ⟨b1, o1, rfl, hb1, hc1⟩ := pts_open HP.out (by omega)
      obtain ⟨b2, o2, rfl, hb2, hc2⟩ := pts_open HQ.out (by omega)
      have HC1 := Lib.hid hc1
      have HC2 := Lib.hid hc2
      clear hc1 hc2
      obtain ⟨i0, hi, hz0, hz1, hz2⟩ := info_parts info38'
      unfold ListErr
      dsimp only
      go_enter Try.func44, Try.ntmps44
      go_wp2_with fail
      refine (rvalid_b _ _ _ _ HP.out true HV.out).mono ?_
      rintro e w1 ⟨rfl, hbb1⟩
      go_wp2_with fail
      refine (rvalid_b _ _ _ _ (HQ.out.below hbb1) true HV2.out).mono ?_
      rintro e w2 ⟨rfl, hbb2⟩
      have hB2 := hbb1.trans (hbb2.mono hbb1.size)
      clear hbb1 hbb2
      go_wp2
      go_loopw [6, 22] (fun v i wr => ∃ k : Nat, k ≤ o.length ∧ i = .int .i64 k ∧ wr.ownsRow w.heap.size 38 2 v (k * p.length) (flat (allS (o.take k) p)) ∧ Below w.heap.size w wr) (fun _ i _ => o.length - (intOf i).toNat)
      case atStart => exact ⟨0, Nat.zero_le _, rfl, by rw [Nat.zero_mul]; exact World.ownsRow_nil _ _ _ _, hB2⟩
      case round =>
        clear hB2
        obtain ⟨k, hk, rfl, hown, hB⟩ := hrel
        by_cases hlt : k < o.length
        · have c1 : wr.cell? ⟨b1, o1 + k * 2, none⟩ = some (.int .i64 (Geo.X o k).1) := (hB.cell (p := ⟨b1, o1 + k * 2, none⟩) hb1).trans (HC1.out k hlt).1
          have c2 : wr.cell? ⟨b1, o1 + k * 2 + 1, none⟩ = some (.int .i64 (Geo.X o k).2) := (hB.cell (p := ⟨b1, o1 + k * 2 + 1, none⟩) hb1).trans (HC1.out k hlt).2
          have HT : Hid (flat (allS (o.take (k + 1)) p) = flat (allS (o.take k) p) ++ flat (p.map (addXY (Geo.X o k)))) := Lib.hid (by rw [allS_take o p k hlt, flat_append])
          obtain ⟨a1, a2, a3, a4⟩ := in_all HAO.out k
          have HK1 := Lib.hid (HPP.out (k + 1) hlt)
          generalize Geo.X o k = a at *
          have hBa := hB.alloc hB.size (.cells #[.int .i64 a.1, .int .i64 a.2] 38)
          have hownA := hown.alloc (.cells #[.int .i64 a.1, .int .i64 a.2] 38)
          clear hown
          go_wp2_with fail
          refine (rshifted_r b2 o2 c' p (p.map (addXY a)) a.1 a.2 rfl ⟨⟨by omega, by omega⟩, by omega, by omega⟩ hp64 HAP.out _ (Nat.lt_of_lt_of_le hb2 hBa.size) (fun j hj => ⟨(hBa.cell (p := ⟨b2, o2 + j * 2, none⟩) hb2).trans (HC2.out j hj).1, (hBa.cell (p := ⟨b2, o2 + j * 2 + 1, none⟩) hb2).trans (HC2.out j hj).2⟩)).mono ?_
          rintro e w4 ⟨v4, rfl, hown4, hb4⟩
          have hB4 := hBa.trans (hb4.mono hBa.size)
          have hownB := own_keep hownA hb4
          rw [List.length_map] at hown4
          obtain ⟨g4, k4, rfl⟩ := owns_addr hown4 (by omega)
          have HN4 := Lib.hid (own_cells hown4)
          have HL4 := Lib.hid hown4.1
          clear hown4 hownA hb4
          go_wp2_with (at_builtin; refine wpList_append_own _ rfl _ _ 22 rfl w.heap.size 38 i0 _ 2 16 Try.underlying22 hi hz0 hz1 hz2 rfl (by decide) _ (k * p.length) _ rfl hownB ⟨g4, 0, none⟩ p.length k4 (flat (p.map (addXY a))) rfl HL4.out HN4.out (oneCell_flat _) (by unfold maxLen; have := HK1.out; rw [Nat.succ_mul] at this; omega) (by have := HK1.out; rw [Nat.succ_mul] at this; omega) hB4.size ?_; intro v7 w7 hown7 hgrow7 _; have hB7 : Below w.heap.size w w7 := hB4.grown hgrow7 hB4.size (fun j e => (hownB.lt j e).1))
          go_roundw
          case rel => exact ⟨k + 1, by omega, by go_num, by rw [HT.out, Nat.succ_mul]; exact hown7, hB7⟩
          case measure => simp [intOf]; omega
        · obtain rfl : k = o.length := by omega
          rw [List.take_length, HL.out, ← HLL.out] at hown
          obtain ⟨g, cap, rfl⟩ := owns_addr hown hL0
          obtain ⟨_, _, he, hp1, hk1⟩ := pts_of_owns' hown
          cases he
          obtain ⟨_, _, he, hgl, hcl⟩ := pts_open hp1 hL0
          cases he
          have HCL := Lib.hid hcl
          obtain ⟨f1, f2, f3, f4, f5, f6, f7⟩ := HF.out
          have q3 := f1.h3
          have F3 := Lib.hid f3
          have F4 := Lib.hid f4
          have F5 := Lib.hid f5
          have F6 := Lib.hid f6
          have F7 := Lib.hid f7
          clear f1 f3 f4 f5 f6 f7 hcl hp1 hk1 hown
          go_wp2_with fail
          refine (wrap_any g 0 cap L q hL0 hL5 HWd.out (by omega) (by omega) F3.out F4.out F5.out F6.out F7.out _ hgl HCL.out).mono ?_
          rintro e w5 ⟨v5, rfl, hown5, hb5⟩
          have hB5 := hB.trans (hb5.mono hB.size)
          have hown6 := hown5.mono hB.size
          clear hown5
          obtain ⟨g5, k5, rfl⟩ := owns_addr hown6 (by omega)
          obtain ⟨_, _, he, hp5, hk5⟩ := pts_of_owns' hown6
          cases he
          obtain ⟨_, _, he, hg5, hc5⟩ := pts_open hp5 (by omega)
          cases he
          have HC5 := Lib.hid hc5
          have HO6 := Lib.hid hown6
          clear hp5 hc5 hown6
          go_wp2
          obtain ⟨wo, rfl⟩ : ∃ wo, wo = wr := ⟨_, rfl⟩
          go_loopw [39] (fun i wr => ∃ k : Nat, k ≤ q.length ∧ i = .int .i64 k ∧ (∀ j, j < k → Geo.In (Geo.X q j)) ∧ Below w5.heap.size w5 wr) (fun i _ => q.length - (intOf i).toNat)
          case atStart => exact ⟨0, Nat.zero_le _, rfl, fun j hj => absurd hj (by omega), Below.refl _ _⟩
          case round =>
            obtain ⟨m, hm, rfl, hin, hBi⟩ := hrel
            have HIN := Lib.hid hin
            clear hin
            have hBB := hB5.trans (hBi.mono hB5.size)
            by_cases hlt : m < q.length
            · have c1 : wr.cell? ⟨g5, m * 2, none⟩ = some (.int .i64 (Geo.X q m).1) := by have := (hBi.cell (p := ⟨g5, 0 + m * 2, none⟩) hg5).trans (HC5.out m hlt).1; simpa using this
              have c2 : wr.cell? ⟨g5, m * 2 + 1, none⟩ = some (.int .i64 (Geo.X q m).2) := by have := (hBi.cell (p := ⟨g5, 0 + m * 2 + 1, none⟩) hg5).trans (HC5.out m hlt).2; simpa using this
              cases hI : InF (Geo.X q m) with
              | false =>
                have hv : ¬ AllIn q := fun hv => by have := (InF_iff _).2 (hv m hlt); rw [hI] at this; cases this
                have hre := HR12.out.symm.trans (HSV.out.trans (if_neg (by rintro ⟨_, h⟩; exact hv (of_decide_eq_true h))))
                obtain ⟨rfl, rfl⟩ := Prod.mk.inj hre
                have HI := Lib.hid hI
                clear hre HR12 hI hv
                go_wp2_with (go_at_call 61; refine (in_no _ _ HI.out _).mono ?_; rintro e w' ⟨rfl, hb'⟩)
                go_ret2
                exact ⟨_, rfl, own_nil' _ _, ((hBB.alloc hBB.size _)).trans (hb'.mono (by simp; have := hBB.size; omega))⟩
              | true =>
                have HI := Lib.hid hI
                clear hI
                go_wp2_with (go_at_call 61; refine (in_yes _ _ HI.out _).mono ?_; rintro e w' ⟨rfl, hb'⟩)
                go_roundw
                case rel => exact ⟨m + 1, by omega, by go_num, fun j hj => by
                  by_cases e : j = m
                  · subst e; exact (InF_iff _).1 HI.out
                  · exact HIN.out j (by omega), (hBi.alloc hBi.size _).trans (hb'.mono (by simp; have := hBi.size; omega))⟩
                case measure => simp [intOf]; omega
            · obtain rfl : m = q.length := by omega
              have hai : AllIn q := HIN.out
              by_cases hm64 : 64 < q.length
              · have hre := HR12.out.symm.trans (HSV.out.trans (if_neg (by omega)))
                obtain ⟨rfl, rfl⟩ := Prod.mk.inj hre
                clear hre HR12 hai
                go_wp2
                go_ret2
                exact ⟨_, rfl, own_nil' _ _, hBB⟩
              · have hre := HR12.out.symm.trans (HSV.out.trans (if_pos ⟨by omega, decide_eq_true hai⟩))
                obtain ⟨rfl, rfl⟩ := Prod.mk.inj hre
                clear hre HR12 hai
                go_wp2
                go_ret2
                exact ⟨_, rfl, own_keep HO6.out hBi, hBB⟩
end Go.Proofs.Ytflkhjicgojcbaa
