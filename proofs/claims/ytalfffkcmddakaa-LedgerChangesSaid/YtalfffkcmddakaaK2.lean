/- running of the program. -/
import Derived.Test.YtalfffkcmddakaaK1
import Derived.Test.YtalfffkcmddakaaG1
import Derived.Test.YtalfffkcmddakaaE3
import Derived.Test.YtalfffkcmddakaaF5
namespace Go.Proofs.Ytalfffkcmddakaa
open Go.RowKit Go.Shelf Go.Sort

theorem MapC.mono {W : World} {b n m : Nat} {K : List Int} {f : Int → Int} (h : MapC W b n K f) (hm : n ≤ m) : MapC W b m K f := by
  obtain ⟨D, h1, h2⟩ := h
  exact ⟨D, h1.mono hm, h2⟩
theorem Blk.ne_mapC {w : World} {g b n : Nat} {t : TypeId} {cs : Array Value} {K : List Int} {f : Int → Int} (h : Blk w g t cs) (k : MapC w b n K f) : g ≠ b := fun e => by
  subst e
  obtain ⟨D, ⟨es, clock, hb, _⟩, _⟩ := k
  unfold Blk at h
  rw [h] at hb
  cases hb
/-- what a round of the first loop leaves -/
theorem Pl.rd1 {l : List Pl.En} {k : Nat} (hk : k < l.length) : Pl.dys (l.take (k + 1)) = (if l[k].k ≠ 4 then (if l[k].d ∈ Pl.dys (l.take k) then Pl.dys (l.take k) else Pl.dys (l.take k) ++ [l[k].d]) else Pl.dys (l.take k)) ∧ (fun x => Pl.ch x (l.take (k + 1))) = fun x => if l[k].k ≠ 4 ∧ x = l[k].d then Pl.ch x (l.take k) + Pl.ef l[k] else Pl.ch x (l.take k) := by
  refine ⟨Pl.dys_take hk, ?_⟩
  funext x
  rw [Pl.ch_take hk]
  by_cases h : l[k].d = x
  · subst h; simp
  · have h' : ¬ x = l[k].d := fun e => h e.symm
    simp [h, h']
set_option maxRecDepth 100000 in
set_option maxHeartbeats 16000000 in
theorem running_b (A : Option Addr) (l : List Pl.En) (c n : Nat) (hn : l.length = n) (hb : Pl.Vb l) (w : World) (hI : Rows enL 4 w A l) :
    Calls Try.prog 64 #[.slice A n c] w fun e w' => ∃ v D, e = .returned v ∧ Pl.IsDs l D ∧ w'.ownsRow w.heap.size 38 2 v D.length (flt prL (Pl.run l D)) ∧ Below w.heap.size w w' := by
  have hB0 := (Below.refl w.heap.size w).alloc (Nat.le_refl _) (.map #[] 0)
  have hM0 := MapC.made w
  have HI := Lib.hid hI
  have HN := Lib.hid hn
  have HVb := Lib.hid hb
  have HL : Hid (n ≤ 200) := Lib.hid (by rw [← hn]; exact hb.len)
  have HPB := Lib.hid (fun x k (hk : k ≤ n) => Pl.ch_bound x hb.each k (by rw [hn]; exact hk))
  have HB0 := Lib.hid hB0
  have HM0 := Lib.hid hM0
  obtain ⟨i0, hi, hz0, hz1, hz2⟩ := info_parts infoPr3
  clear hI hn hb hB0 hM0
  have hmm := @run_makeMap Try.prog
  go_enter Try.func64, Try.ntmps64
  go_wp2
  clear hmm
  go_loopw [13] (fun i wr => ∃ k : Nat, k ≤ n ∧ i = .int .i64 k ∧ Hid (MapC wr w.heap.size k (Pl.dys (l.take k)) (fun x => Pl.ch x (l.take k))) ∧ Below w.heap.size w wr) (fun i _ => n - (intOf i).toNat)
  case atStart => exact ⟨0, Nat.zero_le _, rfl, HM0, HB0.out⟩
  case round =>
    clear HM0 HB0
    obtain ⟨k, hk, rfl, HM, hB⟩ := hrel
    obtain ⟨wo, rfl⟩ : ∃ wo, wo = wr := ⟨_, rfl⟩
    by_cases hlt : k < n
    · have hltI : (k : Int) < (n : Int) := by omega
      have hn200 : n ≤ 200 := HL.out
      have hkx : k < l.length := by rw [HN.out]; exact hlt
      obtain ⟨bx, ox, rfl, hbx, hcx⟩ := HI.out.open (by omega)
      have hr := row_at hbx hcx hB hkx
      have hve := HVb.out.each _ (List.getElem_mem hkx)
      have hyc := Pl.ef_bound hve
      have HCC := Lib.hid (Pl.ve_c hve)
      have HVE := Lib.hid (Pl.ve_iff.1 hve)
      have hPb := HPB.out l[k].d k hk
      have HRD := Lib.hid (Pl.rd1 hkx)
      clear hcx hve
      generalize l[k] = y at *
      generalize Pl.dys (l.take k) = K at *
      obtain ⟨f, hf⟩ : ∃ f : Int → Int, f = fun x => Pl.ch x (l.take k) := ⟨_, rfl⟩
      have hfx : ∀ x, Pl.ch x (l.take k) = f x := fun x => by rw [hf]
      rw [← hf] at HM
      simp only [hfx] at hPb HRD
      clear hfx hf hkx
      have bz := Blk.new wo 24 zen
      have HBz := Lib.hid ((Below.refl wo.heap.size wo).alloc (Nat.le_refl _) (.cells zen 24))
      by_cases h4 : y.k = 4
      · have e4 : (y.k != 4) = false := by simp [h4]
        have HD : Hid (Pl.dys (l.take (k + 1)) = K ∧ (fun x => Pl.ch x (l.take (k + 1))) = f) := Lib.hid ⟨by rw [HRD.out.1, if_neg (fun h => h h4)], by rw [HRD.out.2]; funext x; rw [if_neg (fun h => h.1 h4)]⟩
        have HB := Lib.hid hB
        clear hyc hPb HRD HCC HVE h4 hB
        go_wp2_with (first
          | (have h9 := bz
             refine st_en (k := y) bz rfl rfl _ _ rfl rfl rfl ?_
             clear h9
             intro w3 bY hO3
             have hb3 : Below wo.heap.size wo w3 := HBz.out.trans (hO3.below (Nat.le_refl _))
             have p0 := bY.cell 0
             have HM3 := Lib.hid (HM.out.below hb3)
             have HB3 := Lib.hid (HB.out.trans (hb3.mono HB.out.size))
             clear bz hO3 hb3 bY hr)
          | (have h9 := hr
             refine ldm_en hr rfl _ rfl rfl ?_
             clear h9))
        clear p0
        go_roundw
        case rel => exact ⟨k + 1, by omega, by go_num, Lib.hid (by rw [HD.out.1, HD.out.2]; exact HM3.out.mono (Nat.le_succ _)), HB3.out⟩
        case measure => simp [intOf]; omega
      · have e4 : (y.k != 4) = true := by simp [h4]
        obtain ⟨E, hE⟩ : ∃ E, Pl.ef y = E := ⟨_, rfl⟩
        obtain ⟨F0, hF0⟩ : ∃ F0, f y.d = F0 := ⟨_, rfl⟩
        rw [hE] at hyc
        rw [hF0] at hPb
        have HEF := Lib.hid (fun W => effect_b y HCC.out E hE W)
        have kD : IntKind.i64.wrap (F0 + E) = F0 + E := IntWalk.i64_in _ (by omega)
        have HWF : Hid ((Lit.int .i64 y.d).wf = true) := Lib.hid (WalkArith.wf_i64 (by have := HVE.out.d0; have := HVE.out.d1; omega))
        have HD : Hid (Pl.dys (l.take (k + 1)) = (if y.d ∈ K then K else K ++ [y.d]) ∧ (fun x => Pl.ch x (l.take (k + 1))) = fun x => if x = y.d then F0 + E else f x) := Lib.hid ⟨by rw [HRD.out.1, if_pos h4], by
          rw [HRD.out.2]; funext x
          by_cases hx : x = y.d
          · subst hx; rw [if_pos ⟨h4, rfl⟩, if_pos rfl, hE, hF0]
          · rw [if_neg (fun h => hx h.2), if_neg hx]⟩
        have HF0 := Lib.hid hF0
        have HB := Lib.hid hB
        clear hyc hPb HRD HCC HVE h4 hB hE hF0
        go_wp2_with (first
          | (have h9 := bz
             refine st_en (k := y) bz rfl rfl _ _ rfl rfl rfl ?_
             clear h9
             intro w3 bY hO3
             have hb3 : Below wo.heap.size wo w3 := HBz.out.trans (hO3.below (Nat.le_refl _))
             have p0 := bY.cell 0
             have HM3 := Lib.hid (HM.out.below hb3)
             have hB3 := HB.out.trans (hb3.mono HB.out.size)
             have hgm : wo.heap.size ≠ w.heap.size := by have := HM.out.lt; omega
             clear bz hO3 hb3 hr)
          | (have h9 := hr
             refine ldm_en hr rfl _ rfl rfl ?_
             clear h9))
        clear p0 HM HB HBz
        generalize wo.heap.size = g at *
        refine wp_region_held (S := fun W => Blk W g 24 (enA y)) (by kernel_rfl) ?_
        change wpAnyH _ _ _ _ _ _ _ _ (World.drew _)
        have hS := bY.drew
        have HM4 : Hid (MapC w3.drew w.heap.size k K f) := Lib.hid HM3.out
        have hB4 : Below w.heap.size w w3.drew := hB3.drew
        clear bY HM3 hB3
        generalize w3.drew = W at *
        refine wpAnyH_take (i := 0) (v := ?_) rfl (by kernel_rfl) (by decide +kernel) (by decide +kernel) (fun _ _ _ h => h) (Or.inl ⟨by rfl, ?_⟩) hS ?_
        rotate_left
        · intro w' hS; have e0 := hS.cell 0; have e1 := hS.cell 1; have e2 := hS.cell 2; have e3 := hS.cell 3; first | (go_simp; done) | (go_simp; with_reducible rfl)
        refine wpAnyH_take (i := 1) (v := ?_) rfl (by kernel_rfl) (by decide +kernel) (by decide +kernel) (fun _ _ _ h => h) (Or.inl ⟨by rfl, ?_⟩) hS ?_
        rotate_left
        · intro w' hS; have e0 := hS.cell 0; have e1 := hS.cell 1; have e2 := hS.cell 2; have e3 := hS.cell 3; first | (go_simp; done) | (go_simp; with_reducible rfl)
        refine wpAnyH_take (i := 2) (v := ?_) rfl (by kernel_rfl) (by decide +kernel) (by decide +kernel) (fun _ _ _ h => h) (Or.inl ⟨by rfl, ?_⟩) hS ?_
        rotate_left
        · intro w' hS; have e0 := hS.cell 0; have e1 := hS.cell 1; have e2 := hS.cell 2; have e3 := hS.cell 3; first | (go_simp; done) | (go_simp; with_reducible rfl)
        refine wpAnyH_take (i := 4) (v := ?_) rfl (by kernel_rfl) (by decide +kernel) (by decide +kernel) (fun _ _ _ h => h) (Or.inl ⟨by rfl, ?_⟩) hS ?_
        rotate_left
        · intro w' hS; have e0 := hS.cell 0; have e1 := hS.cell 1; have e2 := hS.cell 2; have e3 := hS.cell 3; first | (go_simp; done) | (go_simp; with_reducible rfl)
        have hlk0 := HM4.out.look HWF.out
        rw [HF0.out] at hlk0
        refine wpAnyH_all (rs := [3, 5]) (by decide +kernel) (by simp) ?_
        intro i0 hi0
        have hi1 : i0 = 3 ∨ i0 = 5 := by simpa using hi0
        clear hi0
        rcases hi1 with rfl | rfl
        case' inl =>
          refine wpOp_goE rfl rfl (fun K hK => ?_)
          go_simp
          refine hK _ _ ⟨hS, ?_⟩
          clear hK K hlk0
          refine wpAnyH_all (rs := [5]) (by decide +kernel) (by simp) ?_
          intro i0 hi0
          obtain rfl := List.mem_singleton.1 hi0
          refine wpOp_goE rfl rfl (fun K hK => ?_)
          go_simp
          refine (HEF.out _).mono ?_
          rintro e w5 ⟨rfl, hb5⟩
          have hS5 := hS.below hb5 hS.lt
          have hB5 := hB4.trans (hb5.mono hB4.size)
          have HM5 := Lib.hid (HM4.out.below hb5)
          refine hK _ _ ⟨hS5, ?_⟩
          clear hK K hS hb5 HM4 hB4
        case' inr =>
          refine wpOp_goE rfl rfl (fun K hK => ?_)
          go_simp
          refine (HEF.out _).mono ?_
          rintro e w5 ⟨rfl, hb5⟩
          have hS5 := hS.below hb5 hS.lt
          have hB5 := hB4.trans (hb5.mono hB4.size)
          have HM5 := Lib.hid (HM4.out.below hb5)
          have hlk5 := HM5.out.look HWF.out
          rw [HF0.out] at hlk5
          refine hK _ _ ⟨hS5, ?_⟩
          clear hK K hS hb5 HM4 hB4 hlk0
          refine wpAnyH_all (rs := [3]) (by decide +kernel) (by simp) ?_
          intro i0 hi0
          obtain rfl := List.mem_singleton.1 hi0
          refine wpOp_goE rfl rfl (fun K hK => ?_)
          go_simp
          refine hK _ _ ⟨hS5, ?_⟩
          clear hK K hlk5
        all_goals
          refine wpAnyH_all (rs := [6]) (by decide +kernel) (by simp) ?_
          intro i0 hi0
          obtain rfl := List.mem_singleton.1 hi0
          refine wpOp_goE rfl rfl (fun K hK => ?_)
          go_simp
          refine hK _ _ ⟨hS5, ?_⟩
          clear hK K
          obtain ⟨w6, hrun, hM6, hg6⟩ := HM5.out.store (by unfold maxLen; omega) (F0 + E) HWF.out
          have HM6 := Lib.hid hM6
          have hS6 : Blk w6 g 24 (enA y) := (hg6.block g hS5.lt (by simpa using hgm)).trans hS5
          have hB6 := hB5.grown hg6 hB5.size (fun k e => by cases e; exact Nat.le_refl _)
          clear hM6 hg6 hB5
          refine wpAnyH_all (rs := [7]) (by decide +kernel) (by simp) ?_
          intro i0 hi0
          obtain rfl := List.mem_singleton.1 hi0
          refine wpOp_goE rfl rfl (fun K hK => ?_)
          go_simp
          refine hK _ _ ⟨hS6, ?_⟩
          clear hK K
          refine wpAnyH_done (by decide +kernel) ?_ _
          clear hrun hS5 hS6
          go_wp2
          go_roundw
          case rel => exact ⟨k + 1, by omega, by go_num, by rw [HD.out.1, HD.out.2]; exact HM6, hB6⟩
          case measure => simp [intOf]; omega
    · obtain rfl : k = n := by omega
      have HM2 := HM.out
      rw [List.take_of_length_le (by rw [HN.out]; exact Nat.le_refl _)] at HM2
      have HKL : Hid ((Pl.dys l).length ≤ 1000) := Lib.hid (by have := (Pl.dys_spec l).2.1; have := HL.out; have := HN.out; omega)
      have HB := Lib.hid hB
      have HMM := Lib.hid HM2
      clear HM HM2 hB
      go_wp2_with fail
      refine (keys_any _ _).mono ?_
      rintro e w1 ⟨rfl, rfl⟩
      go_wp2_with fail
      refine (sortedk_any w.heap.size k _ _ HKL.out wo HMM.out).mono ?_
      rintro e w5 ⟨vs, ss, rfl, hp, hown, hb5⟩
      have HB5 := Lib.hid ((HB.out.alloc HB.out.size (.cells #[.map (some w.heap.size)] 117)).trans (hb5.mono HB.out.size))
      have HM5 : Hid (MapC w5 w.heap.size k (Pl.dys l) (fun x => Pl.ch x l)) := Lib.hid ((HMM.out.kept (grown_none ((Below.refl wo.heap.size wo).alloc (Nat.le_refl _) (.cells #[.map (some w.heap.size)] 117))) (by simp)).belowB hb5 HMM.out.lt)
      have HDS := Lib.hid (Pl.ds_sort l hp)
      obtain ⟨D, hD⟩ : ∃ D, (ss.mergeSort fun x y => decide (x ≤ y)) = D := ⟨_, rfl⟩
      have hlen : ss.length = D.length := by rw [← hD, List.length_mergeSort]
      rw [hD] at HDS hown
      obtain ⟨m, hm⟩ : ∃ m, D.length = m := ⟨_, rfl⟩
      rw [hlen, hm] at hown
      have HOS := Lib.hid hown
      have HMD := Lib.hid hm
      have hm200 : m ≤ 200 := by rw [← hm]; have := HDS.out.len; have := HL.out; have := HN.out; omega
      have HDW : Hid (∀ x, x ∈ D → (Lit.int .i64 x).wf = true) := Lib.hid (fun x hx => by
        obtain ⟨e, he, _, rfl⟩ := (HDS.out.mem x).1 hx
        have h1 := Pl.ve_iff.1 (HVb.out.each e he)
        exact WalkArith.wf_i64 (by have := h1.d0; have := h1.d1; omega))
      have HSB := Lib.hid (fun j (hj : j ≤ m) => Pl.sm_bound HVb.out.each (by rw [HN.out]; exact HL.out) HDS.out (k := j) (by rw [hm]; exact hj))
      have HSB2 := Lib.hid (fun j (hj : j < D.length) => Pl.sm_take (l := l) hj)
      have HSB3 := Lib.hid (fun j (hj : j < D.length) => HDS.out.sum hj)
      clear hp hown hb5 HB HMM hlen hm hD
      obtain ⟨As, cs, rfl, hRs⟩ := (show ∃ A c, vs = .slice A m c ∧ Rows inL 1 w5 A D from by
        have h1 := HOS.out
        rw [← HMD.out] at h1
        obtain ⟨A, c, e, h2, _, _⟩ := rows_of_owns encIn h1
        exact ⟨A, c, by rw [e, HMD.out], h2⟩)
      have HRS := Lib.hid hRs
      clear hRs HOS
      go_wp2
      go_loopw [6, 7, 9, 32] (fun v p _ i wr => ∃ j : Nat, j ≤ m ∧ i = .int .i64 j ∧ p = .int .i64 (Pl.sm l (D.take j)) ∧ Hid (wr.ownsRow w5.heap.size 38 2 v j (flt prL (Pl.run l (D.take j)))) ∧ Below w5.heap.size w5 wr) (fun _ _ _ i _ => m - (intOf i).toNat)
      case atStart => exact ⟨0, Nat.zero_le _, rfl, rfl, Lib.hid (World.ownsRow_nil _ _ _ _), Below.refl _ _⟩
      case round =>
        obtain ⟨j, hj, rfl, rfl, HO, hW⟩ := hrel
        obtain ⟨wo2, rfl⟩ : ∃ wo2, wo2 = wr := ⟨_, rfl⟩
        by_cases hlt2 : j < m
        · have hltI2 : (j : Int) < (m : Int) := by omega
          have hjx : j < D.length := by rw [HMD.out]; exact hlt2
          obtain ⟨bs, os, rfl, hbs, hcs⟩ := HRS.out.open (by omega)
          have p0 := row_cell (mk := Value.int .i64) hbs hcs hW hjx
          have hlk := (HM5.out.belowB hW HM5.out.lt).look (HDW.out _ (List.getElem_mem hjx))
          have HST := Lib.hid (Pl.run_take (l := l) hjx)
          have hb1 := HSB.out j hj
          have hb2 := HSB.out (j + 1) hlt2
          have h3 := HSB2.out j hjx
          have h4 := HSB3.out j hjx
          rw [h3] at hb2 h4
          have HS1 := Lib.hid h3
          clear hcs h3
          rw [← h4] at HST
          clear h4
          generalize D[j] = x at *
          generalize Pl.sm l (D.take j) = P at *
          generalize Pl.ch x l = C at *
          have kD : IntKind.i64.wrap (P + C) = P + C := IntWalk.i64_in _ (by omega)
          have HW := Lib.hid hW
          clear hW hb1 hb2
          go_wp2_with (at_builtin; go_loud (refine wpList_append_own _ rfl _ _ 35 rfl w5.heap.size 38 i0 _ 2 16 Try.underlying35 hi hz0 hz1 hz2 rfl (by decide) _ _ _ rfl (HO.out.alloc _) ⟨wo2.heap.size, 0, none⟩ 1 1 (prL (x, P + C)) rfl rfl (new_cells' _ _ _ rfl) (prL_one (x, P + C)) (by unfold maxLen; omega) (by omega) (HW.out.alloc HW.out.size _).size ?_; intro v5 w6 hO5 hg5 _))
          have HW5 := Lib.hid ((HW.out.alloc HW.out.size (.cells (prL (x, P + C)).toArray 38)).grown hg5 (HW.out.alloc HW.out.size _).size (fun s h => (HO.out.lt s h).1))
          have HO5 := Lib.hid hO5
          clear hO5 hg5 p0 hlk
          go_roundw
          case rel => exact ⟨j + 1, by omega, by go_num, by rw [HS1.out], Lib.hid (by rw [HST.out, flt_append, flt_one]; exact HO5.out), HW5.out⟩
          case measure => simp [intOf]; omega
        · obtain rfl : m = j := by omega
          have HO2 := HO.out
          rw [List.take_of_length_le (by rw [HMD.out]; exact Nat.le_refl _)] at HO2
          have HO3 := Lib.hid (HO2.mono HB5.out.size)
          have HW5 := Lib.hid (HB5.out.trans (hW.mono HB5.out.size))
          clear HO2
          go_wp2
          go_ret
          exact ⟨_, D, rfl, HDS.out, by rw [HMD.out]; exact HO3.out, HW5.out⟩
end Go.Proofs.Ytalfffkcmddakaa
