/- Running of the program and of the document. -/
import Derived.Test.YtalfffkcmddakaaK2
import Derived.Test.YtalfffkcmddakaaE5
import Derived.Test.YtalfffkcmddakaaQ4
namespace Go.Proofs.Ytalfffkcmddakaa
open Go.RowKit Go.Shelf

set_option maxRecDepth 100000 in
set_option maxHeartbeats 4000000 in
theorem running2_b (A : Option Addr) (l : List Pl.En) (c n : Nat) (hn : l.length = n) (hm : n ≤ maxLen) (w : World) (hI : Rows enL 4 w A l) :
    Calls Try.prog 23 #[.slice A n c] w fun e w' => ∃ v D, e = .returned (.tuple #[v, .int .i64 (Pl.ruE l)]) ∧ (Pl.ruE l = 0 → Pl.Vb l ∧ Pl.IsDs l D) ∧ (Pl.ruE l ≠ 0 → D = []) ∧ w'.ownsRow w.heap.size 38 2 v D.length (flt prL (Pl.run l D)) ∧ Below w.heap.size w w' := by
  obtain ⟨y, hy⟩ : ∃ y, Pl.vB l = y := ⟨_, rfl⟩
  have HV := Lib.hid (valid_any A l c n hn hm y hy w hI)
  cases y
  · have H1 : Pl.ruE l = 90 := by unfold Pl.ruE; rw [hy]; rfl
    rw [H1]
    clear hy hI hn H1
    go_enter Try.func23, Try.ntmps23
    go_wp2_with fail
    refine HV.out.mono ?_
    rintro e w1 ⟨rfl, hb⟩
    go_wp2
    go_ret2
    exact ⟨_, [], rfl, (fun h => by omega), (fun _ => rfl), World.ownsRow_nil _ _ _ _, hb⟩
  · have H1 : Pl.ruE l = 0 := by unfold Pl.ruE; rw [hy]; rfl
    rw [H1]
    have HVb := Lib.hid (Pl.vb_iff.1 hy)
    have HI := Lib.hid hI
    have HN := Lib.hid hn
    clear hy hI hn H1
    go_enter Try.func23, Try.ntmps23
    go_wp2_with fail
    refine HV.out.mono ?_
    rintro e w1 ⟨rfl, hb⟩
    go_wp2_with fail
    refine (running_b A l c n HN.out HVb.out w1 (HI.out.below hb)).mono ?_
    rintro e w2 ⟨v, D, rfl, hD, hown, hb2⟩
    have HD := Lib.hid hD
    have HO := Lib.hid (hown.mono hb.size)
    have hB2 := hb.trans (hb2.mono hb.size)
    clear hown hb2 hb hD
    go_wp2
    go_ret2
    exact ⟨_, D, rfl, (fun _ => ⟨HVb.out, HD.out⟩), (fun h => absurd rfl h), HO.out, hB2⟩
set_option maxRecDepth 100000 in
set_option maxHeartbeats 16000000 in
theorem drunning2_b (A : Option Addr) (l : List Pl.En) (c n : Nat) (hn : l.length = n) (hnc : n ≤ c) (hm : n ≤ maxLen) (w : World) (hI : Rows enL 4 w A l) :
    Calls Try.prog 24 #[.slice A n c] w fun e w' => ∃ v D, e = .returned (.tuple #[v, .int .i64 (Pl.ruE l)]) ∧ (Pl.ruE l = 0 → Pl.Vb l ∧ Pl.IsDs l D) ∧ (Pl.ruE l ≠ 0 → D = []) ∧ w'.ownsRow w.heap.size 38 2 v D.length (flt prL (Pl.run l D)) ∧ Below w.heap.size w w' := by
  obtain ⟨y, hy⟩ : ∃ y, Pl.vB l = y := ⟨_, rfl⟩
  have HV := Lib.hid (dvalid_any A l c n hn hnc hm y hy w hI)
  cases y
  · have H1 : Pl.ruE l = 90 := by unfold Pl.ruE; rw [hy]; rfl
    rw [H1]
    clear hy hI hn H1
    go_enter Try.func24, Try.ntmps24
    go_wp2_with fail
    refine HV.out.mono ?_
    rintro e w1 ⟨rfl, hb⟩
    go_wp2
    go_ret2
    exact ⟨_, [], rfl, (fun h => by omega), (fun _ => rfl), World.ownsRow_nil _ _ _ _, hb⟩
  · have H1 : Pl.ruE l = 0 := by unfold Pl.ruE; rw [hy]; rfl
    rw [H1]
    have HVb := Lib.hid (Pl.vb_iff.1 hy)
    have HI := Lib.hid hI
    have HN := Lib.hid hn
    have HL : Hid (n ≤ 200) := Lib.hid (by rw [← hn]; exact HVb.out.len)
    obtain ⟨i0, hi, hz0, hz1, hz2⟩ := info_parts infoPr3
    clear hy hI hn H1
    go_enter Try.func24, Try.ntmps24
    go_wp2_with fail
    refine HV.out.mono ?_
    rintro e w1 ⟨rfl, hb⟩
    have HB1 := Lib.hid hb
    clear hb HV
    go_wp2
    go_loopw [4, 5, 6] (fun v q _ wr => ∃ (last : Int) (D : List Int), q = .int .i64 last ∧ -1 ≤ last ∧ last ≤ 100000 ∧ Hid (Pl.Upto l last D) ∧ Hid (wr.ownsRow w.heap.size 38 2 v D.length (flt prL (Pl.run l D))) ∧ Below w.heap.size w wr) (fun _ q _ _ => (100001 - intOf q).toNat)
    case atStart => exact ⟨-1, [], rfl, by omega, by omega, Lib.hid (Pl.Upto.start HVb.out.each), Lib.hid (World.ownsRow_nil _ _ _ _), HB1.out⟩
    case round =>
      obtain ⟨last, D, rfl, hl1, hl2, HU, HO, hW⟩ := hrel
      obtain ⟨wo, rfl⟩ : ∃ wo, wo = wr := ⟨_, rfl⟩
      go_wp2
      go_loopw [6, 14] (fun s i wr => ∃ k : Nat, k ≤ n ∧ i = .int .i64 k ∧ s = .int .i64 (Pl.mnx last (l.take k)) ∧ Below wo.heap.size wo wr) (fun _ i _ => n - (intOf i).toNat)
      case atStart => exact ⟨0, Nat.zero_le _, rfl, rfl, Below.refl _ _⟩
      case round =>
        obtain ⟨k, hk, rfl, rfl, hV⟩ := hrel
        obtain ⟨wi, rfl⟩ : ∃ wi, wi = wr := ⟨_, rfl⟩
        by_cases hlt : k < n
        · have hltI : (k : Int) < (n : Int) := by omega
          have hn200 : n ≤ 200 := HL.out
          have hkx : k < l.length := by rw [HN.out]; exact hlt
          obtain ⟨bx, ox, rfl, hbx, hcx⟩ := HI.out.open (by omega)
          have hr := row_at hbx hcx (hW.trans (hV.mono hW.size)) hkx
          have HST := Lib.hid (Pl.mnx_take (last := last) hkx)
          clear hcx
          generalize l[k] = y at *
          generalize Pl.mnx last (l.take k) = M at *
          have bz := Blk.new wi 24 zen
          have HBz := Lib.hid ((Below.refl wi.heap.size wi).alloc (Nat.le_refl _) (.cells zen 24))
          have HV := Lib.hid hV
          have HW := Lib.hid hW
          clear hkx hV hW
          rcases (show y.k = 4 ∨ (y.k ≠ 4 ∧ ¬ last < y.d) ∨ (y.k ≠ 4 ∧ last < y.d) by omega) with h1 | ⟨h1, h2⟩ | ⟨h1, h2⟩
          · have e4 : (y.k != 4) = false := by simp [h1]
            have HN2 : Hid (Pl.mnx last (l.take (k + 1)) = M) := Lib.hid (by rw [HST.out, if_neg (fun h => h.1 h1)])
            clear HST h1
            go_wp2_with (first
              | (have h9 := bz
                 refine st_en (k := y) bz rfl rfl _ _ rfl rfl rfl ?_
                 clear h9
                 intro w3 bY hO3
                 have hb3 : Below wi.heap.size wi w3 := HBz.out.trans (hO3.below (Nat.le_refl _))
                 have p0 := bY.cell 0
                 have p2 := bY.cell 2
                 have HV3 := Lib.hid (HV.out.trans (hb3.mono HV.out.size))
                 clear bz hO3 hb3 bY hr)
              | (have h9 := hr
                 refine ldm_en hr rfl _ rfl rfl ?_
                 clear h9))
            clear p0 p2
            go_roundw
            case rel => exact ⟨k + 1, by omega, by go_num, by rw [HN2.out], HV3.out⟩
            case measure => simp [intOf]; omega
          · have e4 : (y.k != 4) = true := by simp [h1]
            have HN2 : Hid (Pl.mnx last (l.take (k + 1)) = M) := Lib.hid (by rw [HST.out, if_neg (fun h => h2 h.2)])
            clear HST h1
            go_wp2_with (first
              | (have h9 := bz
                 refine st_en (k := y) bz rfl rfl _ _ rfl rfl rfl ?_
                 clear h9
                 intro w3 bY hO3
                 have hb3 : Below wi.heap.size wi w3 := HBz.out.trans (hO3.below (Nat.le_refl _))
                 have p0 := bY.cell 0
                 have p2 := bY.cell 2
                 have HV3 := Lib.hid (HV.out.trans (hb3.mono HV.out.size))
                 clear bz hO3 hb3 bY hr)
              | (have h9 := hr
                 refine ldm_en hr rfl _ rfl rfl ?_
                 clear h9))
            clear p0 p2
            go_roundw
            case rel => exact ⟨k + 1, by omega, by go_num, by rw [HN2.out], HV3.out⟩
            case measure => simp [intOf]; omega
          · have e4 : (y.k != 4) = true := by simp [h1]
            have HN2 : Hid (Pl.mnx last (l.take (k + 1)) = min M y.d) := Lib.hid (by rw [HST.out, if_pos ⟨h1, h2⟩]; split <;> omega)
            clear HST h1
            go_wp2_with (first
              | (have h9 := bz
                 refine st_en (k := y) bz rfl rfl _ _ rfl rfl rfl ?_
                 clear h9
                 intro w3 bY hO3
                 have hb3 : Below wi.heap.size wi w3 := HBz.out.trans (hO3.below (Nat.le_refl _))
                 have p0 := bY.cell 0
                 have p2 := bY.cell 2
                 have HV3 := Lib.hid (HV.out.trans (hb3.mono HV.out.size))
                 clear bz hO3 hb3 bY hr)
              | (have h9 := hr
                 refine ldm_en hr rfl _ rfl rfl ?_
                 clear h9))
            clear p0 p2
            go_roundw
            case rel => exact ⟨k + 1, by omega, by go_num, by rw [HN2.out], HV3.out⟩
            case measure => simp [intOf]; omega
        · obtain rfl : k = n := by omega
          have HM : Hid (Pl.mnx last (l.take k) = Pl.mnx last l) := Lib.hid (by rw [List.take_of_length_le (by rw [HN.out]; exact Nat.le_refl _)])
          rw [HM.out]
          have HMS := Lib.hid (Pl.mnx_spec last l)
          have HNX := Lib.hid (fun h => HU.out.next h)
          have HDN := Lib.hid (fun h => HU.out.done HVb.out.each h)
          have HDL : Hid (D.length ≤ 200) := Lib.hid (by have := HU.out.len; have := HL.out; have := HN.out; omega)
          have HO1 := Lib.hid (own_keep HO.out hV)
          have HW1 := Lib.hid (hW.trans (hV.mono hW.size))
          have hm1 := HMS.out.1
          clear HM HMS hV hW HO HU
          generalize Pl.mnx last l = M at *
          by_cases hM : M ≤ 100000
          · have HNX2 := Lib.hid (HNX.out hM)
            have hlm := HNX2.out.2
            obtain ⟨P, hP⟩ : ∃ P, Pl.bal M l = P := ⟨_, rfl⟩
            have HBA := Lib.hid (fun W (h : Below w.heap.size w W) => dbalance_b A l c k HN.out HL.out HVb.out.each M P hP W (HI.out.below h))
            have HRS := Lib.hid (Pl.run_snoc l D M)
            rw [hP] at HRS
            clear hP HNX HDN hm1
            go_wp2_with fail
            refine (HBA.out _ HW1.out).mono ?_
            rintro e w4 ⟨rfl, hb4⟩
            have HO4 := Lib.hid (own_keep HO1.out hb4)
            have HW4 := Lib.hid (HW1.out.trans (hb4.mono HW1.out.size))
            clear hb4 HO1 HW1
            go_wp2_with (at_builtin; go_loud (refine wpList_append_own _ rfl _ _ 35 rfl w.heap.size 38 i0 _ 2 16 Try.underlying35 hi hz0 hz1 hz2 rfl (by decide) _ _ _ rfl (HO4.out.alloc _) ⟨w4.heap.size, 0, none⟩ 1 1 (prL (M, P)) rfl rfl (new_cells' _ _ _ rfl) (prL_one (M, P)) (by unfold maxLen; have := HDL.out; omega) (by have := HDL.out; omega) (HW4.out.alloc HW4.out.size _).size ?_; intro v5 w6 hO5 hg5 _))
            have HW5 := Lib.hid ((HW4.out.alloc HW4.out.size (.cells (prL (M, P)).toArray 38)).grown hg5 (HW4.out.alloc HW4.out.size _).size (fun s h => (HO4.out.lt s h).1))
            have HO5 := Lib.hid hO5
            clear hO5 hg5
            go_roundw
            case rel => exact ⟨M, D ++ [M], rfl, by omega, hM, Lib.hid HNX2.out.1, Lib.hid (by rw [HRS.out, flt_append, flt_one, List.length_append]; exact HO5.out), HW5.out⟩
            case measure => simp [intOf]; omega
          · have HDS := Lib.hid (HDN.out hM)
            have hM2 : 100000 < M := by omega
            clear HDN HNX hm1 hM
            go_wp2
            go_ret2
            exact ⟨_, D, rfl, (fun _ => ⟨HVb.out, HDS.out⟩), (fun h => absurd rfl h), HO1.out, HW1.out⟩
end Go.Proofs.Ytalfffkcmddakaa
