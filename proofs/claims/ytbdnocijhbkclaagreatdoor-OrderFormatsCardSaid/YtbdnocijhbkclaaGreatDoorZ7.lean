/- Parse of the program. -/
import Derived.Test.YtbdnocijhbkclaaGreatDoorZ6
namespace Go.Proofs.YtbdnocijhbkclaaGreatDoor
open Go.RowKit Go.Shelf Go.Sort Go.Lib

theorem read_any (s : ByteArray) (hs : s.size ≤ 100000) (w : World) (hE : Env w) : Calls Tryz.prog 18 #[.string s] w fun e w' => RdRes s w e w' := by
  by_cases h1 : 1277 < s.size
  · exact read_long s hs h1 w
  · obtain ⟨n, hn⟩ : ∃ n, (Lib.fieldsD (Pl.byt s)).length = n := ⟨_, rfl⟩
    by_cases h2 : n < 6 ∨ n % 4 ≠ 2
    · exact read_bad s (by omega) w hE n hn h2
    · exact callsIn_wide.1 (read_in s (by omega) w hE _ rfl n ((n - 6) / 4) hn (by omega))
set_option maxRecDepth 100000 in
set_option maxHeartbeats 8000000 in
theorem parse_any (s : ByteArray) (hs : s.size ≤ 100000) (w : World) (hE : Env w) : Calls Tryz.prog 9 #[.string s] w fun e w' => PRes s w e w' := by
  have z0 : fmA fm0 = #[.string ⟨#[]⟩, .int .i64 0, .string ⟨#[]⟩, .slice none 0 0] := rfl
  have hB0 := (Below.refl w.heap.size w).alloc (Nat.le_refl _) (.cells (fmA fm0) 24)
  have bZ := Blk.new w 24 (fmA fm0)
  have HR := Lib.hid (read_any s hs _ (hE.below hB0))
  have HE0 := Lib.hid (hE.below hB0)
  have HB0 := Lib.hid hB0
  have HBZ := Lib.hid bZ
  have hlZ := bZ.lt
  have hW0s : w.heap.size < (w.alloc (.cells (fmA fm0) 24)).heap.size := by simp
  clear hE hB0 bZ hs
  generalize hW0 : w.alloc (.cells (fmA fm0) 24) = W0 at *
  go_enter Tryz.func9, Tryz.ntmps9
  go_wp2_with fail
  try rw [← z0] at *
  try rw [hW0] at *
  refine HR.out.mono ?_
  rintro e w1 ⟨g, ok, rfl, hb1, hgi, hown, hok⟩
  have HB1 := Lib.hid (HB0.out.trans (hb1.mono HB0.out.size))
  have HZ1 := Lib.hid (HBZ.out.below hb1 hlZ)
  have HE1 := Lib.hid (HE0.out.below hb1)
  have hbx := (Below.refl w1.heap.size w1).alloc (Nat.le_refl _) (.cells (fmA g) 24)
  have bF := Blk.new w1 24 (fmA g)
  have HB2 := Lib.hid (HB1.out.trans (hbx.mono HB1.out.size))
  have HZ2 := Lib.hid (HZ1.out.below hbx HZ1.out.lt)
  have HE2 := Lib.hid (HE1.out.below hbx)
  have HGI2 := Lib.hid (hgi.below hbx)
  have HO2 := Lib.hid (own_keep hown hbx)
  have HF2 := Lib.hid bF
  have hlF := bF.lt
  have hr2 := bF.range
  clear HR HE0 HB0 HBZ hlZ hW0 hb1 hgi hown hbx bF HB1 HZ1 HE1
  rcases hok with ⟨rfl, rg, hrd, hgr⟩ | ⟨rfl, hg0, hno⟩
  · have HNO : Hid (¬ (Pl.Vf g ∧ Pl.txt g = Pl.byt s) → ∀ f' : Pl.Fm, Pl.Vf f' → Pl.txt f' ≠ Pl.byt s) := Lib.hid (fun hn => Pl.rg_no (g := rg) (A := g.a) (k := g.k) (fun f' hf' e' => by
      have := Pl.rdF_of f' hf' e'
      rw [hrd] at this
      exact (Option.some.inj this).symm) (by rw [← hgr]; exact hn))
    clear hrd hgr
    obtain ⟨x, hx⟩ : ∃ x, Pl.vf g = x := ⟨_, rfl⟩
    have HV := Lib.hid (vform_b g x hx _ HGI2.out)
    cases x
    · have hnv : ¬ Pl.Vf g := fun h => by rw [Pl.vf_true.2 h] at hx; cases hx
      have HN := Lib.hid (HNO.out (fun h => hnv h.1))
      clear hx hnv
      generalize hW2 : w1.alloc (.cells (fmA g) 24) = W2 at *
      go_wp2_with (refine ldm_fm (s := g) hr2 rfl _ rfl rfl ?_)
      refine HV.out.mono ?_
      rintro e w3 ⟨rfl, hb3⟩
      have hZ3 := HZ2.out.below hb3 HZ2.out.lt
      have HB3 := Lib.hid (HB2.out.trans (hb3.mono HB2.out.size))
      clear hb3 hW2
      go_wp2_with (refine st_fm (k := fm0) hZ3 rfl rfl _ _ rfl rfl rfl ?_; intro w9 hM9 hO9)
      have hB9 := HB3.out.trans (hO9.below (B := w.heap.size) (Nat.le_refl _))
      have HR := Lib.hid (PRes.no hB9 HN.out)
      exact bodyPost_ret (v := .tuple #[.agg (fmA fm0), .int .i64 3]) (results_cell2 Tryz.results9 _ _ w.heap.size 24 (fmA fm0) (0, 0) _ rfl hM9 _ rfl Tryz.underlying24 rfl infoFm) rfl HR.out
    · have HVG := Lib.hid (Pl.vf_true.1 hx)
      have HW := Lib.hid (fun W (hb : Below _ _ W) => written_any g HVG.out W (HE2.out.below hb) (HGI2.out.rows.below hb))
      obtain ⟨T, hT⟩ : ∃ T, Pl.txt g = T := ⟨_, rfl⟩
      have HT := Lib.hid hT
      rw [hT] at HW
      clear hx hT
      generalize hW2 : w1.alloc (.cells (fmA g) 24) = W2 at *
      go_wp2_with (refine ldm_fm (s := g) hr2 rfl _ rfl rfl ?_)
      refine HV.out.mono ?_
      rintro e w3 ⟨rfl, hb3⟩
      have HW3 := Lib.hid (HW.out w3 hb3)
      have HZ3 := Lib.hid (HZ2.out.below hb3 HZ2.out.lt)
      have HF3 := Lib.hid (HF2.out.below hb3 hlF)
      have HB3 := Lib.hid (HB2.out.trans (hb3.mono HB2.out.size))
      have HGI3 := Lib.hid (HGI2.out.below hb3)
      have HO3 := Lib.hid (own_keep HO2.out hb3)
      have hr3 := HF3.out.range
      clear hb3 hW2 HW HV HZ2 HF2 HB2 HGI2 hr2
      go_wp2_with (refine ldm_fm (s := g) hr3 rfl _ rfl rfl ?_)
      refine HW3.out.mono ?_
      rintro e w4 ⟨rfl, hb4⟩
      have hZ4 := HZ3.out.below hb4 HZ3.out.lt
      have hF4 := HF3.out.below hb4 HF3.out.lt
      have HB4 := Lib.hid (HB3.out.trans (hb4.mono HB3.out.size))
      have HGI4 := Lib.hid (HGI3.out.below hb4)
      have HO4 := Lib.hid (own_keep HO3.out hb4)
      have hr4 := hF4.range
      clear hb4 hr3 HW3 HZ3 HF3 HB3 HGI3
      by_cases hst : (⟨T.toArray⟩ : ByteArray) = s
      · have hse : (T == s.toList) = true := by rw [← hst]; simp
        have HYES : Hid (Pl.txt g = Pl.byt s) := Lib.hid (by rw [HT.out, ← hst]; unfold Pl.byt; simp)
        clear hst
        go_wp2_with (first | refine ldm_fm (s := g) hr4 rfl _ rfl rfl ?_ | (refine st_fm (k := g) hZ4 rfl rfl _ _ rfl rfl rfl ?_; intro w9 hM9 hO9))
        have hB9 := HB4.out.trans (hO9.below (B := w.heap.size) (Nat.le_refl _))
        have hR9 : FmIn w9 g := by
          have hgb : w4.grownBy w9 (some w.heap.size) := ⟨hO9.os, hO9.tape, hO9.output, by rw [hO9.size]; exact Nat.le_refl _, fun k hk hne => hO9.block k (fun e => hne (by rw [e]))⟩
          have h9 := HO4.out.kept hgb (.inr (fun h => by have := (HO4.out.lt _ h).1; omega))
          obtain ⟨A4, k4, e4, hr4, _, _⟩ := rows_of_owns encLn h9
          cases e4
          have h5 := HGI4.out
          exact ⟨hr4, h5.cap, h5.top, h5.each, h5.cus, h5.cur⟩
        have HR := Lib.hid (PRes.yes hB9 hR9 HVG.out HYES.out)
        exact bodyPost_ret (v := .tuple #[.agg (fmA g), .int .i64 0]) (results_cell2 Tryz.results9 _ _ w.heap.size 24 (fmA g) (0, 0) _ rfl hM9 _ rfl Tryz.underlying24 rfl infoFm) rfl HR.out
      · have hse : (T == s.toList) = false := by
          rw [beq_eq_false_iff_ne]
          intro e
          apply hst
          have h1 := bs_eq (⟨T.toArray⟩ : ByteArray) s
          have e2 : (⟨T.toArray⟩ : ByteArray).toList = T := by simp
          have e3 : (T == s.toList) = true := by rw [e]; simp
          rw [e2, e3] at h1
          exact of_decide_eq_true h1.symm
        have HN := Lib.hid (HNO.out (fun h => hst (by rw [← HT.out, h.2, Pl.byt_back])))
        clear hst
        go_wp2_with (refine st_fm (k := fm0) hZ4 rfl rfl _ _ rfl rfl rfl ?_; intro w9 hM9 hO9)
        have hB9 := HB4.out.trans (hO9.below (B := w.heap.size) (Nat.le_refl _))
        have HR := Lib.hid (PRes.no hB9 HN.out)
        exact bodyPost_ret (v := .tuple #[.agg (fmA fm0), .int .i64 3]) (results_cell2 Tryz.results9 _ _ w.heap.size 24 (fmA fm0) (0, 0) _ rfl hM9 _ rfl Tryz.underlying24 rfl infoFm) rfl HR.out
  · have HN := Lib.hid hno
    clear hno hg0
    generalize hW2 : w1.alloc (.cells (fmA g) 24) = W2 at *
    go_wp2_with (refine st_fm (k := fm0) HZ2.out rfl rfl _ _ rfl rfl rfl ?_; intro w9 hM9 hO9)
    have hB9 := HB2.out.trans (hO9.below (B := w.heap.size) (Nat.le_refl _))
    have HR := Lib.hid (PRes.no hB9 HN.out)
    exact bodyPost_ret (v := .tuple #[.agg (fmA fm0), .int .i64 3]) (results_cell2 Tryz.results9 _ _ w.heap.size 24 (fmA fm0) (0, 0) _ rfl hM9 _ rfl Tryz.underlying24 rfl infoFm) rfl HR.out
end Go.Proofs.YtbdnocijhbkclaaGreatDoor
