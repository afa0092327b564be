/- differences and Compare of the program. -/
import Derived.Test.YtalfffkcmddakaaS2
import Derived.Test.YtalfffkcmddakaaE7
namespace Go.Proofs.Ytalfffkcmddakaa
open Go.RowKit Go.Shelf Go.Sort Go.Lib

theorem MapE.belowB {W W' : World} {b n B : Nat} {S : List Pl.En} (h : MapE W b n S) (hb : Below B W W') (hB : b < B) : MapE W' b n S := by
  obtain ⟨D, h1, h2⟩ := h
  refine ⟨D, ?_, h2⟩
  obtain ⟨es, clock, hb', Ft, hs, hD⟩ := h1
  exact ⟨es, clock, (hb.block b hB).trans hb', Ft, hs, hD⟩
/-- what a round of differences reads, and the list that it owns -/
structure DS (g : Nat) (e : Pl.En) (b1 n1 b2 n2 : Nat) (a b : List Pl.En) (B : Nat) (v : Value) (n : Nat) (X : List Value) (W : World) : Prop where
  blk : Blk W g 24 (enA e)
  ma : MapE W b1 n1 a
  mb : MapE W b2 n2 b
  own : W.ownsRow B 61 9 v n X
section
variable {g b1 n1 b2 n2 B n : Nat} {e : Pl.En} {a b : List Pl.En} {v : Value} {X : List Value} {W W' : World}
theorem DS.below (h : DS g e b1 n1 b2 n2 a b B v n X W) (hb : Below W.heap.size W W') : DS g e b1 n1 b2 n2 a b B v n X W' :=
  ⟨h.blk.below hb h.blk.lt, h.ma.below hb, h.mb.below hb, own_keep h.own hb⟩
theorem DS.alloc (h : DS g e b1 n1 b2 n2 a b B v n X W) (o : Obj) : DS g e b1 n1 b2 n2 a b B v n X (W.alloc o) := h.below ((Below.refl _ _).alloc (Nat.le_refl _) o)
/-- block d is none of these -/
structure Far (g b1 b2 : Nat) (v : Value) (d : Nat) : Prop where
  g : g ≠ d
  a : b1 ≠ d
  b : b2 ≠ d
  v : v.ownBlock ≠ some d
theorem DS.far (h : DS g e b1 n1 b2 n2 a b B v n X W) : Far g b1 b2 v W.heap.size :=
  ⟨Nat.ne_of_lt h.blk.lt, Nat.ne_of_lt h.ma.lt, Nat.ne_of_lt h.mb.lt, fun k => by have := (h.own.lt _ k).2; omega⟩
theorem grown_only {d : Nat} (h : Only d W W') : W.grownBy W' (some d) := ⟨h.os, h.tape, h.output, by rw [h.size]; exact Nat.le_refl _, fun k _ hk => h.block k (fun e => hk (by rw [e]))⟩
theorem DS.only {d : Nat} (h : DS g e b1 n1 b2 n2 a b B v n X W) (f : Far g b1 b2 v d) (hO : Only d W W') : DS g e b1 n1 b2 n2 a b B v n X W' :=
  ⟨(hO.block g f.g).trans h.blk, h.ma.grown (grown_only hO) (fun e => f.a (by cases e; rfl)), h.mb.grown (grown_only hO) (fun e => f.b (by cases e; rfl)), h.own.kept (grown_only hO) (.inr f.v)⟩
end
theorem ok_gm {a b : List Pl.En} (ha : Pl.Vb a) (hb : Pl.Vb b) : Pl.Ok (Pl.gm (a ++ b)) where
  len := by
    have := (Pl.gm_len (a ++ b)).1
    rw [List.length_append] at this
    have := ha.len; have := hb.len; omega
  k e he := by
    have h1 : e ∈ Pl.al a b := Pl.srt_mem.2 he
    exact (Pl.ve_iff.1 (Pl.al_each ha hb h1)).k4
  dif := Pl.gm_nodup _
set_option maxRecDepth 100000 in
set_option maxHeartbeats 32000000 in
theorem differences_b (A1 A2 : Option Addr) (a b : List Pl.En) (n1 c1 n2 c2 : Nat) (hn1 : a.length = n1) (hn2 : b.length = n2) (hx1 : A1 = none → c1 = 0) (hx2 : A2 = none → c2 = 0) (ha : Pl.Vb a) (hb : Pl.Vb b) (w : World) (hI1 : Rows enL 4 w A1 a) (hI2 : Rows enL 4 w A2 b) :
    Calls Try.prog 69 #[.slice A1 n1 c1, .slice A2 n2 c2] w fun e w' => ∃ v, e = .returned v ∧ w'.ownsRow w.heap.size 61 9 v (Pl.dif a b).length (flt dfL (Pl.dif a b)) ∧ Below w.heap.size w w' := by
  have HI1 := Lib.hid hI1
  have HI2 := Lib.hid hI2
  have HN1 := Lib.hid hn1
  have HN2 := Lib.hid hn2
  have HX1 := Lib.hid hx1
  have HX2 := Lib.hid hx2
  have HA := Lib.hid ha
  have HBb := Lib.hid hb
  have hl1 : n1 ≤ 200 := by rw [← hn1]; exact ha.len
  have hl2 : n2 ≤ 200 := by rw [← hn2]; exact hb.len
  obtain ⟨i0, hi, hz0, hz1, hz2⟩ := info_parts infoDf3
  clear hI1 hI2 hn1 hn2 hx1 hx2 ha hb
  go_enter Try.func69, Try.ntmps69
  go_wp2_with fail
  refine (byname_any A1 a c1 n1 HN1.out (by omega) (fun e he => okN_ve (HA.out.each e he)) w HI1.out).mono ?_
  rintro e w1 ⟨rfl, hM1, hb1⟩
  rw [Pl.gm_id HA.out.dif] at hM1
  obtain ⟨bm1, hbm1⟩ : ∃ q, w.heap.size = q := ⟨_, rfl⟩
  rw [hbm1] at hM1 ⊢
  have HM1 := Lib.hid hM1
  have HB1 := Lib.hid hb1
  have HI2' := Lib.hid (HI2.out.below hb1)
  clear hM1 hb1
  go_wp2_with fail
  refine (byname_any A2 b c2 n2 HN2.out (by omega) (fun e he => okN_ve (HBb.out.each e he)) w1 HI2'.out).mono ?_
  rintro e w2 ⟨rfl, hM2, hb2⟩
  rw [Pl.gm_id HBb.out.dif] at hM2
  obtain ⟨bm2, hbm2⟩ : ∃ q, w1.heap.size = q := ⟨_, rfl⟩
  rw [hbm2] at hM2 ⊢
  have HM2 := Lib.hid hM2
  have HM1' := Lib.hid (HM1.out.below hb2)
  have HB2 := Lib.hid (HB1.out.trans (hb2.mono HB1.out.size))
  clear hM2 hb2 HM1 HB1 HI2'
  have HB3 := Lib.hid (HB2.out.alloc HB2.out.size (.cells #[.slice A1 n1 c1, .slice A2 n2 c2] 22))
  have bC := Blk.new w2 22 #[.slice A1 n1 c1, .slice A2 n2 c2]
  have HCC := Lib.hid (concat2_e A1 A2 a b n1 c1 n2 c2 HN1.out HN2.out (by omega) (by omega) HX1.out HX2.out _ w2.heap.size bC.lt (bC.cell 0) (bC.cell 1) (HI1.out.below HB3.out) (HI2.out.below HB3.out))
  have hba := (Below.refl w2.heap.size w2).alloc (Nat.le_refl _) (.cells #[.slice A1 n1 c1, .slice A2 n2 c2] 22)
  have HM1a := Lib.hid (HM1'.out.below hba)
  have HM2a := Lib.hid (HM2.out.below hba)
  clear bC hba HM1' HM2
  go_wp2_with fail
  refine HCC.out.mono ?_
  rintro e w3 ⟨v3, rfl, hO3, hb3⟩
  have hln : (a ++ b).length = n1 + n2 := by rw [List.length_append, HN1.out, HN2.out]
  obtain ⟨A3, c3, rfl, hR3, _, _, _⟩ := rows_own2 hln hO3
  have HB4 := Lib.hid (HB3.out.trans (hb3.mono HB3.out.size))
  have HM1b := Lib.hid (HM1a.out.below hb3)
  have HM2b := Lib.hid (HM2a.out.below hb3)
  have HR3 := Lib.hid hR3
  have HLN := Lib.hid hln
  clear hO3 hb3 hR3 hln HM1a HM2a HCC HB3 HB2
  go_wp2_with fail
  refine (byname_any A3 (a ++ b) c3 (n1 + n2) HLN.out (by omega) (fun e he => okN_ve ((List.mem_append.1 he).elim (HA.out.each e) (HBb.out.each e))) w3 HR3.out).mono ?_
  rintro e w4 ⟨rfl, hM4, hb4⟩
  obtain ⟨bm3, hbm3⟩ : ∃ q, w3.heap.size = q := ⟨_, rfl⟩
  rw [hbm3] at hM4 ⊢
  have HM4 := Lib.hid hM4
  have HB5 := Lib.hid (HB4.out.trans (hb4.mono HB4.out.size))
  have HM1c := Lib.hid (HM1b.out.below hb4)
  have HM2c := Lib.hid (HM2b.out.below hb4)
  clear hM4 hb4 HM1b HM2b HR3 HB4
  go_wp2_with fail
  refine (sorted_any bm3 (n1 + n2) (Pl.gm (a ++ b)) (ok_gm HA.out HBb.out) w4 HM4.out).mono ?_
  rintro e w5 ⟨v5, rfl, hO5, hb5⟩
  have HB6 := Lib.hid (HB5.out.trans (hb5.mono HB5.out.size))
  have HM1d := Lib.hid (HM1c.out.below hb5)
  have HM2d := Lib.hid (HM2c.out.below hb5)
  obtain ⟨E, hE⟩ : ∃ E, Pl.al a b = E := ⟨_, rfl⟩
  rw [show Pl.srt (Pl.gm (a ++ b)) = E from hE] at hO5
  obtain ⟨m, hm⟩ : ∃ m, (Pl.gm (a ++ b)).length = m := ⟨_, rfl⟩
  have hEm : E.length = m := by rw [← hE, ← hm]; unfold Pl.al; exact Pl.srt_len _
  rw [hm] at hO5
  obtain ⟨A5, c5, rfl, hR5, _, _, _⟩ := rows_own2 hEm hO5
  have HR5 := Lib.hid hR5
  have HEM := Lib.hid hEm
  have hm400 : m ≤ 400 := by
    have := Pl.al_len a b
    rw [hE, hEm, HN1.out, HN2.out] at this
    omega
  have HOK : Hid (∀ x, x ∈ E → OkN (Pl.nm x)) := Lib.hid (fun x hx => okN_ve (Pl.al_each HA.out HBb.out (by rw [hE]; exact hx)))
  have HDF : Hid (Pl.dif a b = Pl.difl a b E) := Lib.hid (by unfold Pl.dif; rw [hE])
  clear hO5 hb5 hR5 hEm hm hE HM1c HM2c HM4 HB5 HLN
  subst hbm1
  clear hbm2 hbm3 HI1 HI2 HX1 HX2
  go_wp2
  go_loopw [7, 22] (fun v i wr => ∃ (k : Nat) (lv : Value), k ≤ m ∧ lv = v ∧ i = .int .i64 k ∧ Hid (wr.ownsRow w5.heap.size 61 9 lv (Pl.difl a b (E.take k)).length (flt dfL (Pl.difl a b (E.take k)))) ∧ Below w5.heap.size w5 wr) (fun _ i _ => m - (intOf i).toNat)
  case atStart => exact ⟨0, _, Nat.zero_le _, rfl, rfl, Lib.hid (World.ownsRow_nil _ _ _ _), Below.refl _ _⟩
  case round =>
    obtain ⟨k, lv, hk, rfl, rfl, HO, hW⟩ := hrel
    obtain ⟨wo, rfl⟩ : ∃ wo, wo = wr := ⟨_, rfl⟩
    by_cases hlt : k < m
    · have hltI : (k : Int) < (m : Int) := by omega
      have hkx : k < E.length := by rw [HEM.out]; exact hlt
      obtain ⟨bx, ox, rfl, hbx, hcx⟩ := HR5.out.open (by omega)
      have hr := row_at hbx hcx hW hkx
      have HKx := Lib.hid (HOK.out _ (List.getElem_mem hkx))
      have HD := Lib.hid (Pl.difl_take (a := a) (b := b) hkx)
      have HDL : Hid ((Pl.difl a b (E.take k)).length ≤ 400) := Lib.hid (by have := Pl.difl_take_len a b E k; omega)
      clear hcx
      generalize E[k] = x at *
      generalize Pl.difl a b (E.take k) = X at *
      have HMA := Lib.hid (HM1d.out.belowB hW HM1d.out.lt)
      have HMB := Lib.hid (HM2d.out.belowB hW HM2d.out.lt)
      have HL1 : Hid (∀ W, MapE W w.heap.size n1 a → (Instr.lookup 70 (.map (some w.heap.size)) (.agg (nmA (Pl.nm x))) false).run Try.prog W = .ok (.agg (enA (Pl.gt a (Pl.nm x)))) W) := Lib.hid (fun W h => h.look HKx.out)
      have HL2 : Hid (∀ W, MapE W bm2 n2 b → (Instr.lookup 70 (.map (some bm2)) (.agg (nmA (Pl.nm x))) false).run Try.prog W = .ok (.agg (enA (Pl.gt b (Pl.nm x)))) W) := Lib.hid (fun W h => h.look HKx.out)
      generalize Pl.gt a (Pl.nm x) = M at *
      generalize Pl.gt b (Pl.nm x) = T at *
      have bz := Blk.new wo 24 zen
      have HBz := Lib.hid ((Below.refl wo.heap.size wo).alloc (Nat.le_refl _) (.cells zen 24))
      have HW := Lib.hid hW
      clear hW hkx
      go_wp2_with (first
        | (have h9 := bz
           refine st_en (k := x) bz rfl rfl _ _ rfl rfl rfl ?_
           clear h9
           intro w6 bY hO6
           have hb6 : Below wo.heap.size wo w6 := HBz.out.trans (hO6.below (Nat.le_refl _))
           have hS : DS wo.heap.size x w.heap.size n1 bm2 n2 a b w5.heap.size lv X.length (flt dfL X) w6 := ⟨bY, HMA.out.below hb6, HMB.out.below hb6, own_keep HO.out hb6⟩
           have HW6 := Lib.hid (HW.out.trans (hb6.mono HW.out.size))
           clear bz hO6 hb6 bY hr)
        | (have h9 := hr
           refine ldm_en hr rfl _ rfl rfl ?_
           clear h9))
      clear HMA HMB HBz HO HW
      generalize wo.heap.size = g at *
      refine wp_region_held (S := DS g x w.heap.size n1 bm2 n2 a b w5.heap.size lv X.length (flt dfL X)) (by kernel_rfl) ?_
      change wpAnyH _ _ _ _ _ _ _ _ (World.drew _)
      have hSd : DS g x w.heap.size n1 bm2 n2 a b w5.heap.size lv X.length (flt dfL X) w6.drew := hS.below (Below.refl _ _).drew
      have HWd : Hid (Below w5.heap.size w5 w6.drew) := Lib.hid HW6.out.drew
      clear hS HW6
      generalize w6.drew = W0 at *
      refine wpAnyH_take (i := 0) (v := ?_) rfl (by kernel_rfl) (by decide +kernel) (by decide +kernel) (fun _ _ _ h => h) (Or.inl ⟨by rfl, ?_⟩) hSd ?_
      rotate_left
      · intro w' hS; have l1 := HL1.out w' hS.ma; have l2 := HL2.out w' hS.mb; have e0 := hS.blk.cell 0; have e1 := hS.blk.cell 1; have e2 := hS.blk.cell 2; have e3 := hS.blk.cell 3; first | (go_simp; done) | (go_simp; with_reducible rfl)
      refine wpAnyH_take (i := 1) (v := ?_) rfl (by kernel_rfl) (by decide +kernel) (by decide +kernel) (fun _ _ _ h => h) (Or.inl ⟨by rfl, ?_⟩) hSd ?_
      rotate_left
      · intro w' hS; have l1 := HL1.out w' hS.ma; have l2 := HL2.out w' hS.mb; have e0 := hS.blk.cell 0; have e1 := hS.blk.cell 1; have e2 := hS.blk.cell 2; have e3 := hS.blk.cell 3; first | (go_simp; done) | (go_simp; with_reducible rfl)
      refine wpAnyH_take (i := 4) (v := ?_) rfl (by kernel_rfl) (by decide +kernel) (by decide +kernel) (fun _ _ _ h => h) (Or.inl ⟨by rfl, ?_⟩) hSd ?_
      rotate_left
      · intro w' hS; have l1 := HL1.out w' hS.ma; have l2 := HL2.out w' hS.mb; have e0 := hS.blk.cell 0; have e1 := hS.blk.cell 1; have e2 := hS.blk.cell 2; have e3 := hS.blk.cell 3; first | (go_simp; done) | (go_simp; with_reducible rfl)
      refine wpAnyH_take (i := 5) (v := ?_) rfl (by kernel_rfl) (by decide +kernel) (by decide +kernel) (fun _ _ _ h => h) (Or.inl ⟨by rfl, ?_⟩) hSd ?_
      rotate_left
      · intro w' hS; have l1 := HL1.out w' hS.ma; have l2 := HL2.out w' hS.mb; have e0 := hS.blk.cell 0; have e1 := hS.blk.cell 1; have e2 := hS.blk.cell 2; have e3 := hS.blk.cell 3; first | (go_simp; done) | (go_simp; with_reducible rfl)
      refine wpAnyH_all (rs := [2, 9]) (by decide +kernel) (by simp) ?_
      intro i0 hi0
      have hi1 : i0 = 2 ∨ i0 = 9 := by simpa using hi0
      clear hi0
      rcases hi1 with rfl | rfl
      case' inr =>
        refine wpOp_goE rfl rfl (fun K hK => ?_)
        go_simp
        have bD1 := Blk.new W0 61 zdf
        have HFAR := Lib.hid hSd.far
        have HGE : Hid (w5.heap.size ≤ W0.heap.size) := Lib.hid HWd.out.size
        have hS1 := hSd.alloc (.cells zdf 61)
        have HB1 := Lib.hid (HWd.out.alloc HWd.out.size (.cells zdf 61))
        refine hK _ _ ⟨hS1, ?_⟩
        clear hK K hSd HWd
        generalize hWE : W0.alloc (.cells zdf 61) = W1 at *
        clear hWE
        generalize W0.heap.size = gd at *
        refine wpAnyH_all (rs := [2]) (by decide +kernel) (by simp) ?_
        intro i0 hi0
        obtain rfl := List.mem_singleton.1 hi0
        refine wpOp_goE rfl rfl (fun K hK => ?_)
        go_simp
        refine (nameof_any x _).mono ?_
        rintro e9 W2 ⟨rfl, hb9⟩
        have hS2 := hS1.below hb9
        have HB2 := Lib.hid (HB1.out.trans (hb9.mono HB1.out.size))
        have bD2 := bD1.below hb9 bD1.lt
        refine hK _ _ ⟨hS2, ?_⟩
        clear hK K hb9 hS1 HB1 bD1
        refine wpAnyH_take (i := 3) (v := ?_) rfl (by kernel_rfl) (by decide +kernel) (by decide +kernel) (fun _ _ _ h => h) (Or.inl ⟨by rfl, ?_⟩) hS2 ?_
        rotate_left
        · intro w' hS; have l1 := HL1.out w' hS.ma; have l2 := HL2.out w' hS.mb; have e0 := hS.blk.cell 0; have e1 := hS.blk.cell 1; have e2 := hS.blk.cell 2; have e3 := hS.blk.cell 3; first | (go_simp; done) | (go_simp; with_reducible rfl)
        refine wpAnyH_all (rs := [6]) (by decide +kernel) (by simp) ?_
        intro i0 hi0
        obtain rfl := List.mem_singleton.1 hi0
        refine wpOp_goE rfl rfl (fun K hK => ?_)
        go_simp
        refine (nameof_any x _).mono ?_
        rintro e9 W3 ⟨rfl, hb9⟩
        have hS3 := hS2.below hb9
        have HB3 := Lib.hid (HB2.out.trans (hb9.mono HB2.out.size))
        have bD3 := bD2.below hb9 bD2.lt
        refine hK _ _ ⟨hS3, ?_⟩
        clear hK K hb9 hS2 HB2 bD2
        refine wpAnyH_take (i := 7) (v := ?_) rfl (by kernel_rfl) (by decide +kernel) (by decide +kernel) (fun _ _ _ h => h) (Or.inl ⟨by rfl, ?_⟩) hS3 ?_
        rotate_left
        · intro w' hS; have l1 := HL1.out w' hS.ma; have l2 := HL2.out w' hS.mb; have e0 := hS.blk.cell 0; have e1 := hS.blk.cell 1; have e2 := hS.blk.cell 2; have e3 := hS.blk.cell 3; first | (go_simp; done) | (go_simp; with_reducible rfl)
        refine wpAnyH_take (i := 8) (v := ?_) rfl (by kernel_rfl) (by decide +kernel) (by decide +kernel) (fun _ _ _ h => h) (Or.inl ⟨by rfl, ?_⟩) hS3 ?_
        rotate_left
        · intro w' hS; have l1 := HL1.out w' hS.ma; have l2 := HL2.out w' hS.mb; have e0 := hS.blk.cell 0; have e1 := hS.blk.cell 1; have e2 := hS.blk.cell 2; have e3 := hS.blk.cell 3; first | (go_simp; done) | (go_simp; with_reducible rfl)
        obtain ⟨WF, hWF⟩ : ∃ WF, WF = W3 := ⟨_, rfl⟩
        subst hWF
        have hSF := hS3
        have HBF := Lib.hid HB3.out
        have bDF := bD3
        clear hS3 HB3 bD3
      case' inl =>
        refine wpOp_goE rfl rfl (fun K hK => ?_)
        go_simp
        refine (nameof_any x _).mono ?_
        rintro e9 W1 ⟨rfl, hb9⟩
        have hS1 := hSd.below hb9
        have HB1 := Lib.hid (HWd.out.trans (hb9.mono HWd.out.size))
        refine hK _ _ ⟨hS1, ?_⟩
        clear hK K hb9 hSd HWd 
        refine wpAnyH_take (i := 3) (v := ?_) rfl (by kernel_rfl) (by decide +kernel) (by decide +kernel) (fun _ _ _ h => h) (Or.inl ⟨by rfl, ?_⟩) hS1 ?_
        rotate_left
        · intro w' hS; have l1 := HL1.out w' hS.ma; have l2 := HL2.out w' hS.mb; have e0 := hS.blk.cell 0; have e1 := hS.blk.cell 1; have e2 := hS.blk.cell 2; have e3 := hS.blk.cell 3; first | (go_simp; done) | (go_simp; with_reducible rfl)
        refine wpAnyH_all (rs := [6, 9]) (by decide +kernel) (by simp) ?_
        intro i0 hi0
        have hi1 : i0 = 6 ∨ i0 = 9 := by simpa using hi0
        clear hi0
        rcases hi1 with rfl | rfl
        case' inr =>
          refine wpOp_goE rfl rfl (fun K hK => ?_)
          go_simp
          have bD2 := Blk.new W1 61 zdf
          have HFAR := Lib.hid hS1.far
          have HGE : Hid (w5.heap.size ≤ W1.heap.size) := Lib.hid HB1.out.size
          have hS2 := hS1.alloc (.cells zdf 61)
          have HB2 := Lib.hid (HB1.out.alloc HB1.out.size (.cells zdf 61))
          refine hK _ _ ⟨hS2, ?_⟩
          clear hK K hS1 HB1
          generalize hWE : W1.alloc (.cells zdf 61) = W2 at *
          clear hWE
          generalize W1.heap.size = gd at *
          refine wpAnyH_all (rs := [6]) (by decide +kernel) (by simp) ?_
          intro i0 hi0
          obtain rfl := List.mem_singleton.1 hi0
          refine wpOp_goE rfl rfl (fun K hK => ?_)
          go_simp
          refine (nameof_any x _).mono ?_
          rintro e9 W3 ⟨rfl, hb9⟩
          have hS3 := hS2.below hb9
          have HB3 := Lib.hid (HB2.out.trans (hb9.mono HB2.out.size))
          have bD3 := bD2.below hb9 bD2.lt
          refine hK _ _ ⟨hS3, ?_⟩
          clear hK K hb9 hS2 HB2 bD2
          refine wpAnyH_take (i := 7) (v := ?_) rfl (by kernel_rfl) (by decide +kernel) (by decide +kernel) (fun _ _ _ h => h) (Or.inl ⟨by rfl, ?_⟩) hS3 ?_
          rotate_left
          · intro w' hS; have l1 := HL1.out w' hS.ma; have l2 := HL2.out w' hS.mb; have e0 := hS.blk.cell 0; have e1 := hS.blk.cell 1; have e2 := hS.blk.cell 2; have e3 := hS.blk.cell 3; first | (go_simp; done) | (go_simp; with_reducible rfl)
          refine wpAnyH_take (i := 8) (v := ?_) rfl (by kernel_rfl) (by decide +kernel) (by decide +kernel) (fun _ _ _ h => h) (Or.inl ⟨by rfl, ?_⟩) hS3 ?_
          rotate_left
          · intro w' hS; have l1 := HL1.out w' hS.ma; have l2 := HL2.out w' hS.mb; have e0 := hS.blk.cell 0; have e1 := hS.blk.cell 1; have e2 := hS.blk.cell 2; have e3 := hS.blk.cell 3; first | (go_simp; done) | (go_simp; with_reducible rfl)
          obtain ⟨WF, hWF⟩ : ∃ WF, WF = W3 := ⟨_, rfl⟩
          subst hWF
          have hSF := hS3
          have HBF := Lib.hid HB3.out
          have bDF := bD3
          clear hS3 HB3 bD3
        case' inl =>
          refine wpOp_goE rfl rfl (fun K hK => ?_)
          go_simp
          refine (nameof_any x _).mono ?_
          rintro e9 W2 ⟨rfl, hb9⟩
          have hS2 := hS1.below hb9
          have HB2 := Lib.hid (HB1.out.trans (hb9.mono HB1.out.size))
          refine hK _ _ ⟨hS2, ?_⟩
          clear hK K hb9 hS1 HB1 
          refine wpAnyH_take (i := 7) (v := ?_) rfl (by kernel_rfl) (by decide +kernel) (by decide +kernel) (fun _ _ _ h => h) (Or.inl ⟨by rfl, ?_⟩) hS2 ?_
          rotate_left
          · intro w' hS; have l1 := HL1.out w' hS.ma; have l2 := HL2.out w' hS.mb; have e0 := hS.blk.cell 0; have e1 := hS.blk.cell 1; have e2 := hS.blk.cell 2; have e3 := hS.blk.cell 3; first | (go_simp; done) | (go_simp; with_reducible rfl)
          refine wpAnyH_take (i := 8) (v := ?_) rfl (by kernel_rfl) (by decide +kernel) (by decide +kernel) (fun _ _ _ h => h) (Or.inl ⟨by rfl, ?_⟩) hS2 ?_
          rotate_left
          · intro w' hS; have l1 := HL1.out w' hS.ma; have l2 := HL2.out w' hS.mb; have e0 := hS.blk.cell 0; have e1 := hS.blk.cell 1; have e2 := hS.blk.cell 2; have e3 := hS.blk.cell 3; first | (go_simp; done) | (go_simp; with_reducible rfl)
          refine wpAnyH_all (rs := [9]) (by decide +kernel) (by simp) ?_
          intro i0 hi0
          obtain rfl := List.mem_singleton.1 hi0
          refine wpOp_goE rfl rfl (fun K hK => ?_)
          go_simp
          have bD3 := Blk.new W2 61 zdf
          have HFAR := Lib.hid hS2.far
          have HGE : Hid (w5.heap.size ≤ W2.heap.size) := Lib.hid HB2.out.size
          have hS3 := hS2.alloc (.cells zdf 61)
          have HB3 := Lib.hid (HB2.out.alloc HB2.out.size (.cells zdf 61))
          refine hK _ _ ⟨hS3, ?_⟩
          clear hK K hS2 HB2
          generalize hWE : W2.alloc (.cells zdf 61) = W3 at *
          clear hWE
          generalize W2.heap.size = gd at *
          obtain ⟨WF, hWF⟩ : ∃ WF, WF = W3 := ⟨_, rfl⟩
          subst hWF
          have hSF := hS3
          have HBF := Lib.hid HB3.out
          have bDF := bD3
          clear hS3 HB3 bD3
      all_goals
        have hO := Only.setRow gd WF (dfA ⟨0, M, T⟩)
        refine wpAnyH_all (rs := [10]) (by decide +kernel) (by simp) ?_
        intro i0 hi0
        obtain rfl := List.mem_singleton.1 hi0
        refine wpOp_goE rfl rfl (fun K hK => ?_)
        refine wp_store_row 61 _ _ rfl gd (dfA ⟨0, M, T⟩) rfl rfl 61 _ bDF infoDf rfl (df_all ⟨0, M, T⟩) ?_
        have hS8 := hSF.only HFAR.out hO
        have HB8 := Lib.hid (HBF.out.trans (hO.below HGE.out))
        have bD8 : Blk (WF.setRow gd (dfA ⟨0, M, T⟩)) gd 61 (dfA ⟨0, M, T⟩) := blk_setRow' bDF
        refine hK _ _ ⟨hS8, ?_⟩
        clear hK K hSF HBF bDF hO
        generalize WF.setRow gd (dfA ⟨0, M, T⟩) = W8 at *
        refine wpAnyH_done (by decide +kernel) ?_ _
        have HO8 := Lib.hid hS8.own
        have r1 := df_m bD8.range
        have r5 := df_t bD8.range
        clear hS8
        by_cases hMT : M = T
        · have heq := fun W => run_eqEn M T true (decide_eq_true hMT) W
          have HN : Hid (Pl.difl a b (E.take (k + 1)) = X) := Lib.hid (by rw [HD.out, if_pos hMT])
          clear HD hMT bD8 HFAR
          go_wp2_with (first
            | (have h9 := r5; refine ldm_en (s := T) r5 rfl _ rfl rfl ?_; clear h9)
            | (have h9 := r1; refine ldm_en (s := M) r1 rfl _ rfl rfl ?_; clear h9))
          go_roundw
          case rel => exact ⟨k + 1, _, by omega, rfl, by go_num, Lib.hid (by rw [HN.out]; exact HO8.out), HB8.out⟩
          case measure => simp [intOf]; omega
        · have heq := fun W => run_eqEn M T false (decide_eq_false hMT) W
          obtain ⟨q, hq⟩ : ∃ q, Pl.kd M T = q := ⟨_, rfl⟩
          have HN : Hid (Pl.difl a b (E.take (k + 1)) = X ++ [⟨q, M, T⟩]) := Lib.hid (by rw [HD.out, if_neg hMT, hq])
          have HKD := Lib.hid (fun W => kindof_b ⟨0, M, T⟩ q hq W)
          have r0 := bD8.range
          clear HD hMT hq
          go_wp2_with (first
            | (have h9 := r5; refine ldm_en (s := T) r5 rfl _ rfl rfl ?_; clear h9)
            | (have h9 := r1; refine ldm_en (s := M) r1 rfl _ rfl rfl ?_; clear h9)
            | (have h9 := r0; refine ldm_df (s := ⟨0, M, T⟩) r0 rfl _ rfl rfl ?_; clear h9))
          refine (HKD.out W8).mono ?_
          rintro e W9 ⟨rfl, hb9⟩
          have bD9 := bD8.below hb9 bD8.lt
          have q0 := bD9.cell 0
          have f0 := bD9.frozen 0
          have b10 : Blk (W9.setCell ⟨gd, 0, none⟩ (.int .i64 q)) gd 61 (dfA ⟨q, M, T⟩) := by
            have := bD9.set_ 0 (.int .i64 q)
            simpa using this
          have rS := b10.range
          have hOc := Only.setCell gd W9 0 (.int .i64 q)
          have HO9 : Hid ((W9.setCell ⟨gd, 0, none⟩ (.int .i64 q)).ownsRow w5.heap.size 61 9 _ X.length (flt dfL X)) := Lib.hid ((own_keep HO8.out hb9).kept (grown_only hOc) (.inr HFAR.out.v))
          have HB9 : Hid (Below w5.heap.size w5 (W9.setCell ⟨gd, 0, none⟩ (.int .i64 q))) := Lib.hid ((HB8.out.trans (hb9.mono HB8.out.size)).trans (hOc.below HGE.out))
          have hsz : (W9.setCell ⟨gd, 0, none⟩ (.int .i64 q)).heap.size = W9.heap.size := hOc.size
          have HSZ := Lib.hid hsz
          clear hb9 bD8 bD9 b10 hOc r0 r1 r5 heq HO8 HB8 hsz
          go_wp2_with (first
            | (have h9 := rS; refine ldm_df (s := ⟨q, M, T⟩) rS rfl _ rfl rfl ?_; clear h9)
            | (at_builtin; go_loud (refine wpList_append_own _ rfl _ _ 46 rfl w5.heap.size 61 i0 _ 9 72 Try.underlying46 hi hz0 hz1 hz2 rfl (by decide) _ _ _ rfl (HO9.out.alloc _) ⟨W9.heap.size, 0, none⟩ 1 1 (dfL ⟨q, M, T⟩) rfl rfl (new_cells' _ _ _ HSZ.out) (dfL_one ⟨q, M, T⟩) (by unfold maxLen; have := HDL.out; omega) (by have := HDL.out; omega) (HB9.out.alloc HB9.out.size _).size ?_; intro v5 w10 hO5 hg5 _)))
          have HW5 := Lib.hid ((HB9.out.alloc HB9.out.size (.cells (dfL ⟨q, M, T⟩).toArray 61)).grown hg5 (HB9.out.alloc HB9.out.size _).size (fun s h => (HO9.out.lt s h).1))
          have HO5 := Lib.hid hO5
          clear hO5 hg5 rS q0 f0
          go_roundw
          case rel => exact ⟨k + 1, _, by omega, rfl, by go_num, Lib.hid (by rw [HN.out, flt_append, flt_one, List.length_append]; exact HO5.out), HW5.out⟩
          case measure => simp [intOf]; omega
    · obtain rfl : k = m := by omega
      have HO2 := HO.out
      rw [List.take_of_length_le (by rw [HEM.out]; exact Nat.le_refl _), ← HDF.out] at HO2
      have HO3 := Lib.hid (HO2.mono HB6.out.size)
      have HW5 := Lib.hid (HB6.out.trans (hW.mono HB6.out.size))
      clear HO2
      go_wp2
      go_ret
      exact ⟨_, rfl, HO3.out, HW5.out⟩
end Go.Proofs.Ytalfffkcmddakaa
