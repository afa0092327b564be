/- Sorted and Add of the program. -/
import Derived.Test.YtalfffkcmddakabE5
import Derived.Test.YtalfffkcmddakabE6
import Derived.Maps.OwnSet
namespace Go.Proofs.Ytalfffkcmddakab
open Go.RowKit Go.Shelf

/-- v is a slice that this call made, and reads as V -/
abbrev OwnE (w : World) (V : List Pl.En) (v : Value) (w' : World) : Prop := w'.ownsRow w.heap.size 72 4 v V.length (flt enL V) ∧ Below w.heap.size w w'
theorem ownE_nil {w w' : World} (h : Below w.heap.size w w') : OwnE w [] (.slice none 0 0) w' := ⟨World.ownsRow_nil _ _ _ _, h⟩
theorem MapE.look2 {W : World} {b n : Nat} {S : List Pl.En} (h : MapE W b n S) {m : Pl.Nm} (hm : OkN m) :
    (Instr.lookup 97 (.map (some b)) (.agg (nmA m)) true).run Try.prog W = .ok (.tuple #[.agg (enA ((Pl.fnd S m).getD Pl.z0)), .bool (Pl.fnd S m).isSome]) W := by
  obtain ⟨D, h1, h2⟩ := h
  obtain ⟨v, ps, hrun, hv⟩ := h1.look_ok keyedNm Try.underlying97 (z := .agg (enA Pl.z0)) (zeroEn W) (zd := .held (.agg (enA Pl.z0))) (zp := []) rfl (nmKey hm)
  rw [h2.at' m hm] at hv
  rw [h2.has m hm] at hrun
  cases hv
  exact hrun
set_option maxRecDepth 100000 in
set_option maxHeartbeats 8000000 in
theorem add_any (A : Option Addr) (l : List Pl.En) (c n : Nat) (hn : l.length = n) (hm : n ≤ maxLen) (x : Pl.En) (w : World) (hI : Rows enL 4 w A l) :
    Calls Try.prog 33 #[.slice A n c, .agg (enA x)] w fun e w' => ∃ v, e = .returned (.tuple #[v, .int .i64 (Pl.adE l x)]) ∧ OwnE w (Pl.adV l x) v w' := by
  obtain ⟨y, hy⟩ : ∃ y, Pl.vB l = y := ⟨_, rfl⟩
  obtain ⟨z, hz⟩ : ∃ z, Pl.vE x = z := ⟨_, rfl⟩
  have hB := (Below.refl w.heap.size w).alloc (Nat.le_refl _) (.cells (enA x) 72)
  have bX := Blk.new w 72 (enA x)
  have HV := Lib.hid (valid_any A l c n hn hm y hy _ (hI.below hB))
  have no90 : ∀ (h : Pl.adE l x = 90), Pl.adV l x = [] := fun h => by unfold Pl.adV; rw [h]; rfl
  have no6 : ∀ (h : Pl.adE l x = 6), Pl.adV l x = [] := fun h => by unfold Pl.adV; rw [h]; rfl
  have no4 : ∀ (h : Pl.adE l x = 4), Pl.adV l x = [] := fun h => by unfold Pl.adV; rw [h]; rfl
  cases y
  case false =>
    have h1 : Pl.adE l x = 90 := by unfold Pl.adE; rw [hy]; rfl
    rw [no90 h1, h1]
    clear hy hI hn h1 no90 no6 no4 bX
    go_enter Try.func33, Try.ntmps33
    go_wp2_with fail
    refine HV.out.mono ?_
    rintro e w1 ⟨rfl, hb⟩
    have hB1 := hB.trans (hb.mono hB.size)
    go_wp2
    go_ret2
    exact ⟨_, rfl, ownE_nil hB1⟩
  case true =>
  cases z
  case false =>
    have h1 : Pl.adE l x = 90 := by unfold Pl.adE; rw [hy, hz]; rfl
    rw [no90 h1, h1]
    have HZ := Lib.hid hz
    clear hy hI hn h1 no90 no6 no4 hz
    go_enter Try.func33, Try.ntmps33
    go_wp2_with fail
    refine HV.out.mono ?_
    rintro e w1 ⟨rfl, hb⟩
    have hB1 := hB.trans (hb.mono hB.size)
    have hr := (bX.below hb bX.lt).range
    clear bX
    go_wp2_with (refine ldm_en hr rfl _ rfl rfl ?_)
    refine (ventry_b x false HZ.out w1).mono ?_
    rintro e w2 ⟨rfl, hb2⟩
    have hB2 := hB1.trans (hb2.mono hB1.size)
    go_wp2
    go_ret2
    exact ⟨_, rfl, ownE_nil hB2⟩
  case true =>
  have HZ := Lib.hid hz
  have HVb := Lib.hid (Pl.vb_iff.1 hy)
  have HI := Lib.hid hI
  have HN := Lib.hid hn
  have HL : Hid (n ≤ 200) := Lib.hid (by rw [← hn]; exact HVb.out.len)
  have hE : Pl.adE l x = if (Pl.fnd l (Pl.nm x)).isSome then 6 else if n = 200 then 4 else 0 := by unfold Pl.adE; rw [hy, hz, hn]; rfl
  have HE := Lib.hid hE
  have H0 := Lib.hid (fun h : Pl.adE l x = 0 => show Pl.adV l x = Pl.srt (l ++ [x]) from by unfold Pl.adV; rw [if_pos h])
  have HAD := Lib.hid (fun h : Pl.adE l x = 0 => Pl.ad_vb h)
  have N6 := Lib.hid no6
  have N4 := Lib.hid no4
  have HBB := Lib.hid hB
  clear hy hI hn hz hE no90 no6 no4 hB
  generalize hER : Pl.adE l x = er at *
  generalize hVR : Pl.adV l x = vr at *
  clear hER hVR
  go_enter Try.func33, Try.ntmps33
  go_wp2_with fail
  refine HV.out.mono ?_
  rintro e w1 ⟨rfl, hb⟩
  have hB1 := HBB.out.trans (hb.mono HBB.out.size)
  have hI1 := HI.out.below hB1
  have bX1 := bX.below hb bX.lt
  have hr := bX1.range
  clear bX hb HV
  go_wp2_with (refine ldm_en hr rfl _ rfl rfl ?_)
  refine (ventry_b x true HZ.out w1).mono ?_
  rintro e w2 ⟨rfl, hb2⟩
  have hB2 := hB1.trans (hb2.mono hB1.size)
  have bX2 := bX1.below hb2 bX1.lt
  have HI2 := Lib.hid (hI1.below hb2)
  clear hr bX1 hb2 hB1 hI1
  go_wp2_with fail
  refine (byname_any A l c n HN.out (by have := HL.out; omega) (fun e he => okN_ve (HVb.out.each e he)) w2 HI2.out).mono ?_
  rintro e w3 ⟨rfl, hM, hb3⟩
  rw [Pl.gm_id HVb.out.dif] at hM
  have hB3 := hB2.trans (hb3.mono hB2.size)
  have bX3 := bX2.below hb3 bX2.lt
  have hr := bX3.range
  have HM := Lib.hid hM
  have hne : w.heap.size ≠ w2.heap.size := by have := bX2.lt; omega
  have HBM : Hid (w.heap.size ≤ w2.heap.size) := Lib.hid (by have := bX2.lt; omega)
  clear hM hb3 hB2 bX2 HI2
  generalize w2.heap.size = bm at *
  go_wp2_with (refine ldm_en hr rfl _ rfl rfl ?_)
  refine (nameof_any x w3).mono ?_
  rintro e w4 ⟨rfl, hb4⟩
  have hM4 := HM.out.below hb4
  have hlk := hM4.look2 (okN_ve HZ.out)
  have HM4 := Lib.hid hM4
  have bX4 := bX3.below hb4 bX3.lt
  have hB4 := hB3.trans (hb4.mono hB3.size)
  clear hM4 HM hr bX3 hb4 hB3
  have bz := Blk.new w4 72 (#[.int .i64 0, .int .i64 0, .int .i64 0, .int .i64 0])
  obtain ⟨s, hs⟩ : ∃ s, (Pl.fnd l (Pl.nm x)).isSome = s := ⟨_, rfl⟩
  obtain ⟨g0, hg0⟩ : ∃ g, (Pl.fnd l (Pl.nm x)).getD Pl.z0 = g := ⟨_, rfl⟩
  rw [hs, hg0] at hlk
  have HS := Lib.hid hs
  clear hs hg0
  cases s
  case true =>
    have h6 : er = 6 := by rw [HE.out, HS.out]; rfl
    have hv6 := N6.out h6
    subst h6
    subst hv6
    clear HE N6 N4 H0 HAD
    go_wp2_with (refine st_en (k := g0) bz rfl rfl _ _ rfl rfl rfl ?_; intro w9 bX9 hO9)
    have hb9 : Below w4.heap.size w4 w9 := ((Below.refl w4.heap.size w4).alloc (Nat.le_refl _) (.cells (#[.int .i64 0, .int .i64 0, .int .i64 0, .int .i64 0]) 72)).trans (hO9.below (Nat.le_refl _))
    have hB9 := hB4.trans (hb9.mono hB4.size)
    go_ret2
    exact ⟨_, rfl, ownE_nil hB9⟩
  case false =>
  by_cases h2 : n = 200
  case pos =>
    have i2 : ((n : Int) == 200) = true := by rw [h2]; rfl
    have h4 : er = 4 := by rw [HE.out, HS.out, if_pos h2]; rfl
    have hv4 := N4.out h4
    subst h4
    subst hv4
    clear HE N6 N4 H0 HAD h2
    go_wp2_with (refine st_en (k := g0) bz rfl rfl _ _ rfl rfl rfl ?_; intro w9 bX9 hO9; clear hlk)
    have hb9 : Below w4.heap.size w4 w9 := ((Below.refl w4.heap.size w4).alloc (Nat.le_refl _) (.cells (#[.int .i64 0, .int .i64 0, .int .i64 0, .int .i64 0]) 72)).trans (hO9.below (Nat.le_refl _))
    have hB9 := hB4.trans (hb9.mono hB4.size)
    have HM9 := Lib.hid (HM4.out.below hb9)
    have bXX := bX4.below hb9 bX4.lt
    clear bX9 hO9 hb9 hB4 HM4 bX4 bz
    go_ret2
    exact ⟨_, rfl, ownE_nil hB9⟩
  case neg =>
  have i2 : ((n : Int) == 200) = false := by rw [beq_eq_false_iff_ne]; omega
  have h0 : er = 0 := by rw [HE.out, HS.out, if_neg h2]; rfl
  have hv0 := H0.out h0
  have HVX := Lib.hid (HAD.out h0)
  have HUP : Hid (Pl.ups l x = l ++ [x]) := Lib.hid (Pl.ups_new (by have := HS.out; cases h : Pl.fnd l (Pl.nm x) <;> simp_all))
  have HOX := Lib.hid (okN_ve HZ.out)
  subst h0
  subst hv0
  clear HE N6 N4 H0 HAD h2 HS
  go_wp2_with (refine st_en (k := g0) bz rfl rfl _ _ rfl rfl rfl ?_; intro w9 bX9 hO9; clear hlk)
  have hb9 : Below w4.heap.size w4 w9 := ((Below.refl w4.heap.size w4).alloc (Nat.le_refl _) (.cells (#[.int .i64 0, .int .i64 0, .int .i64 0, .int .i64 0]) 72)).trans (hO9.below (Nat.le_refl _))
  have hB9 := hB4.trans (hb9.mono hB4.size)
  have HM9 := Lib.hid (HM4.out.below hb9)
  have bXX := bX4.below hb9 bX4.lt
  clear bX9 hO9 hb9 hB4 HM4 bX4 bz
  refine wp_region_held (S := fun W => Blk W w.heap.size 72 (enA x)) (by kernel_rfl) ?_
  change wpAnyH _ _ _ _ _ _ _ _ (World.drew _)
  have hS := bXX.drew
  have HM4 : Hid (MapE w9.drew bm n l) := Lib.hid HM9.out
  have hB4 : Below w.heap.size w w9.drew := hB9.drew
  clear bXX HM9 hB9
  generalize w9.drew = W at *
  generalize w.heap.size = g at hS hne ⊢
  refine wpAnyH_take (i := 0) (v := ?_) rfl (by kernel_rfl) (by decide +kernel) (by decide +kernel) (fun _ _ _ h => h) (Or.inl ⟨by rfl, ?_⟩) hS ?_
  rotate_left
  · intro w' hS; first | (go_simp; done) | (go_simp; with_reducible rfl)
  refine wpAnyH_take (i := 1) (v := ?_) rfl (by kernel_rfl) (by decide +kernel) (by decide +kernel) (fun _ _ _ h => h) (Or.inl ⟨by rfl, ?_⟩) hS ?_
  rotate_left
  · intro w' hS; have e0 := hS.cell 0; have e1 := hS.cell 1; have e2 := hS.cell 2; have e3 := hS.cell 3; first | (go_simp; done) | (go_simp; with_reducible rfl)
  refine wpAnyH_take (i := 3) (v := ?_) rfl (by kernel_rfl) (by decide +kernel) (by decide +kernel) (fun _ _ _ h => h) (Or.inl ⟨by rfl, ?_⟩) hS ?_
  rotate_left
  · intro w' hS; have e0 := hS.cell 0; have e1 := hS.cell 1; have e2 := hS.cell 2; have e3 := hS.cell 3; first | (go_simp; done) | (go_simp; with_reducible rfl)
  refine wpAnyH_all (rs := [2]) (by decide +kernel) (by simp) ?_
  intro i0 hi0
  obtain rfl := List.mem_singleton.1 hi0
  refine wpOp_goE rfl rfl (fun K hK => ?_)
  go_simp
  refine (nameof_any x _).mono ?_
  rintro e w5 ⟨rfl, hb5⟩
  have hS5 := hS.below hb5 hS.lt
  have hB5 := hB4.trans (hb5.mono hB4.size)
  obtain ⟨w6, hrun, hM6, hg6⟩ := (HM4.out.below hb5).store (by unfold maxLen; have := HL.out; omega) HOX.out
  rw [HUP.out] at hM6
  have HM6 := Lib.hid hM6
  have hS6 : Blk w6 g 72 (enA x) := (hg6.block g hS5.lt (by simpa using hne)).trans hS5
  have HB6 : Hid (Below w.heap.size w w6) := Lib.hid (hB5.grown hg6 hB5.size (fun k e => by cases e; exact HBM.out))
  clear hb5 HM4 hB4 hS hM6 hg6 hB5
  refine hK _ _ ⟨hS5, ?_⟩
  clear hK K
  refine wpAnyH_all (rs := [4]) (by decide +kernel) (by simp) ?_
  intro i0 hi0
  obtain rfl := List.mem_singleton.1 hi0
  refine wpOp_goE rfl rfl (fun K hK => ?_)
  go_simp
  refine hK _ _ ⟨hS6, ?_⟩
  clear hK K
  refine wpAnyH_done (by decide +kernel) ?_ _
  clear hrun hS5 hS6
  go_wp2_with fail
  refine (sorted_any bm (n + 1) (l ++ [x]) HVX.out.ok w6 HM6.out).mono ?_
  rintro e w7 ⟨v, rfl, hown, hb7⟩
  have HO := Lib.hid (hown.mono HB6.out.size)
  have hB7 := HB6.out.trans (hb7.mono HB6.out.size)
  clear hown hb7
  go_wp2
  go_ret2
  exact ⟨_, rfl, by rw [Pl.srt_len]; exact HO.out, hB7⟩
end Go.Proofs.Ytalfffkcmddakab
