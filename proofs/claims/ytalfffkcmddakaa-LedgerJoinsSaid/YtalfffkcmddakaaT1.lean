/- The document's every and Compare. -/
import Derived.Test.YtalfffkcmddakaaS4
import Derived.Test.YtalfffkcmddakaaQ6
import Derived.Test.YtalfffkcmddakaaP12
namespace Go.Proofs.Ytalfffkcmddakaa
open Go.RowKit Go.Shelf

/-- find, in a list that lies in memory, wherever all that lay lies as it lay -/
theorem find_at (A : Option Addr) (l : List Pl.En) (c n : Nat) (hn : l.length = n) (hm : n ≤ maxLen) (w : World) (hI : Rows enL 4 w A l) (x : Pl.En) (W : World) (h : Below w.heap.size w W) :
    Calls Try.prog 53 #[.slice A n c, .agg (enA x)] W fun e w' => e = .returned (.tuple #[.agg (enA (Pl.gt l (Pl.nm x))), .bool (Pl.fnd l (Pl.nm x)).isSome]) ∧ Below W.heap.size W w' :=
  dfind_any A l c n hn hm x W (hI.below h)
set_option maxRecDepth 100000 in
set_option maxHeartbeats 16000000 in
theorem devery_b (A1 A2 : Option Addr) (a b : List Pl.En) (n1 c1 n2 c2 : Nat) (hn1 : a.length = n1) (hn2 : b.length = n2) (hl1 : n1 ≤ 200) (hl2 : n2 ≤ 200) (w : World) (hI1 : Rows enL 4 w A1 a) (hI2 : Rows enL 4 w A2 b) :
    Calls Try.prog 70 #[.slice A1 n1 c1, .slice A2 n2 c2] w fun e w' => ∃ v, e = .returned v ∧ OwnE w (Pl.evr a b) v w' := by
  have HI2 := Lib.hid hI2
  have HN1 := Lib.hid hn1
  have HN2 := Lib.hid hn2
  have HF := Lib.hid (fun x W h => find_at A1 a c1 n1 hn1 (by unfold maxLen; omega) w hI1 x W h)
  have HS := Lib.hid (dsorted_any A1 a c1 n1 hn1 (by omega) w hI1)
  clear hI1 hI2 hn1 hn2
  go_enter Try.func70, Try.ntmps70
  go_wp2_with fail
  refine HS.out.mono ?_
  rintro e w1 ⟨v1, rfl, hO1, hb1⟩
  have hO1' : w1.ownsRow w.heap.size 24 4 v1 (Pl.evl a b 0).length (flt enL (Pl.srt (Pl.evl a b 0))) := by
    rw [Pl.evl_zero, ← Pl.srt_len]; exact hO1
  have HO1 := Lib.hid hO1'
  have HB1 := Lib.hid hb1
  clear hO1 hO1' hb1 HS
  go_wp2
  go_loopw [5, 9, 14] (fun v _ i wr => ∃ k : Nat, k ≤ n2 ∧ i = .int .i64 k ∧ Hid (wr.ownsRow w.heap.size 24 4 v (Pl.evl a b k).length (flt enL (Pl.srt (Pl.evl a b k)))) ∧ Hid (Below w.heap.size w wr)) (fun _ _ i _ => n2 - (intOf i).toNat)
  case atStart => exact ⟨0, Nat.zero_le _, rfl, HO1, HB1⟩
  case round =>
    clear HO1 HB1
    obtain ⟨k, hk, rfl, HO, HW⟩ := hrel
    obtain ⟨wo, rfl⟩ : ∃ wo, wo = wr := ⟨_, rfl⟩
    by_cases hlt : k < n2
    · have hltI : (k : Int) < (n2 : Int) := by omega
      have hkx : k < b.length := by rw [HN2.out]; exact hlt
      obtain ⟨bx, ox, rfl, hbx, hcx⟩ := HI2.out.open (by omega)
      have hr := row_at hbx hcx HW.out hkx
      have HST := Lib.hid (Pl.evl_take (a := a) hkx)
      have HLL : Hid ((Pl.evl a b k).length ≤ 400) := Lib.hid (by have := Pl.evl_len a b k; have := HN1.out; omega)
      clear hcx
      generalize b[k] = x at *
      generalize Pl.evl a b k = X at *
      have HFX := Lib.hid (fun W h => HF.out x W h)
      obtain ⟨G, hG⟩ : ∃ G, Pl.gt a (Pl.nm x) = G := ⟨_, rfl⟩
      obtain ⟨s, hs⟩ : ∃ s, (Pl.fnd a (Pl.nm x)).isSome = s := ⟨_, rfl⟩
      rw [hG, hs] at HFX
      rw [hs] at HST
      have bz := Blk.new wo 24 zen
      have HBz := Lib.hid ((Below.refl wo.heap.size wo).alloc (Nat.le_refl _) (.cells zen 24))
      clear hkx hG hs
      go_wp2_with (first
        | (have h9 := bz
           refine st_en (k := x) bz rfl rfl _ _ rfl rfl rfl ?_
           clear h9
           intro w3 bY hO3
           have hb3 : Below wo.heap.size wo w3 := HBz.out.trans (hO3.below (Nat.le_refl _))
           have HO3 := Lib.hid (own_keep HO.out hb3)
           have HW3 := Lib.hid (HW.out.trans (hb3.mono HW.out.size))
           have hr7 := bY.range
           clear bz hO3 hb3 hr)
        | (have h9 := hr
           refine ldm_en hr rfl _ rfl rfl ?_
           clear h9)
        | (have h9 := hr7
           refine ldm_en hr7 rfl _ rfl rfl ?_
           clear h9))
      refine (HFX.out _ HW3.out).mono ?_
      rintro e w4 ⟨rfl, hb4⟩
      have HO4 := Lib.hid (own_keep HO3.out hb4)
      have HW4 := Lib.hid (HW3.out.trans (hb4.mono HW3.out.size))
      have bY4 := bY.below hb4 bY.lt
      have bz4 := Blk.new w4 24 zen
      have HBz4 := Lib.hid ((Below.refl w4.heap.size w4).alloc (Nat.le_refl _) (.cells zen 24))
      clear hb4 hr7 bY HO HO3 HW HW3 HBz
      cases s
      case true =>
        have HN2' : Hid (Pl.evl a b (k + 1) = X) := Lib.hid (by rw [HST.out]; rfl)
        clear HST bY4
        go_wp2_with (first
          | (have h9 := bz4
             refine st_en (k := G) bz4 rfl rfl _ _ rfl rfl rfl ?_
             clear h9
             intro w5 bZ hO5
             have hb5 : Below w4.heap.size w4 w5 := HBz4.out.trans (hO5.below (Nat.le_refl _))
             have HO5 := Lib.hid (own_keep HO4.out hb5)
             have HW5 := Lib.hid (HW4.out.trans (hb5.mono HW4.out.size))
             clear bz4 hO5 hb5 bZ))
        go_roundw
        case rel => exact ⟨k + 1, by omega, by go_num, by rw [HN2'.out]; exact HO5, HW5⟩
        case measure => simp [intOf]; omega
      case false =>
        have HN2' : Hid (Pl.evl a b (k + 1) = X ++ [x]) := Lib.hid (by rw [HST.out]; rfl)
        have HLS : Hid ((Pl.srt X).length = X.length) := Lib.hid (Pl.srt_len X)
        clear HST
        go_wp2_with (first
          | (have h9 := bz4
             refine st_en (k := G) bz4 rfl rfl _ _ rfl rfl rfl ?_
             clear h9
             intro w5 bZ hO5
             have hb5 : Below w4.heap.size w4 w5 := HBz4.out.trans (hO5.below (Nat.le_refl _))
             have HO5 := Lib.hid (own_keep HO4.out hb5)
             have HW5 := Lib.hid (HW4.out.trans (hb5.mono HW4.out.size))
             have hr8 := (bY4.below hb5 bY4.lt).range
             clear bz4 hO5 hb5 bZ bY4)
          | (have h9 := hr8
             refine ldm_en hr8 rfl _ rfl rfl ?_
             clear h9))
        obtain ⟨A5, c5, rfl, hR5, hl5, hc5, hx5⟩ := rows_own2 HLS.out HO5.out
        refine (dput_any A5 (Pl.srt X) c5 X.length HLS.out hl5 hc5 hx5 (by have := HLL.out; omega) x w5 hR5).mono ?_
        rintro e w6 ⟨v6, rfl, hO6, hb6⟩
        have HO6 := Lib.hid (hO6.mono HW5.out.size)
        have HW6 := Lib.hid (HW5.out.trans (hb6.mono HW5.out.size))
        have HPL : Hid ((Pl.put (Pl.srt X) x).length = (X ++ [x]).length) := Lib.hid (by rw [Pl.put_len, Pl.srt_len, List.length_append]; rfl)
        clear hR5 hl5 hc5 hx5 hO6 hb6 hr8
        go_wp2
        go_roundw
        case rel => exact ⟨k + 1, by omega, by go_num, Lib.hid (by rw [HN2'.out, Pl.srt_snoc, ← HPL.out]; exact HO6.out), HW6⟩
        case measure => simp [intOf]; omega
    · obtain rfl : k = n2 := by omega
      have HE : Hid (Pl.evr a b = Pl.srt (Pl.evl a b k)) := Lib.hid (by unfold Pl.evr; rw [HN2.out])
      go_wp2
      go_ret
      exact ⟨_, rfl, by rw [HE.out, Pl.srt_len]; exact HO.out, HW.out⟩
set_option maxRecDepth 100000 in
set_option maxHeartbeats 32000000 in
theorem dcompare2_b (A1 A2 : Option Addr) (a b : List Pl.En) (n1 c1 n2 c2 : Nat) (hn1 : a.length = n1) (hn2 : b.length = n2) (hc1 : n1 ≤ c1) (hc2 : n2 ≤ c2) (hm1 : n1 ≤ maxLen) (hm2 : n2 ≤ maxLen) (w : World) (hI1 : Rows enL 4 w A1 a) (hI2 : Rows enL 4 w A2 b) :
    Calls Try.prog 30 #[.slice A1 n1 c1, .slice A2 n2 c2] w fun e w' => ∃ v, e = .returned (.tuple #[v, .int .i64 (Pl.coE a b)]) ∧ w'.ownsRow w.heap.size 61 9 v (Pl.coV a b).length (flt dfL (Pl.coV a b)) ∧ Below w.heap.size w w' := by
  obtain ⟨y, hy⟩ : ∃ y, Pl.vB a = y := ⟨_, rfl⟩
  obtain ⟨z, hz⟩ : ∃ z, Pl.vB b = z := ⟨_, rfl⟩
  have HC := Lib.hid (co_cases a b hy hz)
  have HV1 := Lib.hid (dvalid_any A1 a c1 n1 hn1 hc1 hm1 y hy w hI1)
  have HV2 := Lib.hid (fun W (h : Below w.heap.size w W) => dvalid_any A2 b c2 n2 hn2 hc2 hm2 z hz W (hI2.below h))
  have HE := Lib.hid HC.out.1
  have HR := Lib.hid HC.out.2.1
  have HVA := Lib.hid (fun h : y = true => Pl.vb_iff.1 (hy.trans h))
  have HVB := Lib.hid (fun h : z = true => Pl.vb_iff.1 (hz.trans h))
  have HEV := Lib.hid (fun (h1 : n1 ≤ 200) (h2 : n2 ≤ 200) W (h : Below w.heap.size w W) => devery_b A1 A2 a b n1 c1 n2 c2 hn1 hn2 h1 h2 W (hI1.below h) (hI2.below h))
  have HF1 := Lib.hid (fun x W h => find_at A1 a c1 n1 hn1 hm1 w hI1 x W h)
  have HF2 := Lib.hid (fun x W h => find_at A2 b c2 n2 hn2 hm2 w hI2 x W h)
  have HN1 := Lib.hid hn1
  have HN2 := Lib.hid hn2
  clear hy hz hn1 hn2 hm1 hm2 hI1 hI2 HC hc1 hc2
  generalize Pl.coE a b = er at *
  generalize Pl.coV a b = vr at *
  cases y
  case false =>
    have h1 := HE.out
    have h2 := HR.out
    simp at h1
    subst h1
    simp at h2
    subst h2
    clear HE HR HEV HVA HVB HF1 HF2
    go_enter Try.func30, Try.ntmps30
    go_wp2_with fail
    refine HV1.out.mono ?_
    rintro e w1 ⟨rfl, hb⟩
    go_wp2
    go_ret2
    exact ⟨_, rfl, World.ownsRow_nil _ _ _ _, hb⟩
  case true =>
  cases z
  case false =>
    have h1 := HE.out
    have h2 := HR.out
    simp at h1
    subst h1
    simp at h2
    subst h2
    clear HE HR HEV HVA HVB HF1 HF2
    go_enter Try.func30, Try.ntmps30
    go_wp2_with fail
    refine HV1.out.mono ?_
    rintro e w1 ⟨rfl, hb⟩
    go_wp2_with fail
    refine (HV2.out _ hb).mono ?_
    rintro e w2 ⟨rfl, hb2⟩
    have hB2 := hb.trans (hb2.mono hb.size)
    go_wp2
    go_ret2
    exact ⟨_, rfl, World.ownsRow_nil _ _ _ _, hB2⟩
  case true =>
    have h1 := HE.out
    have h2 := HR.out
    simp at h1
    subst h1
    simp at h2
    subst h2
    have HA := Lib.hid (HVA.out (by rfl))
    have HB := Lib.hid (HVB.out (by rfl))
    have hl1 : n1 ≤ 200 := by rw [← HN1.out]; exact HA.out.len
    have hl2 : n2 ≤ 200 := by rw [← HN2.out]; exact HB.out.len
    obtain ⟨E, hE⟩ : ∃ E, Pl.evr a b = E := ⟨_, rfl⟩
    obtain ⟨m, hm⟩ : ∃ m, E.length = m := ⟨_, rfl⟩
    have hm400 : m ≤ 400 := by rw [← hm, ← hE]; have := Pl.evr_len a b; have := HN1.out; have := HN2.out; omega
    have HDE : Hid (Pl.difl a b E = Pl.dif a b) := Lib.hid (by rw [← hE]; exact Pl.evr_dif HA.out HB.out)
    have HNM : Hid (∀ x, x ∈ E → Pl.nm x ∈ a.map Pl.nm ∨ Pl.nm x ∈ b.map Pl.nm) := Lib.hid (fun x hx => Pl.evr_nm.1 (by rw [hE]; exact List.mem_map.2 ⟨x, hx, rfl⟩))
    rw [hE] at HEV
    have HM := Lib.hid hm
    obtain ⟨i0, hi, hz0, hz1, hz2⟩ := info_parts infoDf3
    clear HE HR HVA HVB hE hm
    go_enter Try.func30, Try.ntmps30
    go_wp2_with fail
    refine HV1.out.mono ?_
    rintro e w1 ⟨rfl, hb⟩
    go_wp2_with fail
    refine (HV2.out _ hb).mono ?_
    rintro e w2 ⟨rfl, hb2⟩
    have HB2 := Lib.hid (hb.trans (hb2.mono hb.size))
    clear hb hb2 HV1 HV2
    go_wp2_with fail
    refine (HEV.out hl1 hl2 _ HB2.out).mono ?_
    rintro e w3 ⟨v3, rfl, hO3, hb3⟩
    rw [HM.out] at hO3
    obtain ⟨A3, c3, rfl, hR3, _, _, _⟩ := rows_own2 HM.out hO3
    have HB3 := Lib.hid (HB2.out.trans (hb3.mono HB2.out.size))
    have HR3 := Lib.hid hR3
    clear hO3 hb3 hR3 HB2 HEV
    go_wp2
    go_loopw [6, 10, 12, 25, 41, 49, 57] (fun v _ _ i _ _ _ wr => ∃ k : Nat, k ≤ m ∧ i = .int .i64 k ∧ Hid (wr.ownsRow w3.heap.size 61 9 v (Pl.difl a b (E.take k)).length (flt dfL (Pl.difl a b (E.take k)))) ∧ Hid (Below w3.heap.size w3 wr)) (fun _ _ _ i _ _ _ _ => m - (intOf i).toNat)
    case atStart => exact ⟨0, Nat.zero_le _, rfl, Lib.hid (World.ownsRow_nil _ _ _ _), Lib.hid (Below.refl _ _)⟩
    case round =>
      obtain ⟨k, hk, rfl, HO, HW⟩ := hrel
      obtain ⟨wo, rfl⟩ : ∃ wo, wo = wr := ⟨_, rfl⟩
      by_cases hlt : k < m
      · have hltI : (k : Int) < (m : Int) := by omega
        have hkx : k < E.length := by rw [HM.out]; exact hlt
        obtain ⟨bx, ox, rfl, hbx, hcx⟩ := HR3.out.open (by omega)
        have hr := row_at hbx hcx HW.out hkx
        have HCR := Lib.hid (Pl.cmp_round HA.out HB.out hkx (HNM.out _ (List.getElem_mem hkx)))
        have HDL : Hid ((Pl.difl a b (E.take k)).length ≤ 400) := Lib.hid (by have := Pl.difl_take_len a b E k; omega)
        clear hcx
        generalize E[k] = x at *
        generalize Pl.difl a b (E.take k) = X at *
        have HFX := Lib.hid (fun W h => HF1.out x W h)
        have HFY := Lib.hid (fun W h => HF2.out x W h)
        generalize Pl.gt a (Pl.nm x) = M at *
        generalize Pl.gt b (Pl.nm x) = T at *
        generalize (Pl.fnd a (Pl.nm x)).isSome = s at *
        generalize (Pl.fnd b (Pl.nm x)).isSome = t at *
        have bz := Blk.new wo 24 zen
        have HBz := Lib.hid ((Below.refl wo.heap.size wo).alloc (Nat.le_refl _) (.cells zen 24))
        clear hkx
        go_wp2_with (first
          | (have h9 := bz
             refine st_en (k := x) bz rfl rfl _ _ rfl rfl rfl ?_
             clear h9
             intro w5 bY hO5
             have hb5 : Below wo.heap.size wo w5 := HBz.out.trans (hO5.below (Nat.le_refl _))
             have HO5 := Lib.hid (own_keep HO.out hb5)
             have HW5 := Lib.hid (HW.out.trans (hb5.mono HW.out.size))
             have hr7 := bY.range
             clear bz hO5 hb5 hr)
          | (have h9 := hr
             refine ldm_en hr rfl _ rfl rfl ?_
             clear h9)
          | (have h9 := hr7
             refine ldm_en hr7 rfl _ rfl rfl ?_
             clear h9))
        refine (HFX.out _ (HB3.out.trans (HW5.out.mono HB3.out.size))).mono ?_
        rintro e w6 ⟨rfl, hb6⟩
        have HO6 := Lib.hid (own_keep HO5.out hb6)
        have HW6 := Lib.hid (HW5.out.trans (hb6.mono HW5.out.size))
        have bY6 := bY.below hb6 bY.lt
        have bz6 := Blk.new w6 24 zen
        have HBz6 := Lib.hid ((Below.refl w6.heap.size w6).alloc (Nat.le_refl _) (.cells zen 24))
        clear hb6 hr7 bY HO HO5 HW HW5 HBz HFX
        go_wp2_with (first
          | (have h9 := bz6
             refine st_en (k := M) bz6 rfl rfl _ _ rfl rfl rfl ?_
             clear h9
             intro w7 bM hO7
             have hb7 : Below w6.heap.size w6 w7 := HBz6.out.trans (hO7.below (Nat.le_refl _))
             have HO7 := Lib.hid (own_keep HO6.out hb7)
             have HW7 := Lib.hid (HW6.out.trans (hb7.mono HW6.out.size))
             have hr8 := (bY6.below hb7 bY6.lt).range
             clear bz6 hO7 hb7 bY6)
          | (have h9 := hr8
             refine ldm_en hr8 rfl _ rfl rfl ?_
             clear h9))
        refine (HFY.out _ (HB3.out.trans (HW7.out.mono HB3.out.size))).mono ?_
        rintro e w8 ⟨rfl, hb8⟩
        have HO8 := Lib.hid (own_keep HO7.out hb8)
        have HW8 := Lib.hid (HW7.out.trans (hb8.mono HW7.out.size))
        have bM8 := bM.below hb8 bM.lt
        have bz8 := Blk.new w8 24 zen
        have HBz8 := Lib.hid ((Below.refl w8.heap.size w8).alloc (Nat.le_refl _) (.cells zen 24))
        clear hb8 hr8 bM HO6 HO7 HW6 HW7 HBz6 HFY
        cases t
        case false =>
          have HN := Lib.hid (HCR.out.1 rfl)
          clear HCR
          go_wp2_with (first
          | (have h9 := bz8
             refine st_en (k := T) bz8 rfl rfl _ _ rfl rfl rfl ?_
             clear h9
             intro w9 bT hO9
             have hb9 : Below w8.heap.size w8 w9 := HBz8.out.trans (hO9.below (Nat.le_refl _))
             have HO9 := Lib.hid (own_keep HO8.out hb9)
             have HW9 := Lib.hid (HW8.out.trans (hb9.mono HW8.out.size))
             have rM := (bM8.below hb9 bM8.lt).range
             have rT := bT.range
             clear bz8 hO9 hb9 bM8)
          | (have h9 := rM
             refine ldm_en rM rfl _ rfl rfl ?_
             clear h9)
          | (have h9 := rT
             refine ldm_en rT rfl _ rfl rfl ?_
             clear h9)
          | (at_builtin; go_loud (refine wpList_append_own _ rfl _ _ 46 rfl w3.heap.size 61 i0 _ 9 72 Try.underlying46 hi hz0 hz1 hz2 rfl (by decide) _ _ _ rfl (HO9.out.alloc _) ⟨w9.heap.size, 0, none⟩ 1 1 (dfL ⟨1, M, Pl.z0⟩) rfl rfl (new_cells' _ _ _ rfl) (dfL_one ⟨1, M, Pl.z0⟩) (by unfold maxLen; have := HDL.out; omega) (by have := HDL.out; omega) (HW9.out.alloc HW9.out.size _).size ?_; intro v5 w10 hO5 hg5 _)))
          have HW5 := Lib.hid ((HW9.out.alloc HW9.out.size (.cells (dfL ⟨1, M, Pl.z0⟩).toArray 61)).grown hg5 (HW9.out.alloc HW9.out.size _).size (fun s h => (HO9.out.lt s h).1))
          have HO5 := Lib.hid hO5
          clear hO5 hg5 rM rT bT
          go_roundw
          case rel => exact ⟨k + 1, by omega, by go_num, Lib.hid (by rw [HN.out, flt_append, flt_one, List.length_append]; exact HO5.out), HW5⟩
          case measure => simp [intOf]; omega
        case true =>
        cases s
        case false =>
          have HN := Lib.hid (HCR.out.2.1 rfl rfl)
          clear HCR
          go_wp2_with (first
          | (have h9 := bz8
             refine st_en (k := T) bz8 rfl rfl _ _ rfl rfl rfl ?_
             clear h9
             intro w9 bT hO9
             have hb9 : Below w8.heap.size w8 w9 := HBz8.out.trans (hO9.below (Nat.le_refl _))
             have HO9 := Lib.hid (own_keep HO8.out hb9)
             have HW9 := Lib.hid (HW8.out.trans (hb9.mono HW8.out.size))
             have rM := (bM8.below hb9 bM8.lt).range
             have rT := bT.range
             clear bz8 hO9 hb9 bM8)
          | (have h9 := rM
             refine ldm_en rM rfl _ rfl rfl ?_
             clear h9)
          | (have h9 := rT
             refine ldm_en rT rfl _ rfl rfl ?_
             clear h9)
          | (at_builtin; go_loud (refine wpList_append_own _ rfl _ _ 46 rfl w3.heap.size 61 i0 _ 9 72 Try.underlying46 hi hz0 hz1 hz2 rfl (by decide) _ _ _ rfl (HO9.out.alloc _) ⟨w9.heap.size, 0, none⟩ 1 1 (dfL ⟨2, Pl.z0, T⟩) rfl rfl (new_cells' _ _ _ rfl) (dfL_one ⟨2, Pl.z0, T⟩) (by unfold maxLen; have := HDL.out; omega) (by have := HDL.out; omega) (HW9.out.alloc HW9.out.size _).size ?_; intro v5 w10 hO5 hg5 _)))
          have HW5 := Lib.hid ((HW9.out.alloc HW9.out.size (.cells (dfL ⟨2, Pl.z0, T⟩).toArray 61)).grown hg5 (HW9.out.alloc HW9.out.size _).size (fun s h => (HO9.out.lt s h).1))
          have HO5 := Lib.hid hO5
          clear hO5 hg5 rM rT bT
          go_roundw
          case rel => exact ⟨k + 1, by omega, by go_num, Lib.hid (by rw [HN.out, flt_append, flt_one, List.length_append]; exact HO5.out), HW5⟩
          case measure => simp [intOf]; omega
        case true =>
        by_cases hMT : M = T
        case pos =>
          have heq := fun W => run_eqEn M T true (decide_eq_true hMT) W
          have HN : Hid (Pl.difl a b (E.take (k + 1)) = X) := Lib.hid (by rw [HCR.out.2.2 rfl rfl, if_pos hMT])
          clear HCR hMT
          go_wp2_with (first
          | (have h9 := bz8
             refine st_en (k := T) bz8 rfl rfl _ _ rfl rfl rfl ?_
             clear h9
             intro w9 bT hO9
             have hb9 : Below w8.heap.size w8 w9 := HBz8.out.trans (hO9.below (Nat.le_refl _))
             have HO9 := Lib.hid (own_keep HO8.out hb9)
             have HW9 := Lib.hid (HW8.out.trans (hb9.mono HW8.out.size))
             have rM := (bM8.below hb9 bM8.lt).range
             have rT := bT.range
             clear bz8 hO9 hb9 bM8)
          | (have h9 := rM
             refine ldm_en rM rfl _ rfl rfl ?_
             clear h9)
          | (have h9 := rT
             refine ldm_en rT rfl _ rfl rfl ?_
             clear h9))
          clear rM rT bT heq
          go_roundw
          case rel => exact ⟨k + 1, by omega, by go_num, Lib.hid (by rw [HN.out]; exact HO9.out), HW9⟩
          case measure => simp [intOf]; omega
        case neg =>
          have heq := fun W => run_eqEn M T false (decide_eq_false hMT) W
          have HN : Hid (Pl.difl a b (E.take (k + 1)) = X ++ [⟨3, M, T⟩]) := Lib.hid (by rw [HCR.out.2.2 rfl rfl, if_neg hMT])
          clear HCR hMT
          go_wp2_with (first
          | (have h9 := bz8
             refine st_en (k := T) bz8 rfl rfl _ _ rfl rfl rfl ?_
             clear h9
             intro w9 bT hO9
             have hb9 : Below w8.heap.size w8 w9 := HBz8.out.trans (hO9.below (Nat.le_refl _))
             have HO9 := Lib.hid (own_keep HO8.out hb9)
             have HW9 := Lib.hid (HW8.out.trans (hb9.mono HW8.out.size))
             have rM := (bM8.below hb9 bM8.lt).range
             have rT := bT.range
             clear bz8 hO9 hb9 bM8)
          | (have h9 := rM
             refine ldm_en rM rfl _ rfl rfl ?_
             clear h9)
          | (have h9 := rT
             refine ldm_en rT rfl _ rfl rfl ?_
             clear h9)
          | (at_builtin; go_loud (refine wpList_append_own _ rfl _ _ 46 rfl w3.heap.size 61 i0 _ 9 72 Try.underlying46 hi hz0 hz1 hz2 rfl (by decide) _ _ _ rfl (HO9.out.alloc _) ⟨w9.heap.size, 0, none⟩ 1 1 (dfL ⟨3, M, T⟩) rfl rfl (new_cells' _ _ _ rfl) (dfL_one ⟨3, M, T⟩) (by unfold maxLen; have := HDL.out; omega) (by have := HDL.out; omega) (HW9.out.alloc HW9.out.size _).size ?_; intro v5 w10 hO5 hg5 _)))
          clear heq
          have HW5 := Lib.hid ((HW9.out.alloc HW9.out.size (.cells (dfL ⟨3, M, T⟩).toArray 61)).grown hg5 (HW9.out.alloc HW9.out.size _).size (fun s h => (HO9.out.lt s h).1))
          have HO5 := Lib.hid hO5
          clear hO5 hg5 rM rT bT
          go_roundw
          case rel => exact ⟨k + 1, by omega, by go_num, Lib.hid (by rw [HN.out, flt_append, flt_one, List.length_append]; exact HO5.out), HW5⟩
          case measure => simp [intOf]; omega
      · obtain rfl : k = m := by omega
        have HO2 := HO.out
        rw [List.take_of_length_le (by rw [HM.out]; exact Nat.le_refl _), HDE.out] at HO2
        have HO3 := Lib.hid (HO2.mono HB3.out.size)
        have HW5 := Lib.hid (HB3.out.trans (HW.out.mono HB3.out.size))
        clear HO2
        go_wp2
        go_ret2
        exact ⟨_, rfl, HO3.out, HW5.out⟩
end Go.Proofs.Ytalfffkcmddakaa
