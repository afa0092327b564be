/- The document's Agreed and Since; sameDiffs of two equal lists. -/
import Derived.Test.YtalfffkcmddakaaT1
import Derived.Test.YtalfffkcmddakaaS6
namespace Go.Proofs.Ytalfffkcmddakaa
open Go.RowKit Go.Shelf

set_option maxRecDepth 100000 in
set_option maxHeartbeats 32000000 in
theorem dagreed2_b (A1 A2 : Option Addr) (a b : List Pl.En) (n1 c1 n2 c2 : Nat) (hn1 : a.length = n1) (hn2 : b.length = n2) (hc1 : n1 ≤ c1) (hc2 : n2 ≤ c2) (hm1 : n1 ≤ maxLen) (hm2 : n2 ≤ maxLen) (w : World) (hI1 : Rows enL 4 w A1 a) (hI2 : Rows enL 4 w A2 b) :
    Calls Try.prog 33 #[.slice A1 n1 c1, .slice A2 n2 c2] w fun e w' => ∃ v, e = .returned (.tuple #[v, .int .i64 (Pl.coE a b)]) ∧ w'.ownsRow w.heap.size 24 4 v (Pl.agV a b).length (flt enL (Pl.agV a b)) ∧ Below w.heap.size w w' := by
  obtain ⟨y, hy⟩ : ∃ y, Pl.vB a = y := ⟨_, rfl⟩
  obtain ⟨z, hz⟩ : ∃ z, Pl.vB b = z := ⟨_, rfl⟩
  have HC := Lib.hid (co_cases a b hy hz)
  have HV1 := Lib.hid (dvalid_any A1 a c1 n1 hn1 hc1 hm1 y hy w hI1)
  have HV2 := Lib.hid (fun W (h : Below w.heap.size w W) => dvalid_any A2 b c2 n2 hn2 hc2 hm2 z hz W (hI2.below h))
  have HE := Lib.hid HC.out.1
  have HR := Lib.hid HC.out.2.2.1
  have HVA := Lib.hid (fun h : y = true => Pl.vb_iff.1 (hy.trans h))
  have HVB := Lib.hid (fun h : z = true => Pl.vb_iff.1 (hz.trans h))
  have HEV := Lib.hid (fun (h1 : n1 ≤ 1000) W (h : Below w.heap.size w W) => dsorted_any A1 a c1 n1 hn1 h1 W (hI1.below h))
  have HF2 := Lib.hid (fun x W h => find_at A2 b c2 n2 hn2 hm2 w hI2 x W h)
  have HN1 := Lib.hid hn1
  have HN2 := Lib.hid hn2
  clear hy hz hn1 hn2 hm1 hm2 hI1 hI2 HC hc1 hc2
  generalize Pl.coE a b = er at *
  generalize Pl.agV a b = vr at *
  cases y
  case false =>
    have h1 := HE.out
    have h2 := HR.out
    simp at h1
    subst h1
    simp at h2
    subst h2
    clear HE HR HEV HVA HVB HF2
    go_enter Try.func33, Try.ntmps33
    go_wp2_with fail
    refine HV1.out.mono ?_
    rintro e w1 ⟨rfl, hb⟩
    go_wp2
    go_ret2
    exact ⟨_, rfl, World.ownsRow_nil _ _ _ _, hb⟩
  case true =>
  cases z
  case false =>
    have h1 := HE.out
    have h2 := HR.out
    simp at h1
    subst h1
    simp at h2
    subst h2
    clear HE HR HEV HVA HVB HF2
    go_enter Try.func33, Try.ntmps33
    go_wp2_with fail
    refine HV1.out.mono ?_
    rintro e w1 ⟨rfl, hb⟩
    go_wp2_with fail
    refine (HV2.out _ hb).mono ?_
    rintro e w2 ⟨rfl, hb2⟩
    have hB2 := hb.trans (hb2.mono hb.size)
    go_wp2
    go_ret2
    exact ⟨_, rfl, World.ownsRow_nil _ _ _ _, hB2⟩
  case true =>
    have h1 := HE.out
    have h2 := HR.out
    simp at h1
    subst h1
    simp at h2
    subst h2
    have Ha := Lib.hid (HVA.out (by rfl))
    have Hb := Lib.hid (HVB.out (by rfl))
    have hl1 : n1 ≤ 200 := by rw [← HN1.out]; exact Ha.out.len
    have hl2 : n2 ≤ 200 := by rw [← HN2.out]; exact Hb.out.len
    have HDE : Hid (Pl.agl b (Pl.srt a) = Pl.agr a b) := Lib.hid rfl
    have HEA : Hid (∀ x, x ∈ Pl.srt a → Pl.vE x = true) := Lib.hid (fun x hx => Ha.out.each x (Pl.srt_mem.1 hx))
    have hm : (Pl.srt a).length = n1 := by rw [Pl.srt_len, HN1.out]
    generalize Pl.srt a = E at *
    obtain ⟨m, hmm⟩ : ∃ m, n1 = m := ⟨_, rfl⟩
    rw [hmm] at hm
    have hm200 : m ≤ 200 := by omega
    have HM := Lib.hid hm
    obtain ⟨i0, hi, hz0, hz1, hz2⟩ := info_parts infoEn3
    clear HE HR HVA HVB hm hmm
    go_enter Try.func33, Try.ntmps33
    go_wp2_with fail
    refine HV1.out.mono ?_
    rintro e w1 ⟨rfl, hb⟩
    go_wp2_with fail
    refine (HV2.out _ hb).mono ?_
    rintro e w2 ⟨rfl, hb2⟩
    have HB2 := Lib.hid (hb.trans (hb2.mono hb.size))
    clear hb hb2 HV1 HV2
    go_wp2_with fail
    refine (HEV.out (by omega) _ HB2.out).mono ?_
    rintro e w3 ⟨v3, rfl, hO3, hb3⟩
    rw [HM.out] at hO3
    obtain ⟨A3, c3, rfl, hR3, _, _, _⟩ := rows_own2 HM.out hO3
    have HB3 := Lib.hid (HB2.out.trans (hb3.mono HB2.out.size))
    have HR3 := Lib.hid hR3
    clear hO3 hb3 hR3 HB2 HEV
    go_wp2
    go_loopw [6, 10, 22] (fun v _ i wr => ∃ k : Nat, k ≤ m ∧ i = .int .i64 k ∧ Hid (wr.ownsRow w3.heap.size 24 4 v (Pl.agl b (E.take k)).length (flt enL (Pl.agl b (E.take k)))) ∧ Hid (Below w3.heap.size w3 wr)) (fun _ _ i _ => m - (intOf i).toNat)
    case atStart => exact ⟨0, Nat.zero_le _, rfl, Lib.hid (World.ownsRow_nil _ _ _ _), Lib.hid (Below.refl _ _)⟩
    case round =>
      obtain ⟨k, hk, rfl, HO, HW⟩ := hrel
      obtain ⟨wo, rfl⟩ : ∃ wo, wo = wr := ⟨_, rfl⟩
      by_cases hlt : k < m
      · have hltI : (k : Int) < (m : Int) := by omega
        have hkx : k < E.length := by rw [HM.out]; exact hlt
        obtain ⟨bx, ox, rfl, hbx, hcx⟩ := HR3.out.open (by omega)
        have hr := row_at hbx hcx HW.out hkx
        have HCR := Lib.hid (Pl.agl_take (b := b) hkx)
        have HDL : Hid ((Pl.agl b (E.take k)).length ≤ 200) := Lib.hid (by have := Pl.agl_len b E k; omega)
        have HVX := Lib.hid (HEA.out _ (List.getElem_mem hkx))
        clear hcx
        generalize E[k] = x at *
        generalize Pl.agl b (E.take k) = X at *
        have HFX := Lib.hid (fun W h => HF2.out x W h)
        have HGN := Lib.hid (fun h => Pl.gt_not (l := b) HVX.out h)
        generalize Pl.gt b (Pl.nm x) = M at *
        generalize (Pl.fnd b (Pl.nm x)).isSome = s at *
        have bz := Blk.new wo 24 zen
        have HBz := Lib.hid ((Below.refl wo.heap.size wo).alloc (Nat.le_refl _) (.cells zen 24))
        clear hkx
        go_wp2_with (first
          | (have h9 := bz
             refine st_en (k := x) bz rfl rfl _ _ rfl rfl rfl ?_
             clear h9
             intro w5 bY hO5
             have hb5 : Below wo.heap.size wo w5 := HBz.out.trans (hO5.below (Nat.le_refl _))
             have HO5 := Lib.hid (own_keep HO.out hb5)
             have HW5 := Lib.hid (HW.out.trans (hb5.mono HW.out.size))
             have hr7 := bY.range
             clear bz hO5 hb5 hr)
          | (have h9 := hr
             refine ldm_en hr rfl _ rfl rfl ?_
             clear h9)
          | (have h9 := hr7
             refine ldm_en hr7 rfl _ rfl rfl ?_
             clear h9))
        refine (HFX.out _ (HB3.out.trans (HW5.out.mono HB3.out.size))).mono ?_
        rintro e w6 ⟨rfl, hb6⟩
        have HO8 := Lib.hid (own_keep HO5.out hb6)
        have HW8 := Lib.hid (HW5.out.trans (hb6.mono HW5.out.size))
        have bM8 := bY.below hb6 bY.lt
        have bz8 := Blk.new w6 24 zen
        have HBz8 := Lib.hid ((Below.refl w6.heap.size w6).alloc (Nat.le_refl _) (.cells zen 24))
        clear hb6 hr7 bY HO HO5 HW HW5 HBz HFX
        cases s
        case false =>
          have hMx := HGN.out rfl
          have HN : Hid (Pl.agl b (E.take (k + 1)) = X) := Lib.hid (by rw [HCR.out, if_neg hMx])
          clear HCR HGN hMx
          go_wp2_with (first
          | (have h9 := bz8
             refine st_en (k := M) bz8 rfl rfl _ _ rfl rfl rfl ?_
             clear h9
             intro w9 bT hO9
             have hb9 : Below w6.heap.size w6 w9 := HBz8.out.trans (hO9.below (Nat.le_refl _))
             have HO9 := Lib.hid (own_keep HO8.out hb9)
             have HW9 := Lib.hid (HW8.out.trans (hb9.mono HW8.out.size))
             have rx := (bM8.below hb9 bM8.lt).range
             have rT := bT.range
             clear bz8 hO9 hb9 bM8)
          | (have h9 := rx
             refine ldm_en (s := x) rx rfl _ rfl rfl ?_
             clear h9)
          | (have h9 := rT
             refine ldm_en (s := M) rT rfl _ rfl rfl ?_
             clear h9))
          clear rx rT bT
          go_roundw
          case rel => exact ⟨k + 1, by omega, by go_num, Lib.hid (by rw [HN.out]; exact HO9.out), HW9⟩
          case measure => simp [intOf]; omega
        case true =>
        by_cases hMx : M = x
        case pos =>
          have heq := fun W => run_eqEn M x true (decide_eq_true hMx) W
          have HN : Hid (Pl.agl b (E.take (k + 1)) = X ++ [x]) := Lib.hid (by rw [HCR.out, if_pos hMx])
          clear HCR HGN hMx
          go_wp2_with (first
          | (have h9 := bz8
             refine st_en (k := M) bz8 rfl rfl _ _ rfl rfl rfl ?_
             clear h9
             intro w9 bT hO9
             have hb9 : Below w6.heap.size w6 w9 := HBz8.out.trans (hO9.below (Nat.le_refl _))
             have HO9 := Lib.hid (own_keep HO8.out hb9)
             have HW9 := Lib.hid (HW8.out.trans (hb9.mono HW8.out.size))
             have rx := (bM8.below hb9 bM8.lt).range
             have rT := bT.range
             clear bz8 hO9 hb9 bM8)
          | (have h9 := rx
             refine ldm_en (s := x) rx rfl _ rfl rfl ?_
             clear h9)
          | (have h9 := rT
             refine ldm_en (s := M) rT rfl _ rfl rfl ?_
             clear h9)
          | (at_builtin; go_loud (refine wpList_append_own _ rfl _ _ 22 rfl w3.heap.size 24 i0 _ 4 32 Try.underlying22 hi hz0 hz1 hz2 rfl (by decide) _ _ _ rfl (HO9.out.alloc _) ⟨w9.heap.size, 0, none⟩ 1 1 (enL x) rfl rfl (new_cells' _ _ _ rfl) (enL_one x) (by unfold maxLen; have := HDL.out; omega) (by have := HDL.out; omega) (HW9.out.alloc HW9.out.size _).size ?_; intro v5 w10 hO5 hg5 _)))
          have HW5 := Lib.hid ((HW9.out.alloc HW9.out.size (.cells (enL x).toArray 24)).grown hg5 (HW9.out.alloc HW9.out.size _).size (fun s h => (HO9.out.lt s h).1))
          have HO5 := Lib.hid hO5
          clear hO5 hg5 rx rT bT heq
          go_roundw
          case rel => exact ⟨k + 1, by omega, by go_num, Lib.hid (by rw [HN.out, flt_append, flt_one, List.length_append]; exact HO5.out), HW5⟩
          case measure => simp [intOf]; omega
        case neg =>
          have heq := fun W => run_eqEn M x false (decide_eq_false hMx) W
          have HN : Hid (Pl.agl b (E.take (k + 1)) = X) := Lib.hid (by rw [HCR.out, if_neg hMx])
          clear HCR HGN hMx
          go_wp2_with (first
          | (have h9 := bz8
             refine st_en (k := M) bz8 rfl rfl _ _ rfl rfl rfl ?_
             clear h9
             intro w9 bT hO9
             have hb9 : Below w6.heap.size w6 w9 := HBz8.out.trans (hO9.below (Nat.le_refl _))
             have HO9 := Lib.hid (own_keep HO8.out hb9)
             have HW9 := Lib.hid (HW8.out.trans (hb9.mono HW8.out.size))
             have rx := (bM8.below hb9 bM8.lt).range
             have rT := bT.range
             clear bz8 hO9 hb9 bM8)
          | (have h9 := rx
             refine ldm_en (s := x) rx rfl _ rfl rfl ?_
             clear h9)
          | (have h9 := rT
             refine ldm_en (s := M) rT rfl _ rfl rfl ?_
             clear h9))
          clear rx rT bT heq
          go_roundw
          case rel => exact ⟨k + 1, by omega, by go_num, Lib.hid (by rw [HN.out]; exact HO9.out), HW9⟩
          case measure => simp [intOf]; omega
      · obtain rfl : k = m := by omega
        have HO2 := HO.out
        rw [List.take_of_length_le (by rw [HM.out]; exact Nat.le_refl _), HDE.out] at HO2
        have HO3 := Lib.hid (HO2.mono HB3.out.size)
        have HW5 := Lib.hid (HB3.out.trans (HW.out.mono HB3.out.size))
        clear HO2
        go_wp2
        go_ret2
        exact ⟨_, rfl, HO3.out, HW5.out⟩
set_option maxRecDepth 100000 in
set_option maxHeartbeats 32000000 in
theorem dsince2_b (A1 A2 : Option Addr) (a b : List Pl.En) (n1 c1 n2 c2 : Nat) (hn1 : a.length = n1) (hn2 : b.length = n2) (hc1 : n1 ≤ c1) (hc2 : n2 ≤ c2) (hm1 : n1 ≤ maxLen) (hm2 : n2 ≤ maxLen) (w : World) (hI1 : Rows enL 4 w A1 a) (hI2 : Rows enL 4 w A2 b) :
    Calls Try.prog 37 #[.slice A1 n1 c1, .slice A2 n2 c2] w fun e w' => ∃ v, e = .returned (.tuple #[v, .int .i64 (Pl.coE a b)]) ∧ w'.ownsRow w.heap.size 24 4 v (Pl.snV a b).length (flt enL (Pl.snV a b)) ∧ Below w.heap.size w w' := by
  obtain ⟨y, hy⟩ : ∃ y, Pl.vB a = y := ⟨_, rfl⟩
  obtain ⟨z, hz⟩ : ∃ z, Pl.vB b = z := ⟨_, rfl⟩
  have HC := Lib.hid (co_cases a b hy hz)
  have HV1 := Lib.hid (dvalid_any A1 a c1 n1 hn1 hc1 hm1 y hy w hI1)
  have HV2 := Lib.hid (fun W (h : Below w.heap.size w W) => dvalid_any A2 b c2 n2 hn2 hc2 hm2 z hz W (hI2.below h))
  have HE := Lib.hid HC.out.1
  have HR := Lib.hid HC.out.2.2.2
  have HVA := Lib.hid (fun h : y = true => Pl.vb_iff.1 (hy.trans h))
  have HVB := Lib.hid (fun h : z = true => Pl.vb_iff.1 (hz.trans h))
  have HEV := Lib.hid (fun (h1 : n2 ≤ 1000) W (h : Below w.heap.size w W) => dsorted_any A2 b c2 n2 hn2 h1 W (hI2.below h))
  have HF2 := Lib.hid (fun x W h => find_at A1 a c1 n1 hn1 hm1 w hI1 x W h)
  have HN1 := Lib.hid hn1
  have HN2 := Lib.hid hn2
  clear hy hz hn1 hn2 hm1 hm2 hI1 hI2 HC hc1 hc2
  generalize Pl.coE a b = er at *
  generalize Pl.snV a b = vr at *
  cases y
  case false =>
    have h1 := HE.out
    have h2 := HR.out
    simp at h1
    subst h1
    simp at h2
    subst h2
    clear HE HR HEV HVA HVB HF2
    go_enter Try.func37, Try.ntmps37
    go_wp2_with fail
    refine HV1.out.mono ?_
    rintro e w1 ⟨rfl, hb⟩
    go_wp2
    go_ret2
    exact ⟨_, rfl, World.ownsRow_nil _ _ _ _, hb⟩
  case true =>
  cases z
  case false =>
    have h1 := HE.out
    have h2 := HR.out
    simp at h1
    subst h1
    simp at h2
    subst h2
    clear HE HR HEV HVA HVB HF2
    go_enter Try.func37, Try.ntmps37
    go_wp2_with fail
    refine HV1.out.mono ?_
    rintro e w1 ⟨rfl, hb⟩
    go_wp2_with fail
    refine (HV2.out _ hb).mono ?_
    rintro e w2 ⟨rfl, hb2⟩
    have hB2 := hb.trans (hb2.mono hb.size)
    go_wp2
    go_ret2
    exact ⟨_, rfl, World.ownsRow_nil _ _ _ _, hB2⟩
  case true =>
    have h1 := HE.out
    have h2 := HR.out
    simp at h1
    subst h1
    simp at h2
    subst h2
    have Ha := Lib.hid (HVA.out (by rfl))
    have Hb := Lib.hid (HVB.out (by rfl))
    have hl1 : n1 ≤ 200 := by rw [← HN1.out]; exact Ha.out.len
    have hl2 : n2 ≤ 200 := by rw [← HN2.out]; exact Hb.out.len
    have HDE : Hid (Pl.snl a (Pl.srt b) = Pl.snc a b) := Lib.hid rfl
    have HEA : Hid (∀ x, x ∈ Pl.srt b → Pl.vE x = true) := Lib.hid (fun x hx => Hb.out.each x (Pl.srt_mem.1 hx))
    have hm : (Pl.srt b).length = n2 := by rw [Pl.srt_len, HN2.out]
    generalize Pl.srt b = E at *
    obtain ⟨m, hmm⟩ : ∃ m, n2 = m := ⟨_, rfl⟩
    rw [hmm] at hm
    have hm200 : m ≤ 200 := by omega
    have HM := Lib.hid hm
    obtain ⟨i0, hi, hz0, hz1, hz2⟩ := info_parts infoEn3
    clear HE HR HVA HVB hm hmm
    go_enter Try.func37, Try.ntmps37
    go_wp2_with fail
    refine HV1.out.mono ?_
    rintro e w1 ⟨rfl, hb⟩
    go_wp2_with fail
    refine (HV2.out _ hb).mono ?_
    rintro e w2 ⟨rfl, hb2⟩
    have HB2 := Lib.hid (hb.trans (hb2.mono hb.size))
    clear hb hb2 HV1 HV2
    go_wp2_with fail
    refine (HEV.out (by omega) _ HB2.out).mono ?_
    rintro e w3 ⟨v3, rfl, hO3, hb3⟩
    rw [HM.out] at hO3
    obtain ⟨A3, c3, rfl, hR3, _, _, _⟩ := rows_own2 HM.out hO3
    have HB3 := Lib.hid (HB2.out.trans (hb3.mono HB2.out.size))
    have HR3 := Lib.hid hR3
    clear hO3 hb3 hR3 HB2 HEV
    go_wp2
    go_loopw [6, 10, 22] (fun v _ i wr => ∃ k : Nat, k ≤ m ∧ i = .int .i64 k ∧ Hid (wr.ownsRow w3.heap.size 24 4 v (Pl.snl a (E.take k)).length (flt enL (Pl.snl a (E.take k)))) ∧ Hid (Below w3.heap.size w3 wr)) (fun _ _ i _ => m - (intOf i).toNat)
    case atStart => exact ⟨0, Nat.zero_le _, rfl, Lib.hid (World.ownsRow_nil _ _ _ _), Lib.hid (Below.refl _ _)⟩
    case round =>
      obtain ⟨k, hk, rfl, HO, HW⟩ := hrel
      obtain ⟨wo, rfl⟩ : ∃ wo, wo = wr := ⟨_, rfl⟩
      by_cases hlt : k < m
      · have hltI : (k : Int) < (m : Int) := by omega
        have hkx : k < E.length := by rw [HM.out]; exact hlt
        obtain ⟨bx, ox, rfl, hbx, hcx⟩ := HR3.out.open (by omega)
        have hr := row_at hbx hcx HW.out hkx
        have HCR := Lib.hid (Pl.snl_take (o := a) hkx)
        have HDL : Hid ((Pl.snl a (E.take k)).length ≤ 200) := Lib.hid (by have := Pl.snl_len a E k; omega)
        have HVX := Lib.hid (HEA.out _ (List.getElem_mem hkx))
        clear hcx
        generalize E[k] = x at *
        generalize Pl.snl a (E.take k) = X at *
        have HFX := Lib.hid (fun W h => HF2.out x W h)
        have HGN := Lib.hid (fun h => Pl.gt_not (l := a) HVX.out h)
        generalize Pl.gt a (Pl.nm x) = M at *
        generalize (Pl.fnd a (Pl.nm x)).isSome = s at *
        have bz := Blk.new wo 24 zen
        have HBz := Lib.hid ((Below.refl wo.heap.size wo).alloc (Nat.le_refl _) (.cells zen 24))
        clear hkx
        go_wp2_with (first
          | (have h9 := bz
             refine st_en (k := x) bz rfl rfl _ _ rfl rfl rfl ?_
             clear h9
             intro w5 bY hO5
             have hb5 : Below wo.heap.size wo w5 := HBz.out.trans (hO5.below (Nat.le_refl _))
             have HO5 := Lib.hid (own_keep HO.out hb5)
             have HW5 := Lib.hid (HW.out.trans (hb5.mono HW.out.size))
             have hr7 := bY.range
             clear bz hO5 hb5 hr)
          | (have h9 := hr
             refine ldm_en hr rfl _ rfl rfl ?_
             clear h9)
          | (have h9 := hr7
             refine ldm_en hr7 rfl _ rfl rfl ?_
             clear h9))
        refine (HFX.out _ (HB3.out.trans (HW5.out.mono HB3.out.size))).mono ?_
        rintro e w6 ⟨rfl, hb6⟩
        have HO8 := Lib.hid (own_keep HO5.out hb6)
        have HW8 := Lib.hid (HW5.out.trans (hb6.mono HW5.out.size))
        have bM8 := bY.below hb6 bY.lt
        have bz8 := Blk.new w6 24 zen
        have HBz8 := Lib.hid ((Below.refl w6.heap.size w6).alloc (Nat.le_refl _) (.cells zen 24))
        clear hb6 hr7 bY HO HO5 HW HW5 HBz HFX
        cases s
        case false =>
          have hMx := HGN.out rfl
          have HN : Hid (Pl.snl a (E.take (k + 1)) = X ++ [x]) := Lib.hid (by rw [HCR.out, if_neg hMx])
          clear HCR HGN hMx
          go_wp2_with (first
          | (have h9 := bz8
             refine st_en (k := M) bz8 rfl rfl _ _ rfl rfl rfl ?_
             clear h9
             intro w9 bT hO9
             have hb9 : Below w6.heap.size w6 w9 := HBz8.out.trans (hO9.below (Nat.le_refl _))
             have HO9 := Lib.hid (own_keep HO8.out hb9)
             have HW9 := Lib.hid (HW8.out.trans (hb9.mono HW8.out.size))
             have rx := (bM8.below hb9 bM8.lt).range
             have rT := bT.range
             clear bz8 hO9 hb9 bM8)
          | (have h9 := rx
             refine ldm_en (s := x) rx rfl _ rfl rfl ?_
             clear h9)
          | (have h9 := rT
             refine ldm_en (s := M) rT rfl _ rfl rfl ?_
             clear h9)
          | (at_builtin; go_loud (refine wpList_append_own _ rfl _ _ 22 rfl w3.heap.size 24 i0 _ 4 32 Try.underlying22 hi hz0 hz1 hz2 rfl (by decide) _ _ _ rfl (HO9.out.alloc _) ⟨w9.heap.size, 0, none⟩ 1 1 (enL x) rfl rfl (new_cells' _ _ _ rfl) (enL_one x) (by unfold maxLen; have := HDL.out; omega) (by have := HDL.out; omega) (HW9.out.alloc HW9.out.size _).size ?_; intro v5 w10 hO5 hg5 _)))
          have HW5 := Lib.hid ((HW9.out.alloc HW9.out.size (.cells (enL x).toArray 24)).grown hg5 (HW9.out.alloc HW9.out.size _).size (fun s h => (HO9.out.lt s h).1))
          have HO5 := Lib.hid hO5
          clear hO5 hg5 rx rT bT
          go_roundw
          case rel => exact ⟨k + 1, by omega, by go_num, Lib.hid (by rw [HN.out, flt_append, flt_one, List.length_append]; exact HO5.out), HW5⟩
          case measure => simp [intOf]; omega
        case true =>
        by_cases hMx : M = x
        case pos =>
          have heq := fun W => run_eqEn M x true (decide_eq_true hMx) W
          have HN : Hid (Pl.snl a (E.take (k + 1)) = X) := Lib.hid (by rw [HCR.out, if_pos hMx])
          clear HCR HGN hMx
          go_wp2_with (first
          | (have h9 := bz8
             refine st_en (k := M) bz8 rfl rfl _ _ rfl rfl rfl ?_
             clear h9
             intro w9 bT hO9
             have hb9 : Below w6.heap.size w6 w9 := HBz8.out.trans (hO9.below (Nat.le_refl _))
             have HO9 := Lib.hid (own_keep HO8.out hb9)
             have HW9 := Lib.hid (HW8.out.trans (hb9.mono HW8.out.size))
             have rx := (bM8.below hb9 bM8.lt).range
             have rT := bT.range
             clear bz8 hO9 hb9 bM8)
          | (have h9 := rx
             refine ldm_en (s := x) rx rfl _ rfl rfl ?_
             clear h9)
          | (have h9 := rT
             refine ldm_en (s := M) rT rfl _ rfl rfl ?_
             clear h9))
          clear rx rT bT heq
          go_roundw
          case rel => exact ⟨k + 1, by omega, by go_num, Lib.hid (by rw [HN.out]; exact HO9.out), HW9⟩
          case measure => simp [intOf]; omega
        case neg =>
          have heq := fun W => run_eqEn M x false (decide_eq_false hMx) W
          have HN : Hid (Pl.snl a (E.take (k + 1)) = X ++ [x]) := Lib.hid (by rw [HCR.out, if_neg hMx])
          clear HCR HGN hMx
          go_wp2_with (first
          | (have h9 := bz8
             refine st_en (k := M) bz8 rfl rfl _ _ rfl rfl rfl ?_
             clear h9
             intro w9 bT hO9
             have hb9 : Below w6.heap.size w6 w9 := HBz8.out.trans (hO9.below (Nat.le_refl _))
             have HO9 := Lib.hid (own_keep HO8.out hb9)
             have HW9 := Lib.hid (HW8.out.trans (hb9.mono HW8.out.size))
             have rx := (bM8.below hb9 bM8.lt).range
             have rT := bT.range
             clear bz8 hO9 hb9 bM8)
          | (have h9 := rx
             refine ldm_en (s := x) rx rfl _ rfl rfl ?_
             clear h9)
          | (have h9 := rT
             refine ldm_en (s := M) rT rfl _ rfl rfl ?_
             clear h9)
          | (at_builtin; go_loud (refine wpList_append_own _ rfl _ _ 22 rfl w3.heap.size 24 i0 _ 4 32 Try.underlying22 hi hz0 hz1 hz2 rfl (by decide) _ _ _ rfl (HO9.out.alloc _) ⟨w9.heap.size, 0, none⟩ 1 1 (enL x) rfl rfl (new_cells' _ _ _ rfl) (enL_one x) (by unfold maxLen; have := HDL.out; omega) (by have := HDL.out; omega) (HW9.out.alloc HW9.out.size _).size ?_; intro v5 w10 hO5 hg5 _)))
          have HW5 := Lib.hid ((HW9.out.alloc HW9.out.size (.cells (enL x).toArray 24)).grown hg5 (HW9.out.alloc HW9.out.size _).size (fun s h => (HO9.out.lt s h).1))
          have HO5 := Lib.hid hO5
          clear hO5 hg5 rx rT bT heq
          go_roundw
          case rel => exact ⟨k + 1, by omega, by go_num, Lib.hid (by rw [HN.out, flt_append, flt_one, List.length_append]; exact HO5.out), HW5⟩
          case measure => simp [intOf]; omega
      · obtain rfl : k = m := by omega
        have HO2 := HO.out
        rw [List.take_of_length_le (by rw [HM.out]; exact Nat.le_refl _), HDE.out] at HO2
        have HO3 := Lib.hid (HO2.mono HB3.out.size)
        have HW5 := Lib.hid (HB3.out.trans (HW.out.mono HB3.out.size))
        clear HO2
        go_wp2
        go_ret2
        exact ⟨_, rfl, HO3.out, HW5.out⟩
set_option maxRecDepth 100000 in
set_option maxHeartbeats 8000000 in
theorem sameDiffs_eq (A B : Option Addr) (xs : List Pl.Df) (c d n : Nat) (hn : xs.length = n) (hn4 : n ≤ 1000) (w : World) (hA : Rows dfL 9 w A xs) (hB : Rows dfL 9 w B xs) :
    Calls Try.prog 31 #[.slice A n c, .slice B n d] w fun e w' => e = .returned (.bool true) ∧ Below w.heap.size w w' := by
  have HA := Lib.hid hA
  have HBB := Lib.hid hB
  have HN := Lib.hid hn
  clear hA hB hn
  go_enter Try.func31, Try.ntmps31
  go_wp2
  go_loopw [5, 13] (fun _ i wr => ∃ k : Nat, k ≤ n ∧ i = .int .i64 k ∧ Below w.heap.size w wr) (fun _ i _ => n - (intOf i).toNat)
  case atStart => exact ⟨0, Nat.zero_le _, rfl, Below.refl _ _⟩
  case round =>
    obtain ⟨k, hk, rfl, hW⟩ := hrel
    obtain ⟨wo, rfl⟩ : ∃ wo, wo = wr := ⟨_, rfl⟩
    by_cases hlt : k < n
    · have hltI : (k : Int) < (n : Int) := by omega
      have hkx : k < xs.length := by rw [HN.out]; exact hlt
      obtain ⟨ba, oa, rfl, hba, hca⟩ := HA.out.open (by omega)
      obtain ⟨bb, ob, rfl, hbb, hcb⟩ := HBB.out.open (by omega)
      have rx := Lib.hid (row_at hba hca hW hkx)
      have ry := Lib.hid (row_at hbb hcb hW hkx)
      have hbx := Lib.hid (Nat.lt_of_lt_of_le hba hW.size)
      have hby := Lib.hid (Nat.lt_of_lt_of_le hbb hW.size)
      clear hca hcb
      generalize xs[k] = r at *
      have a0 := fun s : Ext wo => (df_cells (d := r) (ext_range s rx.out hbx.out)).c0
      have b0 := fun s : Ext wo => (df_cells (d := r) (ext_range s ry.out hby.out)).c0
      have a1 := fun s : Ext wo => (df_cells (d := r) (ext_range s rx.out hbx.out)).c1
      have b1 := fun s : Ext wo => (df_cells (d := r) (ext_range s ry.out hby.out)).c1
      have a2 := fun s : Ext wo => (df_cells (d := r) (ext_range s rx.out hbx.out)).c2
      have b2 := fun s : Ext wo => (df_cells (d := r) (ext_range s ry.out hby.out)).c2
      have a3 := fun s : Ext wo => (df_cells (d := r) (ext_range s rx.out hbx.out)).c3
      have b3 := fun s : Ext wo => (df_cells (d := r) (ext_range s ry.out hby.out)).c3
      have a4 := fun s : Ext wo => (df_cells (d := r) (ext_range s rx.out hbx.out)).c4
      have b4 := fun s : Ext wo => (df_cells (d := r) (ext_range s ry.out hby.out)).c4
      have a5 := fun s : Ext wo => (df_cells (d := r) (ext_range s rx.out hbx.out)).c5
      have b5 := fun s : Ext wo => (df_cells (d := r) (ext_range s ry.out hby.out)).c5
      have a6 := fun s : Ext wo => (df_cells (d := r) (ext_range s rx.out hbx.out)).c6
      have b6 := fun s : Ext wo => (df_cells (d := r) (ext_range s ry.out hby.out)).c6
      have a7 := fun s : Ext wo => (df_cells (d := r) (ext_range s rx.out hbx.out)).c7
      have b7 := fun s : Ext wo => (df_cells (d := r) (ext_range s ry.out hby.out)).c7
      have a8 := fun s : Ext wo => (df_cells (d := r) (ext_range s rx.out hbx.out)).c8
      have b8 := fun s : Ext wo => (df_cells (d := r) (ext_range s ry.out hby.out)).c8
      have heq := fun w => run_eqDf r w
      go_wp2
      refine wp_region_ext (by kernel_rfl) (by kernel_rfl) ?_
      repeat (go_big_quiet_step (fail))
      refine wpQuiet_nil ?_
      rintro _ ⟨s, rfl⟩
      go_wp2
      go_roundw
      case rel => exact ⟨k + 1, by omega, by go_num, hW.trans (s.h.mono hW.size)⟩
      case measure => simp [intOf]; omega
    · obtain rfl : k = n := by omega
      go_wp2
      go_ret
      exact ⟨rfl, hW⟩
end Go.Proofs.Ytalfffkcmddakaa
