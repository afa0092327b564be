/- Merged: T1 T2 T3. -/
import Derived.Test.YtlikmlhlfbdchaaSZ
/- nest: when one more place is free, plain; free of the document. -/
namespace Go.Proofs.Ytlikmlhlfbdchaa
open Go.RowKit Go.Shelf
set_option linter.unusedVariables false
namespace Ne
/-- a place that is apart from the first k of a layout -/
noncomputable def frK (ps : List Pa) (p : Pc) (pl : List Pc) (g : Int) : Nat → Bool
  | 0 => true
  | j + 1 => frK ps p pl g j && apB (lyg ps p) (lyg ps (pl.getD j zc)) g
theorem frK_mono {ps : List Pa} {p : Pc} {pl : List Pc} {g : Int} {j k : Nat} (h : j ≤ k) (hk : frK ps p pl g k = true) : frK ps p pl g j = true := by
  induction k with
  | zero => obtain rfl : j = 0 := by omega
            rfl
  | succ k ih =>
    by_cases e : j = k + 1
    · subst e; exact hk
    · unfold frK at hk; simp only [Bool.and_eq_true] at hk; exact ih (by omega) hk.1
/-- one more place is free -/
noncomputable def frB (b : Bo) (ps : List Pa) (pl : List Pc) (p : Pc) : Bool := decide (pl.length < 200) && (rgB ps p && (onBb b (lyg ps p) && (clB b (lyg ps p) && frK ps p pl b.g pl.length)))
end Ne
set_option maxRecDepth 100000 in
set_option maxHeartbeats 16000000 in
theorem rfree_b (b : Ne.Bo) (A B C : Option Addr) (ps : List Ne.Pa) (pl : List Ne.Pc) (f fc m c' n c'' : Nat) (hf : b.fs.length = f) (hm : ps.length = m) (hn : pl.length = n) (hvb : Ne.vBo b = true) (hvp : Ne.vPa ps = true) (h2 : n ≤ 200) (hall : ∀ j, j < n → Ne.lsB ps (pl.getD j Ne.zc) = true) (p : Ne.Pc) (r : Bool) (hr : Ne.frB b ps pl p = r)
    (w : World) (hF : Rows Ne.rcL 4 w A b.fs) (hP : Ne.PaM w B ps) (hL : Rows Ne.pcL 4 w C pl) :
    Calls Try.prog 77 #[.agg (boW b A f fc), .slice B m c', .slice C n c'', .agg (Ne.pcL p).toArray] w fun e w' => e = .returned (.bool r) ∧ Below w.heap.size w w' := by
  have hB0 := (Below.refl w.heap.size w).alloc (Nat.le_refl _) (.cells (boW b A f fc) 33)
  have hB := hB0.alloc hB0.size (.cells (Ne.pcL p).toArray 40)
  have bB := (Blk.new w 33 (boW b A f fc)).alloc (.cells (Ne.pcL p).toArray 40)
  have bP := Blk.new (w.alloc (.cells (boW b A f fc) 33)) 40 (Ne.pcL p).toArray
  rw [World.size_alloc] at bP
  have hrP := bP.range
  have hrB := bB.range
  have h60 := Ne.vPa_len hvp
  rw [hm] at h60
  have hvi := Ne.vBo_in hvb
  have HRG : Hid (∀ y, Ne.rgB ps p = y → ∀ W, Ne.PaM W B ps → Calls Try.prog 100 #[.slice B m c', .agg (Ne.pcL p).toArray] W fun e w' => e = .returned (.bool y) ∧ Below W.heap.size W w') := Lib.hid (fun y hy W h => rright_b B ps c' m hm h60 p y hy W h)
  have HLY := Lib.hid (fun p (hp : Ne.lsB ps p = true) N (hN : (Ne.lyg ps p).length = N) W h => rly_at B ps c' m hm hvp p hp N hN W h)
  have HBD := Lib.hid (fun p (hp : Ne.lsB ps p = true) => (⟨Ne.lyg_bd hvp hp, Ne.dir_ls hvp hp⟩ : (Ne.AllBd (Ne.lyg ps p) ∧ 3 ≤ (Ne.lyg ps p).length ∧ (Ne.lyg ps p).length ≤ 64) ∧ Ne.DirOk (Ne.lyg ps p)))
  have HON := Lib.hid (fun D o N (hN : o.length = N) (h3 : 3 ≤ N) (h64 : N ≤ 64) c1 y (hy : Ne.onBb b o = y) W (h : Pts W D o) => ron_b b A D o f fc N c1 hN (by omega) (by omega) y hy W h)
  have HCL := Lib.hid (fun D o N (hN : o.length = N) (h3 : 3 ≤ N) (h64 : N ≤ 64) c1 (hbd : Ne.AllBd o) (hd : Ne.DirOk o) y (hy : Ne.clB b o = y) W (h1 : Rows Ne.rcL 4 W A b.fs) (h : Pts W D o) => rclear_b b A D o f fc N c1 hf hN h3 h64 hvb hbd hd y hy W h1 h)
  have HAP := Lib.hid (fun D1 D2 o p N M (hN : o.length = N) (hM : p.length = M) (h3 : 3 ≤ N) (h64 : N ≤ 64) (k3 : 3 ≤ M) (k64 : M ≤ 64) c1 c2 (hbd : Ne.AllBd o) (hbd2 : Ne.AllBd p) (hd : Ne.DirOk o) (hd2 : Ne.DirOk p) y (hy : Ne.apB o p b.g = y) W (h : Pts W D1 o) (h1 : Pts W D2 p) =>
    show Calls Try.prog 52 #[.slice D1 N c1, .slice D2 M c2, .int .i64 b.g] W (fun e w' => e = .returned (.bool y) ∧ Below W.heap.size W w') from by
      have H := rapart_b D1 D2 o p c1 c2 b.g (by omega) (by omega) (by omega) (by omega) hbd hbd2 hd.alldir hd2.alldir hvi.2.2.1.1 hvi.2.2.1.2 y hy W h h1
      rw [hN, hM] at H
      exact H)
  have HF := Lib.hid (hF.below hB)
  have HP := Lib.hid (hP.below hB)
  have HL := Lib.hid (hL.below hB)
  have HN := Lib.hid hn
  have HALL := Lib.hid hall
  have HR : Hid (r = (decide (n < 200) && (Ne.rgB ps p && (Ne.onBb b (Ne.lyg ps p) && (Ne.clB b (Ne.lyg ps p) && Ne.frK ps p pl b.g n))))) := Lib.hid (by rw [← hr]; unfold Ne.frB; rw [hn])
  have HSIZE : Hid (w.heap.size + 2 = ((w.alloc (.cells (boW b A f fc) 33)).alloc (.cells (Ne.pcL p).toArray 40)).heap.size) := Lib.hid (by rw [World.size_alloc, World.size_alloc])
  clear hF hP hL hn hm hvb hvp hf hvi hall hr
  by_cases h200 : n = 200
  · have d1 : decide ((200 : Int) ≤ (n : Int)) = true := by simp; omega
    have HV : Hid (r = false) := Lib.hid (by rw [HR.out, decide_eq_false (by omega)]; rfl)
    clear bB bP hrP hrB HSIZE h200
    go_enter Try.func77, Try.ntmps77
    go_wp2
    go_ret
    exact ⟨by rw [HV.out]; rfl, hB⟩
  have d1 : decide ((200 : Int) ≤ (n : Int)) = false := by simp; omega
  obtain ⟨y, hy⟩ : ∃ y, Ne.rgB ps p = y := ⟨_, rfl⟩
  have HRy := Lib.hid (HRG.out y hy)
  have HYY := Lib.hid hy
  clear hy
  cases y with
  | false =>
    have HV : Hid (r = false) := Lib.hid (by rw [HR.out, HYY.out]; simp)
    go_enter Try.func77, Try.ntmps77
    go_wp2_with (refine ldm_pc hrP (by rfl) _ rfl rfl (Hid.out ?_))
    refine Lib.hid ?_
    go_wp2_with fail
    refine (HRy.out _ HP.out).mono ?_
    rintro e w2 ⟨rfl, hb3⟩
    go_wp2
    go_ret
    exact ⟨by rw [HV.out]; rfl, hB.trans (hb3.mono hB.size)⟩
  | true =>
    have hls := Ne.rg_ls HYY.out
    obtain ⟨N, hN⟩ : ∃ N, (Ne.lyg ps p).length = N := ⟨_, rfl⟩
    obtain ⟨⟨hbd, h3, h64⟩, hd⟩ := HBD.out p hls
    rw [hN] at h3 h64
    have HLp := Lib.hid (HLY.out p hls N hN)
    have HPX := Lib.hid hbd
    have HPD := Lib.hid hd
    have HPN := Lib.hid hN
    clear hbd hd hN hls
    go_enter Try.func77, Try.ntmps77
    go_wp2_with (refine ldm_pc hrP (by rfl) _ rfl rfl (Hid.out ?_))
    refine Lib.hid ?_
    go_wp2_with fail
    refine (HRy.out _ HP.out).mono ?_
    rintro e w2 ⟨rfl, hb3⟩
    have hB2 := hB.trans (hb3.mono hB.size)
    have hrP2 := (bP.below hb3 bP.lt).range
    have bB2 := bB.below hb3 bB.lt
    have HF2 := Lib.hid (HF.out.below hb3)
    have HP2 := Lib.hid (HP.out.below hb3)
    have HL2 := Lib.hid (HL.out.below hb3)
    clear hrP bP bB HF HP HL HRy hrB
    go_wp2_with (refine ldm_pc hrP2 (by rfl) _ rfl rfl (Hid.out ?_))
    refine Lib.hid ?_
    go_wp2_with fail
    refine (HLp.out _ HP2.out).mono ?_
    rintro e w3 ⟨D, c1, rfl, hpt, hc1, hb4⟩
    have HPT := Lib.hid hpt
    have hB3 := hB2.trans (hb4.mono hB2.size)
    have bB3 := bB2.below hb4 bB2.lt
    have hrB3 := bB3.range
    have HF3 := Lib.hid (HF2.out.below hb4)
    have HP3 := Lib.hid (HP2.out.below hb4)
    have HL3 := Lib.hid (HL2.out.below hb4)
    clear hpt hrP2 bB2 HF2 HP2 HL2
    obtain ⟨z1, hz1⟩ : ∃ z, Ne.onBb b (Ne.lyg ps p) = z := ⟨_, rfl⟩
    obtain ⟨z2, hz2⟩ : ∃ z, Ne.clB b (Ne.lyg ps p) = z := ⟨_, rfl⟩
    have HO := Lib.hid (HON.out D (Ne.lyg ps p) N HPN.out h3 h64 c1 z1 hz1)
    have HC := Lib.hid (HCL.out D (Ne.lyg ps p) N HPN.out h3 h64 c1 HPX.out HPD.out z2 hz2)
    have HR2 : Hid (r = (z1 && (z2 && Ne.frK ps p pl b.g n))) := Lib.hid (by rw [HR.out, HYY.out, hz1, hz2, decide_eq_true (by omega)]; rfl)
    clear hz1 hz2
    cases z1 with
    | false =>
      have HV : Hid (r = false) := Lib.hid (by rw [HR2.out]; rfl)
      go_wp2_with (refine ldm_bo hrB3 (by rfl) _ rfl rfl (Hid.out ?_))
      refine Lib.hid ?_
      go_wp2_with fail
      refine (HO.out _ HPT.out).mono ?_
      rintro e w4 ⟨rfl, hb5⟩
      go_wp2
      go_ret
      exact ⟨by rw [HV.out]; rfl, hB3.trans (hb5.mono hB3.size)⟩
    | true =>
      go_wp2_with (refine ldm_bo hrB3 (by rfl) _ rfl rfl (Hid.out ?_))
      refine Lib.hid ?_
      go_wp2_with fail
      refine (HO.out _ HPT.out).mono ?_
      rintro e w4 ⟨rfl, hb5⟩
      have hB4 := hB3.trans (hb5.mono hB3.size)
      have bB4 := bB3.below hb5 bB3.lt
      have hrB4 := bB4.range
      have HF4 := Lib.hid (HF3.out.below hb5)
      have HP4 := Lib.hid (HP3.out.below hb5)
      have HL4 := Lib.hid (HL3.out.below hb5)
      have HPT4 := Lib.hid (HPT.out.below hb5)
      clear hrB3 bB3 HF3 HP3 HL3 HPT
      cases z2 with
      | false =>
        have HV : Hid (r = false) := Lib.hid (by rw [HR2.out]; rfl)
        go_wp2_with (refine ldm_bo hrB4 (by rfl) _ rfl rfl (Hid.out ?_))
        refine Lib.hid ?_
        go_wp2_with fail
        refine (HC.out _ HF4.out HPT4.out).mono ?_
        rintro e w5 ⟨rfl, hb6⟩
        go_wp2
        go_ret
        exact ⟨by rw [HV.out]; rfl, hB4.trans (hb6.mono hB4.size)⟩
      | true =>
        go_wp2_with (refine ldm_bo hrB4 (by rfl) _ rfl rfl (Hid.out ?_))
        refine Lib.hid ?_
        go_wp2_with fail
        refine (HC.out _ HF4.out HPT4.out).mono ?_
        rintro e w5 ⟨rfl, hb6⟩
        have hB5 := hB4.trans (hb6.mono hB4.size)
        have bB5 := bB4.below hb6 bB4.lt
        have HP5 := Lib.hid (HP4.out.below hb6)
        have HL5 := Lib.hid (HL4.out.below hb6)
        have HPT5 := Lib.hid (HPT4.out.below hb6)
        have HV : Hid (r = Ne.frK ps p pl b.g n) := Lib.hid (by rw [HR2.out]; rfl)
        have HNO : Hid (∀ k, k < n → Ne.frK ps p pl b.g (k + 1) = false → r = false) := Lib.hid (fun k hk h => by
          rw [HV.out]
          cases e : Ne.frK ps p pl b.g n with
          | false => rfl
          | true => rw [Ne.frK_mono (show k + 1 ≤ n by omega) e] at h; cases h)
        clear hrB4 bB4 HF4 HP4 HL4 HPT4
        go_wp2
        go_loopw [36] (fun i wr => ∃ k : Nat, k ≤ n ∧ i = .int .i64 k ∧ Ne.frK ps p pl b.g k = true ∧ Below w5.heap.size w5 wr) (fun i _ => n - (intOf i).toNat)
        case atStart => exact ⟨0, Nat.zero_le _, rfl, rfl, Below.refl _ _⟩
        case round =>
          obtain ⟨k, hk, rfl, hv, hb⟩ := hrel
          have HVK := Lib.hid hv
          clear hv
          by_cases hlt : k < n
          · obtain ⟨gq, oq, hCe, hg, hc⟩ := (HL5.out.below hb).at (z := Ne.zc) (by rw [HN.out]; omega)
            subst hCe
            have hck := hc k (by rw [HN.out]; exact hlt)
            obtain ⟨q, hq⟩ : ∃ q, pl.getD k Ne.zc = q := ⟨_, rfl⟩
            rw [hq] at hck
            have hls := HALL.out k hlt
            rw [hq] at hls
            obtain ⟨M, hM⟩ : ∃ M, (Ne.lyg ps q).length = M := ⟨_, rfl⟩
            obtain ⟨⟨hbd, k3, k64⟩, hd⟩ := HBD.out q hls
            rw [hM] at k3 k64
            obtain ⟨z, hz⟩ : ∃ z, Ne.apB (Ne.lyg ps p) (Ne.lyg ps q) b.g = z := ⟨_, rfl⟩
            have HZ : Hid (Ne.frK ps p pl b.g (k + 1) = z) := Lib.hid (by rw [Ne.frK, HVK.out, hq, hz]; rfl)
            have HLq := Lib.hid (HLY.out q hls M hM)
            have H2p := Lib.hid (fun D2 c2 W => HAP.out D D2 (Ne.lyg ps p) (Ne.lyg ps q) N M HPN.out hM h3 h64 k3 k64 c1 c2 HPX.out hbd HPD.out hd z hz W)
            have bB6 := (bB5.below hb bB5.lt).alloc (.cells (Ne.pcL q).toArray 40)
            have bQ := Blk.new wr 40 (Ne.pcL q).toArray
            have hb7 := hb.alloc hb.size (.cells (Ne.pcL q).toArray 40)
            have hB7 := hB5.trans (hb7.mono hB5.size)
            clear hls hbd hd hz hM hq hc k3 k64
            go_wp2_with (refine ldm_pc hck (by rfl) _ rfl rfl ?_)
            generalize hwe : wr.alloc (.cells (Ne.pcL q).toArray 40) = wf at *
            clear hwe hck
            refine wp_region_noPanic ?_
            refine wp_region_held (S := fun V => Below wf.heap.size wf V) (by kernel_rfl) ?_
            change wpAnyH _ _ _ _ _ _ _ _ (World.drew _)
            have hS : (fun V => Below wf.heap.size wf V) wf.drew := (Below.refl _ _).drew
            have p0 := bB6.cell 2
            have s0 := bQ.cell 0
            have s1 := bQ.cell 1
            have s2 := bQ.cell 2
            have s3 := bQ.cell 3
            have l1 := bB6.lt
            have l3 := bQ.lt
            simp only [List.getElem?_toArray, List.getElem?_cons_zero, List.getElem?_cons_succ] at p0 s0 s1 s2 s3
            generalize World.drew wf = V0 at *
            refine takeD (i := 0) (d := some 40) (v := ?_) rfl rfl (by kernel_rfl) (by decide +kernel) (by decide +kernel) (fun _ _ _ h => h) (Or.inl ⟨by first | kernel_rfl | rfl, ?_⟩) hS ?_
            rotate_left
            · intro w' hT; first | (go_simp; done) | (go_simp; with_reducible rfl)
            refine takeD (i := 1) (d := some 41) (v := ?_) rfl rfl (by kernel_rfl) (by decide +kernel) (by decide +kernel) (fun _ _ _ h => h) (Or.inl ⟨by first | kernel_rfl | rfl, ?_⟩) hS ?_
            rotate_left
            · intro w' hT; first | (go_simp; done) | (go_simp; with_reducible rfl)
            refine takeD (i := 2) (d := some 42) (v := ?_) rfl rfl (by kernel_rfl) (by decide +kernel) (by decide +kernel) (fun _ _ _ h => h) (Or.inl ⟨by first | kernel_rfl | rfl, ?_⟩) hS ?_
            rotate_left
            · intro w' hT; have t0 := (Below.cell hT (p := ⟨wr.heap.size, 0, none⟩) l3).trans s0; have t1 := (Below.cell hT (p := ⟨wr.heap.size, 1, none⟩) l3).trans s1; have t2 := (Below.cell hT (p := ⟨wr.heap.size, 2, none⟩) l3).trans s2; have t3 := (Below.cell hT (p := ⟨wr.heap.size, 3, none⟩) l3).trans s3; first | (go_simp; done) | (go_simp; with_reducible rfl)
            refine takeD (i := 4) (d := some 44) (v := ?_) rfl rfl (by kernel_rfl) (by decide +kernel) (by decide +kernel) (fun _ _ _ h => h) (Or.inl ⟨by first | kernel_rfl | rfl, ?_⟩) hS ?_
            rotate_left
            · intro w' hT; first | (go_simp; done) | (go_simp; with_reducible rfl)
            refine takeD (i := 5) (d := some 45) (v := ?_) rfl rfl (by kernel_rfl) (by decide +kernel) (by decide +kernel) (fun _ _ _ h => h) (Or.inl ⟨by first | kernel_rfl | rfl, ?_⟩) hS ?_
            rotate_left
            · intro w' hT; have t0 := (Below.cell hT (p := ⟨w.heap.size, 2, none⟩) l1).trans p0; first | (go_simp; done) | (go_simp; with_reducible rfl)
            refine wpAnyH_oneE (i := 3) (by decide +kernel) rfl (by kernel_rfl) (fun K hK' => ?_)
            go_simp
            have hV0 := hb7.trans (Below.mono hS hb7.size)
            refine (HLq.out V0 (HP5.out.below hV0)).mono ?_
            rintro e V1 ⟨D2, c2, rfl, hpt, _, hb8⟩
            have hS1 := Below.trans hS (hb8.mono (Below.size hS))
            refine hK' _ _ ⟨hS1, ?_⟩
            clear hK' K
            have HPT2 := Lib.hid hpt
            have hV1 := hV0.trans (hb8.mono hV0.size)
            clear hpt
            refine wpAnyH_oneE (i := 6) (by decide +kernel) rfl (by kernel_rfl) (fun K hK' => ?_)
            go_simp
            refine (H2p.out D2 c2 V1 (HPT5.out.below hV1) HPT2.out).mono ?_
            rintro e V2 ⟨rfl, hb9⟩
            have hS2 := Below.trans hS1 (hb9.mono (Below.size hS1))
            refine hK' _ _ ⟨hS2, ?_⟩
            clear hK' K
            refine takeD (i := 7) (d := some 47) (v := .bool (!z)) rfl rfl (by kernel_rfl) (by decide +kernel) (by decide +kernel) (fun _ _ _ h => h) (Or.inl ⟨by first | kernel_rfl | rfl, ?_⟩) hS2 ?_
            · intro w' hT; first | (go_simp; done) | (go_simp; with_reducible rfl)
            refine wpAnyH_done (by decide +kernel) ?_ _
            refine NoPanic.normal ?_
            have hV2 := hV1.trans (hb9.mono hV1.size)
            clear p0 s0 s1 s2 s3 l1 l3 hb8 hb9
            cases z with
            | false =>
              have HEE := Lib.hid (HNO.out k hlt HZ.out)
              go_wp2
              go_ret
              exact ⟨by rw [HEE.out]; rfl, hB5.trans (hV2.mono hB5.size)⟩
            | true =>
              go_wp2
              go_roundw
              case rel => exact ⟨k + 1, by omega, by go_num, HZ.out, hV2⟩
              case measure => simp [intOf]; omega
          · obtain rfl : n = k := by omega
            go_wp2
            go_ret
            exact ⟨by rw [HV.out, HVK.out]; rfl, hB5.trans (hb.mono hB5.size)⟩
end Go.Proofs.Ytlikmlhlfbdchaa
/- nest: isFree of the program. -/
namespace Go.Proofs.Ytlikmlhlfbdchaa
open Go.RowKit Go.Shelf
set_option linter.unusedVariables false
theorem setRow_same {W : World} {g : Nat} {t : TypeId} {cs0 cs : Array Value} (h : Blk W g t cs0) : Blk (W.setRow g cs) g t cs := by
  unfold Blk at *
  simp [World.setRow, Array.getElem?_modify, h]
theorem pi_all (x : Ne.Pi) : (Ne.piL x).toArray.all (·.oneCell') = true := by simp [Value.oneCell']
theorem pts_only {W W' : World} {A : Option Addr} {l : List Geo.XY} {g0 : Nat} (h : Pts W A l) (hg : Only g0 W W') (hne : ∀ g off, A = some ⟨g, off, none⟩ → g ≠ g0) : Pts W' A l := by
  rcases h with h | ⟨b, off, h1, h2, h3⟩
  · exact .inl h
  · have hb := hg.block b (hne b off h1)
    refine .inr ⟨b, off, h1, by rw [hg.size]; exact h2, fun k hk => ?_⟩
    have := h3 k hk
    unfold World.cell? at this ⊢
    simp only at this ⊢
    rw [hb]; exact this
theorem zerosPi : (Try.prog.info? 121).map (·.zero) = some (some (.agg #[.int .i64 0, .int .i64 0, .int .i64 0, .bool false, .slice none 0 0])) := by kernel_rfl
namespace Ne
theorem icK_fr {ps : List Pa} {p : Pc} {pl : List Pc} {xs : List Pi} {g : Int} {n : Nat} (hpl : ∀ j, j < n → (xs.getD j zi).p = pl.getD j zc) : ∀ j, j ≤ n → icK ps p xs g j = frK ps p pl g j
  | 0, _ => rfl
  | j + 1, h => by unfold icK frK; rw [icK_fr hpl j (by omega), hpl j (by omega)]
end Ne
set_option maxRecDepth 100000 in
set_option maxHeartbeats 16000000 in
theorem isfree_b (b : Ne.Bo) (A B : Option Addr) (ps : List Ne.Pa) (pl : List Ne.Pc) (xs : List Ne.Pi) (PA : Option Addr) (f fc m c' n pc : Nat) (hf : b.fs.length = f) (hm : ps.length = m) (hn : pl.length = n) (hx : xs.length = n) (hpc : n ≤ pc) (hvb : Ne.vBo b = true) (hvp : Ne.vPa ps = true) (h2 : n ≤ 200) (hpl : ∀ j, j < n → (xs.getD j Ne.zi).p = pl.getD j Ne.zc) (hall : ∀ j, j < n → Ne.lsB ps (pl.getD j Ne.zc) = true) (hon : ∀ j, j < n → Ne.OnB b (Ne.lyg ps (pl.getD j Ne.zc))) (p : Ne.Pc) (r : Bool) (hr : Ne.frB b ps pl p = r)
    (w : World) (hF : Rows Ne.rcL 4 w A b.fs) (hP : Ne.PaM w B ps) (hX : Ne.PcsM ps w PA xs) :
    Calls Try.prog 76 #[.agg (boW b A f fc), .slice B m c', .slice PA n pc, .agg (Ne.pcL p).toArray] w fun e w' => e = .returned (.bool r) ∧ Below w.heap.size w w' := by
  have hB0 := (Below.refl w.heap.size w).alloc (Nat.le_refl _) (.cells (boW b A f fc) 33)
  have hB := hB0.alloc hB0.size (.cells (Ne.pcL p).toArray 40)
  have bB := (Blk.new w 33 (boW b A f fc)).alloc (.cells (Ne.pcL p).toArray 40)
  have bP := Blk.new (w.alloc (.cells (boW b A f fc) 33)) 40 (Ne.pcL p).toArray
  rw [World.size_alloc] at bP
  have hrP := bP.range
  have h60 := Ne.vPa_len hvp
  rw [hm] at h60
  have hvi := Ne.vBo_in hvb
  have HML := Lib.hid (fun y (hy : Ne.rgB ps p = y) W h => maylie_b B ps c' m hm h60 p y hy W h)
  have HLY := Lib.hid (fun (hp : Ne.lsB ps p = true) (N : Nat) (hN : (Ne.lyg ps p).length = N) W (h : Ne.PaM W B ps) =>
    show Calls Try.prog 58 #[.slice B m c', .agg (Ne.pcL p).toArray] W (fun e w' => ∃ v, e = .returned v ∧ w'.ownsRow W.heap.size 76 2 v N (flat (Ne.lyg ps p)) ∧ Below W.heap.size W w') from by
      obtain ⟨x1, y1, i, ei, hi⟩ := Ne.lsB_ok hp
      rw [hm] at hi
      obtain ⟨pp, px, py, pt⟩ := p
      dsimp only at x1 y1 ei
      subst ei
      exact lying_b B ps c' m i hm hi px py pt x1 y1 (Ne.vPa_at hvp (by omega)) N (by rw [← hN, Ne.lyg_len]; show _ = (ps.getD ((i : Nat) : Int).toNat Ne.za).o.length; rw [Int.toNat_natCast]) _ rfl W h)
  have HBD := Lib.hid (fun (hp : Ne.lsB ps p = true) => (⟨Ne.lyg_bd hvp hp, Ne.dir_ls hvp hp⟩ : (Ne.AllBd (Ne.lyg ps p) ∧ 3 ≤ (Ne.lyg ps p).length ∧ (Ne.lyg ps p).length ≤ 64) ∧ Ne.DirOk (Ne.lyg ps p)))
  have HON := Lib.hid (fun D N (hN : (Ne.lyg ps p).length = N) (h64 : N ≤ 64) c1 y (hy : Ne.onBb b (Ne.lyg ps p) = y) W (h : Pts W D (Ne.lyg ps p)) => ison_b b A D (Ne.lyg ps p) f fc N c1 hN h64 y hy W h)
  have HCL := Lib.hid (fun D N (hN : (Ne.lyg ps p).length = N) (h3 : 3 ≤ N) (h64 : N ≤ 64) c1 (hc : N ≤ c1) (hoo : Ne.onBb b (Ne.lyg ps p) = true) (hd : Ne.DirOk (Ne.lyg ps p)) y (hy : Ne.clB b (Ne.lyg ps p) = y) W (h1 : Rows Ne.rcL 4 W A b.fs) (h : Pts W D (Ne.lyg ps p)) => isbeside_b b A D (Ne.lyg ps p) f fc N c1 hf hN h3 h64 hc hvb (Ne.onBb_iff.1 hoo) hd y hy W h1 h)
  have HIC := Lib.hid (fun (x : Ne.Pi) (hxp : x.p = p) (hl : Ne.lsB ps p = true) (hoo : Ne.onBb b (Ne.lyg ps p) = true) y (hy : Ne.frK ps p pl b.g n = y) W (h1 : Ne.PiOk ps W x) (h : Ne.PcsM ps W PA xs) =>
    isclear_b ps hvp b hvi.1.2 hvi.2.1.2 x xs PA n pc hx (by omega) b.g hvi.2.2.1.1 hvi.2.2.1.2 (by rw [hxp]; exact hl) (fun j hj => by rw [hpl j hj]; exact hall j hj) (by rw [hxp]; exact Ne.onBb_iff.1 hoo) (fun j hj => by rw [hpl j hj]; exact hon j hj) y (by rw [hxp, Ne.icK_fr hpl n (Nat.le_refl _)]; exact hy) W h1 h.row (fun j hj => h.ok j (by omega)))
  have HF := Lib.hid (hF.below hB)
  have HP := Lib.hid (hP.below hB)
  have HX := Lib.hid (hX.below hB)
  have HR : Hid (r = (decide (n < 200) && (Ne.rgB ps p && (Ne.onBb b (Ne.lyg ps p) && (Ne.clB b (Ne.lyg ps p) && Ne.frK ps p pl b.g n))))) := Lib.hid (by rw [← hr]; unfold Ne.frB; rw [hn])
  clear hF hP hX hn hm hvb hvp hf hvi hall hr hpl hon hx
  by_cases h200 : n = 200
  · have d1 : ((n : Int) == 200) = true := by simp; omega
    have HV : Hid (r = false) := Lib.hid (by rw [HR.out, decide_eq_false (by omega)]; rfl)
    clear bB bP hrP h200
    go_enter Try.func76, Try.ntmps76
    go_wp2
    go_ret
    exact ⟨by rw [HV.out]; rfl, hB⟩
  have d1 : ((n : Int) == 200) = false := by simp; omega
  have HLT2 : Hid (n < 200) := Lib.hid (by omega)
  obtain ⟨y, hy⟩ : ∃ y, Ne.rgB ps p = y := ⟨_, rfl⟩
  have HRy := Lib.hid (HML.out y hy)
  have HYY := Lib.hid hy
  clear hy HML h200
  cases y with
  | false =>
    have HV : Hid (r = false) := Lib.hid (by rw [HR.out, HYY.out]; simp)
    go_enter Try.func76, Try.ntmps76
    go_wp2_with (refine ldm_pc hrP (by rfl) _ rfl rfl (Hid.out ?_))
    refine Lib.hid ?_
    go_wp2_with fail
    refine (HRy.out _ HP.out).mono ?_
    rintro e w2 ⟨rfl, hb3⟩
    go_wp2
    go_ret
    exact ⟨by rw [HV.out]; rfl, hB.trans (hb3.mono hB.size)⟩
  | true =>
    have hls := Ne.rg_ls HYY.out
    obtain ⟨N, hN⟩ : ∃ N, (Ne.lyg ps p).length = N := ⟨_, rfl⟩
    obtain ⟨⟨hbd, h3, h64⟩, hd⟩ := HBD.out hls
    rw [hN] at h3 h64
    have HD := Lib.hid hd
    have HNN := Lib.hid hN
    have HLS := Lib.hid hls
    have HLp := Lib.hid (HLY.out hls N hN)
    clear hbd hd hN hls HBD HLY
    go_enter Try.func76, Try.ntmps76
    go_wp2_with (refine ldm_pc hrP (by rfl) _ rfl rfl (Hid.out ?_))
    refine Lib.hid ?_
    go_wp2_with fail
    refine (HRy.out _ HP.out).mono ?_
    rintro e w2 ⟨rfl, hb3⟩
    have hB2 := hB.trans (hb3.mono hB.size)
    have bP2 := bP.below hb3 bP.lt
    have bB2 := bB.below hb3 bB.lt
    have HF2 := Lib.hid (HF.out.below hb3)
    have HP2 := Lib.hid (HP.out.below hb3)
    have HX2 := Lib.hid (HX.out.below hb3)
    clear hrP bP bB HF HP HX HRy
    go_wp2
    refine wp_region_noPanic ?_
    refine wp_region_held (S := fun V => Below w2.heap.size w2 V) (by kernel_rfl) ?_
    change wpAnyH _ _ _ _ _ _ _ _ (World.drew _)
    have hS : (fun V => Below w2.heap.size w2 V) w2.drew := (Below.refl _ _).drew
    have r0 := bP2.cell 0
    have r1 := bP2.cell 1
    have r2 := bP2.cell 2
    have r3 := bP2.cell 3
    have l2 := bP2.lt
    simp only [List.getElem?_toArray, List.getElem?_cons_zero, List.getElem?_cons_succ] at r0 r1 r2 r3
    generalize World.drew w2 = V0 at *
    refine takeD (i := 0) (d := some 19) (v := ?_) rfl rfl (by kernel_rfl) (by decide +kernel) (by decide +kernel) (fun _ _ _ h => h) (Or.inl ⟨by first | kernel_rfl | rfl, ?_⟩) hS ?_
    rotate_left
    · intro w' hT; have t0 := (Below.cell hT (p := ⟨w.heap.size + 1, 0, none⟩) l2).trans r0; have t1 := (Below.cell hT (p := ⟨w.heap.size + 1, 1, none⟩) l2).trans r1; have t2 := (Below.cell hT (p := ⟨w.heap.size + 1, 2, none⟩) l2).trans r2; have t3 := (Below.cell hT (p := ⟨w.heap.size + 1, 3, none⟩) l2).trans r3; first | (go_simp; done) | (go_simp; with_reducible rfl)
    refine takeD (i := 1) (d := some 20) (v := ?_) rfl rfl (by kernel_rfl) (by decide +kernel) (by decide +kernel) (fun _ _ _ h => h) (Or.inl ⟨by first | kernel_rfl | rfl, ?_⟩) hS ?_
    rotate_left
    · intro w' hT; first | (go_simp; done) | (go_simp; with_reducible rfl)
    refine takeD (i := 2) (d := some 21) (v := ?_) rfl rfl (by kernel_rfl) (by decide +kernel) (by decide +kernel) (fun _ _ _ h => h) (Or.inl ⟨by first | kernel_rfl | rfl, ?_⟩) hS ?_
    rotate_left
    · intro w' hT; have t0 := (Below.cell hT (p := ⟨w.heap.size + 1, 0, none⟩) l2).trans r0; have t1 := (Below.cell hT (p := ⟨w.heap.size + 1, 1, none⟩) l2).trans r1; have t2 := (Below.cell hT (p := ⟨w.heap.size + 1, 2, none⟩) l2).trans r2; have t3 := (Below.cell hT (p := ⟨w.heap.size + 1, 3, none⟩) l2).trans r3; first | (go_simp; done) | (go_simp; with_reducible rfl)
    have hV0 := hB2.trans (Below.mono hS hB2.size)
    refine wpAnyH_all (rs := [3, 5]) (by decide +kernel) (by simp) ?_
    intro i0 hi0
    simp only [List.mem_cons, List.not_mem_nil, or_false] at hi0
    rcases hi0 with rfl | rfl
    case' inl =>
      refine wpOp_goE rfl (by kernel_rfl) (fun K hK' => ?_)
      go_simp
      refine (HLp.out V0 (HP2.out.below (Below.mono hS (Nat.le_refl _)))).mono ?_
      rintro e V1 ⟨v1, rfl, hLO, hb6⟩
      have hS1 := Below.trans hS (hb6.mono (Below.size hS))
      refine hK' _ _ ⟨hS1, ?_⟩
      clear hK' K
      have hlt1 := hLO.lt
      rw [← HNN.out] at hLO
      obtain ⟨A1, c1, rfl, hpt, hc1⟩ := pts_of_owns' hLO
      rw [HNN.out] at hlt1 hc1 ⊢
      have hV1 := hV0.trans (hb6.mono hV0.size)
      have bX0 := Blk.new V1 121 #[.int .i64 0, .int .i64 0, .int .i64 0, .bool false, .slice none 0 0]
      have hS2 := Below.alloc hS1 (Below.size hS1) (.cells #[.int .i64 0, .int .i64 0, .int .i64 0, .bool false, .slice none 0 0] 121)
      have hb7 := (Below.refl V1.heap.size V1).alloc (Nat.le_refl _) (.cells #[.int .i64 0, .int .i64 0, .int .i64 0, .bool false, .slice none 0 0] 121)
      have bX1 : Blk ((V1.alloc (.cells #[.int .i64 0, .int .i64 0, .int .i64 0, .bool false, .slice none 0 0] 121)).setRow V1.heap.size (Ne.piL ⟨p, A1, N, c1⟩).toArray) V1.heap.size 121 (Ne.piL ⟨p, A1, N, c1⟩).toArray := setRow_same bX0
      have hb8 := hb7.trans ((Only.setRow V1.heap.size (V1.alloc (.cells #[.int .i64 0, .int .i64 0, .int .i64 0, .bool false, .slice none 0 0] 121)) (Ne.piL ⟨p, A1, N, c1⟩).toArray).below (Nat.le_refl _))
      have hS3 := Below.trans hS1 (hb8.mono (Below.size hS1))
      have hpt3 := hpt.below hb8
      have hV3 := hV1.trans (hb8.mono hV1.size)
      refine takeD (i := 4) (d := some 23) (v := .agg (Ne.piL ⟨p, A1, N, c1⟩).toArray) rfl rfl (by kernel_rfl) (by decide +kernel) (by decide +kernel) (fun _ _ _ h => h) (Or.inl ⟨by first | kernel_rfl | rfl, ?_⟩) hS1 ?_
      · intro w' hT; first | (go_simp; done) | (go_simp; with_reducible rfl)
      refine wpAnyH_oneE (i := 5) (by decide +kernel) rfl (by kernel_rfl) (fun K hK' => ?_)
      go_simp
      refine hK' _ _ ⟨hS2, ?_⟩
      clear hK' K
      refine wpAnyH_oneE (i := 6) (by decide +kernel) rfl (by kernel_rfl) (fun K hK' => ?_)
      refine wp_store_row 121 _ _ rfl V1.heap.size (Ne.piL ⟨p, A1, N, c1⟩).toArray rfl rfl 121 #[.int .i64 0, .int .i64 0, .int .i64 0, .bool false, .slice none 0 0] bX0 infoPi rfl (pi_all _) (hK' _ _ ⟨hS3, ?_⟩)
      clear hK' K
      refine wpAnyH_done (by decide +kernel) ?_ _
      clear bX0 hb6 hb7 hb8 hS1 hS2 hpt hV1
      generalize (V1.alloc (.cells #[.int .i64 0, .int .i64 0, .int .i64 0, .bool false, .slice none 0 0] 121)).setRow V1.heap.size (Ne.piL ⟨p, A1, N, c1⟩).toArray = w8 at bX1 hS3 hpt3 hV3 ⊢
      generalize V1.heap.size = br at bX1 ⊢
    case' inr =>
      refine wpOp_goE rfl (by kernel_rfl) (fun K hK' => ?_)
      have bX := Blk.new V0 121 #[.int .i64 0, .int .i64 0, .int .i64 0, .bool false, .slice none 0 0]
      have hS1 := Below.alloc hS (Below.size hS) (.cells #[.int .i64 0, .int .i64 0, .int .i64 0, .bool false, .slice none 0 0] 121)
      have hV1 := hV0.alloc hV0.size (.cells #[.int .i64 0, .int .i64 0, .int .i64 0, .bool false, .slice none 0 0] 121)
      have HBX := Lib.hid bX
      clear bX
      go_simp
      refine hK' _ _ ⟨hS1, ?_⟩
      clear hK' K
      refine wpAnyH_oneE (i := 3) (by decide +kernel) rfl (by kernel_rfl) (fun K hK' => ?_)
      go_simp
      refine (HLp.out _ (HP2.out.below (Below.mono hS1 (Nat.le_refl _)))).mono ?_
      rintro e V1 ⟨v1, rfl, hLO, hb6⟩
      have hS2 := Below.trans hS1 (hb6.mono (Below.size hS1))
      refine hK' _ _ ⟨hS2, ?_⟩
      clear hK' K
      have hlt1 := hLO.lt
      rw [← HNN.out] at hLO
      obtain ⟨A1, c1, rfl, hpt, hc1⟩ := pts_of_owns' hLO
      rw [HNN.out] at hlt1 hc1 ⊢
      have hV2 := hV1.trans (hb6.mono hV1.size)
      have bX0 : Blk V1 V0.heap.size 121 #[.int .i64 0, .int .i64 0, .int .i64 0, .bool false, .slice none 0 0] := HBX.out.below hb6 HBX.out.lt
      have bX1 : Blk (V1.setRow V0.heap.size (Ne.piL ⟨p, A1, N, c1⟩).toArray) V0.heap.size 121 (Ne.piL ⟨p, A1, N, c1⟩).toArray := setRow_same bX0
      have hO8 := Only.setRow V0.heap.size V1 (Ne.piL ⟨p, A1, N, c1⟩).toArray
      have hS3 := Below.trans hS2 (hO8.below (Below.size hS))
      have hV3 := hV2.trans (hO8.below hV0.size)
      have hpt3 : Pts (V1.setRow V0.heap.size (Ne.piL ⟨p, A1, N, c1⟩).toArray) A1 (Ne.lyg ps p) := pts_only hpt hO8 (fun g off h e => by have := hlt1 g (by rw [h]; rfl); have := World.size_alloc V0 (.cells #[.int .i64 0, .int .i64 0, .int .i64 0, .bool false, .slice none 0 0] 121); omega)
      refine takeD (i := 4) (d := some 23) (v := .agg (Ne.piL ⟨p, A1, N, c1⟩).toArray) rfl rfl (by kernel_rfl) (by decide +kernel) (by decide +kernel) (fun _ _ _ h => h) (Or.inl ⟨by first | kernel_rfl | rfl, ?_⟩) hS2 ?_
      · intro w' hT; first | (go_simp; done) | (go_simp; with_reducible rfl)
      refine wpAnyH_oneE (i := 6) (by decide +kernel) rfl (by kernel_rfl) (fun K hK' => ?_)
      refine wp_store_row 121 _ _ rfl V0.heap.size (Ne.piL ⟨p, A1, N, c1⟩).toArray rfl rfl 121 #[.int .i64 0, .int .i64 0, .int .i64 0, .bool false, .slice none 0 0] bX0 infoPi rfl (pi_all _) (hK' _ _ ⟨hS3, ?_⟩)
      clear hK' K
      refine wpAnyH_done (by decide +kernel) ?_ _
      clear bX0 hb6 hS1 hS2 hpt hV1 hV2 HBX hO8
      generalize V1.setRow V0.heap.size (Ne.piL ⟨p, A1, N, c1⟩).toArray = w8 at bX1 hS3 hpt3 hV3 ⊢
      obtain ⟨br, hbr⟩ : ∃ br, V0.heap.size = br := ⟨_, rfl⟩
      rw [hbr] at bX1 ⊢
      clear hbr
    all_goals
      refine NoPanic.normal ?_
      have bB8 := bB2.below hS3 bB2.lt
      have HX8 := Lib.hid (HX2.out.below hS3)
      have HF8 := Lib.hid (HF2.out.below hS3)
      have HOK : Hid (Ne.PiOk ps w8 ⟨p, A1, N, c1⟩) := Lib.hid ⟨hpt3, HNN.out, hc1⟩
      have hrB8 := bB8.range
      have HBR := Lib.hid bX1.lt
      have hrX8 : w8.rangeAt br 0 (Ne.piL ⟨p, A1, N, c1⟩) := bX1.range
      have c4 : w8.cell? ⟨br, 4, none⟩ = some (.slice A1 N c1) := (bX1.cell 4).trans rfl
      have b2 : w8.cell? ⟨w.heap.size, 2, none⟩ = some (.int .i64 b.g) := (bB8.cell 2).trans rfl
      obtain ⟨z1, hz1⟩ : ∃ z, Ne.onBb b (Ne.lyg ps p) = z := ⟨_, rfl⟩
      obtain ⟨z2, hz2⟩ : ∃ z, Ne.clB b (Ne.lyg ps p) = z := ⟨_, rfl⟩
      obtain ⟨z3, hz3⟩ : ∃ z, Ne.frK ps p pl b.g n = z := ⟨_, rfl⟩
      have HO := Lib.hid (HON.out A1 N HNN.out h64 c1 z1 hz1)
      have HR2 : Hid (r = (z1 && (z2 && z3))) := Lib.hid (by rw [HR.out, HYY.out, hz1, hz2, hz3, decide_eq_true HLT2.out]; rfl)
      clear bP2 bB2 HX2 HF2 HP2 l2 r0 r1 r2 r3 hS hV0 hS3 hpt3 bX1 hlt1
      cases z1 with
      | false =>
        have HV : Hid (r = false) := Lib.hid (by rw [HR2.out]; rfl)
        clear hz1 hz2 hz3
        go_wp2_with (refine ldm_bo hrB8 (by rfl) _ rfl rfl (Hid.out ?_))
        refine Lib.hid ?_
        go_wp2_with fail
        refine (HO.out _ HOK.out.pts).mono ?_
        rintro e w9 ⟨rfl, hb9⟩
        go_wp2
        go_ret
        exact ⟨by rw [HV.out]; rfl, hV3.trans (hb9.mono hV3.size)⟩
      | true =>
        have HC := Lib.hid (HCL.out A1 N HNN.out h3 h64 c1 hc1 hz1 HD.out z2 hz2)
        have HI := Lib.hid (HIC.out ⟨p, A1, N, c1⟩ rfl HLS.out hz1 z3 hz3)
        clear hz1 hz2 hz3
        go_wp2_with (refine ldm_bo hrB8 (by rfl) _ rfl rfl (Hid.out ?_))
        refine Lib.hid ?_
        go_wp2_with fail
        refine (HO.out _ HOK.out.pts).mono ?_
        rintro e w9 ⟨rfl, hb9⟩
        have hV9 := hV3.trans (hb9.mono hV3.size)
        have bB9 := bB8.below hb9 bB8.lt
        have HX9 := Lib.hid (HX8.out.below hb9)
        have HF9 := Lib.hid (HF8.out.below hb9)
        have HOK9 := Lib.hid (HOK.out.below hb9)
        have hrB9 := bB9.range
        have l9 : br < w8.heap.size := HBR.out
        have hrX9 := rangeAt_below hrX8 l9 hb9
        have c9 : w9.cell? ⟨br, 4, none⟩ = some (.slice A1 N c1) := (hb9.cell (p := ⟨br, 4, none⟩) l9).trans c4
        have HL9 : Hid (br < w9.heap.size) := Lib.hid (Nat.lt_of_lt_of_le l9 hb9.size)
        clear bB8 HX8 HF8 hrB8 hrX8 c4 b2 l9
        cases z2 with
        | false =>
          have HV : Hid (r = false) := Lib.hid (by rw [HR2.out]; rfl)
          go_wp2_with (refine ldm_bo hrB9 (by rfl) _ rfl rfl (Hid.out ?_))
          refine Lib.hid ?_
          go_wp2_with fail
          refine (HC.out _ HF9.out HOK9.out.pts).mono ?_
          rintro e w10 ⟨rfl, hb10⟩
          go_wp2
          go_ret
          exact ⟨by rw [HV.out]; rfl, hV9.trans (hb10.mono hV9.size)⟩
        | true =>
          have HV : Hid (r = z3) := Lib.hid (by rw [HR2.out]; rfl)
          go_wp2_with (refine ldm_bo hrB9 (by rfl) _ rfl rfl (Hid.out ?_))
          refine Lib.hid ?_
          go_wp2_with fail
          refine (HC.out _ HF9.out HOK9.out.pts).mono ?_
          rintro e w10 ⟨rfl, hb10⟩
          have hV10 := hV9.trans (hb10.mono hV9.size)
          have bB10 := bB9.below hb10 bB9.lt
          have HX10 := Lib.hid (HX9.out.below hb10)
          have HOK10 := Lib.hid (HOK9.out.below hb10)
          have hrX10 := rangeAt_below hrX9 HL9.out hb10
          have b10 : w10.cell? ⟨w.heap.size, 2, none⟩ = some (.int .i64 b.g) := (bB10.cell 2).trans rfl
          clear bB9 HX9 HF9 hrB9 hrX9 c9
          go_wp2_with (refine ldm_pi hrX10 (by rfl) _ rfl rfl (Hid.out ?_))
          refine Lib.hid ?_
          go_wp2_with fail
          refine (HI.out _ HOK10.out HX10.out).mono ?_
          rintro e w11 ⟨rfl, hb11⟩
          go_wp2
          go_ret
          exact ⟨by rw [HV.out]; rfl, hV10.trans (hb11.mono hV10.size)⟩
end Go.Proofs.Ytlikmlhlfbdchaa
/- nest: fall; Free and Drop of the program. -/
namespace Go.Proofs.Ytlikmlhlfbdchaa
open Go.RowKit Go.Shelf
set_option linter.unusedVariables false
namespace Ne
/-- how low it falls from a height at which it is free -/
def flN (f : Nat → Bool) : Nat → Nat
  | 0 => 0
  | y + 1 => if f y = true then flN f y else y + 1
theorem flN_le (f : Nat → Bool) (y : Nat) : flN f y ≤ y := by
  induction y with
  | zero => exact Nat.le_refl _
  | succ y ih => unfold flN; split <;> omega
theorem flN_free (f : Nat → Bool) (y : Nat) (h : f y = true) : f (flN f y) = true := by
  induction y with
  | zero => exact h
  | succ y ih =>
    unfold flN
    by_cases e : f y = true
    · rw [if_pos e]; exact ih e
    · rw [if_neg e]; exact h
theorem flN_low (f : Nat → Bool) (y : Nat) : flN f y = 0 ∨ f (flN f y - 1) = false := by
  induction y with
  | zero => exact .inl rfl
  | succ y ih =>
    unfold flN
    by_cases e : f y = true
    · rw [if_pos e]; exact ih
    · rw [if_neg e]; right; simpa using e
/-- the place at a height -/
def atY (p : Pc) (y : Int) : Pc := ⟨p.p, p.x, y, p.t⟩
/-- free at a height -/
noncomputable def frY (b : Bo) (ps : List Pa) (pl : List Pc) (p : Pc) (y : Nat) : Bool := frB b ps pl (atY p (y : Int))
/-- the error of Drop -/
noncomputable def drE (b : Bo) (ps : List Pa) (pl : List Pc) (p : Pc) : Int := if (ckA b ps pl).2 = 0 then (if 0 ≤ p.y ∧ p.y ≤ 500 then 0 else 2) else (ckA b ps pl).2
/-- whether it falls -/
noncomputable def drB (b : Bo) (ps : List Pa) (pl : List Pc) (p : Pc) : Bool := decide ((ckA b ps pl).2 = 0) && (decide (0 ≤ p.y ∧ p.y ≤ 500) && frB b ps pl p)
/-- where it comes to lie -/
noncomputable def drV (b : Bo) (ps : List Pa) (pl : List Pc) (p : Pc) : Pc := if drB b ps pl p = true then atY p (flN (frY b ps pl p) p.y.toNat : Nat) else zc
end Ne
set_option maxRecDepth 100000 in
set_option maxHeartbeats 4000000 in
theorem fall_b (cb : Array Value) (fr : Nat → Bool) (y : Nat) (hy : y ≤ 500) (w : World)
    (hf : ∀ (w' : World) (i : Nat), Below w.heap.size w w' → i ≤ 500 → Calls Try.prog 79 (#[.int .i64 i] ++ cb) w' fun e w'' => e = .returned (.bool (fr i)) ∧ Below w'.heap.size w' w'') :
    Calls Try.prog 78 #[.int .i64 y, .func (.func 79) #[] cb] w fun e w' => ∃ q : Nat, e = .returned (.tuple #[.int .i64 q, .bool (fr y)]) ∧ (fr y = true → q = Ne.flN fr y) ∧ q ≤ y ∧ Below w.heap.size w w' := by
  have HF := Lib.hid hf
  clear hf
  obtain ⟨x, hx⟩ : ∃ x, fr y = x := ⟨_, rfl⟩
  have H0 := HF.out w y (Below.refl _ _) hy
  rw [hx] at H0 ⊢
  have HH := Lib.hid H0
  clear H0 hx
  cases x with
  | false =>
    go_enter Try.func78, Try.ntmps78
    go_wp2_with fail
    refine HH.out.mono ?_
    rintro e w1 ⟨rfl, hb⟩
    go_wp2
    go_ret2
    exact ⟨0, rfl, (fun h => by cases h), by omega, hb⟩
  | true =>
    go_enter Try.func78, Try.ntmps78
    go_wp2_with fail
    refine HH.out.mono ?_
    rintro e w1 ⟨rfl, hb⟩
    go_wp2
    go_loopw [0] (fun v wr => ∃ k : Nat, v = .int .i64 k ∧ k ≤ y ∧ Hid (Ne.flN fr k = Ne.flN fr y) ∧ Below w.heap.size w wr) (fun v _ => (intOf v).toNat)
    case atStart => exact ⟨y, rfl, Nat.le_refl _, Lib.hid rfl, hb⟩
    case round =>
      obtain ⟨k, rfl, hk, HK, hbr⟩ := hrel
      rcases Nat.eq_zero_or_pos k with rfl | hk0
      · have d1 : decide ((0 : Int) < ((0 : Nat) : Int)) = false := by simp
        have HQ : Hid (0 = Ne.flN fr y) := Lib.hid (by rw [← HK.out]; rfl)
        go_wp2
        go_ret2
        exact ⟨0, rfl, fun _ => HQ.out, by omega, hbr⟩
      · obtain ⟨j, rfl⟩ : ∃ j, k = j + 1 := ⟨k - 1, by omega⟩
        obtain ⟨z, hz⟩ : ∃ z, fr j = z := ⟨_, rfl⟩
        have HJ := HF.out wr j hbr (by omega)
        rw [hz] at HJ
        have HJH := Lib.hid HJ
        have HN : Hid (Ne.flN fr (j + 1) = if z = true then Ne.flN fr j else j + 1) := Lib.hid (by rw [Ne.flN, hz])
        have e1 : ((j + 1 : Nat) : Int) = (j : Int) + 1 := by omega
        rw [e1]
        have d1 : decide ((0 : Int) < (j : Int) + 1) = true := by simp <;> omega
        have hw1 : IntKind.i64.wrap (j : Int) = (j : Int) := IntWalk.i64_in _ (by omega)
        have hw2 : IntKind.i64.wrap ((j : Int) + 1 - 1) = (j : Int) := by rw [show (j : Int) + 1 - 1 = j by omega]; exact hw1
        clear HJ hz e1
        cases z with
        | false =>
          have HQ : Hid (j + 1 = Ne.flN fr y) := Lib.hid (by rw [← HK.out, HN.out] <;> rfl)
          go_wp2_with fail
          refine HJH.out.mono ?_
          rintro e w2 ⟨rfl, hb2⟩
          go_wp2
          go_ret2
          exact ⟨j + 1, rfl, fun _ => HQ.out, hk, hbr.trans (hb2.mono hbr.size)⟩
        | true =>
          have HQ : Hid (Ne.flN fr j = Ne.flN fr y) := Lib.hid (by rw [← HK.out, HN.out] <;> rfl)
          go_wp2_with fail
          refine HJH.out.mono ?_
          rintro e w2 ⟨rfl, hb2⟩
          go_wp2
          go_roundw
          case rel => exact ⟨j, by go_num, by omega, HQ, hbr.trans (hb2.mono hbr.size)⟩
          case measure => simp [intOf] <;> omega
end Go.Proofs.Ytlikmlhlfbdchaa
