/- Bound, of the program and of the document; BarrelBounds. -/
import Derived.Test.YtlfbfdhdkccaeaaGreatD1
import Derived.Test.YtlfbfdhdkccaeaaGreatN1
import Derived.Test.YtlfbfdhdkccaeaaGreatPZ
namespace Go.Proofs.YtlfbfdhdkccaeaaGreat
open Go.RowKit Go.Shelf Go.Sort

set_option maxHeartbeats 1000000 in
theorem validBarrels_b (b c : Int) (v : Bool) (hv : Pl.shop b c = v) (w : World) :
    Calls Tryz.prog 23 #[.int .i64 b, .int .i64 c] w fun e w' => e = .returned (.bool v) ∧ w' = w := by
  unfold Pl.shop at hv
  obtain ⟨x1, h1⟩ : ∃ x, Pl.inB 1 b 8 = x := ⟨_, rfl⟩
  obtain ⟨x2, h2⟩ : ∃ x, Pl.inB 0 c 100 = x := ⟨_, rfl⟩
  rw [h1, h2] at hv
  have H1 := Lib.hid h1
  have H2 := Lib.hid h2
  have HV := Lib.hid hv.symm
  clear hv h1 h2
  cases x1
  · go_enter Tryz.func23, Tryz.ntmps23
    go_wp2_with (go_at_call 56; refine (within_any _ _ _ _).mono ?_; rintro e w1 ⟨rfl, rfl⟩; first | rw [H1.out] | rw [H2.out])
    go_ret
    exact ⟨by rw [HV.out]; rfl, rfl⟩
  · cases x2 <;>
    (go_enter Tryz.func23, Tryz.ntmps23
     go_wp2_with (go_at_call 56; refine (within_any _ _ _ _).mono ?_; rintro e w1 ⟨rfl, rfl⟩; first | rw [H1.out] | rw [H2.out])
     go_ret
     exact ⟨by rw [HV.out]; rfl, rfl⟩)

set_option maxRecDepth 100000 in
set_option maxHeartbeats 4000000 in
theorem Bound_any (A : Option Addr) (l : List Pl.Bt) (c n : Nat) (hn : l.length = n) (b cl : Int) (w : World) (hI : Bts w A l) :
    Calls Tryz.prog 36 #[.slice A n c, .int .i64 b, .int .i64 cl] w fun e w' => e = .returned (.tuple #[.int .i64 (Pl.bdV l b cl), .int .i64 (Pl.bdE l b cl)]) ∧ Below w.heap.size w w' := by
  have HC := Lib.hid (valid_any A l c w hI)
  obtain ⟨V, hV⟩ : ∃ V, Pl.bdV l b cl = V := ⟨_, rfl⟩
  obtain ⟨r, hr⟩ : ∃ r, Pl.bdE l b cl = r := ⟨_, rfl⟩
  have HV : Hid (V = if r = 0 then (if Pl.us l b = 0 then 0 else cl + max (Pl.mk l n) (Pl.cd (Pl.sk l n) (Pl.us l b))) else 0) := Lib.hid (by rw [← hV, ← hr, ← hn]; rfl)
  rw [hV, hr]
  obtain ⟨x, hx⟩ : ∃ x, Pl.vs l = x := ⟨_, rfl⟩
  rw [hx, hn] at HC
  cases x
  · have HF : Hid (V = 0 ∧ r = 60) := Lib.hid (by
      have h6 : r = 60 := by rw [← hr, Pl.bdE_no hx]
      exact ⟨by rw [HV.out, if_neg (by omega)], h6⟩)
    clear hI hn hr hV hx HV
    go_enter Tryz.func36, Tryz.ntmps36
    go_wp2_with fail
    refine HC.out.mono ?_
    rintro e w1 ⟨rfl, hb1⟩
    go_wp2
    go_ret2
    exact ⟨by rw [HF.out.1, HF.out.2]; rfl, hb1⟩
  obtain ⟨y, hy⟩ : ∃ y, Pl.shop b cl = y := ⟨_, rfl⟩
  have HSH := Lib.hid (fun w' => validBarrels_b b cl y hy w')
  cases y
  · have HF : Hid (V = 0 ∧ r = 2) := Lib.hid (by
      have h6 : r = 2 := by rw [← hr, Pl.bdE_bad hx hy]
      exact ⟨by rw [HV.out, if_neg (by omega)], h6⟩)
    clear hI hn hr hV hx HV hy
    go_enter Tryz.func36, Tryz.ntmps36
    go_wp2_with fail
    refine HC.out.mono ?_
    rintro e w1 ⟨rfl, hb1⟩
    go_wp2_with fail
    refine (HSH.out _).mono ?_
    rintro e w2 ⟨rfl, rfl⟩
    go_wp2
    go_ret2
    exact ⟨by rw [HF.out.1, HF.out.2]; rfl, hb1⟩
  have HR : Hid (r = 0) := Lib.hid (by rw [← hr, Pl.bdE_ok hx hy])
  have hok := Pl.ok_of hx
  have hn4 : n ≤ 40 := hn ▸ hok.len
  obtain ⟨⟨hb1, hb8⟩, hc0, hc1⟩ := Pl.shop_true.1 hy
  have HBD := Lib.hid (fun k (hk : k ≤ n) => Pl.sk_bd hok k (by omega))
  have HVB := Lib.hid (fun k (hk : k < n) => hok.vb k (by omega))
  have HSK : Hid (∀ k, Pl.sk l (k + 1) = Pl.sk l k + Pl.len (Pl.at' l k)) := Lib.hid (fun _ => rfl)
  have HMK : Hid (∀ k, Pl.mk l (k + 1) = max (Pl.mk l k) (Pl.len (Pl.at' l k))) := Lib.hid (fun _ => rfl)
  have HU : Hid (Pl.us l b = min b (n : Int)) := Lib.hid (by rw [← hn]; rfl)
  have HVV : Hid (V = if Pl.us l b = 0 then 0 else cl + max (Pl.mk l n) (Pl.cd (Pl.sk l n) (Pl.us l b))) := Lib.hid (by rw [HV.out, if_pos HR.out])
  have HI := Lib.hid hI
  have HN := Lib.hid hn
  clear hI hn hr hV hx HV hy hok
  go_enter Tryz.func36, Tryz.ntmps36
  go_wp2_with fail
  refine HC.out.mono ?_
  rintro e w1 ⟨rfl, hB1⟩
  go_wp2_with fail
  refine (HSH.out _).mono ?_
  rintro e w2 ⟨rfl, hw2⟩
  rw [hw2]
  clear hw2
  go_wp2
  go_loopw [8, 9, 11, 22] (fun s m _ i wr => ∃ k : Nat, k ≤ n ∧ i = .int .i64 k ∧ s = .int .i64 (Pl.sk l k) ∧ m = .int .i64 (Pl.mk l k) ∧ Below w.heap.size w wr) (fun _ _ _ i _ => n - (intOf i).toNat)
  case atStart => exact ⟨0, Nat.zero_le _, rfl, rfl, rfl, hB1⟩
  case round =>
    clear hB1
    obtain ⟨k, hk, rfl, rfl, rfl, hB⟩ := hrel
    obtain ⟨wo, rfl⟩ : ∃ wo, wo = wr := ⟨_, rfl⟩
    by_cases hlt : k < n
    · have hltI : (k : Int) < (n : Int) := by omega
      obtain ⟨bz, oz, rfl, hbz, hcz⟩ := bts_open HI.out (by have := HN.out; omega)
      have r1 := bts_cells hbz hcz hB (i := k) (by have := HN.out; omega)
      have hvb := HVB.out k hlt
      obtain ⟨⟨b1, b2⟩, b3, b4⟩ := HBD.out k hk
      obtain ⟨⟨b5, b6⟩, b7, b8⟩ := HBD.out (k + 1) hlt
      have HS1 := Lib.hid (HSK.out k)
      have HS2 := Lib.hid (HMK.out k)
      rw [HS1.out] at b5 b6
      have hl0 := hvb.len0
      have HLB := Lib.hid (fun w' => length_b (Pl.at' l k) hvb w')
      clear hcz hvb b7 b8
      generalize Pl.sk l k = S at *
      generalize Pl.mk l k = M at *
      generalize Pl.at' l k = E at *
      have k1 : IntKind.i64.wrap (S + Pl.len E) = S + Pl.len E := IntWalk.i64_in _ (by omega)
      have bE := Blk.new wo 48 (btA E)
      have hB1 := hB.alloc hB.size (.cells (btA E) 48)
      have hrE := bE.range
      go_wp2_with (first | refine ldm_bt r1 rfl _ rfl rfl ?_ | refine ldm_bt hrE rfl _ rfl rfl ?_)
      refine (HLB.out _).mono ?_
      rintro e w3 ⟨rfl, hb3⟩
      have hB3 := hB1.trans (hb3.mono hB1.size)
      have hrE3 := (bE.below hb3 bE.lt).range
      clear hb3 r1 hB1 hB bE hrE
      generalize wo.heap.size = ge at *
      generalize hLE : Pl.len E = LE at *
      go_wp2_with (refine ldm_bt hrE3 rfl _ rfl rfl ?_)
      refine (HLB.out _).mono ?_
      rintro e w4 ⟨rfl, hb4⟩
      have hB4 := hB3.trans (hb4.mono hB3.size)
      clear hb4 hB3 hrE3 hLE
      go_wp2
      go_roundw
      case rel => exact ⟨k + 1, by omega, by go_num, by rw [HS1.out], by rw [HS2.out], hB4⟩
      case measure => simp [intOf]; omega
    · obtain rfl : k = n := by omega
      obtain ⟨⟨b1, b2⟩, b3, b4⟩ := HBD.out k hk
      obtain ⟨u, hu⟩ : ∃ u, Pl.us l b = u := ⟨_, rfl⟩
      have hu2 : u = min b (k : Int) := by rw [← hu, HU.out]
      have HVV2 : Hid (V = if u = 0 then 0 else cl + max (Pl.mk l k) (Pl.cd (Pl.sk l k) u)) := Lib.hid (by rw [HVV.out, hu])
      clear hu HVV HU
      by_cases h0 : u = 0
      · have HF : Hid (V = 0) := Lib.hid (by rw [HVV2.out, if_pos h0])
        have hk0 : k = 0 := by omega
        subst hk0
        clear HVV2
        subst h0
        have hm : min b (((0 : Nat) : Int)) = 0 := by omega
        have hm2 : min b (0 : Int) = 0 := by omega
        clear hu2
        go_wp2
        go_ret2
        exact ⟨by rw [HF.out, HR.out]; rfl, hB⟩
      · have hu8 : 1 ≤ u ∧ u ≤ 8 := by omega
        have HF : Hid (V = cl + max (Pl.mk l k) (Pl.cd (Pl.sk l k) u)) := Lib.hid (by rw [HVV2.out, if_neg h0])
        have hcd := Pl.cd_bd b1 hu8.1 hu8.2
        obtain ⟨D, hD⟩ : ∃ D, Pl.cd (Pl.sk l k) u = D := ⟨_, rfl⟩
        rw [hD] at HF hcd
        clear HVV2
        generalize Pl.sk l k = S at *
        generalize Pl.mk l k = M at *
        obtain ⟨hu1, hu8⟩ := hu8
        obtain ⟨hcd1, hcd2⟩ := hcd
        unfold Pl.cd at hD
        have hm1 : min b (k : Int) = u := hu2.symm
        have k1 : IntKind.i64.wrap (S + u) = S + u := IntWalk.i64_in _ (by omega)
        have k2 : IntKind.i64.wrap (S + u - 1) = S + u - 1 := IntWalk.i64_in _ (by omega)
        have k3 : (S + u - 1).tdiv u = D := by rw [Int.tdiv_eq_ediv_of_nonneg (by omega)]; exact hD
        have k5 : IntKind.i64.wrap D = D := IntWalk.i64_in _ (by omega)
        have k6 : IntKind.i64.wrap (cl + max M D) = cl + max M D := IntWalk.i64_in _ (by omega)
        have k7 : ((u : Int) == 0) = false := by simp [h0]
        have hSu : 0 ≤ S + u - 1 := by omega
        clear hu2
        go_wp2
        go_ret2
        exact ⟨by rw [HF.out, HR.out]; first | rfl | (simp; omega), hB⟩
end Go.Proofs.YtlfbfdhdkccaeaaGreat

