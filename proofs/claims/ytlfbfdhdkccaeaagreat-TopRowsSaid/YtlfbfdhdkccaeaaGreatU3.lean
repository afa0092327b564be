/- TopRows. -/
import Derived.Test.YtlfbfdhdkccaeaaGreatU2
import Derived.Test.YtlfbfdhdkccaeaaGreatL12
import Derived.Test.YtlfbfdhdkccaeaaGreatQ1
import Derived.Test.YtlfbfdhdkccaeaaGreatD3
namespace Go.Proofs.YtlfbfdhdkccaeaaGreat
open Go.RowKit Go.Shelf Go.Sort

abbrev btM (t : Pl.Bt) : List Value := (btA t).toList
theorem info48' : (Tryz.prog.info? 48).map (fun i => (i.zero, i.size, i.bytes)) = some (some (.agg #[.int .i64 0, .int .i64 0, .int .i64 0, .int .i64 0, .int .i64 0, .int .i64 0, .int .i64 0]), 7, 56) := by kernel_rfl
theorem Pl.lnV_one {l : List Pl.Bt} (h : Pl.vs l = true) {i : Nat} (hi : i < l.length) : Pl.lnV l [(i : Int)] = Pl.len (Pl.at' l i) ∧ Pl.clE l [(i : Int)] = 0 := by
  have hc : Pl.cho l.length [(i : Int)] = true := Pl.cho_iff.2 ⟨fun x hx => by
    rw [List.mem_singleton.1 hx]; omega, by simp⟩
  have he := Pl.clE_ok h hc
  refine ⟨?_, he⟩
  unfold Pl.lnV
  rw [if_pos he]
  show 0 + Pl.len (Pl.at' l (i : Int).toNat) = _
  rw [Int.zero_add]; rfl
theorem rows_of_bts {W : World} {A : Option Addr} {l : List Pl.Bt} (h : Bts W A l) : Rows btM 7 W A l := by
  rcases h with h | ⟨b, off, h1, h2, h3⟩
  · exact .inl h
  · refine .inr ⟨b, off, h1, h2, fun k hk => ?_⟩
    have := h3 k hk
    rw [List.getD_eq_getElem?_getD, List.getElem?_eq_getElem hk] at this
    exact this
theorem Pl.ap_srt {l : List Pl.Bt} (h : Pl.vs l = true) : Pl.apV l (Pl.zI (Pl.srt l)) = true ∧ Pl.clE l (Pl.zI (Pl.srt l)) = 0 := by
  have hok := Pl.ok_of h
  have h1 := Pl.clE_ok h (Pl.srt_cho hok)
  refine ⟨?_, h1⟩
  unfold Pl.apV
  rw [if_pos h1]; exact Pl.srt_apB hok

set_option maxRecDepth 100000 in
set_option maxHeartbeats 16000000 in
theorem law_toprows (A : Option Addr) (l : List Pl.Bt) (c : Nat) (hlc : l.length ≤ c) (hcm : c ≤ maxLen) (x y : Nat) (hx : x ≤ 255) (hy : y ≤ 255) (w : World) (hI : Bts w A l) :
    Calls Tryz.prog 3 #[.slice A l.length c, .agg #[.int .u8 x, .int .u8 y]] w fun e w' => e = .returned (.bool true) ∧ Below w.heap.size w w' := by
  have hB0 := (Below.refl w.heap.size w).alloc (Nat.le_refl _) (.cells #[.int .u8 x, .int .u8 y] 23)
  have bP0 := Blk.new w 23 #[.int .u8 x, .int .u8 y]
  have HI := Lib.hid hI
  have HS := Lib.hid rowed_any
  obtain ⟨vl, hvl⟩ : ∃ v, Pl.vs l = v := ⟨_, rfl⟩
  have HVA := Lib.hid (fun W hI => rvalid_any A l c W hI)
  rw [hvl] at HVA
  obtain ⟨n, hn⟩ : ∃ n, l.length = n := ⟨_, rfl⟩
  have HN := Lib.hid hn
  rw [hn] at hlc HVA ⊢
  have HI0 := Lib.hid (hI.below hB0)
  by_cases h16 : (16 : Int) < (n : Int)
  · clear hI hn bP0 hvl
    go_enter Tryz.func3, Tryz.ntmps3
    go_wp2_with fail
    refine (HS.out _).mono ?_
    rintro e w4 ⟨rfl, hb⟩
    go_wp2
    go_ret
    exact ⟨rfl, hB0.trans (hb.mono hB0.size)⟩
  have d16 : decide ((16 : Int) < (n : Int)) = false := decide_eq_false h16
  have hn16 : n ≤ 16 := by omega
  cases vl
  · clear hI hn bP0 hvl
    go_enter Tryz.func3, Tryz.ntmps3
    go_wp2_with (go_at_call 4; refine (HVA.out _ HI0.out).mono ?_; rintro e w1 ⟨rfl, hb1⟩)
    have hB1 := hB0.trans (hb1.mono hB0.size)
    refine (HS.out _).mono ?_
    rintro e w4 ⟨rfl, hb⟩
    go_wp2
    go_ret
    exact ⟨rfl, hB1.trans (hb.mono hB1.size)⟩
  obtain ⟨p, hp⟩ : ∃ p, x % 8 = p := ⟨_, rfl⟩
  obtain ⟨q, hq⟩ : ∃ q, y % 101 = q := ⟨_, rfl⟩
  have hp8 : p < 8 := by omega
  have hq101 : q < 101 := by omega
  have kx : (x : Int).tmod 8 = (p : Int) := by rw [Int.tmod_eq_emod_of_nonneg (by omega)]; omega
  have ky : (y : Int).tmod 101 = (q : Int) := by rw [Int.tmod_eq_emod_of_nonneg (by omega)]; omega
  have kx2 : (x : Int) % 8 = (p : Int) := by omega
  have ky2 : (y : Int) % 101 = (q : Int) := by omega
  have kx3 : IntKind.i64.wrap (x : Int) = (x : Int) := IntWalk.i64_in _ (by omega)
  have ky3 : IntKind.i64.wrap (y : Int) = (y : Int) := IntWalk.i64_in _ (by omega)
  have kx4 : IntKind.i64.wrap (p : Int) = (p : Int) := IntWalk.i64_in _ (by omega)
  have ky4 : IntKind.i64.wrap (q : Int) = (q : Int) := IntWalk.i64_in _ (by omega)
  have kx5 : IntKind.i64.wrap (1 + (p : Int)) = 1 + (p : Int) := IntWalk.i64_in _ (by omega)
  have hsb : Pl.shop (1 + (p : Int)) (q : Int) = true := Pl.shop_true.2 ⟨⟨by omega, by omega⟩, by omega, by omega⟩
  have hs1 : Pl.shop 1 (q : Int) = true := Pl.shop_true.2 ⟨⟨by omega, by omega⟩, by omega, by omega⟩
  have HVL := Lib.hid hvl
  have HFB := Lib.hid (Pl.times_facts hvl hsb)
  have HF1 := Lib.hid (Pl.times_facts hvl hs1)
  have HTB := Lib.hid (Pl.made_tot (Pl.ck_made hvl) hsb)
  have HT1 := Lib.hid (Pl.made_tot (Pl.ck_made hvl) hs1)
  have HSB := Lib.hid hsb
  have HS1 := Lib.hid hs1
  have HTK := Lib.hid (fun k => Pl.vs_take hvl k)
  have HNR : Hid (∀ k, k < n → Pl.nr (l.take k) ≤ Pl.nr (l.take (k + 1)) ∧ Pl.nr (l.take (k + 1)) ≤ Pl.nr (l.take k) + 1) := Lib.hid (fun k hk => Pl.nr_take hvl (by rw [hn]; exact hk))
  have HNL : Hid (∀ k, Pl.nr (l.take k) ≤ 40) := Lib.hid (fun k => by
    have h1 := Pl.nr_le (Pl.ok_of (Pl.vs_take hvl k))
    have h2 := (Pl.ok_of (Pl.vs_take hvl k)).len
    omega)
  have HTL : Hid (∀ k, k ≤ n → (l.take k).length = k) := Lib.hid (fun k hk => by rw [List.length_take, hn]; omega)
  have HTA : Hid (l.take n = l) := Lib.hid (by rw [← hn, List.take_length])
  clear hI hn hvl hp hq hsb hs1
  go_enter Tryz.func3, Tryz.ntmps3
  go_wp2_with (go_at_call 4; refine (HVA.out _ HI0.out).mono ?_; rintro e w1 ⟨rfl, hb1⟩)
  have hB1 := hB0.trans (hb1.mono hB0.size)
  have bP1 := bP0.below hb1 bP0.lt
  have s0 := fun s : Ext w1 => s.cell ((bP1.cell 0).trans rfl)
  have s1 := fun s : Ext w1 => s.cell ((bP1.cell 1).trans rfl)
  have HB1 := Lib.hid hB1
  clear hb1 hB0 bP0 bP1 HI0 hB1
  go_wp2
  refine wp_region_ext (by kernel_rfl) (by kernel_rfl) ?_
  repeat (go_big_quiet_step (fail))
  refine wpQuiet_nil ?_
  rintro _ ⟨s, rfl⟩
  have hB2 := HB1.out.trans (s.h.mono HB1.out.size)
  clear s0 s1 HB1
  generalize s.w = w0 at *
  have HB2 := Lib.hid hB2
  clear hB2
  go_wp2
  obtain ⟨i0, hi, hz0, hz1, hz2⟩ := info_parts info48'
  have hc63 : c ≤ 9223372036854775807 := hcm
  have HR0 : Hid (Pl.nr (l.take 0) = 0) := Lib.hid rfl
  have HFW := Lib.hid (fun k (h : (l.take k).length = k) A' c' W hI => Fewest_any A' (l.take k) c' k h W hI)
  have HRO := Lib.hid (fun k (h : (l.take k).length = k) A' c' W hI => Rows_any A' (l.take k) c' k h W hI)
  have HPR := Lib.hid (fun k (h : (l.take k).length = k) hv A' c' W hI => Proof_any A' (l.take k) c' k h hv W hI)
  have HCK := Lib.hid (fun k (h : (l.take k).length = k) AZ cz r (hr : (Pl.rI (l.take k)).length = r) (h6 : r ≤ 1000) A' c' W hI hR => Check_any A' (l.take k) c' k h AZ (Pl.rI (l.take k)) cz r hr h6 W hI hR)
  have HAP := Lib.hid (fun k (h : (l.take k).length = k) AZ cz r (hr : (Pl.zI (Pl.srt (l.take k))).length = r) (h6 : r ≤ 1000) A' c' W hI hR => rApart_any A' (l.take k) c' k h AZ (Pl.zI (Pl.srt (l.take k))) cz r hr h6 W hI hR)
  have HRW := Lib.hid (fun W hI => Rows_any A l c n HN.out W hI)
  have HAS := Lib.hid (fun bb AZ cz r (hr : (Pl.rI l).length = r) hr6 hl W hI hR => Assign_any A l c n HN.out AZ (Pl.rI l) cz r hr hr6 hl bb (q : Int) W hI hR)
  have HLN := Lib.hid (fun AX xs cx m (hm : xs.length = m) hm4 W hI hX => Length_any A l c n HN.out AX xs cx m hm hm4 W hI hX)
  go_loopw [7, 8, 9, 10, 11, 12, 13, 14, 15, 16, 17] (fun lv i _ _ _ _ _ _ _ _ _ wr => ∃ k : Nat, k ≤ n ∧ i = .int .i64 ((k : Int) + 1) ∧ lv = .int .i64 (Pl.nr (l.take k) : Nat) ∧ Below w.heap.size w wr) (fun _ i _ _ _ _ _ _ _ _ _ _ => n + 1 - (intOf i).toNat)
  case atStart => exact ⟨0, Nat.zero_le _, rfl, by rw [HR0.out]; rfl, HB2.out⟩
  case round =>
    clear HB2
    obtain ⟨k, hk, rfl, rfl, hW⟩ := hrel
    obtain ⟨wo, rfl⟩ : ∃ wo, wo = wr := ⟨_, rfl⟩
    by_cases hlt : k < n
    · have hltI : (k : Int) + 1 ≤ (n : Int) := by omega
      have hlcI : (k : Int) + 1 ≤ (c : Int) := by omega
      have k0 : IntKind.i64.wrap ((k : Int) + 1 + 1) = (k : Int) + 1 + 1 := IntWalk.i64_in _ (by omega)
      have hk0 : ¬ (k : Int) + 1 < 0 := by omega
      have hkN : ((k : Int) + 1).toNat = k + 1 := by omega
      obtain ⟨bz, oz, rfl, hbz, hcz⟩ := bts_open HI.out (by rw [HN.out]; omega)
      have hTL := HTL.out (k + 1) (by omega)
      have HT := Lib.hid hTL
      have HV := Lib.hid (HTK.out (k + 1))
      obtain ⟨n1, n2⟩ := HNR.out k hlt
      have n3 := HNL.out (k + 1)
      have n4 := HNL.out k
      have HRI : Hid (Pl.nr (l.take (k + 1)) = (Pl.Rs (l.take (k + 1))).length) := Lib.hid (by rw [Pl.Rs_ok (HTK.out (k + 1))]; rfl)
      have HRJ : Hid ((Pl.rI (l.take (k + 1))).length = (Pl.Rs (l.take (k + 1))).length) := Lib.hid (by unfold Pl.rI; rw [List.length_map])
      have HCZ : Hid (Pl.ckE (l.take (k + 1)) (Pl.rI (l.take (k + 1))) = 0) := Lib.hid (Pl.ck_made (HTK.out (k + 1)))
      have HAPS := Lib.hid (Pl.ap_srt (HTK.out (k + 1)))
      have HSL : Hid ((Pl.srt (l.take (k + 1))).length = Pl.nr (l.take (k + 1))) := Lib.hid (Pl.srt_len (Pl.ok_of (HTK.out (k + 1))))
      have HEZ : Hid (Pl.E (l.take (k + 1)) = 0) := Lib.hid (Pl.E_ok (HTK.out (k + 1)))
      have HF1 := Lib.hid (HFW.out (k + 1) hTL)
      have HF2 := Lib.hid (HRO.out (k + 1) hTL)
      have HF3 := Lib.hid (HPR.out (k + 1) hTL (HTK.out (k + 1)))
      have HF4 := Lib.hid (HCK.out (k + 1) hTL)
      have HF5 := Lib.hid (HAP.out (k + 1) hTL)
      have HMEM : Hid (∀ j u, (flt btM (l.take (k + 1)))[j]? = some u → (wo.alloc (.cells #[] 48)).cell? ((⟨bz, oz, none⟩ : Addr).add j) = some u) := Lib.hid (rows_cells encBt (W := wo.alloc (.cells #[] 48)) (b := bz) (off := oz) (xs := l.take (k + 1)) (fun i hi => by
        have hil : i < l.length := by have := hi; rw [hTL] at this; rw [HN.out]; omega
        have := bts_cells hbz hcz (hW.alloc hW.size (.cells #[] 48)) (i := i) hil
        rw [Pl.at_lt hil] at this
        rw [List.getElem_take]; exact this))
      have HFL : Hid ((flt btM (l.take (k + 1))).length = (k + 1) * 7) := Lib.hid (by rw [flt_len encBt, hTL])
      have H1C : Hid (∀ u ∈ flt btM (l.take (k + 1)), u.oneCell' = true) := Lib.hid (flt_one' encBt _)
      have HRN : Hid (∀ r, Pl.nr (l.take (k + 1)) = r → Value.int .i64 (r : Nat) = .int .i64 (Pl.nr (l.take (k + 1)) : Nat)) := Lib.hid (fun r h => by rw [h])
      obtain ⟨r1, hr1⟩ : ∃ r, Pl.nr (l.take (k + 1)) = r := ⟨_, rfl⟩
      have HRN2 := Lib.hid (HRN.out r1 hr1)
      clear HRN
      obtain ⟨L, hL⟩ : ∃ L, l.take (k + 1) = L := ⟨_, rfl⟩
      rw [hL] at HT HV n1 n2 n3 HRI HRJ HCZ HAPS HSL HEZ HF1 HF2 HF3 HF4 HF5 HMEM HFL H1C hr1
      clear hL hTL
      rw [HEZ.out, ← HRI.out] at HF1
      rw [HEZ.out] at HF2
      rw [← HRI.out] at HRJ
      generalize Pl.nr (l.take k) = r0 at *
      rw [hr1] at n1 n2 n3 HRI HRJ HF1 HF3 HSL
      have HRS : Hid ((Pl.Rs L).length = r1) := Lib.hid HRI.out.symm
      have HOW : Hid ((wo.alloc (.cells #[] 48)).ownsRow w.heap.size 48 7 (.slice (some ⟨wo.heap.size, 0, none⟩) 0 0) 0 []) := Lib.hid (World.ownsRow_lit (base := w.heap.size) (e := 48) (size := 7) wo #[] 0 hW.size (by unfold maxLen; omega) rfl)
      have HWE := Lib.hid (hW.alloc hW.size (.cells #[] 48))
      have hwo : w.heap.size ≤ wo.heap.size := hW.size
      clear hcz hr1 hW
      go_wp2_with (at_builtin; refine wpList_append_own _ rfl _ _ 22 rfl w.heap.size 48 i0 _ 7 56 Tryz.underlying22 hi hz0 hz1 hz2 rfl (by decide) _ _ _ rfl HOW.out ⟨bz, oz, none⟩ (k + 1) c (flt btM L) (by simp [Act.eval]) HFL.out HMEM.out H1C.out (by unfold maxLen; omega) (by omega) (by simp; omega) ?_; intro v9 w9 hown9 hgrow9 _)
      have HW9 := Lib.hid (HWE.out.grown hgrow9 (by simp; omega) (fun s e => by cases e; exact hwo))
      have hown9' : w9.ownsRow w.heap.size 48 7 v9 L.length (flt btM L) := by rw [HT.out]; simpa using hown9
      obtain ⟨A9, c9, rfl, hr9, _⟩ := rows_of_owns encBt hown9'
      have HI9 := Lib.hid (bts_rows hr9)
      rw [HT.out]
      have d1 : decide ((r1 : Int) < (r0 : Int)) = false := decide_eq_false (by omega)
      have d2 : decide ((r0 : Int) + 1 < (r1 : Int)) = false := decide_eq_false (by omega)
      have k1 : IntKind.i64.wrap ((r0 : Int) + 1) = (r0 : Int) + 1 := IntWalk.i64_in _ (by omega)
      have hrr : ((r1 : Int) != (r1 : Int)) = false := by simp
      have hr6 : r1 ≤ 1000 := by omega
      clear hown9 hown9' hgrow9 hr9 HOW HMEM HFL H1C HWE
      refine (HF1.out _ _ _ HI9.out).mono ?_
      rintro e w10 ⟨rfl, hb10⟩
      have HW10 := Lib.hid (HW9.out.trans (hb10.mono HW9.out.size))
      have HI10 := Lib.hid (HI9.out.below hb10)
      clear hb10 HW9 HI9
      go_wp2_with fail
      refine (HF2.out _ _ _ HI10.out).mono ?_
      rintro e w11 ⟨v11, f11, rfl, hR11, hb11⟩
      have HW11 := Lib.hid (HW10.out.trans (hb11.mono HW10.out.size))
      have HI11 := Lib.hid (HI10.out.below hb11)
      obtain ⟨A11, c11, hv11, ra11, _⟩ := hR11.open encIr
      subst hv11
      rw [HRS.out]
      have HZ11 : Hid (RR inL 1 w11 A11 (Pl.rI L)) := Lib.hid (rr_zJ ra11)
      clear hb11 HW10 HI10 hR11 ra11
      go_wp2_with fail
      refine (HF3.out _ _ _ HI11.out).mono ?_
      rintro e w12 ⟨v12, rfl, hown12, hb12⟩
      have HW12 := Lib.hid (HW11.out.trans (hb12.mono HW11.out.size))
      have HI12 := Lib.hid (HI11.out.below hb12)
      have HZ12 := Lib.hid (HZ11.out.below hb12)
      obtain ⟨A12, c12, rfl, hrp, _, _⟩ := rows_of_owns encIr (xs := Pl.srt L) (by rw [HSL.out]; exact hown12)
      rw [HSL.out]
      have HP12 := Lib.hid (rows_zJ hrp)
      have HZL : Hid ((Pl.zI (Pl.srt L)).length = r1) := Lib.hid (by rw [Pl.zI_len, HSL.out])
      clear hb12 HW11 HI11 HZ11 hown12 hrp
      have HC12 := Lib.hid (HF4.out A11 c11 r1 HRJ.out hr6 A9 c9 w12 HI12.out HZ12.out)
      rw [HCZ.out] at HC12
      go_wp2_with (go_at_call 9; refine HC12.out.mono ?_; rintro e w13 ⟨rfl, hb13⟩)
      have HW13 := Lib.hid (HW12.out.trans (hb13.mono HW12.out.size))
      have HI13 := Lib.hid (HI12.out.below hb13)
      have HP13 := Lib.hid (HP12.out.below hb13)
      clear hb13 HW12 HI12 HZ12 HP12 HC12
      have HA13 := Lib.hid (HF5.out A12 c12 r1 HZL.out hr6 A9 c9 w13 HI13.out HP13.out)
      rw [HAPS.out.1, HAPS.out.2] at HA13
      refine HA13.out.mono ?_
      rintro e w14 ⟨rfl, hb14⟩
      have hW14 := HW13.out.trans (hb14.mono HW13.out.size)
      clear hb14 HW13 HI13 HP13 HA13 HF1 HF2 HF3 HF4 HF5
      go_wp2
      go_roundw
      case rel => exact ⟨k + 1, by omega, by simp, HRN2.out, hW14⟩
      case measure => simp [intOf]; omega
    · obtain rfl : n = k := by omega
      have HWo := Lib.hid hW
      have HIo := Lib.hid (HI.out.below hW)
      have hnI : ¬ ((n : Int) + 1 ≤ (n : Int)) := by omega
      obtain ⟨g2, g3, g4, g5, g6, g7, g8, g9, g10, g11⟩ := HFB.out
      obtain ⟨_, _, a4, a5, _, _, a8, _, _, _⟩ := HF1.out
      have HG3 := Lib.hid g3
      have HG11 := Lib.hid g11
      have HG10 := Lib.hid g10
      have HSUM := Lib.hid HTB.out.1
      have HEND := Lib.hid (HT1.out.2 (by first | rfl | trivial))
      obtain ⟨rl, hrl⟩ : ∃ r, (Pl.rI l).length = r := ⟨_, rfl⟩
      have HRL : Hid ((Pl.Rs l).length = rl) := Lib.hid (by rw [← hrl]; unfold Pl.rI; rw [List.length_map])
      have hrl60 : rl ≤ 60 := by omega
      have HA1 := Lib.hid (fun AZ cz W hI hR => HAS.out (1 + (p : Int)) AZ cz rl hrl hrl60 (by rw [← hrl]; exact HG3.out) W hI hR)
      have HA2 := Lib.hid (fun AZ cz W hI hR => HAS.out 1 AZ cz rl hrl hrl60 (by rw [← hrl]; exact HG3.out) W hI hR)
      rw [g4] at HA1
      rw [a4] at HA2
      rw [Pl.E_ok HVL.out] at HRW
      have HTOT : Hid (Pl.tot l (q : Int) (Pl.rI l) = (q : Int) * (rl : Int) + Pl.sk l n) := Lib.hid (by unfold Pl.tot; rw [hrl, HN.out, Int.mul_comm])
      rw [HTOT.out] at HSUM HEND
      obtain ⟨made, hmade⟩ : ∃ r, Pl.asV l (Pl.rI l) (1 + (p : Int)) (q : Int) = r := ⟨_, rfl⟩
      rw [hmade] at HA1 HSUM HG11 HG10 g5 g6 g7 g8 g9
      rw [hrl] at g6
      obtain ⟨alone, halone⟩ : ∃ r, Pl.asV l (Pl.rI l) 1 (q : Int) = r := ⟨_, rfl⟩
      rw [halone] at HA2 HEND a5 a8
      obtain ⟨ml, hml⟩ : ∃ r, made.length = r := ⟨_, rfl⟩
      rw [hml] at g5 g9
      obtain ⟨al, hal⟩ : ∃ r, alone.length = r := ⟨_, rfl⟩
      have HML := Lib.hid hml
      have HAL := Lib.hid hal
      have G5 := Lib.hid g5
      have G6 := Lib.hid g6
      have G7 := Lib.hid g7
      have G8 := Lib.hid g8
      have G9 := Lib.hid g9
      have A8 := Lib.hid a8
      have HSK : Hid (∀ j, j ≤ n → 0 ≤ Pl.sk l j ∧ Pl.sk l j ≤ 400 * j) := Lib.hid (fun j hj => (Pl.sk_bd (Pl.ok_of HVL.out) j (by rw [HN.out]; exact hj)).1)
      have HLO : Hid (∀ j, j < n → Pl.lnV l [(j : Int)] = Pl.len (Pl.at' l j) ∧ Pl.clE l [(j : Int)] = 0) := Lib.hid (fun j hj => Pl.lnV_one HVL.out (by rw [HN.out]; exact hj))
      have HSS : Hid (∀ j, Pl.sk l (j + 1) = Pl.sk l j + Pl.len (Pl.at' l j)) := Lib.hid (fun _ => rfl)
      obtain ⟨M, hM⟩ : ∃ M, (q : Int) * (rl : Int) = M := ⟨_, rfl⟩
      have hMb : 0 ≤ M ∧ M ≤ 6000 := by
        have h1 : q * rl ≤ 100 * 60 := Nat.mul_le_mul (by omega) hrl60
        rw [← hM, ← Int.natCast_mul]; omega
      obtain ⟨hM0, hM1⟩ := hMb
      rw [hM] at HSUM HEND
      clear hW g2 g3 g4 g5 g6 g7 g8 g9 g10 g11 a4 a5 a8 hrl hmade halone hml hal HTOT HFB HF1 HTB HT1
      go_wp2_with fail
      refine (HRW.out _ HIo.out).mono ?_
      rintro e w2 ⟨v2, f2, rfl, hR2, hb2⟩
      have HW2 := Lib.hid (HWo.out.trans (hb2.mono HWo.out.size))
      have HI2 := Lib.hid (HI.out.below HW2.out)
      obtain ⟨A2, c2, hv2, ra, _⟩ := hR2.open encIr
      subst hv2
      have HZ2 : Hid (RR inL 1 w2 A2 (Pl.rI l)) := Lib.hid (rr_zJ ra)
      rw [HRL.out]
      clear hR2 ra hb2 HWo HIo
      go_wp2_with fail
      refine (HA1.out _ _ _ HI2.out HZ2.out).mono ?_
      rintro e w3 ⟨v3, f3, rfl, hR3, hb3⟩
      have HW3 := Lib.hid (HW2.out.trans (hb3.mono HW2.out.size))
      have HI3 := Lib.hid (HI.out.below HW3.out)
      have HZ3 := Lib.hid (HZ2.out.below hb3)
      obtain ⟨A3, c3, hv3, rm, hl3, hm3, _⟩ := hR3.open encRn
      subst hv3
      rw [HML.out] at hl3 ⊢
      have HOWN := Lib.hid hR3
      rw [HML.out] at HOWN
      have HRM := Lib.hid rm
      clear hR3 rm hb3 HW2 HI2 HZ2
      go_wp2_with fail
      refine (HA2.out _ _ _ HI3.out HZ3.out).mono ?_
      rintro e w4 ⟨v4, f4, rfl, hR4, hb4⟩
      have HW4 := Lib.hid (HW3.out.trans (hb4.mono HW3.out.size))
      have HOWN4 := Lib.hid (HOWN.out.below hb4)
      have HRM4 := Lib.hid (HRM.out.below hb4)
      obtain ⟨A4, c4, hv4, rm4, _⟩ := hR4.open encRn
      subst hv4
      rw [HAL.out]
      have HOWA := Lib.hid hR4
      rw [HAL.out] at HOWA
      have HRA := Lib.hid rm4
      clear hR4 rm4 hb4 HW3 HI3 HZ3 HOWN HRM
      go_wp2
      go_loopw [24, 25, 26, 27] (fun sv i _ _ wr => ∃ j : Nat, j ≤ n ∧ i = .int .i64 j ∧ sv = .int .i64 (M + Pl.sk l j) ∧ Below w4.heap.size w4 wr) (fun _ i _ _ _ => n - (intOf i).toNat)
      case atStart => exact ⟨0, Nat.zero_le _, rfl, by simp [Pl.sk], Below.refl _ _⟩
      case round =>
        obtain ⟨j, hj, rfl, rfl, hW⟩ := hrel
        obtain ⟨w5, rfl⟩ : ∃ w5, w5 = wr := ⟨_, rfl⟩
        by_cases hlt2 : j < n
        · have hltI2 : (j : Int) < (n : Int) := by omega
          have hB5 := hW.alloc hW.size (.cells #[.int .i64 j] 3)
          have HI5 := Lib.hid (HI.out.below (HW4.out.trans (hB5.mono HW4.out.size)))
          have bX := Blk.new w5 3 #[.int .i64 (j : Int)]
          have HX5 : Hid (Rows inL 1 (w5.alloc (.cells #[.int .i64 j] 3)) (some ⟨w5.heap.size, 0, none⟩) [(j : Int)]) := Lib.hid (.inr ⟨w5.heap.size, 0, rfl, bX.lt, fun i hi => by
            obtain rfl : i = 0 := by simp at hi; omega
            exact bX.range⟩)
          obtain ⟨h1, h2⟩ := HSK.out j hj
          obtain ⟨h3, h4⟩ := HSK.out (j + 1) hlt2
          have HLN5 := Lib.hid (HLN.out (some ⟨w5.heap.size, 0, none⟩) [(j : Int)] 1 1 rfl (by omega) _ HI5.out HX5.out)
          rw [(HLO.out j hlt2).1, (HLO.out j hlt2).2] at HLN5
          have HSSj := Lib.hid (HSS.out j)
          rw [HSSj.out] at h3 h4
          generalize Pl.sk l j = SJ at *
          generalize Pl.len (Pl.at' l j) = LJ at *
          have hB5' := Lib.hid hB5
          clear bX hB5 hW
          go_wp2_with fail
          refine HLN5.out.mono ?_
          rintro e w6 ⟨rfl, hb6⟩
          have hB6 := hB5'.out.trans (hb6.mono hB5'.out.size)
          clear hb6
          go_wp2
          go_roundw
          case rel => exact ⟨j + 1, by omega, by go_num, by rw [HSSj.out]; go_num, hB6⟩
          case measure => simp [intOf]; omega
        · obtain rfl : n = j := by omega
          go_wp2_with fail
          have HWn := Lib.hid hW
          have HA5 := Lib.hid (HRA.out.below hW)
          have HOA5 := Lib.hid (nz_of_rws (HOWA.out.below hW))
          have HED := Lib.hid (End_any A4 alone c4 al HAL.out w5 HA5.out HOA5.out)
          have HEU : Hid (∀ v r, Pl.EndR alone v r → v = M + Pl.sk l n ∧ r = 0) := Lib.hid (fun v r h => by
            unfold Pl.EndR at h
            rw [if_neg (by rw [A8.out]; simp)] at h
            exact ⟨h.2.uniq HEND.out, h.1⟩)
          obtain ⟨h1, h2⟩ := HSK.out n (Nat.le_refl _)
          have hsum0 : 0 ≤ M + Pl.sk l n := by omega
          have HJD := Lib.hid (fun W (hB : Below w4.heap.size w4 W) => judged_b A l c n HN.out (1 + (p : Int)) (q : Int) HSB.out A3 made c3 ml HML.out HG11.out (by rw [G5.out]; exact Int.le_refl _) HVL.out G8.out G9.out HG10.out rl G6.out G7.out (M + Pl.sk l n) hsum0 HSUM.out hl3 hm3 W (HI.out.below (HW4.out.trans (hB.mono HW4.out.size))) (HRM4.out.below hB) (nz_of_rws (HOWN4.out.below hB)))
          obtain ⟨SM, hSM⟩ : ∃ s, M + Pl.sk l n = s := ⟨_, rfl⟩
          rw [hSM] at HEU HJD ⊢
          clear hW hSM h1 h2 hsum0
          refine HED.out.mono ?_
          rintro e w6 ⟨v6, r6, rfl, hd6, hb6⟩
          obtain ⟨e1, e2⟩ := HEU.out _ _ hd6
          subst e1
          subst e2
          have HB6 := Lib.hid (HWn.out.trans (hb6.mono HWn.out.size))
          clear hd6 hb6 HWn HA5 HOA5 HED HEU
          go_wp2_with (go_at_call 14; refine (HJD.out _ HB6.out).mono ?_; rintro e w7 ⟨rfl, hb7⟩)
          have HB7 := Lib.hid (HB6.out.trans (hb7.mono HB6.out.size))
          clear hb7 HB6
          refine (HS.out _).mono ?_
          rintro e w8 ⟨rfl, hb8⟩
          have hB8 := HW4.out.trans ((HB7.out.trans (hb8.mono HB7.out.size)).mono HW4.out.size)
          go_wp2
          go_ret
          exact ⟨rfl, hB8⟩
end Go.Proofs.YtlfbfdhdkccaeaaGreat

