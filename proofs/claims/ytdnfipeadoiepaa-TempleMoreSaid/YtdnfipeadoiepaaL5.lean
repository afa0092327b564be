/- TempleMore. -/
import Derived.Test.YtdnfipeadoiepaaC1
import Derived.Test.YtdnfipeadoiepaaP7
import Derived.Laws.AppendOwnNone
namespace Go.Proofs.Ytdnfipeadoiepaa
open Go.RowKit Go.Shelf

/-- the cells of a temple -/
abbrev tmL (t : Pl.Tm) : List Value := [.int .i64 t.num, .int .i64 t.side, .int .i64 t.len, .int .i64 t.col]
theorem encT : Enc tmL 4 where
  pos := by decide
  len _ := rfl
  one x v hv := by simp at hv; rcases hv with rfl | rfl | rfl | rfl <;> rfl
theorem tmL_one (t : Pl.Tm) : ∀ v ∈ tmL t, v.oneCell' = true := encT.one t
theorem info24' : (Try.prog.info? 24).map (fun i => (i.zero, i.size, i.bytes)) = some (some (.agg #[.int .i64 0, .int .i64 0, .int .i64 0, .int .i64 0]), 4, 32) := by kernel_rfl
theorem tms_of {W : World} {A : Option Addr} {l : List Pl.Tm} (h : Rows tmL 4 W A l) : Tms W A l := by
  rcases h with h | ⟨b, off, h1, h2, h3⟩
  · exact .inl h
  · refine .inr ⟨b, off, h1, h2, fun k hk => ?_⟩
    rw [List.getD_eq_getElem?_getD, List.getElem?_eq_getElem hk]
    exact h3 k hk
theorem of_tms {W : World} {A : Option Addr} {l : List Pl.Tm} (h : Tms W A l) : Rows tmL 4 W A l := by
  rcases h with h | ⟨b, off, h1, h2, h3⟩
  · exact .inl h
  · refine .inr ⟨b, off, h1, h2, fun k hk => ?_⟩
    have := h3 k hk
    rw [List.getD_eq_getElem?_getD, List.getElem?_eq_getElem hk] at this
    exact this

set_option maxRecDepth 100000 in
set_option maxHeartbeats 16000000 in
theorem law_more (A : Option Addr) (l : List Pl.Tm) (c : Nat) (hnil : A = none → l.length = 0 ∧ c = 0) (x : Pl.Tm) (tol y : Int) (w : World) (hI : Tms w A l) :
    Calls Try.prog 8 #[.slice A l.length c, .agg (tmA x), .agg #[.int .i64 tol, .int .i64 y]] w fun e w' => e = .returned (.bool true) ∧ Below w.heap.size w w' := by
  have HI := Lib.hid hI
  have HS := Lib.hid sane_any
  obtain ⟨n, hn⟩ : ∃ n, l.length = n := ⟨_, rfl⟩
  have HN := Lib.hid hn
  have HNIL := Lib.hid hnil
  have HVL := Lib.hid (fun (w' : World) (hI : Tms w' A l) => rvalid_any A l c w' hI)
  rw [hn] at HVL HNIL ⊢
  have hB0 := ((Below.refl w.heap.size w).alloc (Nat.le_refl _) (.cells (tmA x) 24)).alloc (by simp) (.cells #[.int .i64 tol, .int .i64 y] 51)
  have bX0 := (Blk.new w 24 (tmA x)).alloc (.cells #[.int .i64 tol, .int .i64 y] 51)
  have bY0 := Blk.new (w.alloc (.cells (tmA x) 24)) 51 #[.int .i64 tol, .int .i64 y]
  simp only [World.size_alloc] at bY0
  obtain ⟨U, hU⟩ : ∃ U, IntKind.u64.wrap y = U := ⟨_, rfl⟩
  have hU0 : 0 ≤ U ∧ U < 18446744073709551616 := by rw [← hU]; simp [IntKind.wrap, IntKind.bits, IntKind.signed]; omega
  obtain ⟨t, ht⟩ : ∃ t : Nat, U.tmod 100 = t ∧ t < 100 := ⟨(U % 100).toNat, by rw [Int.tmod_eq_emod_of_nonneg hU0.1]; omega, by omega⟩
  obtain ⟨ht1, ht2⟩ := ht
  have kt1 : IntKind.u64.wrap (t : Int) = t := by simp [IntKind.wrap, IntKind.bits, IntKind.signed]; omega
  have kt2 : IntKind.i64.wrap (t : Int) = t := IntWalk.i64_in _ (by omega)
  clear hI hn hnil hU0
  go_enter Try.func8, Try.ntmps8
  go_wp2
  generalize (w.alloc (.cells (tmA x) 24)).alloc (.cells #[.int .i64 tol, .int .i64 y] 51) = wo at *
  have z0 := fun e : Ext wo => e.cell ((bY0.cell 0).trans rfl)
  have z1 := fun e : Ext wo => e.cell ((bY0.cell 1).trans rfl)
  refine wp_region_ext (by kernel_rfl) (by kernel_rfl) ?_
  repeat (go_big_quiet_step (fail))
  refine wpQuiet_nil ?_
  rintro _ ⟨s, rfl⟩
  have hB1 := hB0.trans (s.h.mono hB0.size)
  have HI1 := Lib.hid (HI.out.below hB1)
  have bX1 := bX0.below s.h bX0.lt
  generalize s.w = w1 at *
  clear z0 z1 s bX0 bY0 hB0 hU ht1 kt1 kt2
  have hs1 := hB1.size
  have hX1 := bX1.lt
  by_cases hw : (40 : Int) < (n : Int)
  · have HW := Lib.hid (wide_b A n c 40 true (by simp [hw]))
    clear hw
    go_wp2_with fail
    refine (HW.out _).mono ?_
    rintro e w1 ⟨rfl, rfl⟩
    go_wp2_with fail
    refine (HS.out _).mono ?_
    rintro e w2 ⟨rfl, hb⟩
    go_wp2
    go_ret
    exact ⟨rfl, hB1.trans (hb.mono hB1.size)⟩
  have HW := Lib.hid (wide_b A n c 40 false (by simp [hw]))
  obtain ⟨x1, hx1⟩ : ∃ b, Pl.vs l = b := ⟨_, rfl⟩
  rw [hx1] at HVL
  cases x1
  · clear hx1
    go_wp2_with fail
    refine (HW.out _).mono ?_
    rintro e w1 ⟨rfl, rfl⟩
    go_wp2_with fail
    refine (HVL.out _ HI1.out).mono ?_
    rintro e w2 ⟨rfl, hb⟩
    have hB2 := hB1.trans (hb.mono hB1.size)
    have HI2 := Lib.hid (HI1.out.below hb)
    have bX2 := bX1.below hb bX1.lt
    have hs2 := hb.size
    clear hb
    go_wp2_with fail
    refine (HS.out _).mono ?_
    rintro e wz ⟨rfl, hb⟩
    go_wp2
    go_ret
    exact ⟨rfl, hB2.trans (hb.mono hB2.size)⟩
  by_cases a0 : tol < 0
  · clear hx1
    go_wp2_with fail
    refine (HW.out _).mono ?_
    rintro e w1 ⟨rfl, rfl⟩
    go_wp2_with fail
    refine (HVL.out _ HI1.out).mono ?_
    rintro e w2 ⟨rfl, hb⟩
    have hB2 := hB1.trans (hb.mono hB1.size)
    have HI2 := Lib.hid (HI1.out.below hb)
    have bX2 := bX1.below hb bX1.lt
    have hs2 := hb.size
    clear hb
    go_wp2_with fail
    refine (HS.out _).mono ?_
    rintro e wz ⟨rfl, hb⟩
    go_wp2
    go_ret
    exact ⟨rfl, hB2.trans (hb.mono hB2.size)⟩
  by_cases a1 : 1000 < tol
  · clear hx1
    go_wp2_with fail
    refine (HW.out _).mono ?_
    rintro e w1 ⟨rfl, rfl⟩
    go_wp2_with fail
    refine (HVL.out _ HI1.out).mono ?_
    rintro e w2 ⟨rfl, hb⟩
    have hB2 := hB1.trans (hb.mono hB1.size)
    have HI2 := Lib.hid (HI1.out.below hb)
    have bX2 := bX1.below hb bX1.lt
    have hs2 := hb.size
    clear hb
    go_wp2_with fail
    refine (HS.out _).mono ?_
    rintro e wz ⟨rfl, hb⟩
    go_wp2
    go_ret
    exact ⟨rfl, hB2.trans (hb.mono hB2.size)⟩
  have hok := Pl.ok_of hx1
  have hM0 := Pl.Mt_ok (tol := tol) hx1 (by omega) (by omega)
  have hc0 := Pl.ck_mk (tol := tol) hx1 (by omega) (by omega)
  obtain ⟨N, hN⟩ : ∃ N, (Pl.mt l tol).length = N := ⟨_, rfl⟩
  have HM1 := Lib.hid (fun (w' : World) hI => Most_any A l c n HN.out tol w' hI)
  rw [hM0, hc0, hN] at HM1
  have hvt := Pl.vs_trn hok t
  have HM2 := Lib.hid (fun (w' : World) (A' : Option Addr) (c' : Nat) hI => Most_any A' (Pl.trn l t) c' n ((Pl.trn_len l t).trans HN.out) tol w' hI)
  rw [Pl.Mt_ok hvt (by omega) (by omega), Pl.ck_mk hvt (by omega) (by omega), Pl.mt_trn hok, hN] at HM2
  obtain ⟨x2, hx2⟩ : ∃ b, Pl.vs (l ++ [x]) = b := ⟨_, rfl⟩
  have HM4 := Lib.hid (fun (w' : World) (A' : Option Addr) (c' : Nat) hI => Most_any A' (l ++ [x]) c' (n + 1) (by simp [HN.out]) tol w' hI)
  have HVX := Lib.hid (fun (w' : World) (A' : Option Addr) (c' : Nat) (hI : Tms w' A' (l ++ [x])) => rvalid_any A' (l ++ [x]) c' w' hI)
  rw [hx2, show (l ++ [x]).length = n + 1 from by simp [HN.out]] at HVX
  have hK : (x2 = false ∧ Pl.ck (l ++ [x]) tol = 40) ∨ (x2 = true ∧ Pl.ck (l ++ [x]) tol = 0 ∧ ((Pl.Mt (l ++ [x]) tol).length = N ∨ (Pl.Mt (l ++ [x]) tol).length = N + 1)) := by
    cases x2
    · exact .inl ⟨rfl, by unfold Pl.ck; rw [hx2]; rfl⟩
    · have hm := Pl.mt_more (x := x) hok (Pl.ok_of hx2) (tol := tol)
      rw [hN] at hm
      refine .inr ⟨rfl, Pl.ck_mk hx2 (by omega) (by omega), ?_⟩
      rw [Pl.Mt_ok hx2 (by omega) (by omega)]
      omega
  have HK := Lib.hid hK
  have hN60 : N ≤ 600 := by rw [← hN]; have := mtn_len (l := l) (tol := tol) hok.len 9; unfold Pl.mt; omega
  have HTOL : Hid (tol < 1000 → ∃ K, (∀ w', Tms w' A l → Calls Try.prog 26 #[.slice A n c, .int .i64 (tol + 1)] w' fun e w'' => e = .returned (.tuple #[.int .i64 ((K : Nat) : Int), .int .i64 0]) ∧ Below w'.heap.size w' w'') ∧ N ≤ K) := Lib.hid (fun h => ⟨(Pl.mt l (tol + 1)).length, fun w' hI => by
      have := Most_any A l c n HN.out (tol + 1) w' hI
      rw [Pl.Mt_ok hx1 (by omega) (by omega), Pl.ck_mk hx1 (by omega) (by omega)] at this
      exact this, by rw [← hN]; exact Pl.mt_tol hok (by omega)⟩)
  generalize Pl.ck (l ++ [x]) tol = e2 at *
  generalize (Pl.Mt (l ++ [x]) tol).length = K2 at *
  obtain ⟨i0, hi, hz0, hz1, hz2⟩ := info_parts info24'
  have ktol : tol < 1000 → IntKind.i64.wrap (tol + 1) = tol + 1 := fun _ => IntWalk.i64_in _ (by omega)
  have KTOL := Lib.hid ktol
  clear hM0 hc0 hN hvt hx2 hK hx1 hok ktol
  go_wp2_with fail
  refine (HW.out _).mono ?_
  rintro e w1 ⟨rfl, rfl⟩
  go_wp2_with fail
  refine (HVL.out _ HI1.out).mono ?_
  rintro e w2 ⟨rfl, hb⟩
  have hB2 := hB1.trans (hb.mono hB1.size)
  have HI2 := Lib.hid (HI1.out.below hb)
  have bX2 := bX1.below hb bX1.lt
  have hs2 := hb.size
  clear hb
  clear HI1 bX1 hB1
  go_wp2_with fail
  refine (HM1.out _ HI2.out).mono ?_
  rintro e w3 ⟨rfl, hb⟩
  have hB3 := hB2.trans (hb.mono hB2.size)
  have HI3 := Lib.hid (HI2.out.below hb)
  have bX3 := bX2.below hb bX2.lt
  have hs3 := hb.size
  clear hb HI2 bX2 hB2
  go_wp2
  go_loopw [11, 12] (fun v i wr => ∃ k : Nat, k ≤ n ∧ i = .int .i64 k ∧ wr.ownsRow w3.heap.size 24 4 v k (flt tmL (Pl.trk l t k)) ∧ Below w3.heap.size w3 wr) (fun _ i _ => n - (intOf i).toNat)
  case atStart => exact ⟨0, Nat.zero_le _, rfl, World.ownsRow_nil _ _ _ _, Below.refl _ _⟩
  case round =>
    obtain ⟨k, hk, rfl, hown, hB⟩ := hrel
    obtain ⟨wl, rfl⟩ : ∃ wl, wl = wr := ⟨_, rfl⟩
    by_cases hlt : k < n
    · have hlen0 : 0 < l.length := by rw [HN.out]; omega
      obtain ⟨bz, oz, rfl, hbz, hcz⟩ : ∃ bb off, A = some ⟨bb, off, none⟩ ∧ bb < w3.heap.size ∧ ∀ j, j < l.length → w3.rangeAt bb (off + j * 4) (tmA (l.getD j Pl.zt)).toList := by
        rcases HI3.out with h | ⟨bb, off, he, hb, hc⟩
        · rw [h] at hlen0; simp at hlen0
        · exact ⟨bb, off, he, hb, hc⟩
      obtain ⟨R, hRd⟩ : ∃ R, (k + t) % n = R := ⟨_, rfl⟩
      have hRn : R < n := by rw [← hRd]; exact Nat.mod_lt _ (by omega)
      have hR : ((k : Int) + (t : Int)).tmod (n : Int) = (R : Int) := by
        rw [Int.tmod_eq_emod_of_nonneg (by omega), ← hRd, show (k : Int) + (t : Int) = ((k + t : Nat) : Int) from by omega]
        first | exact (Int.natCast_emod _ _).symm | rfl
      obtain ⟨X, hX⟩ : ∃ X, n - 1 - R = X := ⟨_, rfl⟩
      have eX : (n : Int) - 1 - (R : Int) = (X : Int) := by omega
      have hXn : X < n := by omega
      have hXl : X < l.length := by rw [HN.out]; exact hXn
      have HR : Hid (flt tmL (Pl.trk l t (k + 1)) = flt tmL (Pl.trk l t k) ++ tmL (Pl.at' l X)) := Lib.hid (by rw [Pl.trk_succ, flt_append, flt_one, HN.out]; unfold Pl.gt; rw [hRd, hX])
      have hck := rangeAt_below (hcz X hXl) hbz hB
      rw [Pl.at_getD hXl] at hck
      have k1 : IntKind.i64.wrap ((k : Int) + (t : Int)) = (k : Int) + (t : Int) := IntWalk.i64_in _ (by omega)
      have k2 : IntKind.i64.wrap ((R : Nat) : Int) = (R : Int) := IntWalk.i64_in _ (by omega)
      have k3 : IntKind.i64.wrap ((n : Int) - 1) = (n : Int) - 1 := IntWalk.i64_in _ (by omega)
      have k4 : IntKind.i64.wrap ((X : Nat) : Int) = (X : Int) := IntWalk.i64_in _ (by omega)
      have hn0 : ¬ (n : Int) = 0 := by omega
      have hXI : (X : Int) < (n : Int) := by omega
      have HH := Lib.hid hlt
      clear hcz hXl hlen0 hRd hX
      generalize Pl.at' l X = E at *
      go_wp2_with (first | refine ldm_tm hck rfl _ rfl rfl ?_ | (at_builtin; refine wpList_append_own _ rfl _ _ 22 rfl w3.heap.size 24 i0 _ 4 32 Try.underlying22 hi hz0 hz1 hz2 rfl (by decide) _ _ _ rfl (hown.alloc _) ⟨wl.heap.size, 0, none⟩ 1 1 (tmL E) rfl rfl (new_cells' _ _ _ rfl) (tmL_one E) (by unfold maxLen; omega) (by omega) (by have := hB.size; simp; omega) ?_; intro v' w5 hown' hgrow _))
      have hB2 := (hB.alloc hB.size (.cells (tmL E).toArray 24)).grown hgrow (hB.alloc hB.size _).size (fun s e => (hown.lt s e).1)
      have HO1 := Lib.hid hown'
      clear hown' hgrow hown hB hck
      go_roundw
      case rel => exact ⟨k + 1, HH.out, by go_num, by rw [HR.out]; exact HO1.out, hB2⟩
      case measure => have := HH.out; simp [intOf]; omega
    · obtain rfl : k = n := by omega
      have hB4 := hB3.trans (hB.mono hB3.size)
      have HI4 := Lib.hid (HI3.out.below hB)
      have bX4 := bX3.below hB bX3.lt
      have hs4 := hB.size
      have htr : Pl.trk l t k = Pl.trn l t := by unfold Pl.trn; rw [HN.out]
      rw [htr] at hown
      have htl : (Pl.trn l t).length = k := (Pl.trn_len l t).trans HN.out
      have hown2 : wl.ownsRow w3.heap.size 24 4 u11 (Pl.trn l t).length (flt tmL (Pl.trn l t)) := by rw [htl]; exact hown
      obtain ⟨A2, c2, hv2, hr2, _, _⟩ := rows_of_owns encT hown2
      rw [htl] at hv2
      subst hv2
      have HT2 := Lib.hid (tms_of hr2)
      clear hown hown2 hr2 hB hB3 HI3 bX3 htr htl
      go_wp2_with fail
      refine (HM2.out _ _ _ HT2.out).mono ?_
      rintro e w5 ⟨rfl, hb⟩
      have hB5 := hB4.trans (hb.mono hB4.size)
      have HI5 := Lib.hid (HI4.out.below hb)
      have bX5 := bX4.below hb bX4.lt
      have hs5 := hb.size
      clear hb hB4 HI4 bX4 HT2
      by_cases a2 : tol < 1000
      · obtain ⟨K, hM3, hNK⟩ := HTOL.out a2
        have HM3 := Lib.hid hM3
        have k9 := KTOL.out a2
        have hNKI : ¬ (K : Int) < (N : Int) := by omega
        clear hM3 HTOL
        go_wp2_with fail
        refine (HM3.out _ HI5.out).mono ?_
        rintro e w6 ⟨rfl, hb⟩
        have hB6 := hB5.trans (hb.mono hB5.size)
        have HI6 := Lib.hid (HI5.out.below hb)
        have bX6 := bX5.below hb bX5.lt
        have hs6 := hb.size
        clear hb hB5 HI5 bX5 k9
        cases A with
        | none =>
          obtain ⟨hz, rfl⟩ := HNIL.out rfl
          subst hz
          obtain rfl : l = [] := List.eq_nil_of_length_eq_zero HN.out
          have hB7 := hB6
          have bX7 := bX6
          have hs7 : w1.heap.size ≤ w6.heap.size := by omega
          have hown7 : w6.ownsRow w1.heap.size 24 4 (.slice none 0 0) 0 (flt tmL []) := World.ownsRow_nil _ _ _ _
          clear bX6
          skip
          have hrX := bX7.range
          go_wp2_with (first | (at_builtin; refine wpList_append_own_none rfl _ _ 22 rfl w1.heap.size 24 i0 4 Try.underlying22 hi _ _ _ rfl hown7 rfl ?_) | refine ldm_tm hrX rfl _ rfl rfl ?_ | (at_builtin; refine wpList_append_own _ rfl _ _ 22 rfl w1.heap.size 24 i0 _ 4 32 Try.underlying22 hi hz0 hz1 hz2 rfl (by decide) _ _ _ rfl (hown7.alloc _) ⟨w6.heap.size, 0, none⟩ 1 1 (tmL x) rfl rfl (new_cells' _ _ _ rfl) (tmL_one x) (by unfold maxLen; omega) (by omega) (by have := hs7; simp; omega) ?_; intro v8 w8 hown8 hgrow8 _))
          have hB8 := (hB7.alloc hB7.size (.cells (tmL x).toArray 24)).grown hgrow8 (hB7.alloc hB7.size _).size (fun s e => Nat.le_trans hs1 (hown7.lt s e).1)
          have hfl : flt tmL ([] ++ [x]) = flt tmL [] ++ tmL x := by rw [flt_append, flt_one]
          have hll : ([] ++ [x]).length = 0 + 1 := by simp [HN.out]
          have hown9 : w8.ownsRow w1.heap.size 24 4 v8 ([] ++ [x]).length (flt tmL ([] ++ [x])) := by rw [hfl, hll]; exact hown8
          obtain ⟨A9, c9, hv9, hr9, _, _⟩ := rows_of_owns encT hown9
          rw [hll] at hv9
          subst hv9
          have HT9 := Lib.hid (tms_of hr9)
          clear hown8 hown9 hr9 hgrow8 hfl hll hown7 hB7 bX7 hrX
          go_wp2_with fail
          refine (HM4.out _ _ _ HT9.out).mono ?_
          rintro e w10 ⟨rfl, hb⟩
          have hB10 := hB8.trans (hb.mono hB8.size)
          have HT10 := Lib.hid (HT9.out.below hb)
          clear hb hB8 HT9
          go_wp2_with fail
          refine (HVX.out _ _ _ HT10.out).mono ?_
          rintro e w11 ⟨rfl, hb⟩
          have hB11 := hB10.trans (hb.mono hB10.size)
          clear hb hB10 HT10
          have k5 : IntKind.i64.wrap ((N : Int) + 1) = (N : Int) + 1 := IntWalk.i64_in _ (by omega)
          rcases HK.out with ⟨rfl, rfl⟩ | ⟨rfl, rfl, rfl | rfl⟩
          · go_wp2_with fail
            refine (HS.out _).mono ?_
            rintro e wz ⟨rfl, hb⟩
            go_wp2
            go_ret
            exact ⟨rfl, hB11.trans (hb.mono hB11.size)⟩
          · go_wp2_with fail
            refine (HS.out _).mono ?_
            rintro e wz ⟨rfl, hb⟩
            go_wp2
            go_ret
            exact ⟨rfl, hB11.trans (hb.mono hB11.size)⟩
          · have k6 : (((N + 1 : Nat) : Int) == (N : Int)) = false := by rw [beq_eq_false_iff_ne]; omega
            have k7 : (((N + 1 : Nat) : Int) == (N : Int) + 1) = true := by simp
            have k8 : ((N + 1 : Nat) : Int) = (N : Int) + 1 := by omega
            have k9 : ((N : Int) + 1 == (N : Int)) = false := by rw [beq_eq_false_iff_ne]; omega
            go_wp2_with fail
            refine (HS.out _).mono ?_
            rintro e wz ⟨rfl, hb⟩
            go_wp2
            go_ret
            exact ⟨rfl, hB11.trans (hb.mono hB11.size)⟩
        | some ad =>
          have hcells : ∀ j u, (flt tmL l)[j]? = some u → w6.cell? (ad.add j) = some u := by
            rcases of_tms HI6.out with h | ⟨b, off, h1, h2, h3⟩
            · intro j u hj; rw [h] at hj; simp [flt] at hj
            · cases h1; exact rows_cells encT h3
          have HCE := Lib.hid hcells
          clear hcells
          have hss : w1.heap.size ≤ w6.heap.size := by omega
          go_wp2_with (first | (at_builtin; refine wpList_append_own _ rfl _ _ 22 rfl w1.heap.size 24 i0 _ 4 32 Try.underlying22 hi hz0 hz1 hz2 rfl (by decide) _ _ _ rfl (World.ownsRow_nil _ _ _ _) ad k c (flt tmL l) rfl (by rw [flt_len encT, HN.out]) HCE.out (flt_one' encT l) (by unfold maxLen; omega) (by omega) hss ?_; intro v7 w7 hown7 hgrow7 _; have hB7 := hB6.grown hgrow7 hB6.size (fun s e => by cases e); have bX7 := bX6.grown hgrow7 (fun e => by cases e); have hs7 := Nat.le_trans hss hgrow7.size; rw [Nat.zero_add, List.nil_append] at hown7; clear hgrow7 bX6 hB6; have hrX := bX7.range) | refine ldm_tm hrX rfl _ rfl rfl ?_ | (at_builtin; refine wpList_append_own _ rfl _ _ 22 rfl w1.heap.size 24 i0 _ 4 32 Try.underlying22 hi hz0 hz1 hz2 rfl (by decide) _ _ _ rfl (hown7.alloc _) ⟨w7.heap.size, 0, none⟩ 1 1 (tmL x) rfl rfl (new_cells' _ _ _ rfl) (tmL_one x) (by unfold maxLen; omega) (by omega) (by have := hs7; simp; omega) ?_; intro v8 w8 hown8 hgrow8 _))
          have hB8 := (hB7.alloc hB7.size (.cells (tmL x).toArray 24)).grown hgrow8 (hB7.alloc hB7.size _).size (fun s e => Nat.le_trans hs1 (hown7.lt s e).1)
          have hfl : flt tmL (l ++ [x]) = flt tmL l ++ tmL x := by rw [flt_append, flt_one]
          have hll : (l ++ [x]).length = k + 1 := by simp [HN.out]
          have hown9 : w8.ownsRow w1.heap.size 24 4 v8 (l ++ [x]).length (flt tmL (l ++ [x])) := by rw [hfl, hll]; exact hown8
          obtain ⟨A9, c9, hv9, hr9, _, _⟩ := rows_of_owns encT hown9
          rw [hll] at hv9
          subst hv9
          have HT9 := Lib.hid (tms_of hr9)
          clear hown8 hown9 hr9 hgrow8 hfl hll hown7 hB7 bX7 hrX
          go_wp2_with fail
          refine (HM4.out _ _ _ HT9.out).mono ?_
          rintro e w10 ⟨rfl, hb⟩
          have hB10 := hB8.trans (hb.mono hB8.size)
          have HT10 := Lib.hid (HT9.out.below hb)
          clear hb hB8 HT9
          go_wp2_with fail
          refine (HVX.out _ _ _ HT10.out).mono ?_
          rintro e w11 ⟨rfl, hb⟩
          have hB11 := hB10.trans (hb.mono hB10.size)
          clear hb hB10 HT10
          have k5 : IntKind.i64.wrap ((N : Int) + 1) = (N : Int) + 1 := IntWalk.i64_in _ (by omega)
          rcases HK.out with ⟨rfl, rfl⟩ | ⟨rfl, rfl, rfl | rfl⟩
          · go_wp2_with fail
            refine (HS.out _).mono ?_
            rintro e wz ⟨rfl, hb⟩
            go_wp2
            go_ret
            exact ⟨rfl, hB11.trans (hb.mono hB11.size)⟩
          · go_wp2_with fail
            refine (HS.out _).mono ?_
            rintro e wz ⟨rfl, hb⟩
            go_wp2
            go_ret
            exact ⟨rfl, hB11.trans (hb.mono hB11.size)⟩
          · have k6 : (((N + 1 : Nat) : Int) == (N : Int)) = false := by rw [beq_eq_false_iff_ne]; omega
            have k7 : (((N + 1 : Nat) : Int) == (N : Int) + 1) = true := by simp
            have k8 : ((N + 1 : Nat) : Int) = (N : Int) + 1 := by omega
            have k9 : ((N : Int) + 1 == (N : Int)) = false := by rw [beq_eq_false_iff_ne]; omega
            go_wp2_with fail
            refine (HS.out _).mono ?_
            rintro e wz ⟨rfl, hb⟩
            go_wp2
            go_ret
            exact ⟨rfl, hB11.trans (hb.mono hB11.size)⟩
      · skip
        cases A with
        | none =>
          obtain ⟨hz, rfl⟩ := HNIL.out rfl
          subst hz
          obtain rfl : l = [] := List.eq_nil_of_length_eq_zero HN.out
          have hB7 := hB5
          have bX7 := bX5
          have hs7 : w1.heap.size ≤ w5.heap.size := by omega
          have hown7 : w5.ownsRow w1.heap.size 24 4 (.slice none 0 0) 0 (flt tmL []) := World.ownsRow_nil _ _ _ _
          clear bX5
          skip
          have hrX := bX7.range
          go_wp2_with (first | (at_builtin; refine wpList_append_own_none rfl _ _ 22 rfl w1.heap.size 24 i0 4 Try.underlying22 hi _ _ _ rfl hown7 rfl ?_) | refine ldm_tm hrX rfl _ rfl rfl ?_ | (at_builtin; refine wpList_append_own _ rfl _ _ 22 rfl w1.heap.size 24 i0 _ 4 32 Try.underlying22 hi hz0 hz1 hz2 rfl (by decide) _ _ _ rfl (hown7.alloc _) ⟨w5.heap.size, 0, none⟩ 1 1 (tmL x) rfl rfl (new_cells' _ _ _ rfl) (tmL_one x) (by unfold maxLen; omega) (by omega) (by have := hs7; simp; omega) ?_; intro v8 w8 hown8 hgrow8 _))
          have hB8 := (hB7.alloc hB7.size (.cells (tmL x).toArray 24)).grown hgrow8 (hB7.alloc hB7.size _).size (fun s e => Nat.le_trans hs1 (hown7.lt s e).1)
          have hfl : flt tmL ([] ++ [x]) = flt tmL [] ++ tmL x := by rw [flt_append, flt_one]
          have hll : ([] ++ [x]).length = 0 + 1 := by simp [HN.out]
          have hown9 : w8.ownsRow w1.heap.size 24 4 v8 ([] ++ [x]).length (flt tmL ([] ++ [x])) := by rw [hfl, hll]; exact hown8
          obtain ⟨A9, c9, hv9, hr9, _, _⟩ := rows_of_owns encT hown9
          rw [hll] at hv9
          subst hv9
          have HT9 := Lib.hid (tms_of hr9)
          clear hown8 hown9 hr9 hgrow8 hfl hll hown7 hB7 bX7 hrX
          go_wp2_with fail
          refine (HM4.out _ _ _ HT9.out).mono ?_
          rintro e w10 ⟨rfl, hb⟩
          have hB10 := hB8.trans (hb.mono hB8.size)
          have HT10 := Lib.hid (HT9.out.below hb)
          clear hb hB8 HT9
          go_wp2_with fail
          refine (HVX.out _ _ _ HT10.out).mono ?_
          rintro e w11 ⟨rfl, hb⟩
          have hB11 := hB10.trans (hb.mono hB10.size)
          clear hb hB10 HT10
          have k5 : IntKind.i64.wrap ((N : Int) + 1) = (N : Int) + 1 := IntWalk.i64_in _ (by omega)
          rcases HK.out with ⟨rfl, rfl⟩ | ⟨rfl, rfl, rfl | rfl⟩
          · go_wp2_with fail
            refine (HS.out _).mono ?_
            rintro e wz ⟨rfl, hb⟩
            go_wp2
            go_ret
            exact ⟨rfl, hB11.trans (hb.mono hB11.size)⟩
          · go_wp2_with fail
            refine (HS.out _).mono ?_
            rintro e wz ⟨rfl, hb⟩
            go_wp2
            go_ret
            exact ⟨rfl, hB11.trans (hb.mono hB11.size)⟩
          · have k6 : (((N + 1 : Nat) : Int) == (N : Int)) = false := by rw [beq_eq_false_iff_ne]; omega
            have k7 : (((N + 1 : Nat) : Int) == (N : Int) + 1) = true := by simp
            have k8 : ((N + 1 : Nat) : Int) = (N : Int) + 1 := by omega
            have k9 : ((N : Int) + 1 == (N : Int)) = false := by rw [beq_eq_false_iff_ne]; omega
            go_wp2_with fail
            refine (HS.out _).mono ?_
            rintro e wz ⟨rfl, hb⟩
            go_wp2
            go_ret
            exact ⟨rfl, hB11.trans (hb.mono hB11.size)⟩
        | some ad =>
          have hcells : ∀ j u, (flt tmL l)[j]? = some u → w5.cell? (ad.add j) = some u := by
            rcases of_tms HI5.out with h | ⟨b, off, h1, h2, h3⟩
            · intro j u hj; rw [h] at hj; simp [flt] at hj
            · cases h1; exact rows_cells encT h3
          have HCE := Lib.hid hcells
          clear hcells
          have hss : w1.heap.size ≤ w5.heap.size := by omega
          go_wp2_with (first | (at_builtin; refine wpList_append_own _ rfl _ _ 22 rfl w1.heap.size 24 i0 _ 4 32 Try.underlying22 hi hz0 hz1 hz2 rfl (by decide) _ _ _ rfl (World.ownsRow_nil _ _ _ _) ad k c (flt tmL l) rfl (by rw [flt_len encT, HN.out]) HCE.out (flt_one' encT l) (by unfold maxLen; omega) (by omega) hss ?_; intro v7 w7 hown7 hgrow7 _; have hB7 := hB5.grown hgrow7 hB5.size (fun s e => by cases e); have bX7 := bX5.grown hgrow7 (fun e => by cases e); have hs7 := Nat.le_trans hss hgrow7.size; rw [Nat.zero_add, List.nil_append] at hown7; clear hgrow7 bX5 hB5; have hrX := bX7.range) | refine ldm_tm hrX rfl _ rfl rfl ?_ | (at_builtin; refine wpList_append_own _ rfl _ _ 22 rfl w1.heap.size 24 i0 _ 4 32 Try.underlying22 hi hz0 hz1 hz2 rfl (by decide) _ _ _ rfl (hown7.alloc _) ⟨w7.heap.size, 0, none⟩ 1 1 (tmL x) rfl rfl (new_cells' _ _ _ rfl) (tmL_one x) (by unfold maxLen; omega) (by omega) (by have := hs7; simp; omega) ?_; intro v8 w8 hown8 hgrow8 _))
          have hB8 := (hB7.alloc hB7.size (.cells (tmL x).toArray 24)).grown hgrow8 (hB7.alloc hB7.size _).size (fun s e => Nat.le_trans hs1 (hown7.lt s e).1)
          have hfl : flt tmL (l ++ [x]) = flt tmL l ++ tmL x := by rw [flt_append, flt_one]
          have hll : (l ++ [x]).length = k + 1 := by simp [HN.out]
          have hown9 : w8.ownsRow w1.heap.size 24 4 v8 (l ++ [x]).length (flt tmL (l ++ [x])) := by rw [hfl, hll]; exact hown8
          obtain ⟨A9, c9, hv9, hr9, _, _⟩ := rows_of_owns encT hown9
          rw [hll] at hv9
          subst hv9
          have HT9 := Lib.hid (tms_of hr9)
          clear hown8 hown9 hr9 hgrow8 hfl hll hown7 hB7 bX7 hrX
          go_wp2_with fail
          refine (HM4.out _ _ _ HT9.out).mono ?_
          rintro e w10 ⟨rfl, hb⟩
          have hB10 := hB8.trans (hb.mono hB8.size)
          have HT10 := Lib.hid (HT9.out.below hb)
          clear hb hB8 HT9
          go_wp2_with fail
          refine (HVX.out _ _ _ HT10.out).mono ?_
          rintro e w11 ⟨rfl, hb⟩
          have hB11 := hB10.trans (hb.mono hB10.size)
          clear hb hB10 HT10
          have k5 : IntKind.i64.wrap ((N : Int) + 1) = (N : Int) + 1 := IntWalk.i64_in _ (by omega)
          rcases HK.out with ⟨rfl, rfl⟩ | ⟨rfl, rfl, rfl | rfl⟩
          · go_wp2_with fail
            refine (HS.out _).mono ?_
            rintro e wz ⟨rfl, hb⟩
            go_wp2
            go_ret
            exact ⟨rfl, hB11.trans (hb.mono hB11.size)⟩
          · go_wp2_with fail
            refine (HS.out _).mono ?_
            rintro e wz ⟨rfl, hb⟩
            go_wp2
            go_ret
            exact ⟨rfl, hB11.trans (hb.mono hB11.size)⟩
          · have k6 : (((N + 1 : Nat) : Int) == (N : Int)) = false := by rw [beq_eq_false_iff_ne]; omega
            have k7 : (((N + 1 : Nat) : Int) == (N : Int) + 1) = true := by simp
            have k8 : ((N + 1 : Nat) : Int) = (N : Int) + 1 := by omega
            have k9 : ((N : Int) + 1 == (N : Int)) = false := by rw [beq_eq_false_iff_ne]; omega
            go_wp2_with fail
            refine (HS.out _).mono ?_
            rintro e wz ⟨rfl, hb⟩
            go_wp2
            go_ret
            exact ⟨rfl, hB11.trans (hb.mono hB11.size)⟩
end Go.Proofs.Ytdnfipeadoiepaa
