/- inspect, History, State, Restart: of the document; the law's sameLots. -/
import Derived.Test.YtfkhlglagokodaaG4
namespace Go.Proofs.Ytfkhlglagokodaa
open Go.RowKit Go.Shelf

set_option maxRecDepth 100000 in
set_option maxHeartbeats 16000000 in
theorem rinspect_b (S : Pl.Sc) (st0 : Int) (hst0 : st0 ≠ 3) (A : Option Addr) (xs : List Int) (c n : Nat) (hn : xs.length = n) (hn63 : n ≤ maxLen) (w : World) (hA : Rows inL 1 w A xs) :
    Calls Try.prog 46 #[.agg (scA S), .int .i64 st0, .slice A n c] w fun e w' => ∃ A' c', e = .returned (.tuple #[.slice A' (Pl.hs S st0 xs).2.2.length c', .int .i64 (Pl.hs S st0 xs).2.1, .int .i64 (Pl.hs S st0 xs).1]) ∧ Rows isL 2 w' A' (Pl.hs S st0 xs).2.2 ∧ Below w.heap.size w w' := by
  have hB0 := (Below.refl w.heap.size w).alloc (Nat.le_refl _) (.cells (scA S) 25)
  have bS := Blk.new w 25 (scA S)
  have hr := bS.range
  have HA := Lib.hid hA
  have HN := Lib.hid hn
  have hn63' : n ≤ 9223372036854775807 := hn63
  have HV := Lib.hid (fun w' : World => rvscheme_b S w')
  obtain ⟨E, s, out0, hF⟩ : ∃ E s o, Pl.hs S st0 xs = (E, s, o) := ⟨_, _, _, rfl⟩
  rw [hF]
  obtain ⟨V, hV⟩ : ∃ V, Pl.vS S = V := ⟨_, rfl⟩
  rw [hV] at HV
  cases V with
  | false =>
    have HF : Hid (E = 50 ∧ s = 0 ∧ out0 = []) := Lib.hid (by unfold Pl.hs at hF; rw [if_neg (by rw [hV]; decide)] at hF; cases hF; exact ⟨rfl, rfl, rfl⟩)
    clear hF hA hn hV bS hst0
    go_enter Try.func46, Try.ntmps46
    go_wp2_with (refine ldm_sc hr rfl _ rfl rfl ?_)
    refine (HV.out _).mono ?_
    rintro e w1 ⟨rfl, hb1⟩
    have hB1 := hB0.trans (hb1.mono hB0.size)
    go_wp2
    go_ret3
    rw [HF.out.1, HF.out.2.1, HF.out.2.2]
    first | exact ⟨_, _, rfl, Rows.nil _ _, hB1⟩ | exact ⟨none, 0, rfl, Rows.nil _ _, hB1⟩
  | true =>
    by_cases h200 : (200 : Int) < (n : Int)
    · have HF : Hid (E = 4 ∧ s = 0 ∧ out0 = []) := Lib.hid (by unfold Pl.hs at hF; rw [if_pos hV, if_neg (by omega)] at hF; cases hF; exact ⟨rfl, rfl, rfl⟩)
      clear hF hA hn hV bS hst0
      go_enter Try.func46, Try.ntmps46
      go_wp2_with (refine ldm_sc hr rfl _ rfl rfl ?_)
      refine (HV.out _).mono ?_
      rintro e w1 ⟨rfl, hb1⟩
      have hB1 := hB0.trans (hb1.mono hB0.size)
      go_wp2
      go_ret3
      rw [HF.out.1, HF.out.2.1, HF.out.2.2]
      first | exact ⟨_, _, rfl, Rows.nil _ _, hB1⟩ | exact ⟨none, 0, rfl, Rows.nil _ _, hB1⟩
    · have h201 : n ≤ 200 := by omega
      have HF : Hid (Pl.cat [] (Pl.hist S st0 [] (xs.drop 0)) = (E, s, out0)) := Lib.hid (by
        unfold Pl.hs at hF
        rw [if_pos hV, if_pos (by omega)] at hF
        rw [List.drop_zero, Pl.cat_nil (Pl.hist_err S xs st0 [])]
        exact hF)
      obtain ⟨i0, hi0, hz0, hn0, hy0⟩ := info_parts infoIsz
      obtain ⟨i1, hi1, hz1, hn1, hy1⟩ := info_parts info4f
      have hIv0 : Pl.Iv st0 [] := fun h => absurd h hst0
      clear hF hA hn hV hst0
      go_enter Try.func46, Try.ntmps46
      go_wp2_with (refine ldm_sc hr rfl _ rfl rfl ?_)
      refine (HV.out _).mono ?_
      rintro e w1 ⟨rfl, hb1⟩
      have hB1 := hB0.trans (hb1.mono hB0.size)
      have bS1 := bS.below hb1 bS.lt
      have HS1 := Lib.hid bS1
      have hlt0 := bS1.lt
      clear hb1 hB0 bS bS1 hr HV
      go_wp2
      go_loopw [1, 9, 10, 12, 13, 14, 15, 24] (fun vst v v' _ _ _ _ j wr => ∃ (k : Nat) (st : Int) (l : List Bool) (out : List (Int × Bool)), k ≤ n ∧ l.length ≤ k ∧ out.length = k ∧ vst = .int .i64 st ∧ j = .int .i64 k ∧ Pl.Iv st l ∧ wr.ownsRow w1.heap.size 4 1 v' l.length (flt boL l) ∧ wr.ownsRow w1.heap.size 62 2 v out.length (flt isL out) ∧ Hid (Pl.cat out (Pl.hist S st l (xs.drop k)) = (E, s, out0)) ∧ Below w1.heap.size w1 wr) (fun _ _ _ _ _ _ _ j _ => n - (intOf j).toNat)
      case atStart => exact ⟨0, st0, [], [], Nat.zero_le _, Nat.le_refl _, rfl, rfl, rfl, hIv0, World.ownsRow_nil _ _ _ _, World.ownsRow_nil _ _ _ _, HF, Below.refl _ _⟩
      case round =>
        clear HF hIv0
        obtain ⟨k, st, l, out, hk, hlk, hok, rfl, rfl, hIv, ho, hod, hF, hB⟩ := hrel
        obtain ⟨wo, rfl⟩ : ∃ wo, wo = wr := ⟨_, rfl⟩
        by_cases hlt : k < n
        · have hltI : (k : Int) < (n : Int) := by omega
          have hkx : k < xs.length := by rw [HN.out]; exact hlt
          obtain ⟨bx, ox, rfl, hbx, hcx⟩ := HA.out.open (by omega)
          have q0 := row_cell (mk := Value.int .i64) hbx hcx (hB1.trans (hB.mono hB1.size)) hkx
          have HD : Hid (xs.drop k = xs[k] :: xs.drop (k + 1)) := Lib.hid (List.drop_eq_getElem_cons hkx)
          clear hcx
          generalize xs[k] = x at *
          rw [HD.out] at hF
          by_cases h4 : st = 4
          · subst h4
            have HF2 : Hid (E = 51 ∧ s = 0 ∧ out0 = []) := Lib.hid (by
              have := hF.out
              rw [hist_stop, cat_err (by decide)] at this
              cases this
              exact ⟨rfl, rfl, rfl⟩)
            clear hF ho hod hIv
            have hB3 := hB1.trans (hB.mono hB1.size)
            go_wp2
            go_ret3
            rw [HF2.out.1, HF2.out.2.1, HF2.out.2.2]
            first | exact ⟨_, _, rfl, Rows.nil _ _, hB3⟩ | exact ⟨none, 0, rfl, Rows.nil _ _, hB3⟩
          have h4b : (st == 4) = false := by simpa using h4
          have hrS := (HS1.out.below hB hlt0).range
          have HPL := Lib.hid (fun w' : World => rplan_b S st w')
          have HAC := Lib.hid (fun w' : World => raccepted_b (Pl.pl S st) x w')
          by_cases hE : Pl.acE (Pl.pl S st) x = 0
          rotate_left
          · have HF2 : Hid (E = Pl.acE (Pl.pl S st) x ∧ s = 0 ∧ out0 = []) := Lib.hid (by
              have := hF.out
              rw [hist_err h4 hE, cat_err hE] at this
              cases this
              exact ⟨rfl, rfl, rfl⟩)
            generalize Pl.acE (Pl.pl S st) x = E1 at *
            generalize Pl.acV (Pl.pl S st) x = b at *
            generalize Pl.pl S st = P at *
            have hE1 : (E1 != 0) = true := by simpa using hE
            clear hF ho hod hE h4 hIv
            go_wp2_with (refine ldm_sc hrS rfl _ rfl rfl ?_)
            refine (HPL.out _).mono ?_
            rintro e w2 ⟨rfl, hb2⟩
            have hB2 := hB.trans (hb2.mono hB.size)
            go_wp2_with fail
            refine (HAC.out _).mono ?_
            rintro e w3 ⟨rfl, hb3⟩
            have hB3 := hB1.trans ((hB2.trans (hb3.mono hB2.size)).mono hB1.size)
            go_wp2
            go_ret3
            rw [HF2.out.1, HF2.out.2.1, HF2.out.2.2]
            first | exact ⟨_, _, rfl, Rows.nil _ _, hB3⟩ | exact ⟨none, 0, rfl, Rows.nil _ _, hB3⟩
          · have HF2 : Hid (Pl.cat (out ++ [(st, Pl.acV (Pl.pl S st) x)]) (Pl.hist S (Pl.nxt st (l ++ [Pl.acV (Pl.pl S st) x])) (Pl.snc st (l ++ [Pl.acV (Pl.pl S st) x])) (xs.drop (k + 1))) = (E, s, out0)) := Lib.hid (by
              have := hF.out
              rw [hist_ok h4 hE, Pl.cat_cat] at this
              exact this)
            rw [hE] at HAC
            generalize Pl.acV (Pl.pl S st) x = b at *
            generalize Pl.pl S st = P at *
            have HSL : Hid ((Pl.snc st (l ++ [b])).length ≤ k + 1) := Lib.hid (Nat.le_trans (snc_len _ _) (by simp; omega))
            have HIV := Lib.hid (Pl.snc_iv st (l ++ [b]))
            have H3 : Hid (st = 3 → (Pl.rf (Pl.lst 1 (l ++ [b])) = 1 ↔ 0 < Pl.rf (l ++ [b]))) := Lib.hid (fun h => last_red (hIv h))
            have HC1 := Lib.hid (fun h => snc_same (st := st) (l := l ++ [b]) h)
            have HC2 := Lib.hid (fun h => snc_new (st := st) (l := l ++ [b]) h)
            have HO := Lib.hid ho
            have HOD := Lib.hid hod
            clear hF hE ho hod h4 hIv
            go_wp2_with (refine ldm_sc hrS rfl _ rfl rfl ?_)
            refine (HPL.out _).mono ?_
            rintro e w2 ⟨rfl, hb2⟩
            have hB2 := hB.trans (hb2.mono hB.size)
            go_wp2_with fail
            refine (HAC.out _).mono ?_
            rintro e w3 ⟨rfl, hb3⟩
            have hB3 := hB2.trans (hb3.mono hB2.size)
            have ho3 := own_keep (own_keep HO.out hb2) hb3
            have hod3 := own_keep (own_keep HOD.out hb2) hb3
            have ho4 := ho3.alloc (.cells (isL (st, b)).toArray 62)
            have HO4 := Lib.hid (hod3.alloc (.cells (isL (st, b)).toArray 62))
            have hB4 := hB3.alloc hB3.size (.cells (isL (st, b)).toArray 62)
            clear ho3 hod3 hb2 hb3 hB2 hrS HPL HAC HO HOD
            go_wp2_with (at_builtin; first | (refine wpList_append_own _ rfl _ _ 34 rfl w1.heap.size 62 i0 _ 2 16 Try.underlying34 hi0 hz0 hn0 hy0 rfl (by decide) _ _ _ rfl HO4.out ⟨w3.heap.size, 0, none⟩ 1 1 (isL (st, b)) rfl rfl (new_cells' _ _ _ rfl) (encIs.one (st, b)) (by unfold maxLen; omega) (by omega) hB4.size ?_; intro v5 w5 hown5 hgrow _; have ho5 := (ho4.kept hgrow (own_two_ne ho4 HO4.out (by decide))).alloc (.cells (boL b).toArray 4); have hB5 := hB4.grown hgrow hB4.size (fun s e => (HO4.out.lt s e).1); have HO5 := Lib.hid ho5; have HN5 := Lib.hid hown5; have hB6 := hB5.alloc hB5.size (.cells (boL b).toArray 4); clear ho4 hgrow ho5 hown5) | (refine wpList_append_own _ rfl _ _ 55 rfl w1.heap.size 4 i1 _ 1 1 Try.underlying55 hi1 hz1 hn1 hy1 rfl (by decide) _ _ _ rfl HO5.out ⟨w5.heap.size, 0, none⟩ 1 1 (boL b) rfl rfl (new_cells' _ _ _ rfl) (encBo.one b) (by unfold maxLen; omega) (by omega) hB6.size ?_; intro v7 w7 hown7 hgrow7 _))
            obtain ⟨A7, c7, hv7, hr7, hlc7, hz7, ho7⟩ := own_snoc rfl hown7
            subst hv7
            have HO7 := Lib.hid ho7
            have HBH := Lib.hid (behind_b st A7 (l ++ [b]) c7 (l.length + 1) (by simp) (by omega) H3.out w7 hr7)
            have HN6 := HN5.out.alloc (.cells (boL b).toArray 4)
            have HN7 := Lib.hid (HN6.kept hgrow7 (own_two_ne HN6 HO5.out (by decide)))
            have hB7 := hB6.grown hgrow7 hB6.size (fun s e => (HO5.out.lt s e).1)
            clear hown7 hr7 ho7 hz7 hgrow7 HN6 HO5 HN5 hB5 hB6 hB4 HO4 hB3 H3
            refine HBH.out.mono ?_
            rintro e w8 ⟨rfl, hw8⟩
            rw [hw8]
            clear hw8 HBH
            generalize hnx : Pl.nxt st (l ++ [b]) = NX at *
            by_cases hc : NX = st
            · subst hc
              have HS := Lib.hid (HC1.out rfl)
              have HIV2 := HIV
              rw [HS.out] at HSL HIV HF2
              clear HC1 HC2
              go_wp2
              go_roundw
              case rel => exact ⟨k + 1, NX, l ++ [b], out ++ [(NX, b)], by omega, HSL.out, by simp; omega, rfl, by go_num, HIV.out, HO7.out, by rw [List.length_append, flt_append, flt_one]; exact HN7.out, HF2, hB7⟩
              case measure => simp [intOf]; omega
            · have hc1 : (NX != st) = true := by simpa using hc
              have HS := Lib.hid (HC2.out hc)
              rw [HS.out] at HSL HIV HF2
              clear HC1 HC2 hc
              go_wp2
              go_roundw
              case rel => exact ⟨k + 1, NX, [], out ++ [(st, b)], by omega, Nat.zero_le _, by simp; omega, rfl, by go_num, HIV.out, World.ownsRow_nil _ _ _ _, by rw [List.length_append, flt_append, flt_one]; exact HN7.out, HF2, hB7⟩
              case measure => simp [intOf]; omega
        · obtain rfl : k = n := by omega
          have HF2 : Hid (E = 0 ∧ s = st ∧ out0 = out) := Lib.hid (by
            have := hF.out
            rw [List.drop_of_length_le (by rw [HN.out]; exact Nat.le_refl _), hist_nil, cat_fin] at this
            cases this
            exact ⟨rfl, rfl, rfl⟩)
          obtain ⟨A', c', rfl, hrr, _⟩ := rows_of_owns encIs hod
          have HRR := Lib.hid hrr
          have hB4 := hB1.trans (hB.mono hB1.size)
          clear hF hod ho hrr hIv
          go_wp2
          go_ret3
          rw [HF2.out.1, HF2.out.2.1, HF2.out.2.2]
          first | exact ⟨_, _, rfl, HRR.out, hB4⟩ | exact ⟨A', c', rfl, HRR.out, hB4⟩

set_option maxRecDepth 100000 in
set_option maxHeartbeats 4000000 in
theorem rHistory_b (S : Pl.Sc) (A : Option Addr) (xs : List Int) (c n : Nat) (hn : xs.length = n) (hn63 : n ≤ maxLen) (w : World) (hA : Rows inL 1 w A xs) :
    Calls Try.prog 23 #[.agg (scA S), .slice A n c] w fun e w' => ∃ A' c', e = .returned (.tuple #[.slice A' (Pl.hs S 1 xs).2.2.length c', .int .i64 (Pl.hs S 1 xs).2.1, .int .i64 (Pl.hs S 1 xs).1]) ∧ Rows isL 2 w' A' (Pl.hs S 1 xs).2.2 ∧ Below w.heap.size w w' := by
  have hB0 := (Below.refl w.heap.size w).alloc (Nat.le_refl _) (.cells (scA S) 25)
  have bS := Blk.new w 25 (scA S)
  have hr := bS.range
  have HR := Lib.hid (rinspect_b S 1 (by decide) A xs c n hn hn63 _ (hA.below hB0))
  generalize Pl.hs S 1 xs = R at *
  obtain ⟨E, s, out⟩ := R
  clear hn hA bS
  go_enter Try.func23, Try.ntmps23
  go_wp2_with (refine ldm_sc hr rfl _ rfl rfl ?_)
  refine HR.out.mono ?_
  rintro e w1 ⟨A', c', rfl, hrr, hb1⟩
  have HRR := Lib.hid hrr
  have hB1 := hB0.trans (hb1.mono hB0.size)
  clear hrr
  go_wp2
  go_ret3
  first | exact ⟨_, _, rfl, HRR.out, hB1⟩ | exact ⟨A', c', rfl, HRR.out, hB1⟩

set_option maxRecDepth 100000 in
set_option maxHeartbeats 4000000 in
theorem rState_b (S : Pl.Sc) (A : Option Addr) (xs : List Int) (c n : Nat) (hn : xs.length = n) (hn63 : n ≤ maxLen) (w : World) (hA : Rows inL 1 w A xs) :
    Calls Try.prog 47 #[.agg (scA S), .slice A n c] w fun e w' => e = .returned (.tuple #[.int .i64 (Pl.hs S 1 xs).2.1, .int .i64 (Pl.hs S 1 xs).1]) ∧ Below w.heap.size w w' := by
  have hB0 := (Below.refl w.heap.size w).alloc (Nat.le_refl _) (.cells (scA S) 25)
  have bS := Blk.new w 25 (scA S)
  have hr := bS.range
  have HR := Lib.hid (rHistory_b S A xs c n hn hn63 _ (hA.below hB0))
  generalize Pl.hs S 1 xs = R at *
  obtain ⟨E, s, out⟩ := R
  clear hn hA bS
  go_enter Try.func47, Try.ntmps47
  go_wp2_with (refine ldm_sc hr rfl _ rfl rfl ?_)
  refine HR.out.mono ?_
  rintro e w1 ⟨A', c', rfl, hrr, hb1⟩
  have hB1 := hB0.trans (hb1.mono hB0.size)
  clear hrr
  go_wp2
  go_ret2
  exact ⟨rfl, hB1⟩

set_option maxRecDepth 100000 in
set_option maxHeartbeats 4000000 in
theorem rRestart_b (S : Pl.Sc) (A B : Option Addr) (xs ys : List Int) (c n d m : Nat) (hn : xs.length = n) (hn63 : n ≤ maxLen) (hm : ys.length = m) (hm63 : m ≤ maxLen) (w : World) (hA : Rows inL 1 w A xs) (hBy : Rows inL 1 w B ys) :
    Calls Try.prog 27 #[.agg (scA S), .slice A n c, .slice B m d] w fun e w' => ∃ A' c', e = .returned (.tuple #[.slice A' (Pl.rst S xs ys).2.2.length c', .int .i64 (Pl.rst S xs ys).2.1, .int .i64 (Pl.rst S xs ys).1]) ∧ Rows isL 2 w' A' (Pl.rst S xs ys).2.2 ∧ Below w.heap.size w w' := by
  have hB0 := (Below.refl w.heap.size w).alloc (Nat.le_refl _) (.cells (scA S) 25)
  have bS := Blk.new w 25 (scA S)
  have hr := bS.range
  have HS := Lib.hid (rState_b S A xs c n hn hn63 _ (hA.below hB0))
  have HR := Lib.hid (fun w' (hb : Below w.heap.size w w') => rinspect_b S 2 (by decide) B ys d m hm hm63 w' (hBy.below hb))
  have HX : Hid (Pl.rst S xs ys = if (Pl.hs S 1 xs).1 ≠ 0 then ((Pl.hs S 1 xs).1, 0, []) else if (Pl.hs S 1 xs).2.1 ≠ 4 then (2, 0, []) else Pl.hs S 2 ys) := Lib.hid rfl
  generalize Pl.hs S 1 xs = R at *
  obtain ⟨E, s, out⟩ := R
  dsimp only at HX HS
  by_cases hE : E = 0
  rotate_left
  · have HY : Hid (Pl.rst S xs ys = (E, 0, [])) := Lib.hid (by rw [HX.out, if_pos hE])
    have hE1 : (E != 0) = true := by simpa using hE
    rw [HY.out]
    clear hn hA bS hm hBy hE HX
    go_enter Try.func27, Try.ntmps27
    go_wp2_with (refine ldm_sc hr rfl _ rfl rfl ?_)
    refine HS.out.mono ?_
    rintro e w1 ⟨rfl, hb1⟩
    have hB1 := hB0.trans (hb1.mono hB0.size)
    go_wp2
    go_ret3
    first | exact ⟨_, _, rfl, Rows.nil _ _, hB1⟩ | exact ⟨none, 0, rfl, Rows.nil _ _, hB1⟩
  · subst hE
    by_cases h4 : s = 4
    rotate_left
    · have HY : Hid (Pl.rst S xs ys = (2, 0, [])) := Lib.hid (by rw [HX.out, if_neg (by decide), if_pos h4])
      have hE1 : (s != 4) = true := by simpa using h4
      rw [HY.out]
      clear hn hA bS hm hBy h4 HX
      go_enter Try.func27, Try.ntmps27
      go_wp2_with (refine ldm_sc hr rfl _ rfl rfl ?_)
      refine HS.out.mono ?_
      rintro e w1 ⟨rfl, hb1⟩
      have hB1 := hB0.trans (hb1.mono hB0.size)
      go_wp2
      go_ret3
      first | exact ⟨_, _, rfl, Rows.nil _ _, hB1⟩ | exact ⟨none, 0, rfl, Rows.nil _ _, hB1⟩
    · subst h4
      have HY : Hid (Pl.rst S xs ys = Pl.hs S 2 ys) := Lib.hid (by rw [HX.out, if_neg (by decide), if_neg (by decide)])
      rw [HY.out]
      generalize Pl.hs S 2 ys = R2 at *
      obtain ⟨E2, s2, out2⟩ := R2
      clear hn hA hm hBy HX
      go_enter Try.func27, Try.ntmps27
      go_wp2_with (refine ldm_sc hr rfl _ rfl rfl ?_)
      refine HS.out.mono ?_
      rintro e w1 ⟨rfl, hb1⟩
      have hB1 := hB0.trans (hb1.mono hB0.size)
      have bS1 := bS.below hb1 bS.lt
      have hr1 := bS1.range
      have HR1 := Lib.hid (HR.out _ hB1)
      clear bS bS1 hr hb1 HR
      go_wp2_with (refine ldm_sc hr1 rfl _ rfl rfl ?_)
      refine HR1.out.mono ?_
      rintro e w2 ⟨A', c', rfl, hrr, hb2⟩
      have HRR := Lib.hid hrr
      have hB2 := hB1.trans (hb2.mono hB1.size)
      clear hrr hr1
      go_wp2
      go_ret3
      first | exact ⟨_, _, rfl, HRR.out, hB2⟩ | exact ⟨A', c', rfl, HRR.out, hB2⟩

theorem run_eq62 (a : Int) (x : Bool) (w : World) : (Op.equalIn 10000 62 (.agg #[.int .i64 a, .bool x]) (.agg #[.int .i64 a, .bool x])).run Try.prog w = .ok true w := by
  have u3 := Try.underlying3
  have a3 := Try.isAgg3
  have q3 := Try.sizeOf3
  have u4 := Try.underlying4
  have a4 := Try.isAgg4
  have q4 := Try.sizeOf4
  have hh : (Try.prog).stoodInHeld 62 = false := by kernel_rfl
  rw [show (10000 : Nat) = 9999 + 1 from rfl, Op.equalIn]
  simp only [Sem.run_bind, run_underlying Try.underlying62, Result.andThen_ok]
  go_simp

set_option maxRecDepth 100000 in
set_option maxHeartbeats 4000000 in
theorem samelots_b (A B : Option Addr) (L : List (Int × Bool)) (ca cb n : Nat) (hn : L.length = n) (hn6 : n ≤ 600) (w : World) (hA : Rows isL 2 w A L) (hB : Rows isL 2 w B L) :
    Calls Try.prog 25 #[.slice A n ca, .slice B n cb] w fun e w' => e = .returned (.bool true) ∧ Below w.heap.size w w' := by
  have HA := Lib.hid hA
  have HB := Lib.hid hB
  have HN := Lib.hid hn
  clear hA hB hn
  go_enter Try.func25, Try.ntmps25
  go_wp2
  go_loopw [5, 13] (fun _ i wr => ∃ k : Nat, k ≤ n ∧ i = .int .i64 k ∧ Below w.heap.size w wr) (fun _ i _ => n - (intOf i).toNat)
  case atStart => exact ⟨0, Nat.zero_le _, rfl, Below.refl _ _⟩
  case round =>
    obtain ⟨k, hk, rfl, hw⟩ := hrel
    obtain ⟨wo, rfl⟩ : ∃ wo, wo = wr := ⟨_, rfl⟩
    by_cases hlt : k < n
    · have hkI : (k : Int) < (n : Int) := by omega
      have hkl : k < L.length := by rw [HN.out]; exact hlt
      obtain ⟨ba, oa, rfl, hba, hca⟩ := HA.out.open (by omega)
      obtain ⟨bb, ob, rfl, hbb, hcb⟩ := HB.out.open (by omega)
      have ra := rangeAt_below (hca k hkl) hba hw
      have rb := rangeAt_below (hcb k hkl) hbb hw
      clear hca hcb
      generalize L[k] = p at *
      obtain ⟨p1, p2⟩ := p
      have qa0 : wo.cell? ⟨ba, oa + k * 2, none⟩ = some (.int .i64 p1) := ra 0 _ rfl
      have qa1 : wo.cell? ⟨ba, oa + k * 2 + 1, none⟩ = some (.bool p2) := ra 1 _ rfl
      have qb0 : wo.cell? ⟨bb, ob + k * 2, none⟩ = some (.int .i64 p1) := rb 0 _ rfl
      have qb1 : wo.cell? ⟨bb, ob + k * 2 + 1, none⟩ = some (.bool p2) := rb 1 _ rfl
      have ya0 := fun e : Ext wo => e.cell qa0
      have ya1 := fun e : Ext wo => e.cell qa1
      have yb0 := fun e : Ext wo => e.cell qb0
      have yb1 := fun e : Ext wo => e.cell qb1
      have heq := fun e : Ext wo => run_eq62 p1 p2 e.w
      clear ra rb hkl qa0 qa1 qb0 qb1
      go_wp2
      refine wp_region_ext (by kernel_rfl) (by kernel_rfl) ?_
      repeat (go_big_quiet_step (fail))
      refine wpQuiet_nil ?_
      rintro _ ⟨s, rfl⟩
      have hw2 := hw.trans (s.h.mono hw.size)
      clear ya0 ya1 yb0 yb1 heq
      go_wp2
      go_roundw
      case rel => exact ⟨k + 1, by omega, by go_num, hw2⟩
      case measure => simp [intOf]; omega
    · obtain rfl : k = n := by omega
      go_wp2
      go_ret
      exact ⟨rfl, hw⟩
end Go.Proofs.Ytfkhlglagokodaa
