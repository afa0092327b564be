/- run, History, State, Restart: of the program. -/
import Derived.Test.YtfkhlglagokodaaG2
import Derived.Test.YtfkhlglagokodaaL1
namespace Go.Proofs.Ytfkhlglagokodaa
open Go.RowKit Go.Shelf

/-- a lot that was inspected, in a list -/
abbrev isL (p : Int × Bool) : List Value := [.int .i64 p.1, .bool p.2]
theorem encIs : Enc isL 2 where
  pos := by decide
  len _ := rfl
  one x v hv := by simp at hv; rcases hv with rfl | rfl <;> rfl
theorem infoIsz : (Try.prog.info? 62).map (fun i => (i.zero, i.size, i.bytes)) = some (some (.agg #[.int .i64 0, .bool false]), 2, 16) := by kernel_rfl
theorem own_two_ne {w : World} {B B' k k' n n' : Nat} {t E : TypeId} {v v' : Value} {xs xs' : List Value} (ho : w.ownsRow B E k v n xs) (ho' : w.ownsRow B' t k' v' n' xs') (h : t ≠ E) : v.ownBlock = none ∨ v.ownBlock ≠ v'.ownBlock := by
  rcases ho.2 with ⟨rfl, _⟩ | ⟨x, cap, cur, rfl, _, hx, _⟩
  · exact .inl rfl
  · refine .inr fun e => ?_
    rcases ho'.2 with ⟨rfl, _⟩ | ⟨y, cap', cur', rfl, _, hy, _⟩
    · simp [Value.ownBlock] at e
    · obtain rfl : x = y := by simpa [Value.ownBlock] using e
      rw [hx] at hy
      cases hy
      exact h rfl
theorem hist_nil (S : Pl.Sc) (st : Int) (l : List Bool) : Pl.hist S st l [] = (0, st, []) := rfl
theorem hist_stop {S : Pl.Sc} {l : List Bool} {x : Int} {xs : List Int} : Pl.hist S 4 l (x :: xs) = (51, 0, []) := by unfold Pl.hist; rw [if_pos rfl]
theorem hist_err {S : Pl.Sc} {st : Int} {l : List Bool} {x : Int} {xs : List Int} (h4 : st ≠ 4) (hE : Pl.acE (Pl.pl S st) x ≠ 0) : Pl.hist S st l (x :: xs) = (Pl.acE (Pl.pl S st) x, 0, []) := by unfold Pl.hist; rw [if_neg h4, if_pos hE]
theorem hist_ok {S : Pl.Sc} {st : Int} {l : List Bool} {x : Int} {xs : List Int} (h4 : st ≠ 4) (hE : Pl.acE (Pl.pl S st) x = 0) :
    Pl.hist S st l (x :: xs) = Pl.cat [(st, Pl.acV (Pl.pl S st) x)] (Pl.hist S (Pl.nxt st (l ++ [Pl.acV (Pl.pl S st) x])) (Pl.snc st (l ++ [Pl.acV (Pl.pl S st) x])) xs) := by
  conv => lhs; unfold Pl.hist
  rw [if_neg h4, if_neg (by simpa using hE)]
theorem cat_err {out : List (Int × Bool)} {E : Int} (h : E ≠ 0) : Pl.cat out (E, 0, []) = (E, 0, []) := by unfold Pl.cat; rw [if_neg h]
theorem cat_fin {out : List (Int × Bool)} {st : Int} : Pl.cat out (0, st, []) = (0, st, out) := by unfold Pl.cat; rw [if_pos rfl, List.append_nil]
theorem snc_len (st : Int) (l : List Bool) : (Pl.snc st l).length ≤ l.length := by
  unfold Pl.snc
  split
  · exact Nat.zero_le _
  · exact Nat.le_refl _

set_option maxRecDepth 100000 in
set_option maxHeartbeats 16000000 in
theorem run_b (S : Pl.Sc) (st0 : Int) (A : Option Addr) (xs : List Int) (c n : Nat) (hn : xs.length = n) (hn63 : n ≤ maxLen) (w : World) (hA : Rows inL 1 w A xs) :
    Calls Try.prog 45 #[.agg (scA S), .int .i64 st0, .slice A n c] w fun e w' => ∃ A' c', e = .returned (.tuple #[.slice A' (Pl.hs S st0 xs).2.2.length c', .int .i64 (Pl.hs S st0 xs).2.1, .int .i64 (Pl.hs S st0 xs).1]) ∧ Rows isL 2 w' A' (Pl.hs S st0 xs).2.2 ∧ Below w.heap.size w w' := by
  have hB0 := (Below.refl w.heap.size w).alloc (Nat.le_refl _) (.cells (scA S) 25)
  have bS := Blk.new w 25 (scA S)
  have hr := bS.range
  have HA := Lib.hid hA
  have HN := Lib.hid hn
  have hn63' : n ≤ 9223372036854775807 := hn63
  have HV := Lib.hid (fun w' : World => vscheme_b S w')
  obtain ⟨E, s, out0, hF⟩ : ∃ E s o, Pl.hs S st0 xs = (E, s, o) := ⟨_, _, _, rfl⟩
  rw [hF]
  obtain ⟨V, hV⟩ : ∃ V, Pl.vS S = V := ⟨_, rfl⟩
  rw [hV] at HV
  cases V with
  | false =>
    have HF : Hid (E = 50 ∧ s = 0 ∧ out0 = []) := Lib.hid (by unfold Pl.hs at hF; rw [if_neg (by rw [hV]; decide)] at hF; cases hF; exact ⟨rfl, rfl, rfl⟩)
    clear hF hA hn hV bS
    go_enter Try.func45, Try.ntmps45
    go_wp2_with (refine ldm_sc hr rfl _ rfl rfl ?_)
    refine (HV.out _).mono ?_
    rintro e w1 ⟨rfl, hb1⟩
    have hB1 := hB0.trans (hb1.mono hB0.size)
    go_wp2
    go_ret3
    rw [HF.out.1, HF.out.2.1, HF.out.2.2]
    first | exact ⟨_, _, rfl, Rows.nil _ _, hB1⟩ | exact ⟨none, 0, rfl, Rows.nil _ _, hB1⟩
  | true =>
    by_cases h200 : (200 : Int) < (n : Int)
    · have HF : Hid (E = 4 ∧ s = 0 ∧ out0 = []) := Lib.hid (by unfold Pl.hs at hF; rw [if_pos hV, if_neg (by omega)] at hF; cases hF; exact ⟨rfl, rfl, rfl⟩)
      clear hF hA hn hV bS
      go_enter Try.func45, Try.ntmps45
      go_wp2_with (refine ldm_sc hr rfl _ rfl rfl ?_)
      refine (HV.out _).mono ?_
      rintro e w1 ⟨rfl, hb1⟩
      have hB1 := hB0.trans (hb1.mono hB0.size)
      go_wp2
      go_ret3
      rw [HF.out.1, HF.out.2.1, HF.out.2.2]
      first | exact ⟨_, _, rfl, Rows.nil _ _, hB1⟩ | exact ⟨none, 0, rfl, Rows.nil _ _, hB1⟩
    · have h201 : n ≤ 200 := by omega
      have HF : Hid (Pl.cat [] (Pl.hist S st0 [] (xs.drop 0)) = (E, s, out0)) := Lib.hid (by
        unfold Pl.hs at hF
        rw [if_pos hV, if_pos (by omega)] at hF
        rw [List.drop_zero, Pl.cat_nil (Pl.hist_err S xs st0 [])]
        exact hF)
      obtain ⟨i0, hi0, hz0, hn0, hy0⟩ := info_parts infoIsz
      clear hF hA hn hV
      go_enter Try.func45, Try.ntmps45
      go_wp2_with (refine ldm_sc hr rfl _ rfl rfl ?_)
      refine (HV.out _).mono ?_
      rintro e w1 ⟨rfl, hb1⟩
      have hB1 := hB0.trans (hb1.mono hB0.size)
      have bS1 := bS.below hb1 bS.lt
      have hr1 := bS1.range
      have hlt0 := bS1.lt
      clear hb1 hB0 bS bS1 hr HV
      go_wp2_with (refine ldm_sc hr1 rfl _ rfl rfl ?_)
      have hG0 := Blk.new w1 78 (inA S st0 (.slice none 0 0))
      have hB2 := hB1.alloc hB1.size (.cells (inA S st0 (.slice none 0 0)) 78)
      obtain ⟨g, hg⟩ : ∃ g, w1.heap.size = g := ⟨_, rfl⟩
      have hgw : w.heap.size < g := by omega
      change Code.wp _ _ _ _ (w1.alloc (.cells (inA S st0 (.slice none 0 0)) 78))
      have hgs : g + 1 ≤ (w1.alloc (.cells (inA S st0 (.slice none 0 0)) 78)).heap.size := by simp; omega
      generalize w1.alloc (.cells (inA S st0 (.slice none 0 0)) 78) = w2 at *
      rw [hg] at hG0 ⊢
      clear hB1 hr1 hlt0 hg
      go_loopw [10, 12, 13, 14, 26] (fun v _ _ _ j wr => ∃ (k : Nat) (st : Int) (l : List Bool) (v' : Value) (out : List (Int × Bool)), k ≤ n ∧ l.length ≤ k ∧ out.length = k ∧ j = .int .i64 k ∧ Blk wr g 78 (inA S st v') ∧ wr.ownsRow (g + 1) 4 1 v' l.length (flt boL l) ∧ wr.ownsRow (g + 1) 62 2 v out.length (flt isL out) ∧ Hid (Pl.cat out (Pl.hist S st l (xs.drop k)) = (E, s, out0)) ∧ g + 1 ≤ wr.heap.size ∧ Below w.heap.size w wr) (fun _ _ _ _ j _ => n - (intOf j).toNat)
      case atStart => exact ⟨0, st0, [], _, [], Nat.zero_le _, Nat.le_refl _, rfl, rfl, hG0, World.ownsRow_nil _ _ _ _, World.ownsRow_nil _ _ _ _, HF, hgs, hB2⟩
      case round =>
        clear hG0 HF hB2 hgs
        obtain ⟨k, st, l, v', out, hk, hlk, hok, rfl, hG, ho, hod, hF, hgs, hB⟩ := hrel
        obtain ⟨wo, rfl⟩ : ∃ wo, wo = wr := ⟨_, rfl⟩
        by_cases hlt : k < n
        · have hltI : (k : Int) < (n : Int) := by omega
          have hkx : k < xs.length := by rw [HN.out]; exact hlt
          obtain ⟨bx, ox, rfl, hbx, hcx⟩ := HA.out.open (by omega)
          have q0 := row_cell (mk := Value.int .i64) hbx hcx hB hkx
          have HD : Hid (xs.drop k = xs[k] :: xs.drop (k + 1)) := Lib.hid (List.drop_eq_getElem_cons hkx)
          clear hcx
          generalize xs[k] = x at *
          rw [HD.out] at hF
          by_cases h4 : st = 4
          · subst h4
            have HF2 : Hid (E = 51 ∧ s = 0 ∧ out0 = []) := Lib.hid (by
              have := hF.out
              rw [hist_stop, cat_err (by decide)] at this
              cases this
              exact ⟨rfl, rfl, rfl⟩)
            have HI := Lib.hid (inspect_stop S v' g x wo hG)
            clear hF hG ho hod
            go_wp2_with fail
            refine HI.out.mono ?_
            rintro e w3 ⟨rfl, hb3⟩
            have hB3 := (hB.trans (hb3.mono hB.size)).alloc (by have := hB.size; have := hb3.size; omega) (.cells (isA 0 false) 62)
            go_wp2
            go_ret3
            rw [HF2.out.1, HF2.out.2.1, HF2.out.2.2]
            first | exact ⟨_, _, rfl, Rows.nil _ _, hB3⟩ | exact ⟨none, 0, rfl, Rows.nil _ _, hB3⟩
          by_cases hE : Pl.acE (Pl.pl S st) x = 0
          rotate_left
          · have HF2 : Hid (E = Pl.acE (Pl.pl S st) x ∧ s = 0 ∧ out0 = []) := Lib.hid (by
              have := hF.out
              rw [hist_err h4 hE, cat_err hE] at this
              cases this
              exact ⟨rfl, rfl, rfl⟩)
            have HI := Lib.hid (inspect_err S st h4 v' g x _ rfl hE wo hG)
            generalize Pl.acE (Pl.pl S st) x = E1 at *
            have hE1 : (E1 != 0) = true := by simpa using hE
            clear hF hG ho hod hE
            go_wp2_with fail
            refine HI.out.mono ?_
            rintro e w3 ⟨rfl, hb3⟩
            have hB3 := (hB.trans (hb3.mono hB.size)).alloc (by have := hB.size; have := hb3.size; omega) (.cells (isA 0 false) 62)
            go_wp2
            go_ret3
            rw [HF2.out.1, HF2.out.2.1, HF2.out.2.2]
            first | exact ⟨_, _, rfl, Rows.nil _ _, hB3⟩ | exact ⟨none, 0, rfl, Rows.nil _ _, hB3⟩
          · have HI := Lib.hid (inspect_ok S st h4 v' g l _ rfl (by omega) x hE _ rfl wo hG ho)
            have HF2 : Hid (Pl.cat (out ++ [(st, Pl.acV (Pl.pl S st) x)]) (Pl.hist S (Pl.nxt st (l ++ [Pl.acV (Pl.pl S st) x])) (Pl.snc st (l ++ [Pl.acV (Pl.pl S st) x])) (xs.drop (k + 1))) = (E, s, out0)) := Lib.hid (by
              have := hF.out
              rw [hist_ok h4 hE, Pl.cat_cat] at this
              exact this)
            generalize Pl.acV (Pl.pl S st) x = b at *
            have HSL : Hid ((Pl.snc st (l ++ [b])).length ≤ k + 1) := Lib.hid (Nat.le_trans (snc_len _ _) (by simp; omega))
            have HOD := Lib.hid hod
            clear hF hE hG ho hod
            go_wp2_with fail
            refine HI.out.mono ?_
            rintro e w3 ⟨rfl, v3, hG3, ho3, hF3⟩
            have hod3 := hF3.own HOD.out (by decide) (by decide)
            have hB3 := hB.trans (hF3.below.mono (by omega))
            have hgs3 := hF3.below.size
            generalize Pl.nxt st (l ++ [b]) = st3 at *
            generalize Pl.snc st (l ++ [b]) = l3 at *
            -- the lot's block, and the one of the list
            have hG4 := (hG3.alloc (.cells (isA st b) 62)).alloc (.cells (isL (st, b)).toArray 62)
            have ho4 := (ho3.alloc (.cells (isA st b) 62)).alloc (.cells (isL (st, b)).toArray 62)
            have hod4 := (hod3.alloc (.cells (isA st b) 62)).alloc (.cells (isL (st, b)).toArray 62)
            have hB4 := (hB3.alloc hB3.size (.cells (isA st b) 62)).alloc (hB3.alloc hB3.size _).size (.cells (isL (st, b)).toArray 62)
            have HO4 := Lib.hid hod4
            have hnew : (w3.alloc (.cells (isA st b) 62)).heap.size = w3.heap.size + 1 := by simp
            clear hG3 ho3 hod3 HI HOD hod4
            go_wp2_with (at_builtin; refine wpList_append_own _ rfl _ _ 34 rfl (g + 1) 62 i0 _ 2 16 Try.underlying34 hi0 hz0 hn0 hy0 rfl (by decide) _ _ _ rfl HO4.out ⟨w3.heap.size + 1, 0, none⟩ 1 1 (isL (st, b)) rfl rfl (new_cells' _ _ _ hnew) (encIs.one (st, b)) (by unfold maxLen; omega) (by omega) (by simp; omega) ?_; intro v5 w5 hown5 hgrow _)
            have hG5 := hG4.grew HO4.out hgrow (Nat.lt_succ_self g)
            have ho5 := ho4.kept hgrow (own_two_ne ho4 HO4.out (by decide))
            have hB5 := hB4.grown hgrow hB4.size (fun s e => by have := (HO4.out.lt s e).1; omega)
            have hgs5 := hgrow.size
            go_roundw
            case rel => exact ⟨k + 1, st3, l3, v3, out ++ [(st, b)], by omega, HSL.out, by simp; omega, by go_num, hG5, ho5, by rw [List.length_append, flt_append, flt_one]; exact hown5, HF2, by simp at hgs5; omega, hB5⟩
            case measure => simp [intOf]; omega
        · obtain rfl : k = n := by omega
          have HF2 : Hid (E = 0 ∧ s = st ∧ out0 = out) := Lib.hid (by
            have := hF.out
            rw [List.drop_of_length_le (by rw [HN.out]; exact Nat.le_refl _), hist_nil, cat_fin] at this
            cases this
            exact ⟨rfl, rfl, rfl⟩)
          obtain ⟨A', c', rfl, hrr, _⟩ := rows_of_owns encIs hod
          have HRR := Lib.hid hrr
          have z0 := fun e : Ext wo => e.cell ((hG.cell 6).trans rfl)
          clear hF hod ho hG hrr
          go_wp2
          refine wp_region_ext (by kernel_rfl) (by kernel_rfl) ?_
          repeat (go_big_quiet_step (fail))
          refine wpQuiet_nil ?_
          rintro _ ⟨x, rfl⟩
          have hB4 := hB.trans (x.h.mono hB.size)
          have HR4 := Lib.hid (HRR.out.below x.h)
          clear z0 HRR
          go_wp2
          go_ret3
          rw [HF2.out.1, HF2.out.2.1, HF2.out.2.2]
          first | exact ⟨_, _, rfl, HR4.out, hB4⟩ | exact ⟨A', c', rfl, HR4.out, hB4⟩

set_option maxRecDepth 100000 in
set_option maxHeartbeats 4000000 in
theorem History_b (S : Pl.Sc) (A : Option Addr) (xs : List Int) (c n : Nat) (hn : xs.length = n) (hn63 : n ≤ maxLen) (w : World) (hA : Rows inL 1 w A xs) :
    Calls Try.prog 22 #[.agg (scA S), .slice A n c] w fun e w' => ∃ A' c', e = .returned (.tuple #[.slice A' (Pl.hs S 1 xs).2.2.length c', .int .i64 (Pl.hs S 1 xs).2.1, .int .i64 (Pl.hs S 1 xs).1]) ∧ Rows isL 2 w' A' (Pl.hs S 1 xs).2.2 ∧ Below w.heap.size w w' := by
  have hB0 := (Below.refl w.heap.size w).alloc (Nat.le_refl _) (.cells (scA S) 25)
  have bS := Blk.new w 25 (scA S)
  have hr := bS.range
  have HR := Lib.hid (run_b S 1 A xs c n hn hn63 _ (hA.below hB0))
  generalize Pl.hs S 1 xs = R at *
  obtain ⟨E, s, out⟩ := R
  clear hn hA bS
  go_enter Try.func22, Try.ntmps22
  go_wp2_with (refine ldm_sc hr rfl _ rfl rfl ?_)
  refine HR.out.mono ?_
  rintro e w1 ⟨A', c', rfl, hrr, hb1⟩
  have HRR := Lib.hid hrr
  have hB1 := hB0.trans (hb1.mono hB0.size)
  clear hrr
  go_wp2
  go_ret3
  first | exact ⟨_, _, rfl, HRR.out, hB1⟩ | exact ⟨A', c', rfl, HRR.out, hB1⟩

set_option maxRecDepth 100000 in
set_option maxHeartbeats 4000000 in
theorem State_b (S : Pl.Sc) (A : Option Addr) (xs : List Int) (c n : Nat) (hn : xs.length = n) (hn63 : n ≤ maxLen) (w : World) (hA : Rows inL 1 w A xs) :
    Calls Try.prog 24 #[.agg (scA S), .slice A n c] w fun e w' => e = .returned (.tuple #[.int .i64 (Pl.hs S 1 xs).2.1, .int .i64 (Pl.hs S 1 xs).1]) ∧ Below w.heap.size w w' := by
  have hB0 := (Below.refl w.heap.size w).alloc (Nat.le_refl _) (.cells (scA S) 25)
  have bS := Blk.new w 25 (scA S)
  have hr := bS.range
  have HR := Lib.hid (History_b S A xs c n hn hn63 _ (hA.below hB0))
  generalize Pl.hs S 1 xs = R at *
  obtain ⟨E, s, out⟩ := R
  clear hn hA bS
  go_enter Try.func24, Try.ntmps24
  go_wp2_with (refine ldm_sc hr rfl _ rfl rfl ?_)
  refine HR.out.mono ?_
  rintro e w1 ⟨A', c', rfl, hrr, hb1⟩
  have hB1 := hB0.trans (hb1.mono hB0.size)
  clear hrr
  go_wp2
  go_ret2
  exact ⟨rfl, hB1⟩

set_option maxRecDepth 100000 in
set_option maxHeartbeats 4000000 in
theorem Restart_b (S : Pl.Sc) (A B : Option Addr) (xs ys : List Int) (c n d m : Nat) (hn : xs.length = n) (hn63 : n ≤ maxLen) (hm : ys.length = m) (hm63 : m ≤ maxLen) (w : World) (hA : Rows inL 1 w A xs) (hBy : Rows inL 1 w B ys) :
    Calls Try.prog 26 #[.agg (scA S), .slice A n c, .slice B m d] w fun e w' => ∃ A' c', e = .returned (.tuple #[.slice A' (Pl.rst S xs ys).2.2.length c', .int .i64 (Pl.rst S xs ys).2.1, .int .i64 (Pl.rst S xs ys).1]) ∧ Rows isL 2 w' A' (Pl.rst S xs ys).2.2 ∧ Below w.heap.size w w' := by
  have hB0 := (Below.refl w.heap.size w).alloc (Nat.le_refl _) (.cells (scA S) 25)
  have bS := Blk.new w 25 (scA S)
  have hr := bS.range
  have HS := Lib.hid (State_b S A xs c n hn hn63 _ (hA.below hB0))
  have HR := Lib.hid (fun w' (hb : Below w.heap.size w w') => run_b S 2 B ys d m hm hm63 w' (hBy.below hb))
  have HX : Hid (Pl.rst S xs ys = if (Pl.hs S 1 xs).1 ≠ 0 then ((Pl.hs S 1 xs).1, 0, []) else if (Pl.hs S 1 xs).2.1 ≠ 4 then (2, 0, []) else Pl.hs S 2 ys) := Lib.hid rfl
  generalize Pl.hs S 1 xs = R at *
  obtain ⟨E, s, out⟩ := R
  dsimp only at HX HS
  by_cases hE : E = 0
  rotate_left
  · have HY : Hid (Pl.rst S xs ys = (E, 0, [])) := Lib.hid (by rw [HX.out, if_pos hE])
    have hE1 : (E != 0) = true := by simpa using hE
    rw [HY.out]
    clear hn hA bS hm hBy hE HX
    go_enter Try.func26, Try.ntmps26
    go_wp2_with (refine ldm_sc hr rfl _ rfl rfl ?_)
    refine HS.out.mono ?_
    rintro e w1 ⟨rfl, hb1⟩
    have hB1 := hB0.trans (hb1.mono hB0.size)
    go_wp2
    go_ret3
    first | exact ⟨_, _, rfl, Rows.nil _ _, hB1⟩ | exact ⟨none, 0, rfl, Rows.nil _ _, hB1⟩
  · subst hE
    by_cases h4 : s = 4
    rotate_left
    · have HY : Hid (Pl.rst S xs ys = (2, 0, [])) := Lib.hid (by rw [HX.out, if_neg (by decide), if_pos h4])
      have hE1 : (s != 4) = true := by simpa using h4
      rw [HY.out]
      clear hn hA bS hm hBy h4 HX
      go_enter Try.func26, Try.ntmps26
      go_wp2_with (refine ldm_sc hr rfl _ rfl rfl ?_)
      refine HS.out.mono ?_
      rintro e w1 ⟨rfl, hb1⟩
      have hB1 := hB0.trans (hb1.mono hB0.size)
      go_wp2
      go_ret3
      first | exact ⟨_, _, rfl, Rows.nil _ _, hB1⟩ | exact ⟨none, 0, rfl, Rows.nil _ _, hB1⟩
    · subst h4
      have HY : Hid (Pl.rst S xs ys = Pl.hs S 2 ys) := Lib.hid (by rw [HX.out, if_neg (by decide), if_neg (by decide)])
      rw [HY.out]
      generalize Pl.hs S 2 ys = R2 at *
      obtain ⟨E2, s2, out2⟩ := R2
      clear hn hA hm hBy HX
      go_enter Try.func26, Try.ntmps26
      go_wp2_with (refine ldm_sc hr rfl _ rfl rfl ?_)
      refine HS.out.mono ?_
      rintro e w1 ⟨rfl, hb1⟩
      have hB1 := hB0.trans (hb1.mono hB0.size)
      have bS1 := bS.below hb1 bS.lt
      have hr1 := bS1.range
      have HR1 := Lib.hid (HR.out _ hB1)
      clear bS bS1 hr hb1 HR
      go_wp2_with (refine ldm_sc hr1 rfl _ rfl rfl ?_)
      refine HR1.out.mono ?_
      rintro e w2 ⟨A', c', rfl, hrr, hb2⟩
      have HRR := Lib.hid hrr
      have hB2 := hB1.trans (hb2.mono hB1.size)
      clear hrr hr1
      go_wp2
      go_ret3
      first | exact ⟨_, _, rfl, HRR.out, hB2⟩ | exact ⟨A', c', rfl, HRR.out, hB2⟩
end Go.Proofs.Ytfkhlglagokodaa
