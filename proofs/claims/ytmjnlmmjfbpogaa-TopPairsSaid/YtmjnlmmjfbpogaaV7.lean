/- match, Match, Most. -/
import Derived.Test.YtmjnlmmjfbpogaaV6
import Derived.Laws.AppendOwnNone
namespace Go.Proofs.Ytmjnlmmjfbpogaa
open Go.RowKit Go.Shelf Go.Sort Go.Lib

theorem own_mono {w : World} {base base' : Nat} {e : TypeId} {size : Nat} {v : Value} {n : Nat} {xs : List Value} (h : w.ownsRow base e size v n xs) (hb : base' ≤ base) : w.ownsRow base' e size v n xs := by
  obtain ⟨h0, h1⟩ := h
  rcases h1 with h1 | ⟨g, cap, cur, h1, h2, h3⟩
  · exact ⟨h0, .inl h1⟩
  · exact ⟨h0, .inr ⟨g, cap, cur, h1, Nat.le_trans hb h2, h3⟩⟩
theorem grp_sel (l : List Pl.Tm) (side c : Int) : sel l side (Pl.ord l) c = Pl.grp l side c := rfl
theorem pcs_own {l : List Pl.Tm} {W : World} {base : Nat} {v : Value} {p : List Nat} (h : W.ownsRow base 94 5 v p.length (flt (pc l) p)) : Pcs l W v p := by
  obtain ⟨A, c, h1, h2, h3, h4⟩ := rows_of_owns (encPc l) h
  exact ⟨A, c, h1, h3, h4, h2⟩
theorem mtn_len {l : List Pl.Tm} {tol : Int} (h : l.length ≤ 60) : ∀ n, (Pl.mtn l tol n).length ≤ 60 * n
  | 0 => Nat.le_refl _
  | n + 1 => by
    have h1 := mtn_len (tol := tol) h n
    have h2 := Pl.mc_len (l := l) (tol := tol) (p := Pl.grp l 1 (n + 1)) (q := Pl.grp l 2 (n + 1))
    have h3 := Pl.grp_len (l := l) (side := 1) (c := (n : Int) + 1)
    simp only [Pl.mtn, List.length_append]
    omega

set_option maxRecDepth 100000 in
set_option maxHeartbeats 4000000 in
theorem match_any (A : Option Addr) (l : List Pl.Tm) (c n : Nat) (hn : l.length = n) (h : Pl.Ok l) (tol : Int) (ht : 0 ≤ tol ∧ tol ≤ 1000) (w : World) (hI : Tms w A l) :
    Calls Try.prog 57 #[.slice A n c, .int .i64 tol] w fun e w' => ∃ v, e = .returned v ∧ w'.ownsRow w.heap.size 51 2 v (Pl.mt l tol).length (flt prc (Pl.mt l tol)) ∧ Below w.heap.size w w' := by
  have HC := Lib.hid (fun w' (hI : Tms w' A l) => bylength_any A l c n hn h w' hI)
  have HO := Lib.hid h
  have HI := Lib.hid hI
  have hl : n ≤ 60 := hn ▸ h.len
  have HLO : Hid ((Pl.ord l).length = n) := Lib.hid (by rw [Pl.ord_len, hn])
  have HVO : Hid (∀ i, i ∈ Pl.ord l → Pl.Vt (Pl.at' l i)) := Lib.hid (fun i hi => h.vt i (Pl.ord_mem.1 hi))
  have HML : Hid (∀ k, (Pl.mtn l tol k).length ≤ 60 * k) := Lib.hid (mtn_len h.len)
  have HGL : Hid (∀ s k, (Pl.grp l s k).length ≤ 60) := Lib.hid (fun s k => Nat.le_trans Pl.grp_len h.len)
  have HGV : Hid (∀ s k i, i ∈ Pl.grp l s k → Pl.Vt (Pl.at' l i)) := Lib.hid (fun s k i hi => h.vt i (Pl.grp_mem.1 hi).1)
  clear h hI hn
  obtain ⟨i0, hi, hz0, hz1, hz2⟩ := info_parts info51
  go_enter Try.func57, Try.ntmps57
  go_wp2_with fail
  refine (HC.out _ HI.out).mono ?_
  rintro e w1 ⟨v1, rfl, hown1, hb1⟩
  have hown1' : w1.ownsRow w.heap.size 94 5 v1 (Pl.ord l).length (flt (pc l) (Pl.ord l)) := by rw [HLO.out]; exact hown1
  obtain ⟨A1, c1, rfl, hc1, hc1', hr1⟩ := pcs_own hown1'
  have HR1 := Lib.hid hr1
  rw [HLO.out]
  clear hown1 hown1' hr1
  go_wp2_with fail
  refine (bycolour_any A1 l (Pl.ord l) c1 n HLO.out hl HVO.out 1 _ HR1.out).mono ?_
  rintro e w2 ⟨b1, f1, rfl, hG1, hb2⟩
  have HR2 := Lib.hid (HR1.out.below hb2)
  have hB2 := hb1.trans (hb2.mono hb1.size)
  clear HR1 hb1 hb2
  go_wp2_with fail
  refine (bycolour_any A1 l (Pl.ord l) c1 n HLO.out hl HVO.out 2 _ HR2.out).mono ?_
  rintro e w3 ⟨b2, f2, rfl, hG2, hb3⟩
  have HG1 := Lib.hid (hG1.below hb3)
  have HG2 := Lib.hid hG2
  have hB3 := hB2.trans (hb3.mono hB2.size)
  clear hG1 hG2 HR2 hB2 hb3
  go_wp2
  go_loopw [8, 9] (fun v i wr => ∃ k : Nat, k ≤ 9 ∧ i = .int .i64 ((k : Int) + 1) ∧ wr.ownsRow w3.heap.size 51 2 v (Pl.mtn l tol k).length (flt prc (Pl.mtn l tol k)) ∧ Below w3.heap.size w3 wr) (fun _ i _ => 11 - (intOf i).toNat)
  case atStart => exact ⟨0, Nat.zero_le _, rfl, World.ownsRow_nil _ _ _ _, Below.refl _ _⟩
  case round =>
    obtain ⟨k, hk, rfl, hown, hB⟩ := hrel
    obtain ⟨wo, rfl⟩ : ∃ wo, wo = wr := ⟨_, rfl⟩
    by_cases hlt : k < 9
    · have g1 := HG1.out.below hB
      have g2 := HG2.out.below hB
      have hwf : (Lit.int .i64 ((k : Int) + 1)).wf = true := WalkArith.wf_i64 (by omega)
      have k1 := g1.map.look hwf
      have k2 := g2.map.look hwf
      have p1 := Lib.hid (pcs_own (g1.row ((k : Int) + 1)))
      have p2 := Lib.hid (pcs_own (g2.row ((k : Int) + 1)))
      rw [grp_sel] at p1 p2
      have hle : (k : Int) + 1 ≤ 9 := by omega
      clear g1 g2 hwf
      go_wp2_with fail
      refine (matchcolour_any l tol ht _ _ _ _ (HGL.out _ _) (HGL.out _ _) (fun i hi => hi.elim (HGV.out _ _ i) (HGV.out _ _ i)) _ p1.out p2.out).mono ?_
      rintro e w4 ⟨v4, rfl, hown4, hb4⟩
      have HM : Hid (Pl.mtn l tol (k + 1) = Pl.mtn l tol k ++ Pl.mc l tol (Pl.grp l 1 ((k : Int) + 1)) (Pl.grp l 2 ((k : Int) + 1))) := Lib.hid rfl
      have m1 := HML.out k
      have m2 : (Pl.mc l tol (Pl.grp l 1 ((k : Int) + 1)) (Pl.grp l 2 ((k : Int) + 1))).length ≤ 60 := Nat.le_trans Pl.mc_len (HGL.out _ _)
      have hB4 := hB.trans (hb4.mono hB.size)
      have hownk := own_keep hown hb4
      clear p1 p2 k1 k2 hb4 hown hB
      generalize Pl.mc l tol (Pl.grp l 1 ((k : Int) + 1)) (Pl.grp l 2 ((k : Int) + 1)) = X at *
      rcases (show (v4 = .slice none 0 0 ∧ X.length = 0) ∨ ∃ g cap, v4 = .slice (some ⟨g, 0, none⟩) X.length cap from hown4.2.imp id (fun ⟨g, cap, cur, he, _⟩ => ⟨g, cap, he⟩)) with ⟨rfl, h0⟩ | ⟨g, cap, rfl⟩
      · obtain rfl : X = [] := List.length_eq_zero_iff.1 h0
        clear hown4
        go_wp2_with (at_builtin; refine wpList_append_own_none rfl _ _ 33 rfl w3.heap.size 51 i0 2 Try.underlying33 hi _ _ _ rfl hownk rfl ?_)
        go_roundw
        case rel => exact ⟨k + 1, by omega, by go_num, by rw [HM.out, List.append_nil]; exact hownk, hB4⟩
        case measure => simp [intOf]; omega
      · have hcells := hown4.cells (g := g) rfl
        have HCL := Lib.hid hcells
        clear hown4 hcells
        go_wp2_with (at_builtin; refine wpList_append_own _ rfl _ _ 33 rfl w3.heap.size 51 i0 _ 2 16 Try.underlying33 hi hz0 hz1 hz2 rfl (by decide) _ _ _ rfl hownk ⟨g, 0, none⟩ X.length cap (flt prc X) rfl (flt_len encPr X) HCL.out (flt_one' encPr X) (by unfold maxLen; omega) (by omega) hB4.size ?_; intro v' w5 hown' hgrow _)
        have hB5 := hB4.grown hgrow hB4.size (fun s e => (hownk.lt s e).1)
        go_roundw
        case rel => exact ⟨k + 1, by omega, by go_num, by rw [HM.out, List.length_append, flt_append]; exact hown', hB5⟩
        case measure => simp [intOf]; omega
    · obtain rfl : k = 9 := by omega
      go_wp2
      go_ret
      exact ⟨_, rfl, own_mono hown hB3.size, hB3.trans (hB.mono hB3.size)⟩

set_option maxRecDepth 100000 in
set_option maxHeartbeats 1000000 in
theorem Match_any (A : Option Addr) (l : List Pl.Tm) (c n : Nat) (hn : l.length = n) (tol : Int) (w : World) (hI : Tms w A l) :
    Calls Try.prog 24 #[.slice A n c, .int .i64 tol] w fun e w' => ∃ v, e = .returned (.tuple #[v, .int .i64 (Pl.ck l tol)]) ∧ w'.ownsRow w.heap.size 51 2 v (Pl.Mt l tol).length (flt prc (Pl.Mt l tol)) ∧ Below w.heap.size w w' := by
  subst hn
  obtain ⟨v, hv⟩ : ∃ v, Pl.ck l tol = v := ⟨_, rfl⟩
  have HC := Lib.hid (checklist_b A l c tol v hv w hI)
  have HI := Lib.hid hI
  have HM : Hid (Pl.Mt l tol = if v = 0 then Pl.mt l tol else []) := Lib.hid (by rw [← hv]; rfl)
  have HMt : Hid (v = 0 → ∀ w', Tms w' A l → Calls Try.prog 57 #[.slice A l.length c, .int .i64 tol] w' fun e w'' => ∃ v, e = .returned v ∧ w''.ownsRow w'.heap.size 51 2 v (Pl.mt l tol).length (flt prc (Pl.mt l tol)) ∧ Below w'.heap.size w' w'') :=
    Lib.hid (fun h0 w' hI' => by
      obtain ⟨h1, h2⟩ := Pl.ck_ok (hv.trans h0)
      exact match_any A l c _ rfl (Pl.ok_of h1) tol h2 w' hI')
  generalize Pl.Mt l tol = M at *
  rw [hv]
  clear hv hI
  by_cases h0 : v = 0
  · subst h0
    go_enter Try.func24, Try.ntmps24
    go_wp2_with fail
    refine HC.out.mono ?_
    rintro e w1 ⟨rfl, hb1⟩
    have HI1 := Lib.hid (HI.out.below hb1)
    go_wp2_with fail
    refine (HMt.out trivial _ HI1.out).mono ?_
    rintro e w2 ⟨v2, rfl, hown, hb2⟩
    have HO := Lib.hid hown
    clear hown
    go_wp2
    go_ret2
    refine ⟨_, rfl, ?_, hb1.trans (hb2.mono hb1.size)⟩
    rw [HM.out, if_pos trivial]
    exact own_mono HO.out hb1.size
  · have h1 : (v != 0) = true := by simp [h0]
    have H0 := Lib.hid h0
    clear h0
    go_enter Try.func24, Try.ntmps24
    go_wp2_with fail
    refine HC.out.mono ?_
    rintro e w1 ⟨rfl, hb1⟩
    go_wp2
    go_ret2
    refine ⟨_, rfl, ?_, hb1⟩
    rw [HM.out, if_neg H0.out]
    exact World.ownsRow_nil _ _ _ _

set_option maxRecDepth 100000 in
set_option maxHeartbeats 1000000 in
theorem Most_any (A : Option Addr) (l : List Pl.Tm) (c n : Nat) (hn : l.length = n) (tol : Int) (w : World) (hI : Tms w A l) :
    Calls Try.prog 26 #[.slice A n c, .int .i64 tol] w fun e w' => e = .returned (.tuple #[.int .i64 (Pl.Mt l tol).length, .int .i64 (Pl.ck l tol)]) ∧ Below w.heap.size w w' := by
  have HC := Lib.hid (Match_any A l c n hn tol w hI)
  generalize Pl.Mt l tol = M at *
  generalize Pl.ck l tol = v at *
  clear hI hn
  go_enter Try.func26, Try.ntmps26
  go_wp2_with fail
  refine HC.out.mono ?_
  rintro e w1 ⟨v1, rfl, hown, hb1⟩
  obtain ⟨A1, c1, rfl, _⟩ := rows_of_owns encPr hown
  clear hown
  go_wp2
  go_ret2
  exact ⟨rfl, hb1⟩

theorem run_eq51 (a b c d : Int) (r : Bool) (hr : decide (a = c ∧ b = d) = r) (w : World) : (Op.equalIn 10000 51 (.agg #[.int .i64 a, .int .i64 b]) (.agg #[.int .i64 c, .int .i64 d])).run Try.prog w = .ok r w := by
  subst hr
  have u3 := Try.underlying3
  have a3 := Try.isAgg3
  have q3 := Try.sizeOf3
  rw [show (10000 : Nat) = 9999 + 1 from rfl, Op.equalIn]
  simp only [Sem.run_bind, run_underlying Try.underlying51, Result.andThen_ok]
  simp only [Std.Legacy.Range.forIn_eq_forIn_range', Std.Legacy.Range.size, Nat.sub_zero, Nat.add_sub_cancel, Nat.div_one, List.range'_succ, List.range'_zero, List.forIn_cons, List.forIn_nil]
  by_cases h1 : a = c
  · have e1 : (a == c) = true := by simp [h1]
    by_cases h2 : b = d
    · have e2 : (b == d) = true := by simp [h2]
      go_simp
    · have e2 : (b == d) = false := by simp [h2]
      go_simp
  · have e1 : (a == c) = false := by simp [h1]
    go_simp
theorem tms_sl (w : World) : Tms (w.alloc (.cells #[.int .i64 1, .int .i64 1, .int .i64 104, .int .i64 1, .int .i64 2, .int .i64 2, .int .i64 103, .int .i64 1] 24)) (some ⟨w.heap.size, 0, none⟩) Pl.sl := by
  refine .inr ⟨w.heap.size, 0, rfl, by simp, fun k hk j v hj => ?_⟩
  rw [(Blk.new w 24 _).cell]
  match k, hk with
  | 0, _ =>
    match j, hj with
    | 0, hj => exact hj
    | 1, hj => exact hj
    | 2, hj => exact hj
    | 3, hj => exact hj
  | 1, _ =>
    match j, hj with
    | 0, hj => exact hj
    | 1, hj => exact hj
    | 2, hj => exact hj
    | 3, hj => exact hj

set_option maxRecDepth 100000 in
set_option maxHeartbeats 4000000 in
/-- the sanity check -/
theorem sane_any (w : World) : Calls Try.prog 15 #[] w fun e w' => e = .returned (.bool true) ∧ Below w.heap.size w w' := by
  have hl : Pl.sl.length = 2 := rfl
  have HM := Lib.hid (fun (w' : World) A c (hI : Tms w' A Pl.sl) => Match_any A Pl.sl c 2 hl 2 w' hI)
  have HN := Lib.hid (fun (w' : World) A c (hI : Tms w' A Pl.sl) => Most_any A Pl.sl c 2 hl 0 w' hI)
  rw [Pl.sl_m2, Pl.sl_c2] at HM
  rw [Pl.sl_m0, Pl.sl_c0] at HN
  have hB := (Below.refl w.heap.size w).alloc (Nat.le_refl _) (.cells #[.int .i64 1, .int .i64 1, .int .i64 104, .int .i64 1, .int .i64 2, .int .i64 2, .int .i64 103, .int .i64 1] 24)
  have HT := Lib.hid (tms_sl w)
  clear hl
  go_enter Try.func15, Try.ntmps15
  go_wp2_with fail
  refine (HM.out _ _ _ HT.out).mono ?_
  rintro e w1 ⟨v1, rfl, hown1, hb1⟩
  have hB1 := hB.trans (hb1.mono hB.size)
  have HT1 := Lib.hid (HT.out.below hb1)
  obtain ⟨A1, c1, rfl, hr1, _, _⟩ := rows_of_owns encPr hown1
  clear hb1 hB hown1 HT
  go_wp2_with fail
  refine (HN.out _ _ _ HT1.out).mono ?_
  rintro e w2 ⟨rfl, hb2⟩
  have hB2 := hB1.trans (hb2.mono hB1.size)
  obtain ⟨b, o, rfl, hb, hc⟩ := (hr1.below hb2).open (by simp)
  have hc0 := hc 0 (by simp)
  rw [Nat.zero_mul, Nat.add_zero] at hc0
  have q0 : w2.cell? ⟨b, o, none⟩ = some (.int .i64 0) := hc0 0 _ rfl
  have q1 : w2.cell? ⟨b, o + 1, none⟩ = some (.int .i64 1) := hc0 1 _ rfl
  have heq := run_eq51 0 1 0 1 true rfl
  clear hr1 hb2 hB1 hc0 hc
  go_wp2_with fail
  go_ret
  exact ⟨rfl, hB2⟩
end Go.Proofs.Ytmjnlmmjfbpogaa
