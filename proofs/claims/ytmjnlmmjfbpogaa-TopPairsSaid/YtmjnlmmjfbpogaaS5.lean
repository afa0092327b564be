/- Match, Rest, of the document. -/
import Derived.Test.YtmjnlmmjfbpogaaS4
namespace Go.Proofs.Ytmjnlmmjfbpogaa
open Go.RowKit Go.Shelf

set_option maxRecDepth 100000 in
set_option maxHeartbeats 1000000 in
theorem rMatch_any (A : Option Addr) (l : List Pl.Tm) (c n : Nat) (hn : l.length = n) (tol : Int) (w : World) (hI : Tms w A l) :
    Calls Try.prog 25 #[.slice A n c, .int .i64 tol] w fun e w' => ∃ v, e = .returned (.tuple #[v, .int .i64 (Pl.ck l tol)]) ∧ w'.ownsRow w.heap.size 51 2 v (Pl.Mt l tol).length (flt prc (Pl.Mt l tol)) ∧ Below w.heap.size w w' := by
  subst hn
  obtain ⟨v, hv⟩ : ∃ v, Pl.ck l tol = v := ⟨_, rfl⟩
  have HC := Lib.hid (asked_b A l c tol v hv w hI)
  have HI := Lib.hid hI
  by_cases h0 : v = 0
  · subst h0
    obtain ⟨h1, h2⟩ := Pl.ck_ok hv
    have HM := Lib.hid (fun (w' : World) hI => rmatch_any A l c _ rfl (Pl.ok_of h1) tol w' hI)
    rw [show Pl.Mt l tol = Pl.mt l tol from if_pos hv, hv]
    generalize Pl.mt l tol = M at *
    clear hv h1 h2 hI
    go_enter Try.func25, Try.ntmps25
    go_wp2_with fail
    refine HC.out.mono ?_
    rintro e w1 ⟨rfl, hb1⟩
    have HI1 := Lib.hid (HI.out.below hb1)
    go_wp2_with fail
    refine (HM.out _ HI1.out).mono ?_
    rintro e w2 ⟨v2, rfl, hown, hb2⟩
    have HO := Lib.hid hown
    clear hown
    go_wp2
    go_ret2
    exact ⟨_, rfl, own_mono HO.out hb1.size, hb1.trans (hb2.mono hb1.size)⟩
  · have h1 : (v != 0) = true := by simp [h0]
    rw [show Pl.Mt l tol = [] from if_neg (by rw [hv]; exact h0), hv]
    clear h0 hv hI
    go_enter Try.func25, Try.ntmps25
    go_wp2_with fail
    refine HC.out.mono ?_
    rintro e w1 ⟨rfl, hb1⟩
    go_wp2
    go_ret2
    exact ⟨_, rfl, World.ownsRow_nil _ _ _ _, hb1⟩

set_option maxRecDepth 100000 in
set_option maxHeartbeats 16000000 in
theorem rRest_any (A : Option Addr) (l : List Pl.Tm) (c n : Nat) (hn : l.length = n) (tol : Int) (w : World) (hI : Tms w A l) :
    Calls Try.prog 29 #[.slice A n c, .int .i64 tol] w fun e w' => ∃ v, e = .returned (.tuple #[v, .int .i64 (Pl.ck l tol)]) ∧ w'.ownsRow w.heap.size 3 1 v (Pl.Rs l tol).length (flt irc (Pl.Rs l tol)) ∧ Below w.heap.size w w' := by
  obtain ⟨v, hv⟩ : ∃ v, Pl.ck l tol = v := ⟨_, rfl⟩
  have HC := Lib.hid (asked_b A l c tol v hv w hI)
  rw [hn] at HC
  have HI := Lib.hid hI
  by_cases h0 : v = 0
  rotate_left
  · have h1 : (v != 0) = true := by simp [h0]
    rw [show Pl.Rs l tol = [] from if_neg (by rw [hv]; exact h0), hv]
    clear h0 hv hI hn
    go_enter Try.func29, Try.ntmps29
    go_wp2_with fail
    refine HC.out.mono ?_
    rintro e w1 ⟨rfl, hb1⟩
    go_wp2
    go_ret2
    exact ⟨_, rfl, World.ownsRow_nil _ _ _ _, hb1⟩
  · subst h0
    obtain ⟨h1, h2⟩ := Pl.ck_ok hv
    have hok := Pl.ok_of h1
    have hl : n ≤ 60 := hn ▸ hok.len
    have HM := Lib.hid (fun (w' : World) hI => rmatch_any A l c n hn hok tol w' hI)
    rw [show Pl.Rs l tol = Pl.rs n (Pl.mt l tol) from by unfold Pl.Rs; rw [if_pos hv, hn], hv]
    have hm5 : (Pl.mt l tol).length ≤ 540 := mt_len540 (by omega)
    generalize Pl.mt l tol = M at *
    obtain ⟨m, hm⟩ : ∃ m, M.length = m := ⟨_, rfl⟩
    have HML := Lib.hid hm
    rw [hm] at hm5
    obtain ⟨i0, hi, hz0, hz01, hz2⟩ := info_parts info3'
    clear hv h1 h2 hI hok
    go_enter Try.func29, Try.ntmps29
    go_wp2_with fail
    refine HC.out.mono ?_
    rintro e w1 ⟨rfl, hb1⟩
    have HI1 := Lib.hid (HI.out.below hb1)
    go_wp2_with fail
    refine (HM.out _ HI1.out).mono ?_
    rintro e w2 ⟨v2, rfl, hown, hb2⟩
    have hB2 := hb1.trans (hb2.mono hb1.size)
    obtain ⟨A1, c1, rfl, hr1, _, _⟩ := rows_of_owns encPr hown
    rw [hm]
    have HR := Lib.hid (fun h => hr1.open (h0 := h))
    clear hown hr1 HC HM hb1 hb2 HI HI1 hm
    go_wp2
    go_loopw [8, 9] (fun v i wr => ∃ q : Nat, q ≤ n ∧ i = .int .i64 q ∧ wr.ownsRow w2.heap.size 3 1 v (Pl.rs q M).length (flt irc (Pl.rs q M)) ∧ Below w2.heap.size w2 wr) (fun _ i _ => n - (intOf i).toNat)
    case atStart => exact ⟨0, Nat.zero_le _, rfl, World.ownsRow_nil _ _ _ _, Below.refl _ _⟩
    case round =>
      obtain ⟨q, hq, rfl, hown, hBq⟩ := hrel
      obtain ⟨wp, rfl⟩ : ∃ wp, wp = wr := ⟨_, rfl⟩
      by_cases hlt : q < n
      · have hqI : (q : Int) < (n : Int) := by omega
        go_wp2
        go_loopw [10, 11] (fun b j wr => ∃ k : Nat, ∃ x, k ≤ m ∧ b = .bool x ∧ j = .int .i64 k ∧ Hid (Pl.hit (M.take k) q = x) ∧ wr.ownsRow w2.heap.size 3 1 u8 (Pl.rs q M).length (flt irc (Pl.rs q M)) ∧ Below w2.heap.size w2 wr) (fun _ j _ => m - (intOf j).toNat)
        case atStart => exact ⟨0, false, Nat.zero_le _, rfl, rfl, Lib.hid rfl, hown, hBq⟩
        case round =>
          clear hown hBq
          obtain ⟨k, x, hk, rfl, rfl, hx, hown, hB⟩ := hrel
          obtain ⟨wo, rfl⟩ : ∃ wo, wo = wr := ⟨_, rfl⟩
          by_cases hkm : k < m
          · have hkI : (k : Int) < (m : Int) := by omega
            have hkM : k < M.length := by rw [HML.out]; exact hkm
            obtain ⟨bp, op, rfl, hbp, hcp⟩ := HR.out (by omega)
            have hck := rangeAt_below (hcp k hkM) hbp hB
            have HH : Pl.hit (M.take (k + 1)) q = (x || (decide (M[k].1 = q) || decide (M[k].2 = q))) := by rw [Pl.hit_take hkM, hx.out]
            clear hcp hx
            generalize M[k] = p at *
            obtain ⟨p1, p2⟩ := p
            have q0 : wo.cell? ⟨bp, op + k * 2, none⟩ = some (.int .i64 (p1 : Int)) := hck 0 _ rfl
            have q1 : wo.cell? ⟨bp, op + k * 2 + 1, none⟩ = some (.int .i64 (p2 : Int)) := hck 1 _ rfl
            clear hck hkM
            dsimp only at HH
            cases x with
            | true =>
              have HX : Hid (Pl.hit (M.take (k + 1)) q = true) := Lib.hid (HH.trans rfl)
              clear HH
              go_wp2
              go_roundw
              case rel => exact ⟨k + 1, true, by omega, rfl, by go_num, HX, hown, hB⟩
              case measure => simp [intOf]; omega
            | false =>
              obtain ⟨x1, h1⟩ : ∃ x, decide (p1 = q) = x := ⟨_, rfl⟩
              obtain ⟨x2, h2⟩ : ∃ x, decide (p2 = q) = x := ⟨_, rfl⟩
              have E1 : ((p1 : Int) == (q : Int)) = x1 := eqB.trans ((decide_eq_decide.2 Int.ofNat_inj).trans h1)
              have E2 : ((p2 : Int) == (q : Int)) = x2 := eqB.trans ((decide_eq_decide.2 Int.ofNat_inj).trans h2)
              rw [h1, h2] at HH
              have HX : Hid (Pl.hit (M.take (k + 1)) q = (false || (x1 || x2))) := Lib.hid HH
              clear HH h1 h2
              cases x1 with
              | true =>
                go_wp2
                go_roundw
                case rel => exact ⟨k + 1, true, by omega, rfl, by go_num, HX, hown, hB⟩
                case measure => simp [intOf]; omega
              | false =>
                go_wp2
                go_roundw
                case rel => exact ⟨k + 1, x2, by omega, rfl, by go_num, HX, hown, hB⟩
                case measure => simp [intOf]; omega
          · obtain rfl : k = m := by omega
            have HX : Hid (Pl.hit M q = x) := Lib.hid (by have := hx.out; rw [List.take_of_length_le (by rw [HML.out]; exact Nat.le_refl _)] at this; exact this)
            clear hx
            cases x with
            | true =>
              have HNX := Lib.hid (Pl.rs_no HX.out)
              go_wp2
              go_roundw
              case rel => exact ⟨q + 1, by omega, by go_num, by rw [HNX.out]; exact hown, hB⟩
              case measure => simp [intOf]; omega
            | false =>
              have HNX := Lib.hid (Pl.rs_yes HX.out)
              have hlr : (Pl.rs q M).length ≤ q := Pl.rs_len
              generalize Pl.rs q M = R at *
              have HOW := Lib.hid (hown.alloc (.cells (irc q).toArray 3))
              go_wp2_with (at_builtin; refine wpList_append_own _ rfl _ _ 41 rfl w2.heap.size 3 i0 _ 1 8 Try.underlying41 hi hz0 hz01 hz2 rfl (by decide) _ _ _ rfl HOW.out ⟨wo.heap.size, 0, none⟩ 1 1 (irc q) rfl rfl (new_cells' _ _ _ rfl) (encIr.one q) (by unfold maxLen; omega) (by omega) (by have := hB.size; simp; omega) ?_; intro v' w9 hown' hgrow _)
              have hB9 := (hB.alloc hB.size (.cells (irc q).toArray 3)).grown hgrow (hB.alloc hB.size _).size (fun s e => (hown.lt s e).1)
              go_roundw
              case rel => exact ⟨q + 1, by omega, by go_num, by rw [HNX.out, List.length_append, flt_append, flt_one]; exact hown', hB9⟩
              case measure => simp [intOf]; omega
      · obtain rfl : q = n := by omega
        go_wp2
        go_ret2
        exact ⟨_, rfl, own_mono hown hB2.size, hB2.trans (hBq.mono hB2.size)⟩
end Go.Proofs.Ytmjnlmmjfbpogaa
