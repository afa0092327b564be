/- SampleSwitches. -/
import Derived.Test.YtfkhlglagokodaaL7
import Derived.Test.YtfkhlglagokodaaP6
namespace Go.Proofs.Ytfkhlglagokodaa
open Go.RowKit Go.Shelf

set_option maxRecDepth 100000 in
set_option maxHeartbeats 32000000 in
theorem law_switches (S : Pl.Sc) (A : Option Addr) (xs : List Int) (c : Nat) (hn63 : xs.length ≤ maxLen) (w : World) (hA : Rows inL 1 w A xs) :
    Calls Try.prog 14 #[.agg (scA S), .slice A xs.length c] w fun e w' => e = .returned (.bool true) ∧ Below w.heap.size w w' := by
  have hB0 := (Below.refl w.heap.size w).alloc (Nat.le_refl _) (.cells (scA S) 25)
  have bS := Blk.new w 25 (scA S)
  have hr := bS.range
  have H1 := Lib.hid (History_b S A xs c _ rfl hn63 _ (hA.below hB0))
  have H7 := Lib.hid awake_any
  have HL := Lib.hid (hs_len S 1 xs)
  have HX : Hid ((Pl.hs S 1 xs).1 = 0 → Pl.hist S 1 [] xs = Pl.hs S 1 xs) := Lib.hid (fun h => by
    unfold Pl.hs at h ⊢
    by_cases h1 : Pl.vS S = true
    · rw [if_pos h1] at h ⊢
      by_cases h2 : xs.length ≤ 200
      · rw [if_pos h2]
      · rw [if_neg h2] at h; cases h
    · rw [if_neg h1] at h; cases h)
  generalize Pl.hs S 1 xs = R at *
  obtain ⟨E, s, out⟩ := R
  dsimp only at HL HX H1
  generalize xs.length = n at *
  obtain ⟨m, hm⟩ : ∃ m, out.length = m := ⟨_, rfl⟩
  have HM := Lib.hid hm
  rw [hm] at HL H1
  have hL := HL.out
  clear hA hm bS
  by_cases hE : E = 0
  rotate_left
  · have hE1 : (E != 0) = true := by simpa using hE
    clear HX hE
    go_enter Try.func14, Try.ntmps14
    go_wp2_with (refine ldm_sc hr rfl _ rfl rfl ?_)
    refine H1.out.mono ?_
    rintro e w1 ⟨A1, c1, rfl, hr1, hb1⟩
    have hB1 := hB0.trans (hb1.mono hB0.size)
    clear hr1
    go_wp2_with fail
    refine (H7.out _).mono ?_
    rintro e w5 ⟨rfl, hb5⟩
    have hB5 := hB1.trans (hb5.mono hB1.size)
    go_wp2
    go_ret
    exact ⟨rfl, hB5⟩
  · subst hE
    have HX2 : Hid (Pl.hist S 1 [] xs = (0, s, out.drop 0)) := Lib.hid (HX.out rfl)
    clear HX
    go_enter Try.func14, Try.ntmps14
    go_wp2_with (refine ldm_sc hr rfl _ rfl rfl ?_)
    refine H1.out.mono ?_
    rintro e w1 ⟨A1, c1, rfl, hr1, hb1⟩
    have hB1 := hB0.trans (hb1.mono hB0.size)
    have HR := Lib.hid hr1
    clear hr1 hb1 hr H1 hB0
    go_wp2
    go_loopw [8, 9, 10, 11, 12, 25] (fun vg vs _ _ _ j wr => ∃ (i : Nat) (st : Int) (l : List Bool) (zs : List Int) (good : Nat) (some' : Bool), i ≤ m ∧ good ≤ i ∧ vg = .int .i64 good ∧ vs = .bool some' ∧ j = .int .i64 i ∧ Hid (Pl.hist S st l zs = (0, s, out.drop i)) ∧ Hid (Pl.J1 st l) ∧ Hid (some' = true → Pl.J2 st l good) ∧ Below w1.heap.size w1 wr) (fun _ _ _ _ _ j _ => m - (intOf j).toNat)
    case atStart => exact ⟨0, 1, [], xs, 0, false, Nat.zero_le _, Nat.le_refl _, rfl, rfl, rfl, HX2, Lib.hid (fun _ => by decide), Lib.hid (fun h => by cases h), Below.refl _ _⟩
    case round =>
      clear HX2
      obtain ⟨i, st, l, zs, good, sm, hi, hg, rfl, rfl, rfl, hh, hj1, hj2, hB⟩ := hrel
      obtain ⟨wo, rfl⟩ : ∃ wo, wo = wr := ⟨_, rfl⟩
      by_cases hlt : i < m
      · have hiI : (i : Int) < (m : Int) := by omega
        have hil : i < out.length := by rw [HM.out]; exact hlt
        obtain ⟨bo, oo, rfl, hbo, hco⟩ := HR.out.open (by omega)
        have hci := rangeAt_below (hco i hil) hbo hB
        have hD : out.drop i = out[i] :: out.drop (i + 1) := List.drop_eq_getElem_cons hil
        have hu := hh.out
        rw [hD] at hu
        obtain ⟨h4, hp1, zs', hz⟩ := Pl.hist_un hu
        -- the next state, in the list or behind it
        obtain ⟨N, hN⟩ : ∃ N, Pl.nxt st (l ++ [out[i].2]) = N := ⟨_, rfl⟩
        have hNx : (∃ (h : i + 1 < out.length), out[i + 1].1 = N) ∨ (¬ i + 1 < m ∧ s = N) := by
          by_cases h : i + 1 < m
          · have h' : i + 1 < out.length := by rw [HM.out]; exact h
            refine .inl ⟨h', ?_⟩
            have hz2 := hz
            rw [List.drop_eq_getElem_cons h'] at hz2
            obtain ⟨_, h5, _⟩ := Pl.hist_un hz2
            rw [h5, hN]
          · refine .inr ⟨h, ?_⟩
            have hz2 := hz
            rw [List.drop_of_length_le (by rw [HM.out]; omega)] at hz2
            rw [Pl.hist_fin hz2, hN]
        have HZ := Lib.hid hz
        have HJ1 := Lib.hid (Pl.J1_next st (l ++ [out[i].2]))
        have HJ2 := Lib.hid (fun h => Pl.J2_next out[i].2 (hj2.out h))
        have HJ3 := Lib.hid (fun (h : Pl.nxt st (l ++ [out[i].2]) = 1) (h3 : st = 3) => Pl.J2_zero out[i].2 h h3)
        have HN1 : Hid (st = 1 → out[i].2 = true → N = 1 ∨ N = 3) := Lib.hid (fun h h' => by rw [← hN, h', h]; exact Pl.norm_acc (by have := hj1.out; rwa [h] at this))
        have HN3 : Hid (st = 3 → out[i].2 = false → N = 1) := Lib.hid (fun h h' => by rw [← hN, h', h]; exact Pl.red_ref)
        have HG3 : Hid (sm = true → st = 3 → 10 ≤ good) := Lib.hid (fun h h' => (hj2.out h).2 h')
        rw [hN] at HZ HJ1 HJ2 HJ3
        have qa : wo.cell? ⟨bo, oo + i * 2, none⟩ = some (.int .i64 st) := by have := hci 0 _ rfl; rw [hp1] at this; exact this
        have qb : wo.cell? ⟨bo, oo + i * 2 + 1, none⟩ = some (.bool out[i].2) := hci 1 _ rfl
        have hqn : ∀ h : i + 1 < out.length, wo.cell? ⟨bo, oo + (i + 1) * 2, none⟩ = some (.int .i64 out[i + 1].1) := fun h => rangeAt_below (hco (i + 1) h) hbo hB 0 _ rfl
        have HQN := Lib.hid hqn
        clear hci hco hD hu hp1 hz hN hj1 hj2 hh hqn
        generalize out[i].2 = b at *
        have hbw : ¬ bo = wo.heap.size := by have := hB.size; omega
        have hB2 := hB.alloc hB.size (.cells (isA st b) 62)
        rcases hNx with ⟨hin, hne⟩ | ⟨hin, hne⟩
        · have h1I : (i : Int) + 1 < (m : Int) := by have := HM.out; omega
          have h1N : i + 1 < m := by omega
          have qn : wo.cell? ⟨bo, oo + (i + 1) * 2, none⟩ = some (.int .i64 N) := by rw [← hne]; exact HQN.out hin
          have qn2 : (wo.alloc (.cells (isA st b) 62)).cell? ⟨bo, oo + (i + 1) * 2, none⟩ = some (.int .i64 N) := (((Below.refl wo.heap.size wo).alloc (Nat.le_refl _) (.cells (isA st b) 62)).cell (p := ⟨bo, oo + (i + 1) * 2, none⟩) (by have := hB.size; show bo < wo.heap.size; omega)).trans qn
          have ge1 : ((i : Int) + 1).toNat = i + 1 := by omega
          clear hne HQN
          cases b with
          | true =>
            by_cases s1 : st = 1
            · rcases HN1.out s1 rfl with n1 | n3
              · subst s1
                have nb : ((N : Int) != 1) = false := by simp [n1]
                go_wp2
                go_roundw
                case rel => exact ⟨i + 1, N, _, zs', good + 1, sm, by omega, by omega, by go_num, rfl, by go_num, HZ, HJ1, Lib.hid (fun h => HJ2.out h), hB2⟩
                case measure => simp [intOf]; omega
              · subst s1
                have nb : ((N : Int) != 1) = true := by simp [n3]
                have nb3 : ((N : Int) != 3) = false := by simp [n3]
                clear n3
                go_wp2
                go_roundw
                case rel => exact ⟨i + 1, N, _, zs', good + 1, sm, by omega, by omega, by go_num, rfl, by go_num, HZ, HJ1, Lib.hid (fun h => HJ2.out h), hB2⟩
                case measure => simp [intOf]; omega
            · have t1 : (st == 1) = false := by simpa using s1
              clear s1
              by_cases s3 : st = 3
              · subst s3
                go_wp2
                go_roundw
                case rel => exact ⟨i + 1, N, _, zs', good + 1, sm, by omega, by omega, by go_num, rfl, by go_num, HZ, HJ1, Lib.hid (fun h => HJ2.out h), hB2⟩
                case measure => simp [intOf]; omega
              · have t3 : (st == 3) = false := by simpa using s3
                clear s3
                go_wp2
                go_roundw
                case rel => exact ⟨i + 1, N, _, zs', good + 1, sm, by omega, by omega, by go_num, rfl, by go_num, HZ, HJ1, Lib.hid (fun h => HJ2.out h), hB2⟩
                case measure => simp [intOf]; omega
          | false =>
            by_cases s3 : st = 3
            · have n1 := HN3.out s3 rfl
              have nb : ((N : Int) != 1) = false := by simp [n1]
              have HJ4 := Lib.hid (HJ3.out n1 s3)
              have HG4 := Lib.hid (fun h => HG3.out h s3)
              clear n1
              subst s3
              cases sm with
              | false =>
                go_wp2
                go_roundw
                case rel => exact ⟨i + 1, N, _, zs', 0, true, by omega, by omega, by go_num, rfl, by go_num, HZ, HJ1, Lib.hid (fun h => HJ4.out), hB2⟩
                case measure => simp [intOf]; omega
              | true =>
                have g1 : ¬ (good : Int) < 10 := by have := HG4.out rfl; omega
                go_wp2
                go_roundw
                case rel => exact ⟨i + 1, N, _, zs', 0, true, by omega, by omega, by go_num, rfl, by go_num, HZ, HJ1, Lib.hid (fun h => HJ4.out), hB2⟩
                case measure => simp [intOf]; omega
            · have t3 : (st == 3) = false := by simpa using s3
              clear s3
              by_cases s1 : st = 1
              · subst s1
                go_wp2
                go_roundw
                case rel => exact ⟨i + 1, N, _, zs', good, sm, by omega, by omega, rfl, rfl, by go_num, HZ, HJ1, Lib.hid (fun h => HJ2.out h), hB2⟩
                case measure => simp [intOf]; omega
              · have t1 : (st == 1) = false := by simpa using s1
                clear s1
                go_wp2
                go_roundw
                case rel => exact ⟨i + 1, N, _, zs', good, sm, by omega, by omega, rfl, rfl, by go_num, HZ, HJ1, Lib.hid (fun h => HJ2.out h), hB2⟩
                case measure => simp [intOf]; omega
        · have h1I : ¬ (i : Int) + 1 < (m : Int) := by omega
          subst hne
          clear HQN
          cases b with
          | true =>
            by_cases s1 : st = 1
            · rcases HN1.out s1 rfl with n1 | n3
              · subst s1
                have nb : ((s : Int) != 1) = false := by simp [n1]
                go_wp2
                go_roundw
                case rel => exact ⟨i + 1, s, _, zs', good + 1, sm, by omega, by omega, by go_num, rfl, by go_num, HZ, HJ1, Lib.hid (fun h => HJ2.out h), hB2⟩
                case measure => simp [intOf]; omega
              · subst s1
                have nb : ((s : Int) != 1) = true := by simp [n3]
                have nb3 : ((s : Int) != 3) = false := by simp [n3]
                clear n3
                go_wp2
                go_roundw
                case rel => exact ⟨i + 1, s, _, zs', good + 1, sm, by omega, by omega, by go_num, rfl, by go_num, HZ, HJ1, Lib.hid (fun h => HJ2.out h), hB2⟩
                case measure => simp [intOf]; omega
            · have t1 : (st == 1) = false := by simpa using s1
              clear s1
              by_cases s3 : st = 3
              · subst s3
                go_wp2
                go_roundw
                case rel => exact ⟨i + 1, s, _, zs', good + 1, sm, by omega, by omega, by go_num, rfl, by go_num, HZ, HJ1, Lib.hid (fun h => HJ2.out h), hB2⟩
                case measure => simp [intOf]; omega
              · have t3 : (st == 3) = false := by simpa using s3
                clear s3
                go_wp2
                go_roundw
                case rel => exact ⟨i + 1, s, _, zs', good + 1, sm, by omega, by omega, by go_num, rfl, by go_num, HZ, HJ1, Lib.hid (fun h => HJ2.out h), hB2⟩
                case measure => simp [intOf]; omega
          | false =>
            by_cases s3 : st = 3
            · have n1 := HN3.out s3 rfl
              have nb : ((s : Int) != 1) = false := by simp [n1]
              have HJ4 := Lib.hid (HJ3.out n1 s3)
              have HG4 := Lib.hid (fun h => HG3.out h s3)
              clear n1
              subst s3
              cases sm with
              | false =>
                go_wp2
                go_roundw
                case rel => exact ⟨i + 1, s, _, zs', 0, true, by omega, by omega, by go_num, rfl, by go_num, HZ, HJ1, Lib.hid (fun h => HJ4.out), hB2⟩
                case measure => simp [intOf]; omega
              | true =>
                have g1 : ¬ (good : Int) < 10 := by have := HG4.out rfl; omega
                go_wp2
                go_roundw
                case rel => exact ⟨i + 1, s, _, zs', 0, true, by omega, by omega, by go_num, rfl, by go_num, HZ, HJ1, Lib.hid (fun h => HJ4.out), hB2⟩
                case measure => simp [intOf]; omega
            · have t3 : (st == 3) = false := by simpa using s3
              clear s3
              by_cases s1 : st = 1
              · subst s1
                go_wp2
                go_roundw
                case rel => exact ⟨i + 1, s, _, zs', good, sm, by omega, by omega, rfl, rfl, by go_num, HZ, HJ1, Lib.hid (fun h => HJ2.out h), hB2⟩
                case measure => simp [intOf]; omega
              · have t1 : (st == 1) = false := by simpa using s1
                clear s1
                go_wp2
                go_roundw
                case rel => exact ⟨i + 1, s, _, zs', good, sm, by omega, by omega, rfl, rfl, by go_num, HZ, HJ1, Lib.hid (fun h => HJ2.out h), hB2⟩
                case measure => simp [intOf]; omega
      · obtain rfl : i = m := by omega
        have hB4 := hB1.trans (hB.mono hB1.size)
        go_wp2_with fail
        refine (H7.out _).mono ?_
        rintro e w5 ⟨rfl, hb5⟩
        have hB5 := hB4.trans (hb5.mono hB4.size)
        go_wp2
        go_ret
        exact ⟨rfl, hB5⟩
end Go.Proofs.Ytfkhlglagokodaa
