/- Fewest of the document. -/
import Derived.Test.YtlfbfdhdkccaeaaR2
namespace Go.Proofs.Ytlfbfdhdkccaeaa
open Go.RowKit Go.Shelf Go.Sort

set_option maxRecDepth 100000 in
set_option maxHeartbeats 16000000 in
theorem rFewest_any (A : Option Addr) (l : List Pl.Bt) (c n : Nat) (hn : l.length = n) (w : World) (hI : Bts w A l) :
    Calls Try.prog 27 #[.slice A n c] w fun e w' => e = .returned (.tuple #[.int .i64 (Pl.Rs l).length, .int .i64 (Pl.E l)]) ∧ Below w.heap.size w w' := by
  have HC := Lib.hid (rvalid_any A l c w hI)
  rw [hn] at HC
  obtain ⟨x, hx⟩ : ∃ x, Pl.vs l = x := ⟨_, rfl⟩
  rw [hx] at HC
  cases x
  · have HE : Hid (Pl.E l = 60 ∧ Pl.Rs l = []) := Lib.hid ⟨Pl.E_no hx, Pl.Rs_no hx⟩
    rw [HE.out.1, HE.out.2]
    clear hI hn hx
    go_enter Try.func27, Try.ntmps27
    go_wp2_with fail
    refine HC.out.mono ?_
    rintro e w1 ⟨rfl, hb1⟩
    go_wp2
    go_ret2
    exact ⟨rfl, hb1⟩
  have hok := Pl.ok_of hx
  have hn4 : n ≤ 40 := hn ▸ hok.len
  rw [Pl.E_ok hx, Pl.Rs_ok hx]
  obtain ⟨r, hr⟩ : ∃ r, Pl.nr l = r := ⟨_, rfl⟩
  rw [show (Pl.R l).length = r from hr]
  have hr4 : r ≤ 40 := by have := Pl.nr_le hok; omega
  have HI := Lib.hid hI
  have HN := Lib.hid hn
  have HVB : Hid (∀ i, i < n → 0 ≤ (Pl.at' l i).dark ∧ (Pl.at' l i).dark ≤ 9 ∧ 0 ≤ (Pl.at' l i).grain ∧ (Pl.at' l i).grain ≤ 9) := Lib.hid (fun i hi => by
    have := hok.vb i (by omega)
    exact ⟨this.d1, this.d2, this.g1, this.g2⟩)
  have HLE : Hid (∀ d g : Int, Pl.val l d g ≤ r) := Lib.hid (fun d g => by rw [← hr]; exact Pl.val_le hok d g)
  have HMX : Hid (0 < r → ∃ i, i < n ∧ Pl.val l (Pl.at' l i).dark (Pl.at' l i).grain = r) := Lib.hid (fun h0 => by
    obtain ⟨i, h1, h2⟩ := Pl.val_max hok (by omega)
    exact ⟨i, by omega, by omega⟩)
  have HNO : Hid (∀ d g : Int, (∀ i, i < n → ¬ ((Pl.at' l i).dark = d ∧ (Pl.at' l i).grain = g)) → Pl.val l d g = 0) := Lib.hid (fun d g h => Pl.val_none hok (by rw [hn]; exact h))
  have HSO : Hid (∀ d g : Int, ∀ i, i < n → (Pl.at' l i).dark = d → (Pl.at' l i).grain = g → ∃ j, Pl.val l d g = j + 1 ∧ (∀ d' g' : Int, d' < d → g < g' → Pl.val l d' g' ≤ j) ∧ (∀ N : Nat, 1 ≤ N → N ≤ j + 1 → (∀ d' g' : Int, 0 ≤ d' → d' < d → g < g' → g' ≤ 9 → Pl.val l d' g' + 1 ≤ N) → N = j + 1)) := Lib.hid (fun d g i hi hd hg => by
    subst hd; subst hg
    obtain ⟨j, _, hm⟩ := Pl.every hok (show i < l.length by omega)
    refine ⟨j, Pl.val_some hok hm, fun d' g' h1 h2 => Pl.val_up hok hm h1 h2, fun N h1 h2 h3 => Pl.val_loop hok hm h1 h2 h3 (fun p hp => ?_)⟩
    have := hok.vb p hp
    exact ⟨this.d1, this.g2⟩)
  clear hI hn hx hok hr
  have hmm := @run_makeMap Try.prog
  go_enter Try.func27, Try.ntmps27
  go_wp2_with fail
  refine HC.out.mono ?_
  rintro e w1 ⟨rfl, hb1⟩
  have hB0 := hb1.alloc hb1.size (.map #[] 0)
  have HM0 := Lib.hid (MapP.made w1)
  obtain ⟨wa, hwa⟩ : ∃ wa, wa = w1.alloc (.map #[] 0) := ⟨_, rfl⟩
  obtain ⟨b, hb⟩ : ∃ b, w1.heap.size = b := ⟨_, rfl⟩
  rw [← hwa] at hB0 HM0
  rw [hb] at HM0
  have hwb : w.heap.size ≤ b := hb ▸ hb1.size
  clear hb1 HC
  go_wp2_with fail
  try simp only [hb]
  rw [← hwa]
  clear hwa hmm hb
  have hF0 : Hid (∀ d g : Int, 0 ≤ d → d ≤ 9 → 0 ≤ g → g ≤ 9 → (fun _ _ => 0 : Int → Int → Nat) d g = if d < (0 : Int) then Pl.val l d g else 0) := Lib.hid (fun d g h0 _ _ _ => by rw [if_neg (by omega)])
  go_loopw [4, 6, 7, 8, 9, 10, 11] (fun mo dk _ _ _ _ _ wr => ∃ D M q : Nat, ∃ f : Int → Int → Nat, D ≤ 10 ∧ dk = .int .i64 D ∧ mo = .int .i64 M ∧ M ≤ r ∧ q ≤ 10 * D ∧ MapP wr b q f ∧ Hid (∀ d g : Int, 0 ≤ d → d ≤ 9 → 0 ≤ g → g ≤ 9 → f d g = if d < (D : Int) then Pl.val l d g else 0) ∧ Hid (∀ d g : Int, 0 ≤ d → d < (D : Int) → 0 ≤ g → g ≤ 9 → Pl.val l d g ≤ M) ∧ Below w.heap.size w wr) (fun _ dk _ _ _ _ _ _ => 10 - (intOf dk).toNat)
  case atStart => exact ⟨0, 0, 0, _, by omega, rfl, rfl, Nat.zero_le _, by omega, HM0.out, hF0, Lib.hid (fun d g h0 h1 _ _ => by omega), hB0⟩
  case round =>
    clear hB0
    obtain ⟨D, M, q, f, hD, rfl, rfl, hM, hq, hmp, hf, hMV, hW⟩ := hrel
    obtain ⟨wo, rfl⟩ : ∃ wo, wo = wr := ⟨_, rfl⟩
    by_cases hlt : D < 10
    · have hltI : (D : Int) ≤ 9 := by omega
      have HMP := Lib.hid hmp
      clear hmp
      go_wp2
      go_loopw [4, 7, 8, 9, 10, 11] (fun mo gr _ _ _ _ wr => ∃ G M q : Nat, ∃ f : Int → Int → Nat, G ≤ 10 ∧ gr = .int .i64 G ∧ mo = .int .i64 M ∧ M ≤ r ∧ q ≤ 10 * D + G ∧ MapP wr b q f ∧ Hid (∀ d g : Int, 0 ≤ d → d ≤ 9 → 0 ≤ g → g ≤ 9 → f d g = if d < (D : Int) ∨ d = (D : Int) ∧ g < (G : Int) then Pl.val l d g else 0) ∧ Hid (∀ d g : Int, 0 ≤ d → 0 ≤ g → g ≤ 9 → (d < (D : Int) ∨ d = (D : Int) ∧ g < (G : Int)) → Pl.val l d g ≤ M) ∧ Below w.heap.size w wr) (fun _ gr _ _ _ _ _ => 10 - (intOf gr).toNat)
      case atStart => exact ⟨0, M, q, f, by omega, rfl, rfl, hM, by omega, HMP.out, Lib.hid (fun d g h0 h1 h2 h3 => by
        rw [hf.out d g h0 h1 h2 h3]
        by_cases hd : d < (D : Int)
        · rw [if_pos hd, if_pos (.inl hd)]
        · rw [if_neg hd, if_neg (by omega)]), Lib.hid (fun d g h0 h2 h3 h4 => hMV.out d g h0 (by omega) h2 h3), hW⟩
      case round =>
        clear hW hf hMV HMP hq hM
        obtain ⟨G, M, q, f, hG, rfl, rfl, hM, hq, hmp, hf, hMV, hW⟩ := hrel
        obtain ⟨w4, rfl⟩ : ∃ w4, w4 = wr := ⟨_, rfl⟩
        by_cases hltG : G < 10
        · have hltGI : (G : Int) ≤ 9 := by omega
          have HMP := Lib.hid hmp
          have hmb : b < w4.heap.size := hmp.lt
          have HW := Lib.hid hW
          clear hmp hW
          go_wp2
          go_loop [8, 9] (fun nv i => ∃ k N : Nat, k ≤ n ∧ i = .int .i64 k ∧ nv = .int .i64 N ∧ N ≤ 1 ∧ Hid (N = 0 → ∀ i, i < k → ¬ ((Pl.at' l i).dark = (D : Int) ∧ (Pl.at' l i).grain = (G : Int))) ∧ Hid (N = 1 → ∃ i, i < n ∧ (Pl.at' l i).dark = (D : Int) ∧ (Pl.at' l i).grain = (G : Int))) (fun _ i => n - (intOf i).toNat)
          case atStart => exact ⟨0, 0, Nat.zero_le _, rfl, rfl, by omega, Lib.hid (fun _ i hi => absurd hi (Nat.not_lt_zero _)), Lib.hid (fun h => by omega)⟩
          case round =>
            obtain ⟨k, N, hk, rfl, rfl, hN1, hno, hyes⟩ := hrel
            by_cases hltk : k < n
            · have hltkI : (k : Int) < (n : Int) := by omega
              obtain ⟨bz, oz, rfl, hbz, hcz⟩ := bts_open HI.out (by rw [HN.out]; omega)
              have hck := bt_cells (bts_cells hbz hcz HW.out (i := k) (by rw [HN.out]; exact hltk))
              have c1 := hck.2.1
              have c2 := hck.2.2.1
              have HVk := Lib.hid (HVB.out k hltk)
              clear hck hcz
              by_cases e1 : (Pl.at' l k).dark = (D : Int)
              · by_cases e2 : (Pl.at' l k).grain = (G : Int)
                · have HY : Hid (∃ i, i < n ∧ (Pl.at' l i).dark = (D : Int) ∧ (Pl.at' l i).grain = (G : Int)) := Lib.hid ⟨k, hltk, e1, e2⟩
                  rw [e1] at c1
                  rw [e2] at c2
                  clear e1 e2
                  go_wp2
                  go_round
                  case rel => exact ⟨k + 1, 1, by omega, by go_num, rfl, by omega, Lib.hid (fun h => by omega), Lib.hid (fun _ => HY.out)⟩
                  case measure => simp [intOf]; omega
                · have HK : Hid (N = 0 → ∀ i, i < k + 1 → ¬ ((Pl.at' l i).dark = (D : Int) ∧ (Pl.at' l i).grain = (G : Int))) := Lib.hid (fun h i hi hh => by
                    rcases Nat.lt_succ_iff_lt_or_eq.1 hi with h' | rfl
                    · exact hno.out h i h' hh
                    · exact e2 hh.2)
                  rw [e1] at c1
                  generalize (Pl.at' l k).grain = y at *
                  have g2 : (y == (G : Int)) = false := by simp [e2]
                  clear e1 e2
                  go_wp2
                  go_round
                  case rel => exact ⟨k + 1, N, by omega, by go_num, rfl, hN1, HK, hyes⟩
                  case measure => simp [intOf]; omega
              · have HK : Hid (N = 0 → ∀ i, i < k + 1 → ¬ ((Pl.at' l i).dark = (D : Int) ∧ (Pl.at' l i).grain = (G : Int))) := Lib.hid (fun h i hi hh => by
                  rcases Nat.lt_succ_iff_lt_or_eq.1 hi with h' | rfl
                  · exact hno.out h i h' hh
                  · exact e1 hh.1)
                generalize (Pl.at' l k).dark = y at *
                have g1 : (y == (D : Int)) = false := by simp [e1]
                clear e1
                go_wp2
                go_round
                case rel => exact ⟨k + 1, N, by omega, by go_num, rfl, hN1, HK, hyes⟩
                case measure => simp [intOf]; omega
            · obtain rfl : n = k := by omega
              rcases (show N = 0 ∨ N = 1 by omega) with rfl | rfl
              · have HV0 := Lib.hid (HNO.out (D : Int) (G : Int) (hno.out rfl))
                have HF' : Hid (∀ d g : Int, 0 ≤ d → d ≤ 9 → 0 ≤ g → g ≤ 9 → f d g = if d < (D : Int) ∨ d = (D : Int) ∧ g < ((G + 1 : Nat) : Int) then Pl.val l d g else 0) := Lib.hid (fun d g h0 h1 h2 h3 => by
                  rw [hf.out d g h0 h1 h2 h3]
                  by_cases e : d = (D : Int) ∧ g = (G : Int)
                  · obtain ⟨rfl, rfl⟩ := e
                    rw [HV0.out]; simp
                  · by_cases e2 : d < (D : Int) ∨ d = (D : Int) ∧ g < (G : Int)
                    · rw [if_pos e2, if_pos (by omega)]
                    · rw [if_neg e2, if_neg (by omega)])
                have HM' : Hid (∀ d g : Int, 0 ≤ d → 0 ≤ g → g ≤ 9 → (d < (D : Int) ∨ d = (D : Int) ∧ g < ((G + 1 : Nat) : Int)) → Pl.val l d g ≤ M) := Lib.hid (fun d g h0 h2 h3 h4 => by
                  by_cases e : d = (D : Int) ∧ g = (G : Int)
                  · obtain ⟨rfl, rfl⟩ := e
                    rw [HV0.out]; omega
                  · exact hMV.out d g h0 h2 h3 (by omega))
                clear hno hyes hf hMV
                go_wp2
                go_roundw
                case rel => exact ⟨G + 1, M, q, f, by omega, by go_num, rfl, hM, by omega, HMP.out, HF', HM', HW.out⟩
                case measure => simp [intOf]; omega
              · obtain ⟨i0, hi0, hd0, hg0⟩ := hyes.out rfl
                obtain ⟨j, hj, hup, hlast⟩ := HSO.out (D : Int) (G : Int) i0 hi0 hd0 hg0
                have hj4 : j ≤ 40 := by have := HLE.out (D : Int) (G : Int); omega
                have HUP := Lib.hid hup
                have HLA := Lib.hid hlast
                have HJ := Lib.hid hj
                clear hno hyes hi0 hd0 hg0 hup hlast hj
                go_wp2
                go_loop [8, 10, 11] (fun nv d _ => ∃ E N : Nat, E ≤ D ∧ d = .int .i64 E ∧ nv = .int .i64 N ∧ 1 ≤ N ∧ N ≤ j + 1 ∧ Hid (∀ d' g' : Int, 0 ≤ d' → d' < (E : Int) → (G : Int) < g' → g' ≤ 9 → Pl.val l d' g' + 1 ≤ N)) (fun _ d _ => D - (intOf d).toNat)
                case atStart => exact ⟨0, 1, Nat.zero_le _, rfl, rfl, by omega, by omega, Lib.hid (fun d' g' h0 h1 _ _ => by omega)⟩
                case round =>
                  obtain ⟨E, N, hE, rfl, rfl, hN1, hN2, hNV⟩ := hrel
                  by_cases hltE : E < D
                  · have hltEI : (E : Int) < (D : Int) := by omega
                    go_wp2
                    go_loop [8, 11] (fun nv g => ∃ H N : Nat, G + 1 ≤ H ∧ H ≤ 10 ∧ g = .int .i64 H ∧ nv = .int .i64 N ∧ 1 ≤ N ∧ N ≤ j + 1 ∧ Hid (∀ d' g' : Int, 0 ≤ d' → (d' < (E : Int) ∨ d' = (E : Int) ∧ g' < (H : Int)) → (G : Int) < g' → g' ≤ 9 → Pl.val l d' g' + 1 ≤ N)) (fun _ g => 10 - (intOf g).toNat)
                    case atStart => exact ⟨G + 1, N, by omega, by omega, by go_num, rfl, hN1, hN2, Lib.hid (fun d' g' h0 h1 h2 h3 => hNV.out d' g' h0 (by omega) h2 h3)⟩
                    case round =>
                      clear hNV hN1 hN2
                      obtain ⟨H, N, hH1, hH2, rfl, rfl, hN1, hN2, hNV⟩ := hrel
                      by_cases hltH : H < 10
                      · have hltHI : (H : Int) ≤ 9 := by omega
                        have hlk := HMP.out.look (d := (E : Int)) (g := (H : Int)) (by omega) (by omega) (by omega) (by omega)
                        rw [hf.out (E : Int) (H : Int) (by omega) (by omega) (by omega) (by omega), if_pos (.inl hltEI)] at hlk
                        have hvu := HUP.out (E : Int) (H : Int) hltEI (by omega)
                        have HNX : Hid (∀ d' g' : Int, 0 ≤ d' → (d' < (E : Int) ∨ d' = (E : Int) ∧ g' < ((H + 1 : Nat) : Int)) → (G : Int) < g' → g' ≤ 9 → Pl.val l d' g' + 1 ≤ max N (Pl.val l (E : Int) (H : Int) + 1)) := Lib.hid (fun d' g' h0 h1 h2 h3 => by
                          by_cases e : d' = (E : Int) ∧ g' = (H : Int)
                          · obtain ⟨rfl, rfl⟩ := e
                            omega
                          · have := hNV.out d' g' h0 (by omega) h2 h3
                            omega)
                        generalize Pl.val l (E : Int) (H : Int) = y at *
                        clear hNV
                        go_wp2
                        go_round
                        case rel => exact ⟨H + 1, max N (y + 1), by omega, by omega, by go_num, by congr 1; omega, by omega, by omega, HNX⟩
                        case measure => simp [intOf]; omega
                      · obtain rfl : H = 10 := by omega
                        go_wp2
                        go_round
                        case rel => exact ⟨E + 1, N, by omega, by go_num, rfl, hN1, hN2, Lib.hid (fun d' g' h0 h1 h2 h3 => hNV.out d' g' h0 (by omega) h2 h3)⟩
                        case measure => simp [intOf]; omega
                  · obtain rfl : D = E := by omega
                    have hNj : N = j + 1 := HLA.out N hN1 hN2 hNV.out
                    have HNJ := Lib.hid hNj
                    obtain ⟨w5, hrun, hmp5, hg5⟩ := HMP.out.store (by unfold maxLen; omega) (d := (D : Int)) (g := (G : Int)) N (by omega) (by omega) (by omega) (by omega)
                    have hW5 := Lib.hid (HW.out.grown hg5 HW.out.size (fun s e => by cases e; exact hwb))
                    have HMP5 := Lib.hid hmp5
                    have HF' : Hid (∀ d g : Int, 0 ≤ d → d ≤ 9 → 0 ≤ g → g ≤ 9 → (fun d' g' => if d' = (D : Int) ∧ g' = (G : Int) then N else f d' g') d g = if d < (D : Int) ∨ d = (D : Int) ∧ g < ((G + 1 : Nat) : Int) then Pl.val l d g else 0) := Lib.hid (fun d g h0 h1 h2 h3 => by
                      show (if d = (D : Int) ∧ g = (G : Int) then N else f d g) = _
                      by_cases e : d = (D : Int) ∧ g = (G : Int)
                      · rw [if_pos e, if_pos (by omega), e.1, e.2, HJ.out, hNj]
                      · rw [if_neg e, hf.out d g h0 h1 h2 h3]
                        by_cases e2 : d < (D : Int) ∨ d = (D : Int) ∧ g < (G : Int)
                        · rw [if_pos e2, if_pos (by omega)]
                        · rw [if_neg e2, if_neg (by omega)])
                    have HM' : Hid (∀ d g : Int, 0 ≤ d → 0 ≤ g → g ≤ 9 → (d < (D : Int) ∨ d = (D : Int) ∧ g < ((G + 1 : Nat) : Int)) → Pl.val l d g ≤ max M N) := Lib.hid (fun d g h0 h2 h3 h4 => by
                      by_cases e : d = (D : Int) ∧ g = (G : Int)
                      · rw [e.1, e.2, HJ.out]; omega
                      · have := hMV.out d g h0 h2 h3 (by omega)
                        omega)
                    have hjr : N ≤ r := by rw [hNj]; have := HLE.out (D : Int) (G : Int); rw [HJ.out] at this; exact this
                    clear hmp5 hg5 hf hMV hNV hNj
                    go_wp2
                    go_roundw
                    case rel => exact ⟨G + 1, max M N, q + 1, _, by omega, by go_num, by congr 1; omega, by omega, by omega, HMP5.out, HF', HM', hW5.out⟩
                    case measure => simp [intOf]; omega
        · obtain rfl : G = 10 := by omega
          have HMP := Lib.hid hmp
          clear hmp
          go_wp2
          go_roundw
          case rel => exact ⟨D + 1, M, q, f, by omega, by go_num, rfl, hM, by omega, HMP.out, Lib.hid (fun d g h0 h1 h2 h3 => by
            rw [hf.out d g h0 h1 h2 h3]
            by_cases e2 : d < (D : Int) ∨ d = (D : Int) ∧ g < ((10 : Nat) : Int)
            · rw [if_pos e2, if_pos (by omega)]
            · rw [if_neg e2, if_neg (by omega)]), Lib.hid (fun d g h0 h1 h2 h3 => hMV.out d g h0 h2 h3 (by omega)), hW⟩
          case measure => simp [intOf]; omega
    · obtain rfl : D = 10 := by omega
      have HR : Hid (M = r) := Lib.hid (by
        rcases Nat.eq_zero_or_pos r with h0 | h0
        · omega
        · obtain ⟨i, hi, he⟩ := HMX.out h0
          obtain ⟨a1, a2, a3, a4⟩ := HVB.out i hi
          have := hMV.out _ _ a1 (by omega) a3 a4
          omega)
      clear hmp hf hMV
      go_wp2
      go_ret2
      exact ⟨by rw [HR.out]; rfl, hW⟩
end Go.Proofs.Ytlfbfdhdkccaeaa
