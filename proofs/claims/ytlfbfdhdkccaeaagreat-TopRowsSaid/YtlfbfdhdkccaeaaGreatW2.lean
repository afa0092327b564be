/- rowFor. -/
import Derived.Test.YtlfbfdhdkccaeaaGreatW1
namespace Go.Proofs.YtlfbfdhdkccaeaaGreat
open Go.RowKit Go.Shelf

theorem Pl.rfs_lt {l : List Pl.Bt} {rows : List (List Nat)} {b : Pl.Bt} : ∀ k, k ≤ rows.length → (Pl.rfs l rows b k).1 ≤ rows.length
  | 0, _ => Nat.le_refl _
  | k + 1, h => by
    rw [Pl.rfs]
    split
    · show k ≤ _; omega
    · exact Pl.rfs_lt k (by omega)

set_option maxRecDepth 100000 in
set_option maxHeartbeats 4000000 in
theorem rowFor_b (A : Option Addr) (l : List Pl.Bt) (c n : Nat) (hn : l.length = n) (hn4 : n ≤ 40) (AR : Option Addr) (rows : List (List Nat)) (cR m : Nat) (hm : rows.length = m) (hm4 : m ≤ 40)
    (hrow : ∀ j, j < m → 0 < (rows.getD j []).length ∧ (rows.getD j []).length ≤ 40 ∧ Pl.lst (rows.getD j []) < n) (b : Pl.Bt) (w : World) (hI : Bts w A l) (hR : RR irc 1 w AR rows) :
    Calls Tryz.prog 40 #[.slice A n c, .slice AR m cR, .agg (btA b)] w fun e w' => e = .returned (.int .i64 (Pl.rf l rows b : Nat)) ∧ Below w.heap.size w w' := by
  have HI := Lib.hid hI
  have HR := Lib.hid hR
  have HN := Lib.hid hn
  have HM := Lib.hid hm
  have HW := Lib.hid hrow
  have HV : Hid (Pl.rf l rows b = (Pl.rfs l rows b m).1) := Lib.hid (by rw [← hm]; rfl)
  have HS0 : Hid (Pl.rfs l rows b 0 = (m, -1)) := Lib.hid (by rw [← hm]; rfl)
  have hB := (Below.refl w.heap.size w).alloc (Nat.le_refl _) (.cells (btA b) 48)
  have bB := Blk.new w 48 (btA b)
  clear hI hR hn hm hrow
  obtain ⟨g, hg⟩ : ∃ g, g = w.heap.size := ⟨_, rfl⟩
  have hgl : g ≤ w.heap.size := by omega
  rw [← hg] at bB
  go_enter Tryz.func40, Tryz.ntmps40
  go_wp2
  rw [← hg]
  clear hg
  go_loopw [7, 8, 9, 10, 11, 16] (fun v7 v8 _ _ _ i wr => ∃ k : Nat, ∃ P : Nat, ∃ G : Int, k ≤ m ∧ i = .int .i64 k ∧ v7 = .int .i64 P ∧ v8 = .int .i64 G ∧ Hid (Pl.rfs l rows b k = (P, G)) ∧ Blk wr g 48 (btA b) ∧ Below w.heap.size w wr) (fun _ _ _ _ _ i _ => m - (intOf i).toNat)
  case atStart => exact ⟨0, m, -1, Nat.zero_le _, rfl, rfl, rfl, HS0, bB, hB⟩
  case round =>
    clear HS0 hB bB
    obtain ⟨k, P, G, hk, rfl, rfl, rfl, hS, bB, hB⟩ := hrel
    obtain ⟨wo, rfl⟩ : ∃ wo, wo = wr := ⟨_, rfl⟩
    by_cases hlt : k < m
    · have hltI : (k : Int) < (m : Int) := by omega
      have hkr : k < rows.length := by rw [HM.out]; exact hlt
      obtain ⟨br, or, rfl, hbr, hcr⟩ := HR.out.open (by omega)
      obtain ⟨A', c', hq, hrr, _, _⟩ := hcr k hkr
      obtain ⟨r0, r40, rl⟩ := HW.out k hlt
      have hq1 : wo.cell? ⟨br, or + k, none⟩ = _ := (hB.cell (p := ⟨br, or + k, none⟩) hbr).trans hq
      have HRR := Lib.hid (hrr.below hB)
      obtain ⟨bz, oz, rfl, hbz, hcz⟩ := bts_open HI.out (by rw [HN.out]; omega)
      have hck := bts_cells hbz hcz hB (i := Pl.lst (rows.getD k [])) (by rw [HN.out]; exact rl)
      have HST : Hid (Pl.rfs l rows b (k + 1) = if Pl.may (Pl.at' l (Pl.lst (rows.getD k []))) b = true ∧ G < (Pl.at' l (Pl.lst (rows.getD k []))).grain then (k, (Pl.at' l (Pl.lst (rows.getD k []))).grain) else (P, G)) := Lib.hid (by
        rw [Pl.rfs, hS.out]; rfl)
      clear hcr hq hcz hrr
      generalize rows.getD k [] = row at *
      have hrlI : ((Pl.lst row : Nat) : Int) < (n : Int) := by omega
      generalize hL : Pl.lst row = L at *
      have HL := Lib.hid hL
      clear hL
      obtain ⟨z, hz⟩ : ∃ z, row.length = z := ⟨_, rfl⟩
      have HZ := Lib.hid hz
      rw [hz] at hq1 r0 r40
      clear hz
      generalize Pl.at' l L = E at *
      obtain ⟨x, hx⟩ : ∃ x, Pl.may E b = x := ⟨_, rfl⟩
      have HX := Lib.hid hx
      rw [hx] at HST
      clear hx
      have hra := bB.range
      go_wp2_with fail
      refine (lastOf_b A' row c' z HZ.out r0 r40 _ HRR.out).mono ?_
      rw [HL.out]
      rintro e w1 ⟨rfl, hw1⟩
      rw [hw1]
      clear hw1
      have bE := Blk.new wo 48 (btA E)
      have hB1 := hB.alloc hB.size (.cells (btA E) 48)
      have bB1 := bB.alloc (.cells (btA E) 48)
      have hrE := bE.range
      have hrB := bB1.range
      go_wp2_with (first | refine ldm_bt hck rfl _ rfl rfl ?_ | refine ldm_bt hrE rfl _ rfl rfl ?_ | refine ldm_bt hrB rfl _ rfl rfl ?_)
      refine (may_b E b x HX.out _).mono ?_
      rintro e w2 ⟨rfl, hb2⟩
      have bE2 := bE.below hb2 bE.lt
      have bB2 := bB1.below hb2 bB1.lt
      have hB2 := hB1.trans (hb2.mono hB1.size)
      have q2 := bE2.cell 2
      clear bE bB1 hB1 hb2 hrE hrB hck hq1 bB hB hra
      generalize wo.heap.size = ge at *
      cases x with
      | false =>
        have HN2 : Hid (Pl.rfs l rows b (k + 1) = (P, G)) := Lib.hid (by rw [HST.out]; simp)
        clear HST
        go_wp2
        go_roundw
        case rel => exact ⟨k + 1, P, G, by omega, by go_num, rfl, rfl, HN2, bB2, hB2⟩
        case measure => simp [intOf]; omega
      | true =>
        by_cases hGg : G < E.grain
        · have HN2 : Hid (Pl.rfs l rows b (k + 1) = (k, E.grain)) := Lib.hid (by rw [HST.out]; simp [hGg])
          clear HST
          go_wp2
          go_quiet (fail)
          go_wp2
          go_roundw
          case rel => exact ⟨k + 1, k, E.grain, by omega, by go_num, rfl, rfl, HN2, bB2.drewN, Go.Proofs.YtlfbfdhdkccaeaaGreat.Below.drewN hB2⟩
          case measure => simp [intOf]; omega
        · have HN2 : Hid (Pl.rfs l rows b (k + 1) = (P, G)) := Lib.hid (by rw [HST.out]; simp [hGg])
          clear HST
          go_wp2
          go_roundw
          case rel => exact ⟨k + 1, P, G, by omega, by go_num, rfl, rfl, HN2, bB2, hB2⟩
          case measure => simp [intOf]; omega
    · obtain rfl : k = m := by omega
      have HE : Hid (Pl.rf l rows b = P) := Lib.hid (by rw [HV.out, hS.out])
      clear hS HV
      go_wp2
      go_ret
      exact ⟨by rw [HE.out]; rfl, hB⟩
end Go.Proofs.YtlfbfdhdkccaeaaGreat

