/- effect and balance of the program and of the document. -/
import Derived.Test.YtalfffkcmddakabE2
import Derived.Test.YtalfffkcmddakabJP
namespace Go.Proofs.Ytalfffkcmddakab
open Go.RowKit Go.Shelf

set_option maxRecDepth 100000 in
set_option maxHeartbeats 2000000 in
theorem effect_b (e : Pl.En) (hc : 0 ≤ e.c ∧ e.c ≤ 1000000000) (v : Int) (hv : Pl.ef e = v) (w : World) : Calls Try.prog 76 #[.agg (enA e)] w fun x w' => x = .returned (.int .i64 v) ∧ Below w.heap.size w w' := by
  have hB := (Below.refl w.heap.size w).alloc (Nat.le_refl _) (.cells (enA e) 72)
  have bX := Blk.new w 72 (enA e)
  have q0 := bX.cell 0
  have q3 := bX.cell 3
  have HB := Lib.hid hB
  have kN : IntKind.i64.wrap (-e.c) = -e.c := IntWalk.i64_in _ (by omega)
  clear hB bX hc
  rcases (show e.k = 1 ∨ e.k = 2 ∨ e.k = 3 ∨ (e.k ≠ 1 ∧ e.k ≠ 2 ∧ e.k ≠ 3) by omega) with h | h | h | ⟨h1, h2, h3⟩
  · have k1 : (e.k == 1) = true := by rw [h]; rfl
    have HV : Hid (v = e.c) := Lib.hid (by rw [← hv]; unfold Pl.ef; simp [h])
    clear hv h
    go_enter Try.func76, Try.ntmps76
    go_wp2
    go_ret
    exact ⟨by rw [HV.out]; rfl, HB.out⟩
  · have k1 : (e.k == 1) = false := by rw [h]; rfl
    have k2 : (e.k == 2) = true := by rw [h]; rfl
    have HV : Hid (v = -e.c) := Lib.hid (by rw [← hv]; unfold Pl.ef; simp [h])
    clear hv h
    go_enter Try.func76, Try.ntmps76
    go_wp2
    go_ret
    exact ⟨by rw [HV.out]; rfl, HB.out⟩
  · have k1 : (e.k == 1) = false := by rw [h]; rfl
    have k2 : (e.k == 2) = false := by rw [h]; rfl
    have k3 : (e.k == 3) = true := by rw [h]; rfl
    have HV : Hid (v = -e.c) := Lib.hid (by rw [← hv]; unfold Pl.ef; simp [h])
    clear hv h
    go_enter Try.func76, Try.ntmps76
    go_wp2
    go_ret
    exact ⟨by rw [HV.out]; rfl, HB.out⟩
  · have k1 : (e.k == 1) = false := by simpa using h1
    have k2 : (e.k == 2) = false := by simpa using h2
    have k3 : (e.k == 3) = false := by simpa using h3
    have HV : Hid (v = 0) := Lib.hid (by rw [← hv]; unfold Pl.ef; simp [h1, h2, h3])
    clear hv h1 h2 h3
    go_enter Try.func76, Try.ntmps76
    go_wp2
    go_ret
    exact ⟨by rw [HV.out]; rfl, HB.out⟩
set_option maxRecDepth 100000 in
set_option maxHeartbeats 4000000 in
theorem balance_b (A : Option Addr) (l : List Pl.En) (c n : Nat) (hn : l.length = n) (hm : n ≤ 200) (hve : ∀ e, e ∈ l → Pl.vE e = true) (day : Int) (v : Int) (hv : Pl.bal day l = v) (w : World) (hI : Rows enL 4 w A l) :
    Calls Try.prog 66 #[.slice A n c, .int .i64 day] w fun e w' => e = .returned (.int .i64 v) ∧ Below w.heap.size w w' := by
  have HI := Lib.hid hI
  have HN0 := Lib.hid hn
  have HVE := Lib.hid hve
  have HV := Lib.hid hv
  have HPB := Lib.hid (fun k (hk : k ≤ n) => Pl.bal_bound day hve k (by rw [hn]; exact hk))
  clear hI hn hve hv
  go_enter Try.func66, Try.ntmps66
  go_wp2
  go_loopw [5, 10] (fun p i wr => ∃ k : Nat, k ≤ n ∧ i = .int .i64 k ∧ p = .int .i64 (Pl.bal day (l.take k)) ∧ Below w.heap.size w wr) (fun _ i _ => n - (intOf i).toNat)
  case atStart => exact ⟨0, Nat.zero_le _, rfl, rfl, Below.refl _ _⟩
  case round =>
    obtain ⟨k, hk, rfl, rfl, hW⟩ := hrel
    obtain ⟨wo, rfl⟩ : ∃ wo, wo = wr := ⟨_, rfl⟩
    by_cases hlt : k < n
    · have hltI : (k : Int) < (n : Int) := by omega
      have hkx : k < l.length := by rw [HN0.out]; exact hlt
      obtain ⟨bx, ox, rfl, hbx, hcx⟩ := HI.out.open (by omega)
      have hr := row_at hbx hcx hW hkx
      have HST := Lib.hid (Pl.bal_step (d := day) hkx)
      have hve := HVE.out _ (List.getElem_mem hkx)
      have hyc := Pl.ef_bound hve
      have HCC := Lib.hid (Pl.ve_c hve)
      have hPb := HPB.out k hk
      clear hcx hve
      generalize l[k] = y at *
      generalize Pl.bal day (l.take k) = P at *
      obtain ⟨E, hE⟩ : ∃ E, Pl.ef y = E := ⟨_, rfl⟩
      have HEF := Lib.hid (fun W => effect_b y HCC.out E hE W)
      rw [hE] at HST hyc
      have kD : IntKind.i64.wrap (P + E) = P + E := IntWalk.i64_in _ (by omega)
      have bz := Blk.new wo 72 (#[.int .i64 0, .int .i64 0, .int .i64 0, .int .i64 0])
      have HW := Lib.hid hW
      clear hW hyc hPb hE
      by_cases h1 : y.d ≤ day
      · have HN : Hid (Pl.bal day (l.take (k + 1)) = P + E) := Lib.hid (by rw [HST.out, if_pos h1])
        clear HST
        go_wp2_with (first
          | (have h9 := bz
             refine st_en (k := y) bz rfl rfl _ _ rfl rfl rfl ?_
             clear h9
             intro w3 bY hO3
             have hb3 : Below wo.heap.size wo w3 := ((Below.refl wo.heap.size wo).alloc (Nat.le_refl _) (.cells (#[.int .i64 0, .int .i64 0, .int .i64 0, .int .i64 0]) 72)).trans (hO3.below (Nat.le_refl _))
             have p2 := bY.cell 2
             have hr7 := bY.range
             have HW3 := Lib.hid (HW.out.trans (hb3.mono HW.out.size))
             clear bz hO3 hb3 bY hr)
          | (have h9 := hr
             refine ldm_en hr rfl _ rfl rfl ?_
             clear h9)
          | (have h9 := hr7
             refine ldm_en hr7 rfl _ rfl rfl ?_
             clear h9))
        refine (HEF.out w3).mono ?_
        rintro e w4 ⟨rfl, hb4⟩
        have HW4 := Lib.hid (HW3.out.trans (hb4.mono HW3.out.size))
        clear hb4 hr7 p2
        go_wp2
        go_roundw
        case rel => exact ⟨k + 1, by omega, by go_num, by rw [HN.out], HW4.out⟩
        case measure => simp [intOf]; omega
      · have HN : Hid (Pl.bal day (l.take (k + 1)) = P) := Lib.hid (by rw [HST.out, if_neg h1])
        clear HST
        go_wp2_with (first
          | (have h9 := bz
             refine st_en (k := y) bz rfl rfl _ _ rfl rfl rfl ?_
             clear h9
             intro w3 bY hO3
             have hb3 : Below wo.heap.size wo w3 := ((Below.refl wo.heap.size wo).alloc (Nat.le_refl _) (.cells (#[.int .i64 0, .int .i64 0, .int .i64 0, .int .i64 0]) 72)).trans (hO3.below (Nat.le_refl _))
             have p2 := bY.cell 2
             have HW3 := Lib.hid (HW.out.trans (hb3.mono HW.out.size))
             clear bz hO3 hb3 bY hr)
          | (have h9 := hr
             refine ldm_en hr rfl _ rfl rfl ?_
             clear h9))
        clear p2
        go_roundw
        case rel => exact ⟨k + 1, by omega, by go_num, by rw [HN.out], HW3.out⟩
        case measure => simp [intOf]; omega
    · obtain rfl : k = n := by omega
      have HF : Hid (Pl.bal day (l.take k) = v) := Lib.hid (by rw [← HV.out, List.take_of_length_le (by rw [HN0.out]; exact Nat.le_refl _)])
      rw [HF.out]
      go_wp2
      go_ret
      exact ⟨rfl, hW⟩
end Go.Proofs.Ytalfffkcmddakab
