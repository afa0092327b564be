/- Bound of the document; BarrelBounds. -/
import Derived.Test.YtlfbfdhdkccaeaaE1
namespace Go.Proofs.Ytlfbfdhdkccaeaa
open Go.RowKit Go.Shelf Go.Sort

set_option maxRecDepth 100000 in
set_option maxHeartbeats 4000000 in
theorem rBound_any (A : Option Addr) (l : List Pl.Bt) (c n : Nat) (hn : l.length = n) (b cl : Int) (w : World) (hI : Bts w A l) :
    Calls Try.prog 35 #[.slice A n c, .int .i64 b, .int .i64 cl] w fun e w' => e = .returned (.tuple #[.int .i64 (Pl.bdV l b cl), .int .i64 (Pl.bdE l b cl)]) ∧ Below w.heap.size w w' := by
  have HC := Lib.hid (rvalid_any A l c w hI)
  obtain ⟨V, hV⟩ : ∃ V, Pl.bdV l b cl = V := ⟨_, rfl⟩
  obtain ⟨r, hr⟩ : ∃ r, Pl.bdE l b cl = r := ⟨_, rfl⟩
  have HV : Hid (V = if r = 0 then (if Pl.us l b = 0 then 0 else cl + max (Pl.mk l n) (Pl.cd (Pl.sk l n) (Pl.us l b))) else 0) := Lib.hid (by rw [← hV, ← hr, ← hn]; rfl)
  rw [hV, hr]
  obtain ⟨x, hx⟩ : ∃ x, Pl.vs l = x := ⟨_, rfl⟩
  rw [hx, hn] at HC
  cases x
  · have HF : Hid (V = 0 ∧ r = 60) := Lib.hid (by
      have h6 : r = 60 := by rw [← hr, Pl.bdE_no hx]
      exact ⟨by rw [HV.out, if_neg (by omega)], h6⟩)
    clear hI hn hr hV hx HV
    go_enter Try.func35, Try.ntmps35
    go_wp2_with fail
    refine HC.out.mono ?_
    rintro e w1 ⟨rfl, hb1⟩
    go_wp2
    go_ret2
    exact ⟨by rw [HF.out.1, HF.out.2]; rfl, hb1⟩
  obtain ⟨y, hy⟩ : ∃ y, Pl.shop b cl = y := ⟨_, rfl⟩
  have HSH := Lib.hid (fun w' => shop_b b cl y hy w')
  cases y
  · have HF : Hid (V = 0 ∧ r = 2) := Lib.hid (by
      have h6 : r = 2 := by rw [← hr, Pl.bdE_bad hx hy]
      exact ⟨by rw [HV.out, if_neg (by omega)], h6⟩)
    clear hI hn hr hV hx HV hy
    go_enter Try.func35, Try.ntmps35
    go_wp2_with fail
    refine HC.out.mono ?_
    rintro e w1 ⟨rfl, hb1⟩
    go_wp2_with fail
    refine (HSH.out _).mono ?_
    rintro e w2 ⟨rfl, rfl⟩
    go_wp2
    go_ret2
    exact ⟨by rw [HF.out.1, HF.out.2]; rfl, hb1⟩
  have HR : Hid (r = 0) := Lib.hid (by rw [← hr, Pl.bdE_ok hx hy])
  have hok := Pl.ok_of hx
  have hn4 : n ≤ 40 := hn ▸ hok.len
  obtain ⟨⟨hb1, hb8⟩, hc0, hc1⟩ := Pl.shop_true.1 hy
  have HBD := Lib.hid (fun k (hk : k ≤ n) => Pl.sk_bd hok k (by omega))
  have HRB := Lib.hid (fun k (hk : k ≤ n) => Pl.rl_bd hok hc0 hc1 k (by omega))
  have HRM := Lib.hid (fun k (hk : k < n) => Pl.rl_mk hok hc0 k (by omega))
  have HVB := Lib.hid (fun k (hk : k < n) => hok.vb k (by omega))
  have HSK : Hid (∀ k, Pl.sk l (k + 1) = Pl.sk l k + Pl.len (Pl.at' l k)) := Lib.hid (fun _ => rfl)
  have HRK : Hid (∀ k, Pl.rl l cl (k + 1) = max (Pl.rl l cl k) (Pl.len (Pl.at' l k) + cl)) := Lib.hid (fun _ => rfl)
  have HU : Hid (Pl.us l b = min b (n : Int)) := Lib.hid (by rw [← hn]; rfl)
  have HVV : Hid (V = if Pl.us l b = 0 then 0 else cl + max (Pl.mk l n) (Pl.cd (Pl.sk l n) (Pl.us l b))) := Lib.hid (by rw [HV.out, if_pos HR.out])
  have HI := Lib.hid hI
  have HN := Lib.hid hn
  clear hI hn hr hV hx HV hy hok
  by_cases hn0 : n = 0
  · have HF : Hid (V = 0) := Lib.hid (by rw [HVV.out, HU.out, if_pos (by omega)])
    subst hn0
    go_enter Try.func35, Try.ntmps35
    go_wp2_with fail
    refine HC.out.mono ?_
    rintro e w1 ⟨rfl, hB1⟩
    go_wp2_with fail
    refine (HSH.out _).mono ?_
    rintro e w2 ⟨rfl, hw2⟩
    rw [hw2]
    clear hw2
    go_wp2
    go_ret2
    exact ⟨by rw [HF.out, HR.out]; rfl, hB1⟩
  have hn0I : ((n : Int) == 0) = false := by simp; omega
  go_enter Try.func35, Try.ntmps35
  go_wp2_with fail
  refine HC.out.mono ?_
  rintro e w1 ⟨rfl, hB1⟩
  go_wp2_with fail
  refine (HSH.out _).mono ?_
  rintro e w2 ⟨rfl, hw2⟩
  rw [hw2]
  clear hw2
  go_wp2
  go_loopw [8, 9, 10] (fun s m i wr => ∃ k : Nat, k ≤ n ∧ i = .int .i64 k ∧ s = .int .i64 (Pl.sk l k) ∧ m = .int .i64 (Pl.rl l cl k) ∧ Below w.heap.size w wr) (fun _ _ i _ => n - (intOf i).toNat)
  case atStart => exact ⟨0, Nat.zero_le _, rfl, rfl, rfl, hB1⟩
  case round =>
    clear hB1
    obtain ⟨k, hk, rfl, rfl, rfl, hB⟩ := hrel
    obtain ⟨wo, rfl⟩ : ∃ wo, wo = wr := ⟨_, rfl⟩
    by_cases hlt : k < n
    · have hltI : (k : Int) < (n : Int) := by omega
      obtain ⟨bz, oz, rfl, hbz, hcz⟩ := bts_open HI.out (by have := HN.out; omega)
      have HCZ := Lib.hid (fun W (hB : Below w.heap.size w W) => bts_cells hbz hcz hB (i := k) (by have := HN.out; omega))
      have r1 := HCZ.out _ hB
      have hvb := HVB.out k hlt
      obtain ⟨⟨b1, b2⟩, _⟩ := HBD.out k hk
      obtain ⟨⟨b5, b6⟩, _⟩ := HBD.out (k + 1) hlt
      obtain ⟨b3, b4⟩ := HRB.out k hk
      have HS1 := Lib.hid (HSK.out k)
      have HS2 := Lib.hid (HRK.out k)
      rw [HS1.out] at b5 b6
      obtain ⟨l1, l2⟩ := hvb.len0
      have HLB := Lib.hid (fun w' => hours_b (Pl.at' l k) hvb w')
      clear hcz hvb
      generalize Pl.sk l k = S at *
      generalize Pl.rl l cl k = M at *
      generalize Pl.at' l k = E at *
      obtain ⟨LE, hLE⟩ : ∃ x, Pl.len E = x := ⟨_, rfl⟩
      rw [hLE] at HLB HS1 HS2 l1 l2 b5 b6
      clear hLE
      have k1 : IntKind.i64.wrap (S + LE) = S + LE := IntWalk.i64_in _ (by omega)
      have k2 : IntKind.i64.wrap (LE + cl) = LE + cl := IntWalk.i64_in _ (by omega)
      go_wp2_with (first | refine ldm_bt r1 rfl _ rfl rfl ?_)
      refine (HLB.out _).mono ?_
      rintro e w3 ⟨rfl, hb3⟩
      have hB3 := hB.trans (hb3.mono hB.size)
      have r3 := HCZ.out _ hB3
      clear hb3 r1 hB
      go_wp2_with (refine ldm_bt r3 rfl _ rfl rfl ?_)
      refine (HLB.out _).mono ?_
      rintro e w4 ⟨rfl, hb4⟩
      have hB4 := hB3.trans (hb4.mono hB3.size)
      clear hb4 hB3 r3
      go_wp2
      go_roundw
      case rel => exact ⟨k + 1, by omega, by go_num, by rw [HS1.out], by rw [HS2.out], hB4⟩
      case measure => simp [intOf]; omega
    · obtain rfl : k = n := by omega
      obtain ⟨⟨b1, b2⟩, b3, b4⟩ := HBD.out k hk
      obtain ⟨m, rfl⟩ : ∃ m, k = m + 1 := ⟨k - 1, by omega⟩
      have hrm := HRM.out m (by omega)
      rw [hrm]
      obtain ⟨u, hu⟩ : ∃ u, Pl.us l b = u := ⟨_, rfl⟩
      have hu2 : u = min b ((m + 1 : Nat) : Int) := by rw [← hu, HU.out]
      have HF : Hid (V = cl + max (Pl.mk l (m + 1)) (Pl.cd (Pl.sk l (m + 1)) u)) := Lib.hid (by rw [HVV.out, hu, if_neg (by omega)])
      clear hu HVV HU hrm HRM
      generalize Pl.sk l (m + 1) = S at *
      generalize Pl.mk l (m + 1) = M at *
      have k1 : IntKind.i64.wrap (S + cl) = S + cl := IntWalk.i64_in _ (by omega)
      have hone : cl + Pl.cd S 1 = S + cl := by rw [Pl.cd_one]; omega
      have HU2 := Lib.hid hu2
      have hu1 : 1 ≤ u := by omega
      have hu8 : u ≤ 8 := by omega
      clear hu2
      have HONE := Lib.hid hone
      clear hone
      go_wp2
      go_loop [11, 12] (fun s i => ∃ q : Int, 2 ≤ q ∧ q ≤ u + 1 ∧ i = .int .i64 q ∧ s = .int .i64 (cl + Pl.cd S (q - 1))) (fun _ i => (u + 1 - intOf i).toNat)
      case atStart => exact ⟨2, by omega, by omega, rfl, by rw [show (2 : Int) - 1 = 1 from rfl, HONE.out]⟩
      case round =>
        obtain ⟨q, hq2, hq9, rfl, rfl⟩ := hrel
        by_cases hqu : q ≤ u
        · have e1 : q ≤ b := by have := HU2.out; omega
          have e2 : q ≤ ((m + 1 : Nat) : Int) := by have := HU2.out; omega
          have hq8 : q ≤ 8 := by omega
          have HST := Lib.hid (Pl.cd_step (S := S) (c := cl) (b := q) b1 hq2 hq8)
          have hcd := Pl.cd_bd (S := S) (b := q - 1) b1 (by omega) (by omega)
          generalize Pl.cd S (q - 1) = D at *
          obtain ⟨X, hX⟩ : ∃ X, (S + q * cl + q - 1) / q = X := ⟨_, rfl⟩
          have hqc : 0 ≤ q * cl ∧ q * cl ≤ 800 := ⟨Int.mul_nonneg (by omega) hc0, by have : q * cl ≤ 8 * 100 := Int.mul_le_mul hq8 hc1 hc0 (by omega); omega⟩
          rw [hX] at HST
          have hX0 : 0 ≤ X := by rw [← hX]; exact Int.ediv_nonneg (by omega) (by omega)
          obtain ⟨qc, hqcE⟩ : ∃ z, q * cl = z := ⟨_, rfl⟩
          rw [hqcE] at hqc hX
          obtain ⟨c3, c4⟩ := hqc
          obtain ⟨d1, d2⟩ := hcd
          have k2 : IntKind.i64.wrap (q * cl) = qc := by rw [hqcE]; exact IntWalk.i64_in _ (by omega)
          have k3 : IntKind.i64.wrap (S + qc) = S + qc := IntWalk.i64_in _ (by omega)
          have k4 : IntKind.i64.wrap (S + qc + q) = S + qc + q := IntWalk.i64_in _ (by omega)
          have k5 : IntKind.i64.wrap (S + qc + q - 1) = S + qc + q - 1 := IntWalk.i64_in _ (by omega)
          have k6 : (S + qc + q - 1).tdiv q = X := by rw [Int.tdiv_eq_ediv_of_nonneg (by omega)]; exact hX
          have k7 : ¬ q = 0 := by omega
          have hXle : X ≤ S + qc + q - 1 := by rw [← hX]; exact Int.ediv_le_self q (by omega)
          have k8 : IntKind.i64.wrap X = X := IntWalk.i64_in _ (by omega)
          have k9 : IntKind.i64.wrap (q + 1) = q + 1 := IntWalk.i64_in _ (by omega)
          go_wp2
          go_round
          case rel => exact ⟨q + 1, by omega, by omega, by first | rfl | (simp), by rw [show q + 1 - 1 = q from by omega, ← HST.out]⟩
          case measure => simp [intOf]; omega
        · obtain rfl : q = u + 1 := by omega
          have he : ¬ u + 1 ≤ b ∨ (u + 1 ≤ b ∧ ¬ u + 1 ≤ ((m + 1 : Nat) : Int)) := by have := HU2.out; omega
          have hcd := Pl.cd_bd (S := S) (b := u) b1 (by omega) (by omega)
          have HD2 : Hid (Pl.cd S (u + 1 - 1) = Pl.cd S u) := Lib.hid (by rw [show u + 1 - 1 = u from by omega])
          rw [HD2.out]
          generalize Pl.cd S u = D at *
          have HMX : Hid (max (M + cl) (cl + D) = cl + max M D) := Lib.hid (by omega)
          rcases he with he | ⟨he, he2⟩
          · go_wp2
            go_ret2
            exact ⟨by rw [HF.out, HR.out, ← HMX.out]; rfl, hB⟩
          · go_wp2
            go_ret2
            exact ⟨by rw [HF.out, HR.out, ← HMX.out]; rfl, hB⟩
end Go.Proofs.Ytlfbfdhdkccaeaa
