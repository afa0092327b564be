/- Judge, of the document. -/
import Derived.Test.YtlfbfdhdkccaeaaJ8
namespace Go.Proofs.Ytlfbfdhdkccaeaa
open Go.RowKit Go.Shelf Go.Sort

/-- the end of the run in front -/
def Pl.en (xs : List Pl.Rn) (j : Nat) : Int := if j = 0 then 0 else (xs.getD (j - 1) Pl.zr).t

set_option maxRecDepth 100000 in
set_option maxHeartbeats 32000000 in
theorem rJudge_any (A : Option Addr) (l : List Pl.Bt) (c n : Nat) (hn : l.length = n) (cl : Int) (AR : Option Addr) (runs : List (List Pl.Rn)) (cr m : Nat) (hm : runs.length = m) (hrw : ∀ r, r ∈ runs → ∀ y, y ∈ r → Pl.Rw y) (w : World) (hI : Bts w A l) (hR : RR rnL 4 w AR runs) :
    Calls Try.prog 41 #[.slice A n c, .int .i64 cl, .slice AR m cr] w fun e w' => ∃ x y z : Int, e = .returned (.tuple #[.int .i64 x, .int .i64 y, .int .i64 z]) ∧ Pl.IsJ l cl runs x y z ∧ Below w.heap.size w w' := by
  have HC := Lib.hid (rvalid_any A l c w hI)
  rw [hn] at HC
  obtain ⟨x, hx⟩ : ∃ x, Pl.vs l = x := ⟨_, rfl⟩
  rw [hx] at HC
  cases x
  · have HJ := Lib.hid (Pl.isJ_no (cl := cl) (runs := runs) hx)
    clear hI hn hm hrw hR hx
    go_enter Try.func41, Try.ntmps41
    go_wp2_with fail
    refine HC.out.mono ?_
    rintro e w1 ⟨rfl, hb1⟩
    go_wp2
    go_ret3
    exact ⟨_, _, _, rfl, HJ.out, hb1⟩
  have hok := Pl.ok_of hx
  have hn4 : n ≤ 40 := hn ▸ hok.len
  obtain ⟨z, hz⟩ : ∃ z, Pl.cwd runs = z := ⟨_, rfl⟩
  have HVR := Lib.hid (fun w' hR => rcrowd_b AR runs cr m hm z hz w' hR)
  have HRR := Lib.hid hR
  by_cases hc0 : cl < 0
  · have HJ := Lib.hid (Pl.isJ_bad (cl := cl) (runs := runs) hx (by intro h; have := Pl.inB_true.1 h.1; omega))
    clear hI hn hm hrw hR hx hok hz
    go_enter Try.func41, Try.ntmps41
    go_wp2_with fail
    refine HC.out.mono ?_
    rintro e w1 ⟨rfl, hb1⟩
    go_wp2
    go_ret3
    exact ⟨_, _, _, rfl, HJ.out, hb1⟩
  by_cases hc1 : 100 < cl
  · have HJ := Lib.hid (Pl.isJ_bad (cl := cl) (runs := runs) hx (by intro h; have := Pl.inB_true.1 h.1; omega))
    clear hI hn hm hrw hR hx hok hz
    go_enter Try.func41, Try.ntmps41
    go_wp2_with fail
    refine HC.out.mono ?_
    rintro e w1 ⟨rfl, hb1⟩
    go_wp2
    go_ret3
    exact ⟨_, _, _, rfl, HJ.out, hb1⟩
  have hd1 : decide (100 < cl) = false := decide_eq_false hc1
  cases z
  rotate_left
  · have HJ := Lib.hid (Pl.isJ_bad (cl := cl) (runs := runs) hx (by rw [hz]; simp))
    clear hI hn hm hrw hR hx hok hz
    go_enter Try.func41, Try.ntmps41
    go_wp2_with fail
    refine HC.out.mono ?_
    rintro e w1 ⟨rfl, hb1⟩
    have HR1 := Lib.hid (HRR.out.below hb1)
    go_wp2_with (go_at_call 75; refine (HVR.out _ HR1.out).mono ?_; rintro e w5 ⟨rfl, rfl⟩)
    go_ret3
    exact ⟨_, _, _, rfl, HJ.out, hb1⟩
  have hy : Pl.inB 0 cl 100 = true := Pl.inB_true.2 ⟨by omega, by omega⟩
  have hboth : Pl.inB 0 cl 100 = true ∧ Pl.cwd runs = false := ⟨hy, hz⟩
  have HAT : Hid (∀ k j e, k < m → j < (runs.getD k []).length → Pl.Jok l cl runs k j → Pl.je l cl runs k j = e → e ≠ 0 → Pl.IsJ l cl runs k j e) := Lib.hid (fun k j e hk hj h1 h2 h3 => Pl.isJ_at hx hboth (by rw [hm]; exact hk) hj h1 h2 h3)
  have HEND : Hid (Pl.Jok l cl runs m 0 → ∀ e, (if Pl.cov n (runs.flatten.map (·.b)) = true then 0 else 4) = e → Pl.IsJ l cl runs 0 0 e) := Lib.hid (fun h e he => Pl.isJ_end hx hboth (by rw [hm]; exact h) (by rw [hn]; exact he))
  have HCV : Hid (Pl.Jok l cl runs m 0 → Pl.cov n (runs.flatten.map (·.b)) = decide (n ≤ (Pl.db runs m 0).length)) := Lib.hid (fun h => by
    have h' := h
    rw [← hm] at h'
    obtain ⟨h1, h2⟩ := Pl.Jok.done runs.length (Nat.le_refl _) 0 (.inr rfl) (Nat.zero_le _) h'
    rw [hm] at h1 h2
    have e1 : runs.flatten.map (·.b) = Pl.db runs m 0 := by rw [← hm]; exact (Pl.db_end runs).symm
    rw [e1, Pl.cov_len h1 (by rw [← hn]; exact h2)])
  have hc0' : 0 ≤ cl := by omega
  have hc1' : cl ≤ 100 := by omega
  obtain ⟨hm8, hlen⟩ := Pl.cwd_no hz
  rw [hm] at hm8 hlen
  have HDB : Hid (∀ k j, k ≤ m → j ≤ 100 → (Pl.db runs k j).length ≤ 1000) := Lib.hid (fun k j hk hj => by
    have h2 := Pl.tl_bd (runs := runs) (B := 100) (by rw [hm]; exact hlen) k (by rw [hm]; exact hk)
    unfold Pl.tl at h2
    unfold Pl.db
    rw [List.length_map, List.length_append]
    have := List.length_take_le j (runs.getD k [])
    omega)
  have HLE := Lib.hid hlen
  have HI := Lib.hid hI
  have HOK := Lib.hid hok
  have HN := Lib.hid hn
  have HGR : Hid (∀ k, k < m → ∃ b off, AR = some ⟨b, off, none⟩ ∧ b < w.heap.size ∧ ∃ A' c', w.cell? ⟨b, off + k, none⟩ = some (.slice A' (runs.getD k []).length c') ∧ Rows rnL 4 w A' (runs.getD k []) ∧ (runs.getD k []).length ≤ c' ∧ c' ≤ maxLen) := Lib.hid (fun k hk => rr_rowR hR (by rw [hm]; exact hk))
  have HRW : Hid (∀ k j, k < m → j < (runs.getD k []).length → Pl.Rw ((runs.getD k []).getD j Pl.zr)) := Lib.hid (fun k j hk hj => by
    have h1 : runs.getD k [] ∈ runs := Pl.getD_memR [] (by rw [hm]; exact hk)
    exact hrw _ h1 _ (Pl.getD_memR _ hj))
  have HIX : Hid (∀ k j, Pl.Jok l cl runs k j → k < m → j ≤ (runs.getD k []).length → 0 < j → 0 ≤ ((runs.getD k []).getD (j - 1) Pl.zr).b ∧ ((runs.getD k []).getD (j - 1) Pl.zr).b < (n : Int)) := Lib.hid (fun k j h hk hj h0 => by rw [← hn]; exact h.ix (by rw [hm]; exact hk) hj h0)
  have HDN : Hid (∀ k, k < m → Pl.db runs k (runs.getD k []).length = Pl.db runs (k + 1) 0) := Lib.hid (fun k hk => Pl.db_next (by rw [hm]; exact hk) (Nat.le_refl _))
  have HD0 : Hid ((Pl.db runs 0 0).length = 0) := Lib.hid (by rw [Pl.db_zero]; rfl)
  clear hI hn hm hrw hR hx hok hy hz hboth hlen
  obtain ⟨i4, hi4, hz4, hn4', hy4⟩ := info_parts info4f
  go_enter Try.func41, Try.ntmps41
  go_wp2_with fail
  refine HC.out.mono ?_
  rintro e w1 ⟨rfl, hb1⟩
  have HR1 := Lib.hid (HRR.out.below hb1)
  have hmk := run_make w1 74 4 i4 (.bool false) Try.underlying74 hi4 hz4 .i64 .i64 (n : Int) (n : Int) (by omega) (by omega) (by rw [hy4]; omega) (by omega)
  rw [Int.toNat_natCast, hn4', Nat.mul_one] at hmk
  have hst : StB (w1.alloc (.cells (madeCells #[.bool false] n) 4)) w1.heap.size n (fun _ => false) := StF.new w1 n 4 Value.bool false
  have hB3 := hb1.alloc hb1.size (.cells (madeCells #[.bool false] n) 4)
  change Sem.run _ _ _ = Result.ok _ (w1.alloc (.cells (madeCells #[.bool false] n) 4)) at hmk
  have hgb : w.heap.size ≤ w1.heap.size := hb1.size
  generalize w1.alloc (.cells (madeCells #[.bool false] n) 4) = w3 at *
  obtain ⟨g, hg⟩ : ∃ g, w1.heap.size = g := ⟨_, rfl⟩
  rw [hg] at hst hmk hgb
  have HST := Lib.hid hst
  have HB3 := Lib.hid hB3
  clear hi4 hz4 hn4' hy4 hg HC hst hB3 hb1
  go_wp2_with (go_at_call 75; refine (HVR.out _ HR1.out).mono ?_; rintro e w5 ⟨rfl, rfl⟩)
  clear hmk HVR HR1
  go_loopw [10, 11, 12, 13, 14, 53, 66, 74, 88] (fun cn i _ _ _ _ _ _ _ wr => ∃ k : Nat, ∃ u, k ≤ m ∧ i = .int .i64 k ∧ cn = .int .i64 ((Pl.db runs k 0).length : Nat) ∧ StB wr g n u ∧ Hid (∀ q : Nat, q < n → u q = decide ((q : Int) ∈ Pl.db runs k 0)) ∧ Hid (Pl.Jok l cl runs k 0) ∧ Below w.heap.size w wr) (fun _ i _ _ _ _ _ _ _ _ => m - (intOf i).toNat)
  case atStart => exact ⟨0, _, Nat.zero_le _, rfl, by rw [HD0.out]; rfl, HST.out, Lib.hid (fun q _ => by rw [Pl.db_zero]; simp), Lib.hid Pl.Jok.zero, HB3.out⟩
  case round =>
    obtain ⟨k, u, hk, rfl, rfl, hst, hu, hJ, hW⟩ := hrel
    obtain ⟨wo, rfl⟩ : ∃ wo, wo = wr := ⟨_, rfl⟩
    by_cases hlt : k < m
    · have hltI : (k : Int) < (m : Int) := by omega
      obtain ⟨b, off, rfl, hb, A', c', h1, h2, h3, h4⟩ := HGR.out k hlt
      have HQ0 := Lib.hid (fun W (hB : Below w.heap.size w W) => (hB.cell (p := ⟨b, off + k, none⟩) hb).trans h1)
      have HX := Lib.hid h2
      have hLk := HLE.out k hlt
      have HATk := Lib.hid (fun j e => HAT.out k j e hlt)
      have HRWk := Lib.hid (fun j => HRW.out k j hlt)
      have HIXk := Lib.hid (fun j hJ => HIX.out k j hJ hlt)
      have HDNk := Lib.hid (HDN.out k hlt)
      have HDBk := Lib.hid (fun j => HDB.out k j hk)
      have HDS : Hid (∀ j, j < (runs.getD k []).length → Pl.db runs k (j + 1) = Pl.db runs k j ++ [((runs.getD k []).getD j Pl.zr).b]) := Lib.hid (fun j hj => Pl.db_succ hj)
      have HJN : Hid (∀ j, (runs.getD k []).length ≤ j → Pl.Jok l cl runs k j → Pl.Jok l cl runs (k + 1) 0) := Lib.hid (fun j hj h => h.next hj)
      have HJE : Hid (∀ j, Pl.je l cl runs k j = Pl.jr l cl (Pl.db runs k j) (runs.getD k []) j) := Lib.hid (fun _ => rfl)
      obtain ⟨row, hrow⟩ : ∃ r, runs.getD k [] = r := ⟨_, rfl⟩
      rw [hrow] at HQ0 HX hLk HATk HRWk HIXk HDNk HDS HJN HJE
      obtain ⟨U, hU⟩ : ∃ u, row.length = u := ⟨_, rfl⟩
      have HU := Lib.hid hU
      rw [hU] at HQ0 hLk HATk HRWk HIXk HDNk HDS HJN
      have HST2 := Lib.hid hst
      have HW2 := Lib.hid hW
      clear h1 h2 h3 h4 hrow hU hst hW
      go_wp2
      go_loopw [10, 12, 13, 14, 53, 66, 74, 88] (fun cn en i _ _ _ _ _ wr => ∃ j : Nat, ∃ u, j ≤ U ∧ i = .int .i64 j ∧ en = .int .i64 (Pl.en row j) ∧ cn = .int .i64 ((Pl.db runs k j).length : Nat) ∧ StB wr g n u ∧ Hid (∀ q : Nat, q < n → u q = decide ((q : Int) ∈ Pl.db runs k j)) ∧ Hid (Pl.Jok l cl runs k j) ∧ Below w.heap.size w wr) (fun _ _ i _ _ _ _ _ _ => U - (intOf i).toNat)
      case atStart => exact ⟨0, u, Nat.zero_le _, rfl, rfl, rfl, HST2.out, hu, hJ, HW2.out⟩
      case round =>
        clear hu hJ HST2 HW2
        obtain ⟨j, u2, hj, rfl, rfl, rfl, hst, hu, hJ, hW⟩ := hrel
        obtain ⟨w5, rfl⟩ : ∃ w5, w5 = wr := ⟨_, rfl⟩
        have q0 := HQ0.out w5 hW
        by_cases hltj : j < U
        · have hltjI : (j : Int) < (U : Int) := by omega
          have hjx : j < row.length := by rw [HU.out]; exact hltj
          have HAj := Lib.hid (fun e => HATk.out j e hltj hJ.out)
          have HDSj := Lib.hid (HDS.out j hltj)
          have hrwj := HRWk.out j hltj
          have hdb := HDBk.out j (by omega)
          have hdn := HDBk.out (j + 1) (by omega)
          have hEN1 : Hid (Pl.en row (j + 1) = (row.getD j Pl.zr).t) := Lib.hid (by unfold Pl.en; rw [if_neg (by omega), Nat.add_sub_cancel])
          have HJEj := Lib.hid (HJE.out j)
          have hIXj := HIXk.out j hJ.out hj
          obtain ⟨bx, ox, rfl, hbx, hcx⟩ := HX.out.open (by omega)
          have r1 := rangeAt_below (hcx j hjx) hbx hW
          have hr' : row[j] = row.getD j Pl.zr := by rw [List.getD_eq_getElem?_getD, List.getElem?_eq_getElem hjx]; rfl
          rw [hr'] at r1
          obtain ⟨r, hr⟩ : ∃ r, row.getD j Pl.zr = r := ⟨_, rfl⟩
          have HGD := Lib.hid hr
          rw [hr] at r1 HDSj hrwj hEN1
          obtain ⟨L, hL⟩ : ∃ L, (Pl.db runs k j).length = L := ⟨_, rfl⟩
          rw [hL] at hdb ⊢
          have HL1 : Hid ((Pl.db runs k (j + 1)).length = L + 1) := Lib.hid (by rw [HDSj.out, List.length_append, hL]; rfl)
          obtain ⟨rb, rf, rt, rc⟩ := r
          obtain ⟨E0, hE0⟩ : ∃ E0, Pl.en row j = E0 := ⟨_, rfl⟩
          have HE0 := Lib.hid hE0
          rw [hE0]
          have HST := Lib.hid hst
          have HWW := Lib.hid hW
          have bR := Blk.new w5 66 (rnA ⟨rb, rf, rt, rc⟩)
          have hB6 := hW.alloc hW.size (.cells (rnA ⟨rb, rf, rt, rc⟩) 66)
          have hst6 := hst.alloc (.cells (rnA ⟨rb, rf, rt, rc⟩) 66)
          have z0 := bR.cell 0
          have z1 := bR.cell 1
          have z2 := bR.cell 2
          have z3 := bR.cell 3
          have HB6 := Lib.hid hB6
          have HST6 := Lib.hid hst6
          have HIXC := Lib.hid (fun v hv w => risindex_b rb A n c v hv w)
          clear hr hr' hcx hst hW hB6 hst6 hL hE0 hdn
          by_cases hidx : 0 ≤ rb ∧ rb < (n : Int)
          rotate_left
          · have HF := Lib.hid (HAj.out 2 (by rw [HJEj.out]; exact Pl.jr_arg (by rw [HGD.out, HN.out]; exact fun h => hidx h.1)) (by decide))
            have HI2 := Lib.hid (fun w => HIXC.out false (decide_eq_false hidx) w)
            clear hidx HIXC bR z1 z2 z3
            go_wp2_with (refine ldm_rn r1 rfl _ rfl rfl ?_)
            refine (HI2.out _).mono ?_
            rintro e w7 ⟨rfl, hw7⟩
            subst hw7
            go_wp2
            go_ret3
            exact ⟨_, _, _, rfl, HF.out, HB6.out⟩
          have HI2 := Lib.hid (fun w => HIXC.out true (decide_eq_true hidx) w)
          by_cases hrf : rf < 0
          · have HF := Lib.hid (HAj.out 2 (by rw [HJEj.out]; exact Pl.jr_arg (by rw [HGD.out]; exact fun h => by have := h.2; simp only at this; omega)) (by decide))
            clear hidx HIXC bR z2 z3
            go_wp2_with (refine ldm_rn r1 rfl _ rfl rfl ?_)
            refine (HI2.out _).mono ?_
            rintro e w7 ⟨rfl, hw7⟩
            subst hw7
            go_wp2
            go_ret3
            exact ⟨_, _, _, rfl, HF.out, HB6.out⟩
          obtain ⟨q, rfl⟩ : ∃ q : Nat, rb = q := ⟨rb.toNat, by omega⟩
          have hqn : q < n := by omega
          have hqI : (q : Int) < (n : Int) := by omega
          have hA1 : (0 ≤ (row.getD j Pl.zr).b ∧ (row.getD j Pl.zr).b < (l.length : Int)) ∧ 0 ≤ (row.getD j Pl.zr).f := by rw [HGD.out, HN.out]; exact ⟨hidx, by show 0 ≤ rf; omega⟩
          have HA1 := Lib.hid hA1
          have hcu := HST6.out.cell hqn
          have hcuv := hu.out q hqn
          have hdf : decide (rf < 0) = false := decide_eq_false hrf
          clear hidx HIXC hA1
          by_cases hmem : (q : Int) ∈ Pl.db runs k j
          · have HF := Lib.hid (HAj.out 43 (by rw [HJEj.out]; exact Pl.jr_twice HA1.out (by rw [HGD.out]; exact hmem)) (by decide))
            rw [hcuv, decide_eq_true hmem] at hcu
            clear hcuv hmem bR z2 z3
            go_wp2_with (refine ldm_rn r1 rfl _ rfl rfl ?_)
            refine (HI2.out _).mono ?_
            rintro e w7 ⟨rfl, hw7⟩
            subst hw7
            go_wp2
            go_ret3
            exact ⟨_, _, _, rfl, HF.out, HB6.out⟩
          have HNM : Hid ((row.getD j Pl.zr).b ∉ Pl.db runs k j) := Lib.hid (by rw [HGD.out]; exact hmem)
          rw [hcuv, decide_eq_false hmem] at hcu
          have HU2 : Hid (∀ t : Nat, t < n → (fun t => if t = q then true else u2 t) t = decide ((t : Int) ∈ Pl.db runs k (j + 1))) := Lib.hid (fun t ht => by
            show (if t = q then true else u2 t) = _
            rw [HDSj.out]
            by_cases e : t = q
            · subst e; rw [if_pos rfl]; simp
            · rw [if_neg e, hu.out t ht]
              have : ¬ (t : Int) = (q : Int) := by omega
              simp [this])
          clear hcuv hmem
          by_cases hcl : rf < E0
          · have HF := Lib.hid (HAj.out 73 (by
              rw [HJEj.out]
              refine Pl.jr_clash HA1.out HNM.out (.inl ?_)
              have h1 := HE0.out
              unfold Pl.en at h1
              by_cases h0 : j = 0
              · rw [if_pos h0] at h1; omega
              · rw [if_neg h0] at h1; exact ⟨by omega, by rw [HGD.out, h1]; exact hcl⟩) (by decide))
            clear bR z2 z3
            go_wp2_with (refine ldm_rn r1 rfl _ rfl rfl ?_)
            refine (HI2.out _).mono ?_
            rintro e w7 ⟨rfl, hw7⟩
            subst hw7
            go_wp2
            go_ret3
            exact ⟨_, _, _, rfl, HF.out, HB6.out⟩
          have hdcl : decide (rf < E0) = false := decide_eq_false hcl
          obtain ⟨v, hv⟩ : ∃ v, Pl.er (Pl.at' l q) ⟨q, rf, rt, rc⟩ cl = v := ⟨_, rfl⟩
          have HTM := Lib.hid (fun W hI => timed_b A l c n q HN.out hqn _ rfl (HOK.out.vb q (by rw [HN.out]; exact hqn)) ⟨q, rf, rt, rc⟩ rfl hrwj cl hc0' hc1' v hv W hI)
          have HER : Hid (Pl.er (Pl.at' l (row.getD j Pl.zr).b.toNat) (row.getD j Pl.zr) cl = v) := Lib.hid (by rw [HGD.out]; exact hv)
          have HI6 := Lib.hid (HI.out.below HB6.out)
          have hr6 := bR.rn
          clear hv hrwj
          have HNC : Hid (v = true → ¬ ((0 < j ∧ (row.getD j Pl.zr).f < (row.getD (j - 1) Pl.zr).t) ∨ Pl.er (Pl.at' l (row.getD j Pl.zr).b.toNat) (row.getD j Pl.zr) cl = false)) := Lib.hid (fun hvt h => by
            rcases h with ⟨h0, h1⟩ | h1
            · have h2 := HE0.out
              unfold Pl.en at h2
              rw [if_neg (by omega)] at h2
              rw [HGD.out, h2] at h1
              exact hcl h1
            · rw [HER.out, hvt] at h1; cases h1)
          cases v
          · have HF := Lib.hid (HAj.out 73 (by rw [HJEj.out]; exact Pl.jr_clash HA1.out HNM.out (.inr HER.out)) (by decide))
            clear z2 z3
            go_wp2_with (refine ldm_rn r1 rfl _ rfl rfl ?_)
            refine (HI2.out _).mono ?_
            rintro e w7 ⟨rfl, hw7⟩
            subst hw7
            go_wp2_with (first | refine ldm_rn hr6 rfl _ rfl rfl ?_ | (go_at_call 76; refine (HTM.out _ HI6.out).mono ?_; rintro e w8 ⟨rfl, hb8⟩))
            go_ret3
            exact ⟨_, _, _, rfl, HF.out, HB6.out.trans (hb8.mono HB6.out.size)⟩
          have HNC2 := Lib.hid (HNC.out rfl)
          have hsz : w5.heap.size < (w5.alloc (.cells (rnA ⟨q, rf, rt, rc⟩) 66)).heap.size := by simp
          have hgs : g < (w5.alloc (.cells (rnA ⟨q, rf, rt, rc⟩) 66)).heap.size := HST6.out.lt
          have HBR := Lib.hid bR
          have HFIN : Hid (∀ W, Below w.heap.size w W → StB W g n u2 → Below w.heap.size w (W.setCell ⟨g, q, none⟩ (.bool true)) ∧ StB (W.setCell ⟨g, q, none⟩ (.bool true)) g n (fun t => if t = q then true else u2 t)) := Lib.hid (fun W h1 h2 => ⟨h1.setCell (p := ⟨g, q, none⟩) hgb _, h2.set (f' := fun t => if t = q then true else u2 t) q true (fun t _ => rfl)⟩)
          have HFR : Hid (∀ W, StB W g n u2 → W.frozen? ⟨g, q, none⟩ = false) := Lib.hid (fun W h => h.frozen q)
          clear bR HNC
          cases rc
          · by_cases h0 : j = 0
            · have HF := Lib.hid (HAj.out 61 (by rw [HJEj.out]; exact Pl.jr_dirty HA1.out HNM.out HNC2.out ⟨by rw [HGD.out], .inl h0⟩) (by decide))
              subst h0
              go_wp2_with (refine ldm_rn r1 rfl _ rfl rfl ?_)
              refine (HI2.out _).mono ?_
              rintro e w7 ⟨rfl, hw7⟩
              subst hw7
              go_wp2_with (first | refine ldm_rn hr6 rfl _ rfl rfl ?_ | (go_at_call 76; refine (HTM.out _ HI6.out).mono ?_; rintro e w8 ⟨rfl, hb8⟩))
              have HB8 := Lib.hid (HB6.out.trans (hb8.mono HB6.out.size))
              have hsz8 : w5.heap.size < w8.heap.size := Nat.lt_of_lt_of_le hsz hb8.size
              have HBR8 := Lib.hid (HBR.out.below hb8 hsz)
              have HST8 := Lib.hid (HST6.out.below hb8 hgs)
              have a0 := fun s : Ext w8 => s.cell (p := ⟨w5.heap.size, 0, none⟩) ((HBR8.out.cell 0).trans rfl)
              have a2 := fun s : Ext w8 => s.cell (p := ⟨w5.heap.size, 2, none⟩) ((HBR8.out.cell 2).trans rfl)
              have a3 := fun s : Ext w8 => s.cell (p := ⟨w5.heap.size, 3, none⟩) ((HBR8.out.cell 3).trans rfl)
              have a4 := fun s : Ext w8 => s.cell (p := ⟨b, off + k, none⟩) (HQ0.out w8 HB8.out)
              clear z0 z1 z2 z3 hb8 hcu
              refine wp_region_ext (by kernel_rfl) (by kernel_rfl) ?_
              repeat (go_big_quiet_step (fail))
              refine wpQuiet_nil ?_
              rintro _ ⟨s, rfl⟩
              go_wp2
              go_ret3
              exact ⟨_, _, _, rfl, HF.out, HB8.out.trans (s.h.mono HB8.out.size)⟩
            · obtain ⟨j, rfl⟩ : ∃ j', j = j' + 1 := ⟨j - 1, by omega⟩
              obtain ⟨p0, p1⟩ := hIXj (Nat.succ_pos j)
              rw [Nat.add_sub_cancel] at p0 p1
              have hjx0 : j < row.length := by omega
              have hjUI : (j : Int) < (U : Int) := by omega
              obtain ⟨bx', ox', e1, hbx1, hcx⟩ := HX.out.open (by omega)
              cases e1
              have HPR := Lib.hid (hcx j hjx0)
              have hp' : row[j] = row.getD j Pl.zr := by rw [List.getD_eq_getElem?_getD, List.getElem?_eq_getElem hjx0]; rfl
              rw [hp'] at HPR
              obtain ⟨P, hP⟩ : ∃ P, row.getD j Pl.zr = P := ⟨_, rfl⟩
              have HPD := Lib.hid hP
              rw [hP] at HPR p0 p1
              obtain ⟨pb, pf, pt, pc⟩ := P
              change 0 ≤ pb at p0
              change pb < (n : Int) at p1
              obtain ⟨qp, rfl⟩ : ∃ qp : Nat, pb = qp := ⟨pb.toNat, by omega⟩
              have hqpn : qp < n := by omega
              have hz2 : ((j : Int) + 1 == 0) = false := by simp; omega
              have k3 : IntKind.i64.wrap ((j : Int) + 1 - 1) = (j : Int) := by rw [show (j : Int) + 1 - 1 = (j : Int) from by omega]; exact IntWalk.i64_in _ (by omega)
              have k5 : IntKind.i64.wrap (j : Int) = (j : Int) := IntWalk.i64_in _ (by omega)
              obtain ⟨mv, hmv⟩ : ∃ mv, Pl.may (Pl.at' l qp) (Pl.at' l q) = mv := ⟨_, rfl⟩
              have HMAY := Lib.hid (fun W => rmay_b (Pl.at' l qp) (Pl.at' l q) mv hmv W)
              have HMV : Hid (Pl.may (Pl.at' l (row.getD (j + 1 - 1) Pl.zr).b.toNat) (Pl.at' l (row.getD (j + 1) Pl.zr).b.toNat) = mv) := Lib.hid (by rw [Nat.add_sub_cancel, HPD.out, HGD.out]; exact hmv)
              clear hcx hp' hP hmv hIXj
              cases mv
              · have HF := Lib.hid (HAj.out 61 (by rw [HJEj.out]; exact Pl.jr_dirty HA1.out HNM.out HNC2.out ⟨by rw [HGD.out], .inr HMV.out⟩) (by decide))
                go_wp2_with (refine ldm_rn r1 rfl _ rfl rfl ?_)
                refine (HI2.out _).mono ?_
                rintro e w7 ⟨rfl, hw7⟩
                subst hw7
                go_wp2_with (first | refine ldm_rn hr6 rfl _ rfl rfl ?_ | (go_at_call 76; refine (HTM.out _ HI6.out).mono ?_; rintro e w8 ⟨rfl, hb8⟩))
                have HB8 := Lib.hid (HB6.out.trans (hb8.mono HB6.out.size))
                have hsz8 : w5.heap.size < w8.heap.size := Nat.lt_of_lt_of_le hsz hb8.size
                have HBR8 := Lib.hid (HBR.out.below hb8 hsz)
                have HST8 := Lib.hid (HST6.out.below hb8 hgs)
                have a0 := fun s : Ext w8 => s.cell (p := ⟨w5.heap.size, 0, none⟩) ((HBR8.out.cell 0).trans rfl)
                have a2 := fun s : Ext w8 => s.cell (p := ⟨w5.heap.size, 2, none⟩) ((HBR8.out.cell 2).trans rfl)
                have a3 := fun s : Ext w8 => s.cell (p := ⟨w5.heap.size, 3, none⟩) ((HBR8.out.cell 3).trans rfl)
                have a4 := fun s : Ext w8 => s.cell (p := ⟨b, off + k, none⟩) (HQ0.out w8 HB8.out)
                clear z0 z1 z2 z3 hb8 hcu
                obtain ⟨bz, oz, rfl, hbz, hcz⟩ := bts_open HI.out (by rw [HN.out]; omega)
                have hbz8 : bz < w8.heap.size := Nat.lt_of_lt_of_le hbz HB8.out.size
                have hbx8 : bx < w8.heap.size := Nat.lt_of_lt_of_le hbx HB8.out.size
                have HE1 := Lib.hid (bts_cells hbz hcz HB8.out (i := q) (by rw [HN.out]; exact hqn))
                have HE2 := Lib.hid (bts_cells hbz hcz HB8.out (i := qp) (by rw [HN.out]; exact hqpn))
                have HRP := Lib.hid (rangeAt_below HPR.out hbx HB8.out)
                have a5 := fun s : Ext w8 => (rn_cells (ext_range s HRP.out hbx8)).1
                have b10 := fun s : Ext w8 => (bt_cells (ext_range s HE1.out hbz8)).1
                have b11 := fun s : Ext w8 => (bt_cells (ext_range s HE1.out hbz8)).2.1
                have b12 := fun s : Ext w8 => (bt_cells (ext_range s HE1.out hbz8)).2.2.1
                have b13 := fun s : Ext w8 => (bt_cells (ext_range s HE1.out hbz8)).2.2.2.1
                have b14 := fun s : Ext w8 => (bt_cells (ext_range s HE1.out hbz8)).2.2.2.2.1
                have b15 := fun s : Ext w8 => (bt_cells (ext_range s HE1.out hbz8)).2.2.2.2.2.1
                have b16 := fun s : Ext w8 => (bt_cells (ext_range s HE1.out hbz8)).2.2.2.2.2.2
                have b20 := fun s : Ext w8 => (bt_cells (ext_range s HE2.out hbz8)).1
                have b21 := fun s : Ext w8 => (bt_cells (ext_range s HE2.out hbz8)).2.1
                have b22 := fun s : Ext w8 => (bt_cells (ext_range s HE2.out hbz8)).2.2.1
                have b23 := fun s : Ext w8 => (bt_cells (ext_range s HE2.out hbz8)).2.2.2.1
                have b24 := fun s : Ext w8 => (bt_cells (ext_range s HE2.out hbz8)).2.2.2.2.1
                have b25 := fun s : Ext w8 => (bt_cells (ext_range s HE2.out hbz8)).2.2.2.2.2.1
                have b26 := fun s : Ext w8 => (bt_cells (ext_range s HE2.out hbz8)).2.2.2.2.2.2
                clear hcz
                refine wp_region_ext (by kernel_rfl) (by kernel_rfl) ?_
                repeat (go_big_quiet_step (((go_at_call 52; refine calls_ext (HMAY.out _)))))
                refine wpQuiet_nil ?_
                rintro _ ⟨s, rfl⟩
                go_wp2
                go_ret3
                exact ⟨_, _, _, rfl, HF.out, HB8.out.trans (s.h.mono HB8.out.size)⟩
              · have HJ6 : Hid (Pl.Jok l cl runs k (j + 1 + 1)) := Lib.hid (hJ.out.step (by rw [HJEj.out]; exact Pl.jr_ok HA1.out HNM.out HNC2.out (by rintro ⟨_, h | h⟩; omega; rw [HMV.out] at h; cases h)))
                go_wp2_with (refine ldm_rn r1 rfl _ rfl rfl ?_)
                refine (HI2.out _).mono ?_
                rintro e w7 ⟨rfl, hw7⟩
                subst hw7
                go_wp2_with (first | refine ldm_rn hr6 rfl _ rfl rfl ?_ | (go_at_call 76; refine (HTM.out _ HI6.out).mono ?_; rintro e w8 ⟨rfl, hb8⟩))
                have HB8 := Lib.hid (HB6.out.trans (hb8.mono HB6.out.size))
                have hsz8 : w5.heap.size < w8.heap.size := Nat.lt_of_lt_of_le hsz hb8.size
                have HBR8 := Lib.hid (HBR.out.below hb8 hsz)
                have HST8 := Lib.hid (HST6.out.below hb8 hgs)
                have a0 := fun s : Ext w8 => s.cell (p := ⟨w5.heap.size, 0, none⟩) ((HBR8.out.cell 0).trans rfl)
                have a2 := fun s : Ext w8 => s.cell (p := ⟨w5.heap.size, 2, none⟩) ((HBR8.out.cell 2).trans rfl)
                have a3 := fun s : Ext w8 => s.cell (p := ⟨w5.heap.size, 3, none⟩) ((HBR8.out.cell 3).trans rfl)
                have a4 := fun s : Ext w8 => s.cell (p := ⟨b, off + k, none⟩) (HQ0.out w8 HB8.out)
                clear z0 z1 z2 z3 hb8 hcu
                obtain ⟨bz, oz, rfl, hbz, hcz⟩ := bts_open HI.out (by rw [HN.out]; omega)
                have hbz8 : bz < w8.heap.size := Nat.lt_of_lt_of_le hbz HB8.out.size
                have hbx8 : bx < w8.heap.size := Nat.lt_of_lt_of_le hbx HB8.out.size
                have HE1 := Lib.hid (bts_cells hbz hcz HB8.out (i := q) (by rw [HN.out]; exact hqn))
                have HE2 := Lib.hid (bts_cells hbz hcz HB8.out (i := qp) (by rw [HN.out]; exact hqpn))
                have HRP := Lib.hid (rangeAt_below HPR.out hbx HB8.out)
                have a5 := fun s : Ext w8 => (rn_cells (ext_range s HRP.out hbx8)).1
                have b10 := fun s : Ext w8 => (bt_cells (ext_range s HE1.out hbz8)).1
                have b11 := fun s : Ext w8 => (bt_cells (ext_range s HE1.out hbz8)).2.1
                have b12 := fun s : Ext w8 => (bt_cells (ext_range s HE1.out hbz8)).2.2.1
                have b13 := fun s : Ext w8 => (bt_cells (ext_range s HE1.out hbz8)).2.2.2.1
                have b14 := fun s : Ext w8 => (bt_cells (ext_range s HE1.out hbz8)).2.2.2.2.1
                have b15 := fun s : Ext w8 => (bt_cells (ext_range s HE1.out hbz8)).2.2.2.2.2.1
                have b16 := fun s : Ext w8 => (bt_cells (ext_range s HE1.out hbz8)).2.2.2.2.2.2
                have b20 := fun s : Ext w8 => (bt_cells (ext_range s HE2.out hbz8)).1
                have b21 := fun s : Ext w8 => (bt_cells (ext_range s HE2.out hbz8)).2.1
                have b22 := fun s : Ext w8 => (bt_cells (ext_range s HE2.out hbz8)).2.2.1
                have b23 := fun s : Ext w8 => (bt_cells (ext_range s HE2.out hbz8)).2.2.2.1
                have b24 := fun s : Ext w8 => (bt_cells (ext_range s HE2.out hbz8)).2.2.2.2.1
                have b25 := fun s : Ext w8 => (bt_cells (ext_range s HE2.out hbz8)).2.2.2.2.2.1
                have b26 := fun s : Ext w8 => (bt_cells (ext_range s HE2.out hbz8)).2.2.2.2.2.2
                clear hcz
                refine wp_region_ext (by kernel_rfl) (by kernel_rfl) ?_
                repeat (go_big_quiet_step (((go_at_call 52; refine calls_ext (HMAY.out _)))))
                refine wpQuiet_nil ?_
                rintro _ ⟨s, rfl⟩
                have HB9 := Lib.hid (HB8.out.trans (s.h.mono HB8.out.size))
                have hS9 := HST8.out.below s.h HST8.out.lt
                have hfr9 := HFR.out _ hS9
                have hgs9 : g < s.w.heap.size := hS9.lt
                have x0 := s.cell (p := ⟨w5.heap.size, 0, none⟩) ((HBR8.out.cell 0).trans rfl)
                have x2 := s.cell (p := ⟨w5.heap.size, 2, none⟩) ((HBR8.out.cell 2).trans rfl)
                have hcell9 := hS9.cell hqn
                have HFF := Lib.hid (HFIN.out _ HB9.out hS9)
                have hg5 : ¬ w5.heap.size = g := by have := HST.out.lt; omega
                have x2' : (s.w.setCell ⟨g, q, none⟩ (.bool true)).cell? ⟨w5.heap.size, 2, none⟩ = some (.int .i64 rt) := (((HBR8.out.below s.h hsz8).far (p := ⟨g, q, none⟩) hg5 (.bool true)).cell 2).trans rfl
                clear hS9 a0 a2 a3 a4
                go_wp2
                go_roundw
                case rel => exact ⟨j + 1 + 1, _, by omega, by go_num, by rw [hEN1.out], by rw [HL1.out]; go_num, HFF.out.2, HU2, HJ6, HFF.out.1⟩
                case measure => simp [intOf]; omega
          · have HJ6 : Hid (Pl.Jok l cl runs k (j + 1)) := Lib.hid (hJ.out.step (by rw [HJEj.out]; exact Pl.jr_ok HA1.out HNM.out HNC2.out (by rintro ⟨h, _⟩; rw [HGD.out] at h; cases h)))
            go_wp2_with (refine ldm_rn r1 rfl _ rfl rfl ?_)
            refine (HI2.out _).mono ?_
            rintro e w7 ⟨rfl, hw7⟩
            subst hw7
            go_wp2_with (first | refine ldm_rn hr6 rfl _ rfl rfl ?_ | (go_at_call 76; refine (HTM.out _ HI6.out).mono ?_; rintro e w8 ⟨rfl, hb8⟩))
            have HB8 := Lib.hid (HB6.out.trans (hb8.mono HB6.out.size))
            have hsz8 : w5.heap.size < w8.heap.size := Nat.lt_of_lt_of_le hsz hb8.size
            have HBR8 := Lib.hid (HBR.out.below hb8 hsz)
            have HST8 := Lib.hid (HST6.out.below hb8 hgs)
            have a0 := fun s : Ext w8 => s.cell (p := ⟨w5.heap.size, 0, none⟩) ((HBR8.out.cell 0).trans rfl)
            have a2 := fun s : Ext w8 => s.cell (p := ⟨w5.heap.size, 2, none⟩) ((HBR8.out.cell 2).trans rfl)
            have a3 := fun s : Ext w8 => s.cell (p := ⟨w5.heap.size, 3, none⟩) ((HBR8.out.cell 3).trans rfl)
            have a4 := fun s : Ext w8 => s.cell (p := ⟨b, off + k, none⟩) (HQ0.out w8 HB8.out)
            clear z0 z1 z2 z3 hb8 hcu
            refine wp_region_ext (by kernel_rfl) (by kernel_rfl) ?_
            repeat (go_big_quiet_step (fail))
            refine wpQuiet_nil ?_
            rintro _ ⟨s, rfl⟩
            have HB9 := Lib.hid (HB8.out.trans (s.h.mono HB8.out.size))
            have hS9 := HST8.out.below s.h HST8.out.lt
            have hfr9 := HFR.out _ hS9
            have hgs9 : g < s.w.heap.size := hS9.lt
            have x0 := s.cell (p := ⟨w5.heap.size, 0, none⟩) ((HBR8.out.cell 0).trans rfl)
            have x2 := s.cell (p := ⟨w5.heap.size, 2, none⟩) ((HBR8.out.cell 2).trans rfl)
            have hcell9 := hS9.cell hqn
            have HFF := Lib.hid (HFIN.out _ HB9.out hS9)
            have hg5 : ¬ w5.heap.size = g := by have := HST.out.lt; omega
            have x2' : (s.w.setCell ⟨g, q, none⟩ (.bool true)).cell? ⟨w5.heap.size, 2, none⟩ = some (.int .i64 rt) := (((HBR8.out.below s.h hsz8).far (p := ⟨g, q, none⟩) hg5 (.bool true)).cell 2).trans rfl
            clear hS9 a0 a2 a3 a4
            go_wp2
            go_roundw
            case rel => exact ⟨j + 1, _, by omega, by go_num, by rw [hEN1.out], by rw [HL1.out]; go_num, HFF.out.2, HU2, HJ6, HFF.out.1⟩
            case measure => simp [intOf]; omega
        · obtain rfl : j = U := by omega
          have HJ6 := Lib.hid (HJN.out j (Nat.le_refl _) hJ.out)
          have HU' : Hid (∀ q : Nat, q < n → u2 q = decide ((q : Int) ∈ Pl.db runs (k + 1) 0)) := Lib.hid (fun q hq => by rw [hu.out q hq, HDNk.out])
          have HST6 := Lib.hid hst
          clear hst hu hJ
          rw [HDNk.out]
          go_wp2
          go_roundw
          case rel => exact ⟨k + 1, u2, by omega, by go_num, rfl, HST6.out, HU', HJ6, hW⟩
          case measure => simp [intOf]; omega
    · obtain rfl : m = k := by omega
      have HCVm := Lib.hid (HCV.out hJ.out)
      have HE := Lib.hid (HEND.out hJ.out)
      have hdb := HDB.out m 0 (Nat.le_refl _) (by omega)
      obtain ⟨L, hL⟩ : ∃ L, (Pl.db runs m 0).length = L := ⟨_, rfl⟩
      rw [hL] at HCVm hdb ⊢
      clear hst hu hJ hL
      by_cases hLn : (L : Int) < (n : Int)
      · have HE2 := Lib.hid (HE.out 4 (by rw [HCVm.out, decide_eq_false (by omega)]; rfl))
        go_wp2
        go_ret3
        exact ⟨_, _, _, rfl, HE2.out, hW⟩
      · have HE2 := Lib.hid (HE.out 0 (by rw [HCVm.out, decide_eq_true (by omega)]; rfl))
        go_wp2
        go_ret3
        exact ⟨_, _, _, rfl, HE2.out, hW⟩
end Go.Proofs.Ytlfbfdhdkccaeaa
