/- Judge, of the program. -/
import Derived.Test.YtlfbfdhdkccaeaaGreatJ7
import Derived.Test.YtlfbfdhdkccaeaaGreatK5
import Derived.Test.YtlfbfdhdkccaeaaGreatK7
namespace Go.Proofs.YtlfbfdhdkccaeaaGreat
open Go.RowKit Go.Shelf Go.Sort

theorem jrun_any (A : Option Addr) (l : List Pl.Bt) (n c : Nat) (hn : l.length = n) (hok : Pl.Ok l) (cl : Int) (hc0 : 0 ≤ cl) (hc1 : cl ≤ 100) (g : Nat) (u : Nat → Bool) (D : List Int) (hu : ∀ q : Nat, q < n → u q = decide ((q : Int) ∈ D)) (AX : Option Addr) (xs : List Pl.Rn) (cx m : Nat) (hm : xs.length = m) (hm1 : m ≤ 1000) (j : Nat) (hj : j < m) (hrw : Pl.Rw (xs.getD j Pl.zr)) (hprev : 0 < j → 0 ≤ (xs.getD (j - 1) Pl.zr).b ∧ (xs.getD (j - 1) Pl.zr).b < (n : Int))
    (w0 w : World) (hI : Bts w0 A l) (hX : Rows rnL 4 w0 AX xs) (hB : Below w0.heap.size w0 w) (hg : w0.heap.size ≤ g) (hst : StB w g n u) (e : Int) (he : Pl.jr l cl D xs j = e) :
    Calls Tryz.prog 64 #[.slice A n c, .int .i64 cl, .slice (some ⟨g, 0, none⟩) n n, .slice AX m cx, .int .i64 j] w fun e' w' => e' = .returned (.int .i64 e) ∧ Below w0.heap.size w0 w' ∧ (e = 0 → ∃ u', StB w' g n u' ∧ ∀ q : Nat, q < n → u' q = decide ((q : Int) ∈ D ++ [(xs.getD j Pl.zr).b])) := by
  have hn4 : n ≤ 40 := hn ▸ hok.len
  by_cases h1 : (0 ≤ (xs.getD j Pl.zr).b ∧ (xs.getD j Pl.zr).b < (l.length : Int)) ∧ 0 ≤ (xs.getD j Pl.zr).f
  rotate_left
  · rw [Pl.jr_arg h1] at he
    rw [hn] at h1
    exact (jrun_no A n c hn4 cl g u D hu AX xs cx m hm hm1 j hj _ rfl w0 w hX hB hst e (.inl ⟨h1, he.symm⟩)).mono fun e' w' ⟨h2, h3⟩ => ⟨h2, h3, fun h => by rw [← he] at h; cases h⟩
  by_cases h2 : (xs.getD j Pl.zr).b ∈ D
  · rw [Pl.jr_twice h1 h2] at he
    rw [hn] at h1
    exact (jrun_no A n c hn4 cl g u D hu AX xs cx m hm hm1 j hj _ rfl w0 w hX hB hst e (.inr ⟨h1, h2, he.symm⟩)).mono fun e' w' ⟨h2, h3⟩ => ⟨h2, h3, fun h => by rw [← he] at h; cases h⟩
  obtain ⟨q, hq⟩ : ∃ q : Nat, (xs.getD j Pl.zr).b = q := ⟨(xs.getD j Pl.zr).b.toNat, by omega⟩
  have hqn : q < n := by omega
  have huq : u q = false := by rw [hu q hqn, decide_eq_false_iff_not, ← hq]; exact h2
  have hup : ∀ t : Nat, t < n → (fun t => if t = q then true else u t) t = decide ((t : Int) ∈ D ++ [(xs.getD j Pl.zr).b]) := fun t ht => by
    show (if t = q then true else u t) = _
    by_cases e : t = q
    · subst e; rw [if_pos rfl, hq]; simp
    · rw [if_neg e, hu t ht, hq]
      have : ¬ (t : Int) = (q : Int) := by omega
      simp [this]
  cases j with
  | zero =>
    obtain ⟨v, hv⟩ : ∃ v, Pl.er (Pl.at' l q) (xs.getD 0 Pl.zr) cl = v := ⟨_, rfl⟩
    refine (jrun_first A l n c hn hok cl hc0 hc1 g u AX xs cx m hm hm1 hj _ rfl hrw q hq hqn h1.2 huq w0 w hI hX hB hg hst v hv e ?_).mono fun e' w' ⟨a, b, c⟩ => ⟨a, b, fun _ => ⟨_, c, hup⟩⟩
    rw [← he]
    have hv' : Pl.er (Pl.at' l (xs.getD 0 Pl.zr).b.toNat) (xs.getD 0 Pl.zr) cl = v := by rw [hq]; exact hv
    by_cases h3 : (0 < 0 ∧ (xs.getD 0 Pl.zr).f < (xs.getD (0 - 1) Pl.zr).t) ∨ Pl.er (Pl.at' l (xs.getD 0 Pl.zr).b.toNat) (xs.getD 0 Pl.zr) cl = false
    · rw [Pl.jr_clash h1 h2 h3]
      rcases h3 with ⟨h3, _⟩ | h3
      · exact absurd h3 (Nat.lt_irrefl _)
      · rw [if_pos (by rw [← hv', h3])]
    · have hv1 : ¬ v = false := fun h => h3 (.inr (by rw [hv', h]))
      rw [if_neg hv1]
      by_cases h4 : (xs.getD 0 Pl.zr).c = false ∧ (0 = 0 ∨ Pl.may (Pl.at' l (xs.getD (0 - 1) Pl.zr).b.toNat) (Pl.at' l (xs.getD 0 Pl.zr).b.toNat) = false)
      · rw [Pl.jr_dirty h1 h2 h3 h4, if_pos h4.1]
      · rw [Pl.jr_ok h1 h2 h3 h4, if_neg (fun h => h4 ⟨h, .inl rfl⟩)]
  | succ j =>
    obtain ⟨p0, p1⟩ := hprev (Nat.succ_pos j)
    rw [Nat.add_sub_cancel] at p0 p1
    obtain ⟨qp, hqp⟩ : ∃ qp : Nat, (xs.getD j Pl.zr).b = qp := ⟨(xs.getD j Pl.zr).b.toNat, by omega⟩
    obtain ⟨v, hv⟩ : ∃ v, Pl.er (Pl.at' l q) (xs.getD (j + 1) Pl.zr) cl = v := ⟨_, rfl⟩
    obtain ⟨mv, hmv⟩ : ∃ mv, Pl.may (Pl.at' l qp) (Pl.at' l q) = mv := ⟨_, rfl⟩
    refine (jrun_next A l n c hn hok cl hc0 hc1 g u AX xs cx m hm hm1 j hj _ _ rfl rfl hrw q qp hq hqn hqp (by omega) h1.2 huq w0 w hI hX hB hg hst v hv mv hmv e ?_).mono fun e' w' ⟨a, b, c⟩ => ⟨a, b, fun _ => ⟨_, c, hup⟩⟩
    rw [← he]
    have hv' : Pl.er (Pl.at' l (xs.getD (j + 1) Pl.zr).b.toNat) (xs.getD (j + 1) Pl.zr) cl = v := by rw [hq]; exact hv
    have hm' : Pl.may (Pl.at' l (xs.getD (j + 1 - 1) Pl.zr).b.toNat) (Pl.at' l (xs.getD (j + 1) Pl.zr).b.toNat) = mv := by rw [Nat.add_sub_cancel, hq, hqp]; exact hmv
    by_cases h3 : (0 < j + 1 ∧ (xs.getD (j + 1) Pl.zr).f < (xs.getD (j + 1 - 1) Pl.zr).t) ∨ Pl.er (Pl.at' l (xs.getD (j + 1) Pl.zr).b.toNat) (xs.getD (j + 1) Pl.zr) cl = false
    · rw [Pl.jr_clash h1 h2 h3]
      rw [if_pos (h3.imp (fun h => by have := h.2; rwa [Nat.add_sub_cancel] at this) (fun h => by rw [← hv', h]))]
    · rw [if_neg (fun h => h3 (h.imp (fun h => ⟨Nat.succ_pos j, by rw [Nat.add_sub_cancel]; exact h⟩) (fun h => by rw [hv', h])))]
      by_cases h4 : (xs.getD (j + 1) Pl.zr).c = false ∧ (j + 1 = 0 ∨ Pl.may (Pl.at' l (xs.getD (j + 1 - 1) Pl.zr).b.toNat) (Pl.at' l (xs.getD (j + 1) Pl.zr).b.toNat) = false)
      · rw [Pl.jr_dirty h1 h2 h3 h4]
        rcases h4 with ⟨a, b | b⟩
        · omega
        · rw [if_pos ⟨a, by rw [← hm', b]⟩]
      · rw [Pl.jr_ok h1 h2 h3 h4, if_neg (fun h => h4 ⟨h.1, .inr (by rw [hm', h.2])⟩)]

theorem Pl.Jok.ix {l : List Pl.Bt} {cl : Int} {runs : List (List Pl.Rn)} {k j : Nat} (h : Pl.Jok l cl runs k j) (hk : k < runs.length) (hj : j ≤ (runs.getD k []).length) (h0 : 0 < j) : 0 ≤ ((runs.getD k []).getD (j - 1) Pl.zr).b ∧ ((runs.getD k []).getD (j - 1) Pl.zr).b < (l.length : Int) := by
  have := Pl.Rg.of (h k (j - 1) hk (by omega) (.inr ⟨rfl, by omega⟩))
  exact ⟨this.b0, this.b1⟩

set_option maxRecDepth 100000 in
set_option maxHeartbeats 8000000 in
theorem Judge_any (A : Option Addr) (l : List Pl.Bt) (c n : Nat) (hn : l.length = n) (cl : Int) (AR : Option Addr) (runs : List (List Pl.Rn)) (cr m : Nat) (hm : runs.length = m) (hrw : ∀ r, r ∈ runs → ∀ y, y ∈ r → Pl.Rw y) (w : World) (hI : Bts w A l) (hR : RR rnL 4 w AR runs) :
    Calls Tryz.prog 34 #[.slice A n c, .int .i64 cl, .slice AR m cr] w fun e w' => ∃ x y z : Int, e = .returned (.tuple #[.int .i64 x, .int .i64 y, .int .i64 z]) ∧ Pl.IsJ l cl runs x y z ∧ Below w.heap.size w w' := by
  have HC := Lib.hid (valid_any A l c w hI)
  rw [hn] at HC
  obtain ⟨x, hx⟩ : ∃ x, Pl.vs l = x := ⟨_, rfl⟩
  rw [hx] at HC
  cases x
  · have HJ := Lib.hid (Pl.isJ_no (cl := cl) (runs := runs) hx)
    clear hI hn hm hrw hR hx
    go_enter Tryz.func34, Tryz.ntmps34
    go_wp2_with fail
    refine HC.out.mono ?_
    rintro e w1 ⟨rfl, hb1⟩
    go_wp2
    go_ret3
    exact ⟨_, _, _, rfl, HJ.out, hb1⟩
  have hok := Pl.ok_of hx
  have hn4 : n ≤ 40 := hn ▸ hok.len
  obtain ⟨y, hy⟩ : ∃ y, Pl.inB 0 cl 100 = y := ⟨_, rfl⟩
  obtain ⟨z, hz⟩ : ∃ z, Pl.cwd runs = z := ⟨_, rfl⟩
  have HWI := Lib.hid (fun w => within_b cl 0 100 y hy w)
  have HVR := Lib.hid (fun w' hR => vruns_b AR runs cr m hm z hz w' hR)
  have HRR := Lib.hid hR
  cases y
  · have HJ := Lib.hid (Pl.isJ_bad (cl := cl) (runs := runs) hx (by rw [hy]; simp))
    clear hI hn hm hrw hR hx hok hy hz
    go_enter Tryz.func34, Tryz.ntmps34
    go_wp2_with fail
    refine HC.out.mono ?_
    rintro e w1 ⟨rfl, hb1⟩
    go_wp2_with (go_at_call 56; refine (HWI.out _).mono ?_; rintro e w4 ⟨rfl, rfl⟩)
    go_ret3
    exact ⟨_, _, _, rfl, HJ.out, hb1⟩
  cases z
  rotate_left
  · have HJ := Lib.hid (Pl.isJ_bad (cl := cl) (runs := runs) hx (by rw [hz]; simp))
    clear hI hn hm hrw hR hx hok hy hz
    go_enter Tryz.func34, Tryz.ntmps34
    go_wp2_with fail
    refine HC.out.mono ?_
    rintro e w1 ⟨rfl, hb1⟩
    have HR1 := Lib.hid (HRR.out.below hb1)
    go_wp2_with (first | (go_at_call 56; refine (HWI.out _).mono ?_; rintro e w4 ⟨rfl, rfl⟩) | (go_at_call 29; refine (HVR.out _ HR1.out).mono ?_; rintro e w5 ⟨rfl, rfl⟩))
    go_ret3
    exact ⟨_, _, _, rfl, HJ.out, hb1⟩
  have hboth : Pl.inB 0 cl 100 = true ∧ Pl.cwd runs = false := ⟨hy, hz⟩
  have HAT : Hid (∀ k j e, k < m → j < (runs.getD k []).length → Pl.Jok l cl runs k j → Pl.je l cl runs k j = e → e ≠ 0 → Pl.IsJ l cl runs k j e) := Lib.hid (fun k j e hk hj h1 h2 h3 => Pl.isJ_at hx hboth (by rw [hm]; exact hk) hj h1 h2 h3)
  have HEND : Hid (Pl.Jok l cl runs m 0 → ∀ e, (if Pl.cov n (runs.flatten.map (·.b)) = true then 0 else 4) = e → Pl.IsJ l cl runs 0 0 e) := Lib.hid (fun h e he => Pl.isJ_end hx hboth (by rw [hm]; exact h) (by rw [hn]; exact he))
  obtain ⟨hc0, hc1⟩ := Pl.inB_true.1 hy
  obtain ⟨hm8, hlen⟩ := Pl.cwd_no hz
  rw [hm] at hm8 hlen
  have HLE := Lib.hid hlen
  have HI := Lib.hid hI
  have HOK := Lib.hid hok
  have HN := Lib.hid hn
  have HGR : Hid (∀ k, k < m → ∃ b off, AR = some ⟨b, off, none⟩ ∧ b < w.heap.size ∧ ∃ A' c', w.cell? ⟨b, off + k, none⟩ = some (.slice A' (runs.getD k []).length c') ∧ Rows rnL 4 w A' (runs.getD k []) ∧ (runs.getD k []).length ≤ c' ∧ c' ≤ maxLen) := Lib.hid (fun k hk => rr_rowR hR (by rw [hm]; exact hk))
  have HRW : Hid (∀ k j, k < m → j < (runs.getD k []).length → Pl.Rw ((runs.getD k []).getD j Pl.zr)) := Lib.hid (fun k j hk hj => by
    have h1 : runs.getD k [] ∈ runs := Pl.getD_memR [] (by rw [hm]; exact hk)
    exact hrw _ h1 _ (Pl.getD_memR _ hj))
  have HIX : Hid (∀ k j, Pl.Jok l cl runs k j → k < m → j ≤ (runs.getD k []).length → 0 < j → 0 ≤ ((runs.getD k []).getD (j - 1) Pl.zr).b ∧ ((runs.getD k []).getD (j - 1) Pl.zr).b < (n : Int)) := Lib.hid (fun k j h hk hj h0 => by rw [← hn]; exact h.ix (by rw [hm]; exact hk) hj h0)
  have HDN : Hid (∀ k, k < m → Pl.db runs k (runs.getD k []).length = Pl.db runs (k + 1) 0) := Lib.hid (fun k hk => Pl.db_next (by rw [hm]; exact hk) (Nat.le_refl _))
  have HDE : Hid (Pl.db runs m 0 = runs.flatten.map (·.b)) := Lib.hid (by rw [← hm]; exact Pl.db_end runs)
  clear hI hn hm hrw hR hx hok hy hz hboth hlen
  obtain ⟨i4, hi4, hz4, hn4', hy4⟩ := info_parts info4f
  go_enter Tryz.func34, Tryz.ntmps34
  go_wp2_with fail
  refine HC.out.mono ?_
  rintro e w1 ⟨rfl, hb1⟩
  have HR1 := Lib.hid (HRR.out.below hb1)
  have hmk := run_make w1 84 4 i4 (.bool false) Tryz.underlying84 hi4 hz4 .i64 .i64 (n : Int) (n : Int) (by omega) (by omega) (by rw [hy4]; omega) (by omega)
  rw [Int.toNat_natCast, hn4', Nat.mul_one] at hmk
  have hst : StB (w1.alloc (.cells (madeCells #[.bool false] n) 4)) w1.heap.size n (fun _ => false) := StF.new w1 n 4 Value.bool false
  have hB3 := hb1.alloc hb1.size (.cells (madeCells #[.bool false] n) 4)
  change Sem.run _ _ _ = Result.ok _ (w1.alloc (.cells (madeCells #[.bool false] n) 4)) at hmk
  have hgb : w.heap.size ≤ w1.heap.size := hb1.size
  have HCB := Lib.hid (fun u v hv1 hv2 W hst => conb_b w1.heap.size n (by omega) u v hv1 hv2 W hst)
  generalize w1.alloc (.cells (madeCells #[.bool false] n) 4) = w3 at *
  obtain ⟨g, hg⟩ : ∃ g, w1.heap.size = g := ⟨_, rfl⟩
  rw [hg] at hst hmk hgb HCB
  have HST := Lib.hid hst
  have HB3 := Lib.hid hB3
  clear hi4 hz4 hn4' hy4 hg HC hst hB3 hb1
  go_wp2_with (first | (go_at_call 56; refine (HWI.out _).mono ?_; rintro e w4 ⟨rfl, rfl⟩) | (go_at_call 29; refine (HVR.out _ HR1.out).mono ?_; rintro e w5 ⟨rfl, rfl⟩))
  clear hmk HVR HWI HR1
  go_loopw [10, 11, 12, 13, 30, 37] (fun _ _ _ _ i _ wr => ∃ k : Nat, ∃ u, k ≤ m ∧ i = .int .i64 k ∧ StB wr g n u ∧ Hid (∀ q : Nat, q < n → u q = decide ((q : Int) ∈ Pl.db runs k 0)) ∧ Hid (Pl.Jok l cl runs k 0) ∧ Below w.heap.size w wr) (fun _ _ _ _ i _ _ => m - (intOf i).toNat)
  case atStart => exact ⟨0, _, Nat.zero_le _, rfl, HST.out, Lib.hid (fun q _ => by rw [Pl.db_zero]; simp), Lib.hid Pl.Jok.zero, HB3.out⟩
  case round =>
    obtain ⟨k, u, hk, rfl, hst, hu, hJ, hW⟩ := hrel
    obtain ⟨wo, rfl⟩ : ∃ wo, wo = wr := ⟨_, rfl⟩
    by_cases hlt : k < m
    · have hltI : (k : Int) < (m : Int) := by omega
      obtain ⟨b, off, rfl, hb, A', c', h1, h2, h3, h4⟩ := HGR.out k hlt
      have q0 := (hW.cell (p := ⟨b, off + k, none⟩) hb).trans h1
      have HX := Lib.hid h2
      have hLk := HLE.out k hlt
      have HATk := Lib.hid (fun j e => HAT.out k j e hlt)
      have HRWk := Lib.hid (fun j => HRW.out k j hlt)
      have HIXk := Lib.hid (fun j hJ => HIX.out k j hJ hlt)
      have HDNk := Lib.hid (HDN.out k hlt)
      have HDS : Hid (∀ j, j < (runs.getD k []).length → Pl.db runs k (j + 1) = Pl.db runs k j ++ [((runs.getD k []).getD j Pl.zr).b]) := Lib.hid (fun j hj => Pl.db_succ hj)
      have HJN : Hid (∀ j, (runs.getD k []).length ≤ j → Pl.Jok l cl runs k j → Pl.Jok l cl runs (k + 1) 0) := Lib.hid (fun j hj h => h.next hj)
      have HJE : Hid (∀ j, Pl.je l cl runs k j = Pl.jr l cl (Pl.db runs k j) (runs.getD k []) j) := Lib.hid (fun _ => rfl)
      obtain ⟨row, hrow⟩ : ∃ r, runs.getD k [] = r := ⟨_, rfl⟩
      rw [hrow] at q0 HX hLk HATk HRWk HIXk HDNk HDS HJN HJE
      obtain ⟨U, hU⟩ : ∃ u, row.length = u := ⟨_, rfl⟩
      have HU := Lib.hid hU
      rw [hU] at q0 hLk HATk HRWk HIXk HDNk HDS HJN
      have HST2 := Lib.hid hst
      have HW2 := Lib.hid hW
      clear h1 h2 h3 h4 hrow hU hst hW
      go_wp2
      go_loopw [12, 13, 37] (fun _ _ i wr => ∃ j : Nat, ∃ u, j ≤ U ∧ i = .int .i64 j ∧ StB wr g n u ∧ Hid (∀ q : Nat, q < n → u q = decide ((q : Int) ∈ Pl.db runs k j)) ∧ Hid (Pl.Jok l cl runs k j) ∧ Below w.heap.size w wr) (fun _ _ i _ => U - (intOf i).toNat)
      case atStart => exact ⟨0, u, Nat.zero_le _, rfl, HST2.out, hu, hJ, HW2.out⟩
      case round =>
        clear hu hJ HST2 HW2 q0
        obtain ⟨j, u2, hj, rfl, hst, hu, hJ, hW⟩ := hrel
        obtain ⟨w5, rfl⟩ : ∃ w5, w5 = wr := ⟨_, rfl⟩
        by_cases hltj : j < U
        · have hltjI : (j : Int) < (U : Int) := by omega
          obtain ⟨e0, he0⟩ : ∃ e0, Pl.je l cl runs k j = e0 := ⟨_, rfl⟩
          have HJR := Lib.hid (jrun_any A l n c HN.out HOK.out cl hc0 hc1 g u2 (Pl.db runs k j) hu.out A' row c' U HU.out (by omega) j hltj (HRWk.out j hltj) (fun h => HIXk.out j hJ.out hj h) w w5 HI.out HX.out hW hgb hst e0 (by rw [← HJE.out]; exact he0))
          have HA := Lib.hid (HATk.out j e0 hltj hJ.out he0)
          have HJS : Hid (e0 = 0 → Pl.Jok l cl runs k (j + 1)) := Lib.hid (fun h => hJ.out.step (he0.trans h))
          have HDSj := Lib.hid (HDS.out j hltj)
          clear he0 hst hu hJ hW
          go_wp2_with fail
          refine HJR.out.mono ?_
          rintro e w6 ⟨rfl, hb6, hs6⟩
          have HS6 := Lib.hid hs6
          clear hs6
          by_cases hz : e0 = 0
          · subst hz
            obtain ⟨u', hst', hu'⟩ := HS6.out rfl
            have HU' : Hid (∀ q : Nat, q < n → u' q = decide ((q : Int) ∈ Pl.db runs k (j + 1))) := Lib.hid (fun q hq => by rw [hu' q hq, HDSj.out])
            have HST6 := Lib.hid hst'
            have HJ6 := Lib.hid (HJS.out rfl)
            clear hst' hu'
            go_wp2
            go_roundw
            case rel => exact ⟨j + 1, u', by omega, by go_num, HST6.out, HU', HJ6, hb6⟩
            case measure => simp [intOf]; omega
          · have hz1 : (e0 != 0) = true := by simp [hz]
            have HF := Lib.hid (HA.out hz)
            clear hz
            go_wp2
            go_ret3
            exact ⟨_, _, _, rfl, HF.out, hb6⟩
        · obtain rfl : j = U := by omega
          have HJ6 := Lib.hid (HJN.out j (Nat.le_refl _) hJ.out)
          have HU' : Hid (∀ q : Nat, q < n → u2 q = decide ((q : Int) ∈ Pl.db runs (k + 1) 0)) := Lib.hid (fun q hq => by rw [hu.out q hq, HDNk.out])
          have HST6 := Lib.hid hst
          clear hst hu hJ
          go_wp2
          go_roundw
          case rel => exact ⟨k + 1, u2, by omega, by go_num, HST6.out, HU', HJ6, hW⟩
          case measure => simp [intOf]; omega
    · obtain rfl : m = k := by omega
      obtain ⟨x, hx⟩ : ∃ x, Pl.cov n (runs.flatten.map (·.b)) = x := ⟨_, rfl⟩
      have HE := Lib.hid (HEND.out hJ.out)
      rw [hx] at HE
      have HCC := Lib.hid (HCB.out u (!x) (fun h => by
        have : x = true := by
          rw [← hx]
          refine decide_eq_true fun q hq => ?_
          have := h q hq
          rw [hu.out q hq, HDE.out] at this
          exact of_decide_eq_true this
        rw [this]; rfl) (fun q hq h => by
        cases x
        · rfl
        · have h2 := (of_decide_eq_true hx) q hq
          rw [hu.out q hq, HDE.out, decide_eq_true h2] at h
          cases h) wo hst)
      clear hst hu hJ hx
      cases x
      · have HE2 := Lib.hid (HE.out 4 rfl)
        go_wp2_with fail
        refine HCC.out.mono ?_
        rintro e w6 ⟨rfl, hw6⟩
        obtain rfl : wo = w6 := hw6.symm
        go_wp2
        go_ret3
        exact ⟨_, _, _, rfl, HE2.out, hW⟩
      · have HE2 := Lib.hid (HE.out 0 rfl)
        go_wp2_with fail
        refine HCC.out.mono ?_
        rintro e w6 ⟨rfl, hw6⟩
        obtain rfl : wo = w6 := hw6.symm
        go_wp2
        go_ret3
        exact ⟨_, _, _, rfl, HE2.out, hW⟩
end Go.Proofs.YtlfbfdhdkccaeaaGreat

