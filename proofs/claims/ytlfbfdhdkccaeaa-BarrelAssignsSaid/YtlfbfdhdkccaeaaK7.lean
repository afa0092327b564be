/- Check, of the document. -/
import Derived.Test.YtlfbfdhdkccaeaaD2
import Derived.Test.YtlfbfdhdkccaeaaK1
import Derived.Test.YtlfbfdhdkccaeaaP11
namespace Go.Proofs.Ytlfbfdhdkccaeaa
open Go.RowKit Go.Shelf Go.Sort

theorem Pl.nd_le {n : Nat} {f : List Int} (hd : f.Nodup) (hi : ∀ x, x ∈ f → 0 ≤ x ∧ x < (n : Int)) : f.length ≤ n := by
  have hs : ∀ x, x ∈ f → x ∈ (List.range n).map (fun q : Nat => (q : Int)) := by
    intro x hx
    obtain ⟨h0, h1⟩ := hi x hx
    exact List.mem_map.2 ⟨x.toNat, List.mem_range.2 (by omega), by omega⟩
  have := List.Nodup.length_le_of_subset hd (l₂ := (List.range n).map (fun q : Nat => (q : Int))) (fun x hx => hs x hx)
  simpa using this
theorem Pl.emp_succ {rows : List (List Int)} {k : Nat} (hk : k < rows.length) : Pl.emp (rows.take (k + 1)) = (Pl.emp (rows.take k) || decide ((rows.getD k []).length = 0)) := by
  unfold Pl.emp
  rw [List.take_succ_eq_append_getElem hk, List.any_append, List.getD_eq_getElem?_getD, List.getElem?_eq_getElem hk]
  simp
/-- a row of a slice of slices -/
theorem rr_row {w : World} {A : Option Addr} {rows : List (List Int)} (h : RR inL 1 w A rows) {k : Nat} (hk : k < rows.length) :
    ∃ b off, A = some ⟨b, off, none⟩ ∧ b < w.heap.size ∧ ∃ A' c', w.cell? ⟨b, off + k, none⟩ = some (.slice A' (rows.getD k []).length c') ∧ Rows inL 1 w A' (rows.getD k []) ∧ (rows.getD k []).length ≤ c' ∧ c' ≤ maxLen := by
  obtain ⟨b, off, h1, h2, h3⟩ := h.open (by omega)
  exact ⟨b, off, h1, h2, h3 k hk⟩

set_option maxRecDepth 100000 in
set_option maxHeartbeats 16000000 in
theorem rCheck_any (A : Option Addr) (l : List Pl.Bt) (c n : Nat) (hn : l.length = n) (AR : Option Addr) (rows : List (List Int)) (cr m : Nat) (hm : rows.length = m) (hm6 : m ≤ 1000) (w : World) (hI : Bts w A l) (hR : RR inL 1 w AR rows) :
    Calls Try.prog 23 #[.slice A n c, .slice AR m cr] w fun e w' => e = .returned (.int .i64 (Pl.ckE l rows)) ∧ Below w.heap.size w w' := by
  have HC := Lib.hid (rvalid_any A l c w hI)
  rw [hn] at HC
  obtain ⟨x, hx⟩ : ∃ x, Pl.vs l = x := ⟨_, rfl⟩
  rw [hx] at HC
  cases x
  · have HV : Hid (Pl.ckE l rows = 60) := Lib.hid (Pl.ckE_no hx)
    generalize Pl.ckE l rows = V at *
    clear hI hR hn hm hx
    go_enter Try.func23, Try.ntmps23
    go_wp2_with fail
    refine HC.out.mono ?_
    rintro e w1 ⟨rfl, hb1⟩
    go_wp2
    go_ret
    exact ⟨by rw [HV.out]; rfl, hb1⟩
  have hn4 : n ≤ 40 := hn ▸ (Pl.ok_of hx).len
  have HK : Hid (Pl.ckE l rows = if rows.any (Pl.nix n) = true then 2 else if ¬ rows.flatten.Nodup then 43 else if rows.any (Pl.dty l) = true then 61 else if Pl.cov n rows.flatten = false ∨ Pl.emp rows = true then 4 else 0) := Lib.hid (by rw [Pl.ckE_ok hx]; unfold Pl.ckR; rw [hn])
  generalize Pl.ckE l rows = V at *
  have HI := Lib.hid hI
  have HR := Lib.hid hR
  have HN := Lib.hid hn
  have HM := Lib.hid hm
  have H2 : Hid (∀ i, i < m → Pl.nix n (rows.getD i []) = true → V = 2) := Lib.hid (fun i hi h => by rw [HK.out, if_pos (Pl.any_one (by rw [hm]; exact hi) h)])
  have HN1 : Hid ((∀ i, i < m → Pl.nix n (rows.getD i []) = false) → rows.any (Pl.nix n) = false) := Lib.hid (fun h => Pl.any_all (by rw [hm]; exact h))
  have H43 : Hid (rows.any (Pl.nix n) = false → ∀ k, k < m → ∀ j, ¬ (Pl.fl rows k ++ (rows.getD k []).take j).Nodup → V = 43) := Lib.hid (fun h0 k hk j h => by
    have hnd : ¬ rows.flatten.Nodup := fun h' => by
      have h2 := Pl.fl_nodup h' (k + 1)
      rw [Pl.fl_succ (by rw [hm]; exact hk)] at h2
      exact h (Pl.take_nodup j h2)
    rw [HK.out, if_neg (by rw [h0]; simp), if_pos hnd])
  have H61 : Hid (rows.any (Pl.nix n) = false → rows.flatten.Nodup → ∀ k, k < m → ∀ j, j < (rows.getD k []).length → 0 < j → Pl.may (Pl.bx l (rows.getD k []) (j - 1)) (Pl.bx l (rows.getD k []) j) = false → V = 61) := Lib.hid (fun h0 h1 k hk j hj hj0 h => by
    rw [HK.out, if_neg (by rw [h0]; simp), if_neg (fun h' => h' h1), if_pos (Pl.any_one (by rw [hm]; exact hk) (Pl.dty_yes hj hj0 h))])
  have HD1 : Hid ((∀ k, k < m → Pl.dty l (rows.getD k []) = false) → rows.any (Pl.dty l) = false) := Lib.hid (fun h => Pl.any_all (by rw [hm]; exact h))
  have HFL : Hid (Pl.fl rows m = rows.flatten) := Lib.hid (by rw [← hm]; exact Pl.fl_all rows)
  have HTA : Hid (rows.take m = rows) := Lib.hid (by rw [← hm, List.take_length])
  have HIX : Hid (rows.any (Pl.nix n) = false → ∀ k, k < m → ∀ (j : Nat) (hj : j < (rows.getD k []).length), ∃ q : Nat, (rows.getD k [])[j] = q ∧ q < n) := Lib.hid (fun h0 k hk j hj => by
    obtain ⟨h1, h2⟩ := Pl.nix_mem h0 _ (Pl.row_mem (by rw [hm]; exact hk) (List.getElem_mem hj))
    exact ⟨(rows.getD k [])[j].toNat, by omega, by omega⟩)
  have HLE : Hid (rows.any (Pl.nix n) = false → ∀ k, k < m → ∀ j, (Pl.fl rows k ++ (rows.getD k []).take j).Nodup → (Pl.fl rows k ++ (rows.getD k []).take j).length ≤ n) := Lib.hid (fun h0 k hk j h => Pl.nd_le h (fun x hx => by
    rcases List.mem_append.1 hx with h1 | h1
    · exact Pl.nix_mem h0 x ((Pl.fl_pre k).subset h1)
    · exact Pl.nix_mem h0 x (Pl.row_mem (by rw [hm]; exact hk) (List.mem_of_mem_take h1))))
  have HFS : Hid (∀ k, k < m → Pl.fl rows (k + 1) = Pl.fl rows k ++ rows.getD k []) := Lib.hid (fun k hk => Pl.fl_succ (by rw [hm]; exact hk))
  have HES : Hid (∀ k, k < m → Pl.emp (rows.take (k + 1)) = (Pl.emp (rows.take k) || decide ((rows.getD k []).length = 0))) := Lib.hid (fun k hk => Pl.emp_succ (by rw [hm]; exact hk))
  have HEND : Hid (rows.any (Pl.nix n) = false → rows.flatten.Nodup → rows.any (Pl.dty l) = false → V = if (rows.flatten.length < n) ∨ Pl.emp rows = true then 4 else 0) := Lib.hid (fun h0 h1 h2 => by
    rw [HK.out, if_neg (by rw [h0]; simp), if_neg (fun h' => h' h1), if_neg (by rw [h2]; simp), Pl.cov_len h1 (Pl.nix_mem h0)]
    have : (decide (n ≤ rows.flatten.length) = false ↔ rows.flatten.length < n) := by rw [decide_eq_false_iff_not]; omega
    simp only [this])
  have HRG : Hid (rows.any (Pl.nix n) = false → ∀ x, x ∈ rows.flatten → 0 ≤ x ∧ x < (n : Int)) := Lib.hid Pl.nix_mem
  have HGR : Hid (∀ k, k < m → ∃ b off, AR = some ⟨b, off, none⟩ ∧ b < w.heap.size ∧ ∃ A' c', w.cell? ⟨b, off + k, none⟩ = some (.slice A' (rows.getD k []).length c') ∧ Rows inL 1 w A' (rows.getD k []) ∧ (rows.getD k []).length ≤ c' ∧ c' ≤ maxLen) := Lib.hid (fun k hk => rr_row hR (by rw [hm]; exact hk))
  clear hI hR hn hm hx HK
  obtain ⟨i0, hi0, hz0, hn0, hy0⟩ := info_parts info4f
  go_enter Try.func23, Try.ntmps23
  go_wp2_with fail
  refine HC.out.mono ?_
  rintro e w1 ⟨rfl, hb1⟩
  have hmk := run_make w1 74 4 i0 (.bool false) Try.underlying74 hi0 hz0 .i64 .i64 (n : Int) (n : Int) (by omega) (by omega) (by rw [hy0]; omega) (by omega)
  rw [Int.toNat_natCast, hn0, Nat.mul_one] at hmk
  have hst : StB (w1.alloc (.cells (madeCells #[.bool false] n) 4)) w1.heap.size n (fun _ => false) := StF.new w1 n 4 Value.bool false
  have hB3 := hb1.alloc hb1.size (.cells (madeCells #[.bool false] n) 4)
  change Sem.run _ _ _ = Result.ok _ (w1.alloc (.cells (madeCells #[.bool false] n) 4)) at hmk
  have hgb : w.heap.size ≤ w1.heap.size := hb1.size
  generalize w1.alloc (.cells (madeCells #[.bool false] n) 4) = w3 at *
  obtain ⟨g, hg⟩ : ∃ g, w1.heap.size = g := ⟨_, rfl⟩
  rw [hg] at hst hmk hgb
  have HMK := Lib.hid hmk
  have HST := Lib.hid hst
  have HB3 := Lib.hid hB3
  clear hi0 hz0 hn0 hy0 hg HC hmk hst hB3
  go_wp2
  go_loop [5, 6] (fun i _ => ∃ k : Nat, k ≤ m ∧ i = .int .i64 k ∧ Hid (∀ j, j < k → Pl.nix n (rows.getD j []) = false)) (fun i _ => m - (intOf i).toNat)
  case atStart => exact ⟨0, Nat.zero_le _, rfl, Lib.hid (fun j hj => absurd hj (Nat.not_lt_zero _))⟩
  case round =>
    obtain ⟨k, hk, rfl, hno⟩ := hrel
    by_cases hlt : k < m
    · have hltI : (k : Int) < (m : Int) := by omega
      obtain ⟨b, off, rfl, hb, A', c', h1, h2, h3, h4⟩ := HGR.out k hlt
      have q0 := (hb1.cell (p := ⟨b, off + k, none⟩) hb).trans h1
      have HR' := Lib.hid h2
      have H2k := Lib.hid (H2.out k hlt)
      have HNA : Hid ((∀ (i : Nat) (hi : i < (rows.getD k []).length), decide (0 ≤ (rows.getD k [])[i] ∧ (rows.getD k [])[i] < (n : Int)) = true) → Pl.nix n (rows.getD k []) = false) := Lib.hid Pl.nix_all
      have HNO : Hid (∀ (i : Nat) (hi : i < (rows.getD k []).length), decide (0 ≤ (rows.getD k [])[i] ∧ (rows.getD k [])[i] < (n : Int)) = false → Pl.nix n (rows.getD k []) = true) := Lib.hid (fun i hi h => Pl.nix_one hi h)
      obtain ⟨row, hrow⟩ : ∃ r, rows.getD k [] = r := ⟨_, rfl⟩
      have HRW := Lib.hid hrow
      rw [hrow] at q0 HR' H2k HNA HNO h3
      obtain ⟨u, hu⟩ : ∃ u, row.length = u := ⟨_, rfl⟩
      have HU := Lib.hid hu
      rw [hu] at q0 h3
      have hu63 : u ≤ 9223372036854775807 := Nat.le_trans h3 h4
      clear h1 h2 h3 h4 hrow hu
      go_wp2
      go_loop [6] (fun i => ∃ j : Nat, j ≤ u ∧ i = .int .i64 j ∧ Hid (∀ (i : Nat) (hi : i < row.length), i < j → decide (0 ≤ row[i] ∧ row[i] < (n : Int)) = true)) (fun i => u - (intOf i).toNat)
      case atStart => exact ⟨0, Nat.zero_le _, rfl, Lib.hid (fun i _ hi => absurd hi (Nat.not_lt_zero _))⟩
      case round =>
        obtain ⟨j, hj, rfl, hall⟩ := hrel
        by_cases hlt2 : j < u
        · have hltI2 : (j : Int) < (u : Int) := by omega
          have hjx : j < row.length := by rw [HU.out]; exact hlt2
          obtain ⟨bx, ox, rfl, hbx, hcx⟩ := HR'.out.open (by omega)
          have p0 := row_cell (mk := Value.int .i64) hbx hcx hb1 hjx
          obtain ⟨y, hy⟩ : ∃ y, decide (0 ≤ row[j] ∧ row[j] < (n : Int)) = y := ⟨_, rfl⟩
          have HC := Lib.hid (risindex_b row[j] A n c y hy w1)
          have HY : Hid (∀ (i : Nat) (hi : i < row.length), i = j → decide (0 ≤ row[i] ∧ row[i] < (n : Int)) = y) := Lib.hid (fun i hi e => by subst e; exact hy)
          have HB2 := Lib.hid (HNO.out j hjx)
          rw [hy] at HB2
          clear hcx hy
          generalize row[j] = x at *
          cases y with
          | false =>
            have HF := Lib.hid (H2k.out (HB2.out rfl))
            go_wp2_with fail
            refine HC.out.mono ?_
            rintro e w2 ⟨rfl, hw2⟩
            obtain rfl : w1 = w2 := hw2.symm
            go_wp2
            go_ret
            exact ⟨by rw [HF.out]; rfl, hb1⟩
          | true =>
            go_wp2_with fail
            refine HC.out.mono ?_
            rintro e w2 ⟨rfl, hw2⟩
            obtain rfl : w1 = w2 := hw2.symm
            go_wp2
            go_round
            case rel => exact ⟨j + 1, by omega, by go_num, Lib.hid (fun i hi hik => by
              rcases Nat.lt_succ_iff_lt_or_eq.1 hik with h' | rfl
              · exact hall.out i hi h'
              · exact HY.out _ hi rfl)⟩
            case measure => simp [intOf]; omega
        · obtain rfl : j = u := by omega
          have HE := Lib.hid (HNA.out (fun i hi => hall.out i hi (by rw [← HU.out]; exact hi)))
          go_wp2
          go_round
          case rel => exact ⟨k + 1, by omega, by go_num, Lib.hid (fun i hi => by
            rcases Nat.lt_succ_iff_lt_or_eq.1 hi with h' | rfl
            · exact hno.out i h'
            · rw [HRW.out]; exact HE.out)⟩
          case measure => simp [intOf]; omega
    · obtain rfl : m = k := by omega
      have HNX := Lib.hid (HN1.out hno.out)
      have hmk := HMK.out
      have HIX2 := Lib.hid (HIX.out HNX.out)
      have HLE2 := Lib.hid (HLE.out HNX.out)
      have H432 := Lib.hid (H43.out HNX.out)
      have H612 := Lib.hid (H61.out HNX.out)
      have HEND2 := Lib.hid (HEND.out HNX.out)
      have HRG2 := Lib.hid (HRG.out HNX.out)
      clear hno HRG HIX HLE H43 H61 HEND H2 HN1 HNX
      go_wp2
      clear hmk
      have HL0 : Hid ((Pl.fl rows 0).length = 0 ∧ Pl.emp (rows.take 0) = false) := Lib.hid ⟨rfl, rfl⟩
      go_loopw [8, 9, 10, 11] (fun cn em i _ wr => ∃ k : Nat, ∃ u, k ≤ m ∧ cn = .int .i64 ((Pl.fl rows k).length : Nat) ∧ em = .bool (Pl.emp (rows.take k)) ∧ i = .int .i64 k ∧ StB wr g n u ∧ Hid (∀ q : Nat, q < n → u q = decide ((q : Int) ∈ Pl.fl rows k)) ∧ Hid (Pl.fl rows k).Nodup ∧ Below w.heap.size w wr) (fun _ _ i _ _ => m - (intOf i).toNat)
      case atStart => exact ⟨0, _, Nat.zero_le _, by rw [HL0.out.1]; rfl, by rw [HL0.out.2], rfl, HST.out, Lib.hid (fun q _ => by rw [Pl.fl_zero]; simp), Lib.hid (by rw [Pl.fl_zero]; simp), HB3.out⟩
      case round =>
        obtain ⟨k, u, hk, rfl, rfl, rfl, hst, hu, hnd, hW⟩ := hrel
        obtain ⟨wo, rfl⟩ : ∃ wo, wo = wr := ⟨_, rfl⟩
        by_cases hlt : k < m
        · have hltI : (k : Int) < (m : Int) := by omega
          obtain ⟨b, off, rfl, hb, A', c', h1, h2, h3, h4⟩ := HGR.out k hlt
          have HQ0 := Lib.hid (fun W (hB : Below w.heap.size w W) => (hB.cell (p := ⟨b, off + k, none⟩) hb).trans h1)
          have HR' := Lib.hid h2
          have HIXk := Lib.hid (HIX2.out k hlt)
          have HLEk := Lib.hid (HLE2.out k hlt)
          have H43k := Lib.hid (H432.out k hlt)
          have HFSk := Lib.hid (HFS.out k hlt)
          have HESk := Lib.hid (HES.out k hlt)
          obtain ⟨row, hrow⟩ : ∃ r, rows.getD k [] = r := ⟨_, rfl⟩
          rw [hrow] at HQ0 HR' HIXk HLEk H43k HFSk HESk h3
          obtain ⟨U, hU⟩ : ∃ u, row.length = u := ⟨_, rfl⟩
          have HU := Lib.hid hU
          rw [hU] at HQ0 HESk h3
          have hu63 : U ≤ 9223372036854775807 := Nat.le_trans h3 h4
          have HT : Hid (∀ j (hj : j < row.length), row.take (j + 1) = row.take j ++ [row[j]]) := Lib.hid (fun j hj => List.take_succ_eq_append_getElem hj)
          have HAL : Hid (row.take U = row) := Lib.hid (by rw [← hU, List.take_length])
          have HPRE : Hid (∀ j, j ≤ U → (Pl.fl rows k ++ row.take j).length = (Pl.fl rows k).length + j) := Lib.hid (fun j hj => by rw [List.length_append, List.length_take, Nat.min_eq_left (by omega)])
          have HFL2 : Hid ((Pl.fl rows (k + 1)).length = (Pl.fl rows k).length + U) := Lib.hid (by rw [HFSk.out, List.length_append, hU])
          have q0 := HQ0.out wo hW
          clear h1 h2 h3 h4 hrow hU
          obtain ⟨F, hF⟩ : ∃ F, Pl.fl rows k = F := ⟨_, rfl⟩
          rw [hF] at HLEk H43k HFSk HPRE HFL2 hu hnd ⊢
          have HU0 : Hid (∀ q : Nat, q < n → u q = decide ((q : Int) ∈ F ++ row.take 0)) := Lib.hid (fun q hq => by rw [hu.out q hq]; simp)
          have HN0 : Hid ((F ++ row.take 0).Nodup) := Lib.hid (by simpa using hnd.out)
          obtain ⟨L, hL⟩ : ∃ L, F.length = L := ⟨_, rfl⟩
          rw [hL] at HPRE HFL2 ⊢
          obtain ⟨E, hE⟩ : ∃ E, Pl.emp (rows.take k) = E := ⟨_, rfl⟩
          rw [hE] at HESk ⊢
          have HSW := Lib.hid hst
          have HWO := Lib.hid hW
          clear hF hL hE hu hnd hst hW
          have hcase : (E = true) ∨ (E = false ∧ ((U : Int) == 0) = true) ∨ (E = false ∧ ((U : Int) == 0) = false) := by
            cases E <;> cases h : ((U : Int) == 0) <;> simp
          have HD : Hid (((U : Int) == 0) = decide (U = 0)) := Lib.hid (by
            by_cases h : U = 0
            · subst h; rfl
            · have : ((U : Int) == 0) = false := by simp [h]
              rw [this, decide_eq_false h])
          rcases hcase with rfl | ⟨rfl, hz⟩ | ⟨rfl, hz⟩
          all_goals
            go_wp2
            go_loopw [8, 11] (fun cn i wr => ∃ j : Nat, ∃ u, j ≤ U ∧ cn = .int .i64 ((L : Int) + (j : Int)) ∧ i = .int .i64 j ∧ StB wr g n u ∧ Hid (∀ q : Nat, q < n → u q = decide ((q : Int) ∈ F ++ row.take j)) ∧ Hid (F ++ row.take j).Nodup ∧ Below w.heap.size w wr) (fun _ i _ => U - (intOf i).toNat)
            case atStart => exact ⟨0, _, Nat.zero_le _, by simp, rfl, HSW.out, HU0, HN0, HWO.out⟩
            case round =>
              obtain ⟨j, u2, hj, rfl, rfl, hst, hu, hnd, hW⟩ := hrel
              obtain ⟨w5, rfl⟩ : ∃ w5, w5 = wr := ⟨_, rfl⟩
              have hLj : L + j ≤ 40 := by
                have h1 := HLEk.out j hnd.out
                rw [HPRE.out j hj] at h1
                omega
              have q1 := HQ0.out w5 hW
              clear q0
              by_cases hlt2 : j < U
              · have hltI2 : (j : Int) < (U : Int) := by omega
                have hjx : j < row.length := by rw [HU.out]; exact hlt2
                obtain ⟨bx, ox, rfl, hbx, hcx⟩ := HR'.out.open (by omega)
                have p0 := row_cell (mk := Value.int .i64) hbx hcx hW hjx
                obtain ⟨q, hq, hqn⟩ := HIXk.out j hjx
                have HTK := Lib.hid (HT.out j hjx)
                rw [hq] at p0 HTK
                have H43j := Lib.hid (H43k.out (j + 1))
                rw [HTK.out] at H43j
                have hqI : (q : Int) < (n : Int) := by omega
                have hcu := hst.cell hqn
                have hfr := hst.frozen q
                obtain ⟨y, hy⟩ : ∃ y, u2 q = y := ⟨_, rfl⟩
                rw [hy] at hcu
                have HY : Hid (decide ((q : Int) ∈ F ++ row.take j) = y) := Lib.hid (by rw [← hu.out q hqn, hy])
                clear hcx hq
                cases y with
                | true =>
                  have HF : Hid (V = 43) := Lib.hid (H43j.out (fun h => by
                    rw [← List.append_assoc, Pl.nodup_snoc] at h
                    exact h.2 (of_decide_eq_true HY.out)))
                  clear hst hy
                  go_wp2
                  go_ret
                  exact ⟨by rw [HF.out]; rfl, hW⟩
                | false =>
                  have HN2 : Hid ((F ++ row.take (j + 1)).Nodup) := Lib.hid (by
                    rw [HTK.out, ← List.append_assoc, Pl.nodup_snoc]
                    exact ⟨hnd.out, of_decide_eq_false HY.out⟩)
                  have hst2 := Lib.hid (hst.set (f' := fun t => if t = q then true else u2 t) q true (fun t _ => rfl))
                  have HUU : Hid (∀ t : Nat, t < n → (fun t => if t = q then true else u2 t) t = decide ((t : Int) ∈ F ++ row.take (j + 1))) := Lib.hid (fun t ht => by
                    show (if t = q then true else u2 t) = _
                    rw [HTK.out, ← List.append_assoc]
                    by_cases e : t = q
                    · subst e; simp
                    · rw [if_neg e, hu.out t ht]
                      have : ¬ (t : Int) = (q : Int) := by omega
                      simp [this])
                  have hW2 := Lib.hid (hW.setCell (p := ⟨g, q, none⟩) hgb (.bool true))
                  clear hst hy hu
                  go_wp2
                  go_roundw
                  case rel => exact ⟨j + 1, _, by omega, by congr 1 <;> omega, by go_num, hst2.out, HUU, HN2, hW2.out⟩
                  case measure => simp [intOf]; omega
              · obtain rfl : U = j := by omega
                rw [HAL.out] at hu hnd
                have HST5 := Lib.hid hst
                have HW5 := Lib.hid hW
                clear hst hW
                go_wp2
                go_roundw
                case rel => exact ⟨k + 1, _, by omega, by rw [HFL2.out]; congr 1, by rw [HESk.out, ← HD.out]; first | rfl | (rw [hz]; rfl), by go_num, HST5.out, Lib.hid (fun q hq => by rw [HFSk.out]; exact hu.out q hq), Lib.hid (by rw [HFSk.out]; exact hnd.out), HW5.out⟩
                case measure => simp [intOf]; omega
        · obtain rfl : m = k := by omega
          rw [HFL.out] at hnd
          have HL : Hid (rows.flatten.length ≤ n) := Lib.hid (Pl.nd_le hnd.out HRG2.out)
          have HV := Lib.hid (HEND2.out hnd.out)
          have H61n := Lib.hid (H612.out hnd.out)
          have HEM : Hid (Pl.emp (rows.take m) = Pl.emp rows) := Lib.hid (by rw [HTA.out])
          rw [HFL.out, HEM.out]
          obtain ⟨L, hL⟩ : ∃ L, rows.flatten.length = L := ⟨_, rfl⟩
          rw [hL] at HV HL ⊢
          obtain ⟨E, hE⟩ : ∃ E, Pl.emp rows = E := ⟨_, rfl⟩
          rw [hE] at HV ⊢
          have hL4 : L ≤ n := HL.out
          clear hst hu hnd hL hE H432 HLE2 HEND2 H612 HMK HST HFS HES HEM HRG2 HL
          go_wp2
          go_loopw [12, 13] (fun i _ wr => ∃ k : Nat, k ≤ m ∧ i = .int .i64 k ∧ Hid (∀ j, j < k → Pl.dty l (rows.getD j []) = false) ∧ Below w.heap.size w wr) (fun i _ _ => m - (intOf i).toNat)
          case atStart => exact ⟨0, Nat.zero_le _, rfl, Lib.hid (fun j hj => absurd hj (Nat.not_lt_zero _)), hW⟩
          case round =>
            clear hW
            obtain ⟨k, hk, rfl, hno, hW⟩ := hrel
            obtain ⟨w4, rfl⟩ : ∃ w4, w4 = wr := ⟨_, rfl⟩
            by_cases hlt : k < m
            · have hltI : (k : Int) < (m : Int) := by omega
              obtain ⟨b, off, rfl, hb, A', c', h1, h2, h3, h4⟩ := HGR.out k hlt
              have HQ0 := Lib.hid (fun W (hB : Below w.heap.size w W) => (hB.cell (p := ⟨b, off + k, none⟩) hb).trans h1)
              have HR' := Lib.hid h2
              have HIXk := Lib.hid (HIX2.out k hlt)
              have H61k := Lib.hid (H61n.out k hlt)
              have HDN : Hid ((∀ j, j < (rows.getD k []).length → 0 < j → Pl.may (Pl.bx l (rows.getD k []) (j - 1)) (Pl.bx l (rows.getD k []) j) = true) → Pl.dty l (rows.getD k []) = false) := Lib.hid Pl.dty_no
              obtain ⟨row, hrow⟩ : ∃ r, rows.getD k [] = r := ⟨_, rfl⟩
              have HRW := Lib.hid hrow
              rw [hrow] at HQ0 HR' HIXk H61k HDN h3
              obtain ⟨U, hU⟩ : ∃ u, row.length = u := ⟨_, rfl⟩
              have HU := Lib.hid hU
              rw [hU] at HQ0 H61k HDN h3
              have hu63 : U ≤ 9223372036854775807 := Nat.le_trans h3 h4
              clear h1 h2 h3 h4 hrow hU
              go_wp2
              go_loopw [13] (fun i wr => ∃ j : Nat, 1 ≤ j ∧ (j ≤ U ∨ j = 1) ∧ i = .int .i64 j ∧ Hid (∀ i, i < j → 0 < i → Pl.may (Pl.bx l row (i - 1)) (Pl.bx l row i) = true) ∧ Below w.heap.size w wr) (fun i _ => U - (intOf i).toNat)
              case atStart => exact ⟨1, Nat.le_refl _, .inr rfl, rfl, Lib.hid (fun i hi h0 => by omega), hW⟩
              case round =>
                clear hW
                obtain ⟨j0, hj1, hj2, rfl, hap, hW⟩ := hrel
                obtain ⟨w5, rfl⟩ : ∃ w5, w5 = wr := ⟨_, rfl⟩
                have q0 := HQ0.out w5 hW
                by_cases hlt2 : j0 < U
                · obtain ⟨j, rfl⟩ : ∃ j, j0 = j + 1 := ⟨j0 - 1, by omega⟩
                  have hltI2 : ((j + 1 : Nat) : Int) < (U : Int) := by omega
                  have hkx : j + 1 < row.length := by rw [HU.out]; exact hlt2
                  have hjx : j < row.length := by omega
                  obtain ⟨bx, ox, rfl, hbx, hcx⟩ := HR'.out.open (by omega)
                  have p0' := row_cell (mk := Value.int .i64) hbx hcx hW hkx
                  have p1' := row_cell (mk := Value.int .i64) hbx hcx hW hjx
                  obtain ⟨p, hp, hpn⟩ := HIXk.out (j + 1) hkx
                  obtain ⟨q, hq, hqn⟩ := HIXk.out j hjx
                  have HP := Lib.hid (Pl.bx_eq (l := l) hkx hp)
                  have HQ := Lib.hid (Pl.bx_eq (l := l) hjx hq)
                  rw [hp] at p0'
                  rw [hq] at p1'
                  have hpI : (p : Int) < (n : Int) := by omega
                  have hqI : (q : Int) < (n : Int) := by omega
                  obtain ⟨bz, oz, rfl, hbz, hcz⟩ := bts_open HI.out (by rw [HN.out]; omega)
                  have HCZ := Lib.hid (fun W (hB : Below w.heap.size w W) i (hi : i < l.length) => bts_cells hbz hcz hB hi)
                  have hbz2 : bz < w5.heap.size := Nat.lt_of_lt_of_le hbz hW.size
                  have r1 := HCZ.out w5 hW p (by rw [HN.out]; exact hpn)
                  have r2 := HCZ.out w5 hW q (by rw [HN.out]; exact hqn)
                  have HNO := Lib.hid (H61k.out (j + 1) hlt2 (by omega))
                  have HYES : Hid (Pl.may (Pl.bx l row j) (Pl.bx l row (j + 1)) = true → ∀ i, i < j + 1 + 1 → 0 < i → Pl.may (Pl.bx l row (i - 1)) (Pl.bx l row i) = true) := Lib.hid (fun h i hi h0 => by
                    rcases Nat.lt_succ_iff_lt_or_eq.1 hi with h' | rfl
                    · exact hap.out i h' h0
                    · exact h)
                  rw [show j + 1 - 1 = j from rfl, HP.out, HQ.out] at HNO
                  rw [HP.out, HQ.out] at HYES
                  have q0s := fun s : Ext w5 => s.cell (p := ⟨b, off + k, none⟩) q0
                  have p0 := fun s : Ext w5 => s.cell (p := ⟨bx, ox + (j + 1), none⟩) p0'
                  have p1 := fun s : Ext w5 => s.cell (p := ⟨bx, ox + j, none⟩) p1'
                  have hjI : (j : Int) < (U : Int) := by omega
                  have k1 : IntKind.i64.wrap (((j + 1 : Nat) : Int) - 1) = (j : Int) := by rw [show ((j + 1 : Nat) : Int) - 1 = (j : Int) from by omega]; exact IntWalk.i64_in _ (by omega)
                  have k2 : ((j + 1 : Nat) : Int) - 1 = (j : Int) := by omega
                  clear hp hq hap hcx hcz p0' p1' hj1 hj2
                  generalize Pl.at' l p = EE at *
                  generalize Pl.at' l q = FF at *
                  obtain ⟨x1, h1⟩ : ∃ x, Pl.may FF EE = x := ⟨_, rfl⟩
                  rw [h1] at HNO HYES
                  have H1 := Lib.hid h1
                  have y10 := fun s : Ext w5 => (bt_cells (ext_range s r1 hbz2)).1
                  have y11 := fun s : Ext w5 => (bt_cells (ext_range s r1 hbz2)).2.1
                  have y12 := fun s : Ext w5 => (bt_cells (ext_range s r1 hbz2)).2.2.1
                  have y13 := fun s : Ext w5 => (bt_cells (ext_range s r1 hbz2)).2.2.2.1
                  have y14 := fun s : Ext w5 => (bt_cells (ext_range s r1 hbz2)).2.2.2.2.1
                  have y15 := fun s : Ext w5 => (bt_cells (ext_range s r1 hbz2)).2.2.2.2.2.1
                  have y16 := fun s : Ext w5 => (bt_cells (ext_range s r1 hbz2)).2.2.2.2.2.2
                  have y20 := fun s : Ext w5 => (bt_cells (ext_range s r2 hbz2)).1
                  have y21 := fun s : Ext w5 => (bt_cells (ext_range s r2 hbz2)).2.1
                  have y22 := fun s : Ext w5 => (bt_cells (ext_range s r2 hbz2)).2.2.1
                  have y23 := fun s : Ext w5 => (bt_cells (ext_range s r2 hbz2)).2.2.2.1
                  have y24 := fun s : Ext w5 => (bt_cells (ext_range s r2 hbz2)).2.2.2.2.1
                  have y25 := fun s : Ext w5 => (bt_cells (ext_range s r2 hbz2)).2.2.2.2.2.1
                  have y26 := fun s : Ext w5 => (bt_cells (ext_range s r2 hbz2)).2.2.2.2.2.2
                  clear h1 r1 r2
                  cases x1
                  · have HF : Hid (V = 61) := Lib.hid (HNO.out rfl)
                    go_wp2
                    refine wp_region_ext (by kernel_rfl) (by kernel_rfl) ?_
                    repeat (go_big_quiet_step ((go_at_call 52; refine calls_ext (rmay_b _ _ _ H1.out _))))
                    refine wpQuiet_nil ?_
                    rintro _ ⟨s, rfl⟩
                    go_wp2
                    go_ret
                    exact ⟨by rw [HF.out]; rfl, hW.trans (s.h.mono hW.size)⟩
                  · have HF := Lib.hid (HYES.out rfl)
                    go_wp2
                    refine wp_region_ext (by kernel_rfl) (by kernel_rfl) ?_
                    repeat (go_big_quiet_step ((go_at_call 52; refine calls_ext (rmay_b _ _ _ H1.out _))))
                    refine wpQuiet_nil ?_
                    rintro _ ⟨s, rfl⟩
                    go_wp2
                    go_roundw
                    case rel => exact ⟨j + 1 + 1, by omega, by omega, by go_num, HF, hW.trans (s.h.mono hW.size)⟩
                    case measure => simp [intOf]; omega
                · have hnI : ¬ (j0 : Int) < (U : Int) := by omega
                  have HE := Lib.hid (HDN.out (fun i hi h0 => hap.out i (by omega) h0))
                  clear hap
                  go_wp2
                  go_roundw
                  case rel => exact ⟨k + 1, by omega, by go_num, Lib.hid (fun i hi => by
                    rcases Nat.lt_succ_iff_lt_or_eq.1 hi with h' | rfl
                    · exact hno.out i h'
                    · rw [HRW.out]; exact HE.out), hW⟩
                  case measure => simp [intOf]; omega
            · obtain rfl : m = k := by omega
              have HVV := Lib.hid (HV.out (HD1.out hno.out))
              clear hno HV
              cases E
              · by_cases hLn : L < n
                · have hLI : (L : Int) < (n : Int) := by omega
                  have HF : Hid (V = 4) := Lib.hid (by rw [HVV.out, if_pos (.inl hLn)])
                  go_wp2
                  go_ret
                  exact ⟨by rw [HF.out]; rfl, hW⟩
                · have hLI : ¬ (L : Int) < (n : Int) := by omega
                  have HF : Hid (V = 0) := Lib.hid (by rw [HVV.out, if_neg (by rintro (h | h); exact hLn h; cases h)])
                  go_wp2
                  go_ret
                  exact ⟨by rw [HF.out]; rfl, hW⟩
              · have HF : Hid (V = 4) := Lib.hid (by rw [HVV.out, if_pos (.inr rfl)])
                go_wp2
                go_ret
                exact ⟨by rw [HF.out]; rfl, hW⟩
end Go.Proofs.Ytlfbfdhdkccaeaa
