/- refused, behind, plan, inspect, History, State, Restart: of the document. -/
import Derived.Test.YtfkhlglagokodaaG3
namespace Go.Proofs.Ytfkhlglagokodaa
open Go.RowKit Go.Shelf

set_option maxRecDepth 100000 in
set_option maxHeartbeats 2000000 in
theorem rrefused_b (A : Option Addr) (l : List Bool) (c n k : Nat) (hn : l.length = n) (hn2 : n ≤ 200) (hk : k ≤ 200) (v : Nat) (hv : Pl.rf (Pl.lst k l) = v) (w : World) (hA : Rows boL 1 w A l) :
    Calls Try.prog 71 #[.slice A n c, .int .i64 k] w fun e w' => e = .returned (.int .i64 v) ∧ w' = w := by
  have HA := Lib.hid hA
  have HN := Lib.hid hn
  obtain ⟨D, hD⟩ : ∃ D, n - k = D := ⟨_, rfl⟩
  have HV : Hid (Pl.rf (l.drop D) = v) := Lib.hid (by rw [← hv]; unfold Pl.lst; rw [hn, hD])
  have e1 : IntKind.i64.wrap ((n : Int) - (k : Int)) = (n : Int) - (k : Int) := IntWalk.i64_in _ (by omega)
  have hDn : D ≤ n := by omega
  have HDD := Lib.hid hD
  have HDR : Hid ((l.drop D).length = n - D) := Lib.hid (by rw [List.length_drop, hn])
  clear hA hn hv hD
  go_enter Try.func71, Try.ntmps71
  go_wp2
  all_goals
    go_loopw [5, 6] (fun x j wr => ∃ t : Nat, D + t ≤ n ∧ x = .int .i64 (Pl.rf ((l.drop D).take t)) ∧ j = .int .i64 ((D + t : Nat) : Int) ∧ wr = w) (fun _ j _ => n - (intOf j).toNat)
    case atStart => exact ⟨0, by omega, rfl, congrArg (Value.int .i64) (by have := HDD.out; omega), rfl⟩
    case round =>
      clear HDD
      obtain ⟨t, ht, rfl, rfl, hwr⟩ := hrel
      rw [hwr]
      clear hwr
      obtain ⟨i, hi⟩ : ∃ i, D + t = i := ⟨_, rfl⟩
      rw [hi] at ht ⊢
      have HI := Lib.hid hi
      by_cases hlt : i < n
      · have hltI : (i : Int) < (n : Int) := by omega
        have hil : i < l.length := by rw [HN.out]; exact hlt
        obtain ⟨ba, oa, rfl, hba, hca⟩ := HA.out.open (by omega)
        have q0 := row_cell (mk := Value.bool) hba hca (Below.refl _ _) hil
        have hX : t < (l.drop D).length := by rw [HDR.out]; omega
        have hR : Pl.rf ((l.drop D).take (t + 1)) = Pl.rf ((l.drop D).take t) + Pl.rf [l[i]] := by
          rw [List.take_succ_eq_append_getElem hX, Pl.rf_append]
          congr 3
          rw [List.getElem_drop]
          congr 1
        have hle : Pl.rf ((l.drop D).take t) ≤ 200 := Nat.le_trans (Pl.rf_le _) (by rw [List.length_take]; omega)
        have HR := Lib.hid hR
        clear hca hR hX hi
        generalize l[i] = y at *
        generalize Pl.rf ((l.drop D).take t) = X at *
        cases y with
        | true =>
          go_wp2
          go_roundw
          case rel => exact ⟨t + 1, by have := HI.out; omega, by rw [HR.out]; rfl, by rw [← HI.out]; go_num, trivial⟩
          case measure => have := HI.out; simp [intOf]; omega
        | false =>
          go_wp2
          go_roundw
          case rel => exact ⟨t + 1, by have := HI.out; omega, by rw [HR.out]; first | rfl | go_num, by rw [← HI.out]; go_num, trivial⟩
          case measure => have := HI.out; simp [intOf]; omega
      · obtain rfl : i = n := by omega
        have HE : Hid (Pl.rf ((l.drop D).take t) = v) := Lib.hid (by rw [← HV.out, List.take_of_length_le (by rw [HDR.out]; omega)])
        rw [HE.out]
        clear hi
        go_wp2
        go_ret
        exact ⟨rfl, rfl⟩

/-- the law's next state is the program's, where under reduced inspection all but the last were accepted -/
theorem last_red {l : List Bool} {b : Bool} (h : Pl.rf l = 0) : (Pl.rf (Pl.lst 1 (l ++ [b])) = 1) ↔ 0 < Pl.rf (l ++ [b]) := by
  rw [Pl.lst_one, Pl.rf_append, h]
  cases b <;> simp [Pl.rf_one]

set_option maxRecDepth 100000 in
set_option maxHeartbeats 8000000 in
theorem behind_b (st : Int) (A : Option Addr) (l : List Bool) (c n : Nat) (hn : l.length = n) (hn2 : n ≤ 200) (h3 : st = 3 → (Pl.rf (Pl.lst 1 l) = 1 ↔ 0 < Pl.rf l)) (w : World) (hA : Rows boL 1 w A l) :
    Calls Try.prog 61 #[.int .i64 st, .slice A n c] w fun e w' => e = .returned (.int .i64 (Pl.nxt st l)) ∧ w' = w := by
  have HR5 := Lib.hid (rrefused_b A l c n 5 hn hn2 (by omega) _ rfl w hA)
  have HR10 := Lib.hid (rrefused_b A l c n 10 hn hn2 (by omega) _ rfl w hA)
  have HR1 := Lib.hid (rrefused_b A l c n 1 hn hn2 (by omega) _ rfl w hA)
  have HRA := Lib.hid (rrefused_b A l c n n hn hn2 (by omega) _ rfl w hA)
  rw [Pl.lst_all (by omega)] at HRA
  have HX : Hid (Pl.nxt st l = if st = 1 then (if 2 ≤ Pl.rf (Pl.lst 5 l) then 2 else if 10 ≤ l.length ∧ Pl.rf (Pl.lst 10 l) = 0 then 3 else 1) else if st = 2 then (if 5 ≤ l.length ∧ Pl.rf (Pl.lst 5 l) = 0 then 1 else if 5 ≤ Pl.rf l then 4 else 2) else if st = 3 then (if 0 < Pl.rf l then 1 else 3) else st) := Lib.hid rfl
  have H3 := Lib.hid h3
  generalize Pl.nxt st l = NX at *
  rw [hn] at HX
  clear hn hA h3
  generalize Pl.rf (Pl.lst 10 l) = r10 at *
  generalize Pl.rf (Pl.lst 5 l) = r5 at *
  generalize Pl.rf (Pl.lst 1 l) = r1 at *
  generalize Pl.rf l = ra at *
  by_cases s1 : st = 1
  · subst s1
    by_cases c1 : 2 ≤ r5
    · have HN : Hid (NX = 2) := Lib.hid (by rw [HX.out, if_pos rfl, if_pos c1])
      have c1I : (2 : Int) ≤ (r5 : Int) := by omega
      go_enter Try.func61, Try.ntmps61
      go_wp2_with fail
      refine HR5.out.mono ?_
      rintro e w1 ⟨rfl, rfl⟩
      go_wp2
      go_ret
      exact ⟨by rw [HN.out]; rfl, rfl⟩
    · have c1I : ¬ (2 : Int) ≤ (r5 : Int) := by omega
      by_cases d1 : 10 ≤ n
      · have d1I : (10 : Int) ≤ (n : Int) := by omega
        by_cases d2 : r10 = 0
        · have HN : Hid (NX = 3) := Lib.hid (by rw [HX.out, if_pos rfl, if_neg c1, if_pos ⟨d1, d2⟩])
          subst d2
          go_enter Try.func61, Try.ntmps61
          go_wp2_with fail
          refine HR5.out.mono ?_
          rintro e w1 ⟨rfl, rfl⟩
          go_wp2_with fail
          refine HR10.out.mono ?_
          rintro e w1 ⟨rfl, rfl⟩
          go_wp2
          go_ret
          exact ⟨by rw [HN.out]; rfl, rfl⟩
        · have HN : Hid (NX = 1) := Lib.hid (by rw [HX.out, if_pos rfl, if_neg c1, if_neg (fun h => d2 h.2)])
          have d2I : ((r10 : Int) == 0) = false := by simp; omega
          clear d2
          go_enter Try.func61, Try.ntmps61
          go_wp2_with fail
          refine HR5.out.mono ?_
          rintro e w1 ⟨rfl, rfl⟩
          go_wp2_with fail
          refine HR10.out.mono ?_
          rintro e w1 ⟨rfl, rfl⟩
          go_wp2
          go_ret
          exact ⟨by rw [HN.out]; rfl, rfl⟩
      · have HN : Hid (NX = 1) := Lib.hid (by rw [HX.out, if_pos rfl, if_neg c1, if_neg (fun h => d1 h.1)])
        have d1I : ¬ (10 : Int) ≤ (n : Int) := by omega
        go_enter Try.func61, Try.ntmps61
        go_wp2_with fail
        refine HR5.out.mono ?_
        rintro e w1 ⟨rfl, rfl⟩
        go_wp2
        go_ret
        exact ⟨by rw [HN.out]; rfl, rfl⟩
  by_cases s2 : st = 2
  · subst s2
    clear s1
    have HX2 : Hid (NX = if 5 ≤ n ∧ r5 = 0 then 1 else if 5 ≤ ra then 4 else 2) := Lib.hid (by rw [HX.out, if_neg (by decide), if_pos rfl])
    by_cases d1 : 5 ≤ n
    · have d1I : (5 : Int) ≤ (n : Int) := by omega
      by_cases d2 : r5 = 0
      · have HN : Hid (NX = 1) := Lib.hid (by rw [HX2.out, if_pos ⟨d1, d2⟩])
        subst d2
        go_enter Try.func61, Try.ntmps61
        go_wp2_with fail
        refine HR5.out.mono ?_
        rintro e w1 ⟨rfl, rfl⟩
        go_wp2
        go_ret
        exact ⟨by rw [HN.out]; rfl, rfl⟩
      · have HN : Hid (NX = if 5 ≤ ra then 4 else 2) := Lib.hid (by rw [HX2.out, if_neg (fun h => d2 h.2)])
        have d2I : ((r5 : Int) == 0) = false := by simp; omega
        clear d2
        by_cases d3 : 5 ≤ ra
        · have d3I : (5 : Int) ≤ (ra : Int) := by omega
          have HN2 : Hid (NX = 4) := Lib.hid (by rw [HN.out, if_pos d3])
          go_enter Try.func61, Try.ntmps61
          go_wp2_with fail
          refine HR5.out.mono ?_
          rintro e w1 ⟨rfl, rfl⟩
          go_wp2_with fail
          refine HRA.out.mono ?_
          rintro e w1 ⟨rfl, rfl⟩
          go_wp2
          go_ret
          exact ⟨by rw [HN2.out]; rfl, rfl⟩
        · have d3I : ¬ (5 : Int) ≤ (ra : Int) := by omega
          have HN2 : Hid (NX = 2) := Lib.hid (by rw [HN.out, if_neg d3])
          go_enter Try.func61, Try.ntmps61
          go_wp2_with fail
          refine HR5.out.mono ?_
          rintro e w1 ⟨rfl, rfl⟩
          go_wp2_with fail
          refine HRA.out.mono ?_
          rintro e w1 ⟨rfl, rfl⟩
          go_wp2
          go_ret
          exact ⟨by rw [HN2.out]; rfl, rfl⟩
    · have d1I : ¬ (5 : Int) ≤ (n : Int) := by omega
      have HN : Hid (NX = if 5 ≤ ra then 4 else 2) := Lib.hid (by rw [HX2.out, if_neg (fun h => d1 h.1)])
      by_cases d3 : 5 ≤ ra
      · have d3I : (5 : Int) ≤ (ra : Int) := by omega
        have HN2 : Hid (NX = 4) := Lib.hid (by rw [HN.out, if_pos d3])
        go_enter Try.func61, Try.ntmps61
        go_wp2_with fail
        refine HRA.out.mono ?_
        rintro e w1 ⟨rfl, rfl⟩
        go_wp2
        go_ret
        exact ⟨by rw [HN2.out]; rfl, rfl⟩
      · have d3I : ¬ (5 : Int) ≤ (ra : Int) := by omega
        have HN2 : Hid (NX = 2) := Lib.hid (by rw [HN.out, if_neg d3])
        go_enter Try.func61, Try.ntmps61
        go_wp2_with fail
        refine HRA.out.mono ?_
        rintro e w1 ⟨rfl, rfl⟩
        go_wp2
        go_ret
        exact ⟨by rw [HN2.out]; rfl, rfl⟩
  by_cases s3 : st = 3
  · subst s3
    clear s1 s2
    by_cases d : r1 = 1
    · have HN2 : Hid (NX = 1) := Lib.hid (by rw [HX.out, if_neg (by decide), if_neg (by decide), if_pos rfl, if_pos ((H3.out rfl).1 d)])
      subst d
      go_enter Try.func61, Try.ntmps61
      go_wp2_with fail
      refine HR1.out.mono ?_
      rintro e w3 ⟨rfl, rfl⟩
      go_wp2
      go_ret
      exact ⟨by rw [HN2.out]; rfl, rfl⟩
    · have HN2 : Hid (NX = 3) := Lib.hid (by rw [HX.out, if_neg (by decide), if_neg (by decide), if_pos rfl, if_neg (fun h => d ((H3.out rfl).2 h))])
      have dI : ((r1 : Int) == 1) = false := by simp; omega
      clear d
      go_enter Try.func61, Try.ntmps61
      go_wp2_with fail
      refine HR1.out.mono ?_
      rintro e w3 ⟨rfl, rfl⟩
      go_wp2
      go_ret
      exact ⟨by rw [HN2.out]; rfl, rfl⟩
  · have HN2 : Hid (NX = st) := Lib.hid (by rw [HX.out, if_neg s1, if_neg s2, if_neg s3])
    have t1 : (st == 1) = false := by simpa using s1
    have t2 : (st == 2) = false := by simpa using s2
    have t3 : (st == 3) = false := by simpa using s3
    clear s1 s2 s3
    go_enter Try.func61, Try.ntmps61
    go_wp2
    go_ret
    exact ⟨by rw [HN2.out]; rfl, rfl⟩

set_option maxRecDepth 100000 in
set_option maxHeartbeats 4000000 in
theorem rplan_b (S : Pl.Sc) (st : Int) (w : World) :
    Calls Try.prog 60 #[.agg (scA S), .int .i64 st] w fun e w' => e = .returned (.agg (pnA (Pl.pl S st))) ∧ Below w.heap.size w w' := by
  have hB0 := (Below.refl w.heap.size w).alloc (Nat.le_refl _) (.cells (scA S) 25)
  have hB := fun q : Pl.Pn => hB0.alloc (by simp) (.cells (pnA q) 23)
  have bN := fun q : Pl.Pn => Blk.new (w.alloc (.cells (scA S) 25)) 23 (pnA q)
  have bS := (Blk.new w 25 (scA S)).alloc (.cells (pnA ⟨0, 0⟩) 23)
  obtain ⟨r1, r2, r3⟩ := sc_parts bS.range
  rw [Nat.zero_add] at r2 r3
  simp only [World.size_alloc] at bN
  by_cases s2 : st = 2
  · have HP : Hid (Pl.pl S st = S.t) := Lib.hid (by unfold Pl.pl; rw [if_pos s2])
    subst s2
    rw [HP.out]
    clear bS
    go_enter Try.func60, Try.ntmps60
    go_wp2_with (refine ldm_pn (s := S.t) r2 rfl _ rfl rfl ?_)
    exact bodyPost_ret (results_cell_row rfl _ _ _ _ _ _ _ rfl (bN S.t) Try.underlying23 rfl infoPn) rfl ⟨rfl, hB S.t⟩
  by_cases s3 : st = 3
  · have HP : Hid (Pl.pl S st = S.r) := Lib.hid (by unfold Pl.pl; rw [if_neg s2, if_pos s3])
    subst s3
    rw [HP.out]
    clear bS s2
    go_enter Try.func60, Try.ntmps60
    go_wp2_with (refine ldm_pn (s := S.r) r3 rfl _ rfl rfl ?_)
    exact bodyPost_ret (results_cell_row rfl _ _ _ _ _ _ _ rfl (bN S.r) Try.underlying23 rfl infoPn) rfl ⟨rfl, hB S.r⟩
  · have HP : Hid (Pl.pl S st = S.n) := Lib.hid (by unfold Pl.pl; rw [if_neg s2, if_neg s3])
    have t2 : (st == 2) = false := by simpa using s2
    have t3 : (st == 3) = false := by simpa using s3
    rw [HP.out]
    clear bS s2 s3
    go_enter Try.func60, Try.ntmps60
    go_wp2_with (refine ldm_pn (s := S.n) r1 rfl _ rfl rfl ?_)
    exact bodyPost_ret (results_cell_row rfl _ _ _ _ _ _ _ rfl (bN S.n) Try.underlying23 rfl infoPn) rfl ⟨rfl, hB S.n⟩
end Go.Proofs.Ytfkhlglagokodaa
