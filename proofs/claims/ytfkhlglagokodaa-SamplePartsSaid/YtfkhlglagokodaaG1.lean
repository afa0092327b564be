/- The lots since a state was entered: refused, last, passed, next: of the program. -/
import Derived.Test.YtfkhlglagokodaaA6
import Derived.Test.YtfkhlglagokodaaE1
namespace Go.Proofs.Ytfkhlglagokodaa
open Go.RowKit Go.Shelf

set_option maxRecDepth 100000 in
set_option maxHeartbeats 2000000 in
theorem refused_b (A : Option Addr) (l : List Bool) (c n : Nat) (hn : l.length = n) (hn2 : n ≤ 200) (v : Nat) (hv : Pl.rf l = v) (w : World) (hA : Rows boL 1 w A l) :
    Calls Try.prog 84 #[.slice A n c] w fun e w' => e = .returned (.int .i64 v) ∧ w' = w := by
  have HA := Lib.hid hA
  have HN := Lib.hid hn
  have HV := Lib.hid hv
  clear hA hn hv
  go_enter Try.func84, Try.ntmps84
  go_wp2
  go_loopw [3, 5, 8] (fun x _ j wr => ∃ k : Nat, k ≤ n ∧ x = .int .i64 (Pl.rf (l.take k)) ∧ j = .int .i64 k ∧ wr = w) (fun _ _ j _ => n - (intOf j).toNat)
  case atStart => exact ⟨0, Nat.zero_le _, rfl, rfl, rfl⟩
  case round =>
    obtain ⟨k, hk, rfl, rfl, hwr⟩ := hrel
    rw [hwr]
    clear hwr
    by_cases hlt : k < n
    · have hltI : (k : Int) < (n : Int) := by omega
      have hkl : k < l.length := by rw [HN.out]; exact hlt
      obtain ⟨ba, oa, rfl, hba, hca⟩ := HA.out.open (by omega)
      have q0 := row_cell (mk := Value.bool) hba hca (Below.refl _ _) hkl
      have hR : Pl.rf (l.take (k + 1)) = Pl.rf (l.take k) + Pl.rf [l[k]] := by rw [List.take_succ_eq_append_getElem hkl, Pl.rf_append]
      have hle : Pl.rf (l.take k) ≤ k := Nat.le_trans (Pl.rf_le _) (by rw [List.length_take]; omega)
      have HR := Lib.hid hR
      clear hca hR
      generalize l[k] = y at *
      generalize Pl.rf (l.take k) = X at *
      cases y with
      | true =>
        go_wp2
        go_roundw
        case rel => exact ⟨k + 1, by omega, by rw [HR.out]; rfl, by go_num, trivial⟩
        case measure => simp [intOf]; omega
      | false =>
        go_wp2
        go_roundw
        case rel => exact ⟨k + 1, by omega, by rw [HR.out]; first | rfl | go_num, by go_num, trivial⟩
        case measure => simp [intOf]; omega
    · obtain rfl : k = n := by omega
      have HE : Hid (Pl.rf (l.take k) = v) := Lib.hid (by rw [← HV.out, List.take_of_length_le (by rw [HN.out]; exact Nat.le_refl _)])
      rw [HE.out]
      go_wp2
      go_ret
      exact ⟨rfl, rfl⟩

theorem rows_drop {α : Type} {mk : α → Value} {W : World} {a : Addr} {l : List α} {D : Nat} (h : Rows (fun x => [mk x]) 1 W (some a) l) : Rows (fun x => [mk x]) 1 W (some (a.add D)) (l.drop D) := by
  rcases h with h | ⟨b, off, h1, h2, h3⟩
  · rw [h]; exact .inl List.drop_nil
  · cases h1
    refine .inr ⟨b, off + D, by cases D <;> simp [Addr.add], h2, fun i hi => ?_⟩
    rw [List.length_drop] at hi
    have := h3 (D + i) (by omega)
    rw [List.getElem_drop, show off + D + i * 1 = off + (D + i) * 1 from by omega]
    exact this

/-- an inspection: a scheme, a state, the lots since it was entered -/
abbrev inA (S : Pl.Sc) (st : Int) (v : Value) : Array Value := #[.int .i64 S.n.s, .int .i64 S.n.a, .int .i64 S.t.s, .int .i64 S.t.a, .int .i64 S.r.s, .int .i64 S.r.a, .int .i64 st, v]

set_option maxRecDepth 100000 in
set_option maxHeartbeats 2000000 in
theorem last_b (S : Pl.Sc) (st : Int) (g : Nat) (A : Option Addr) (l : List Bool) (c n k : Nat) (hn : l.length = n) (hn2 : n ≤ 200) (hk : k ≤ 10) (hnc : n ≤ c) (hz : A = none → c = 0) (w : World) (hG : Blk w g 78 (inA S st (.slice A n c))) (hA : Rows boL 1 w A l) :
    Calls Try.prog 85 #[.pointer (some ⟨g, 0, none⟩), .int .i64 k] w fun e w' => ∃ A' c', e = .returned (.slice A' (Pl.lst k l).length c') ∧ Rows boL 1 w' A' (Pl.lst k l) ∧ Below w.heap.size w w' := by
  have q := hG.cell 7
  obtain ⟨D, hD⟩ : ∃ D, n - k = D := ⟨_, rfl⟩
  have hLL : (Pl.lst k l).length = n - D := by rw [Pl.lst_len, hn]; omega
  have HL := Lib.hid hLL
  have e1 : IntKind.i64.wrap ((n : Int) - (k : Int)) = (n : Int) - (k : Int) := IntWalk.i64_in _ (by omega)
  have e2 : max (0 : Int) ((n : Int) - (k : Int)) = (D : Int) := by omega
  have hDn : D ≤ n := by omega
  have hDnI : (D : Int) ≤ (n : Int) := by omega
  have hDc : D ≤ c := by omega
  have hncI : (n : Int) ≤ (c : Int) := by omega
  clear hLL
  cases A with
  | none =>
    obtain rfl := hz rfl
    obtain rfl : n = 0 := by omega
    obtain rfl : D = 0 := by omega
    have HR : Hid (Pl.lst k l = []) := Lib.hid (by cases l with
      | nil => exact List.drop_nil
      | cons x xs => simp at hn)
    clear hD hn hG hA hz
    rw [HR.out]
    go_enter Try.func85, Try.ntmps85
    go_wp2
    go_region
    go_wp2
    go_ret
    first | exact ⟨_, _, rfl, Rows.nil _ _, (Below.refl _ _).drew⟩ | exact ⟨_, ⟨_, rfl⟩, Rows.nil _ _, (Below.refl _ _).drew⟩
  | some a =>
    have HA := Lib.hid hA
    have HN := Lib.hid hn
    clear hn hG hA hz
    go_enter Try.func85, Try.ntmps85
    go_wp2
    go_region
    have eD : (if k < n then (n : Int) - (k : Int) else 0).toNat = D := by split <;> omega
    have HLS : Hid (Pl.lst k l = l.drop D) := Lib.hid (by unfold Pl.lst; rw [HN.out, hD])
    have hcD : c = D → l.drop D = [] := fun h => List.drop_eq_nil_of_le (by rw [HN.out]; omega)
    obtain ⟨M, hM⟩ : ∃ M : Int, (if k < n then (n : Int) - (k : Int) else 0) = M := ⟨_, rfl⟩
    have hMD : M.toNat = D := by rw [← hM]; exact eD
    simp only [hM, hMD]
    obtain ⟨A', hA'⟩ : ∃ A', (if c = D then some a else some (a.add D)) = A' := ⟨_, rfl⟩
    simp only [hA']
    have HR : Hid (Rows boL 1 w.drew A' (Pl.lst k l)) := Lib.hid (by
      rw [HLS.out, ← hA']
      by_cases h : c = D
      · rw [hcD h]; exact Rows.nil _ _
      · rw [if_neg h]; exact rows_drop (mk := Value.bool) HA.out)
    clear hA' hM hMD eD hcD e2
    go_wp2
    go_ret
    first | exact ⟨A', c - D, by rw [HL.out]; rfl, HR.out, (Below.refl _ _).drew⟩ | exact ⟨_, _, rfl, HR.out, (Below.refl _ _).drew⟩ | exact ⟨A', ⟨_, rfl⟩, HR.out, (Below.refl _ _).drew⟩

theorem lst_le (k : Nat) (l : List Bool) : (Pl.lst k l).length ≤ l.length := by rw [Pl.lst_len]; omega

set_option maxRecDepth 100000 in
set_option maxHeartbeats 2000000 in
theorem passed_b (S : Pl.Sc) (st : Int) (g : Nat) (A : Option Addr) (l : List Bool) (c n k : Nat) (hn : l.length = n) (hn2 : n ≤ 200) (hk : k ≤ 10) (hnc : n ≤ c) (hz : A = none → c = 0) (v : Bool) (hv : (decide (k ≤ n) && decide (Pl.rf (Pl.lst k l) = 0)) = v) (w : World) (hG : Blk w g 78 (inA S st (.slice A n c))) (hA : Rows boL 1 w A l) :
    Calls Try.prog 86 #[.pointer (some ⟨g, 0, none⟩), .int .i64 k] w fun e w' => e = .returned (.bool v) ∧ Below w.heap.size w w' := by
  have q := hG.cell 7
  have HC := Lib.hid (last_b S st g A l c n k hn hn2 hk hnc hz w hG hA)
  have HLE := Lib.hid (lst_le k l)
  rw [hn] at HLE
  obtain ⟨r, hr⟩ : ∃ r, Pl.rf (Pl.lst k l) = r := ⟨_, rfl⟩
  rw [hr] at hv
  by_cases hkn : k ≤ n
  · have hkI : (k : Int) ≤ (n : Int) := by omega
    have HV : Hid (v = decide (r = 0)) := Lib.hid (by rw [← hv, decide_eq_true hkn]; rfl)
    have HR := Lib.hid (fun A' c' (w' : World) hA' => refused_b A' (Pl.lst k l) c' _ rfl (by have := HLE.out; omega) r hr w' hA')
    generalize Pl.lst k l = l' at *
    obtain ⟨n', hn'⟩ : ∃ n', l'.length = n' := ⟨_, rfl⟩
    rw [hn'] at HC HR
    clear hv hn hG hA hz hr hn'
    have eR : ((r : Int) == 0) = decide (r = 0) := by rw [Bool.eq_iff_iff]; simp
    go_enter Try.func86, Try.ntmps86
    go_wp2_with fail
    refine HC.out.mono ?_
    rintro e w1 ⟨A', c', rfl, hr1, hb1⟩
    have HR1 := Lib.hid hr1
    clear hr1
    go_wp2_with fail
    refine (HR.out _ _ _ HR1.out).mono ?_
    rintro e w2 ⟨rfl, rfl⟩
    go_wp2
    go_ret
    exact ⟨by rw [HV.out]; first | rfl | (simp; done) | (rw [← eR]; rfl), hb1⟩
  · have hkI : ¬ (k : Int) ≤ (n : Int) := by omega
    have HV : Hid (v = false) := Lib.hid (by rw [← hv, decide_eq_false hkn]; rfl)
    clear hv hn hG hA hz hr
    go_enter Try.func86, Try.ntmps86
    go_wp2
    go_ret
    exact ⟨by rw [HV.out]; rfl, Below.refl _ _⟩

set_option maxRecDepth 100000 in
set_option maxHeartbeats 8000000 in
theorem next_b (S : Pl.Sc) (st : Int) (g : Nat) (A : Option Addr) (l : List Bool) (c n : Nat) (hn : l.length = n) (hn2 : n ≤ 200) (hnc : n ≤ c) (hz : A = none → c = 0) (w : World) (hG : Blk w g 78 (inA S st (.slice A n c))) (hA : Rows boL 1 w A l) :
    Calls Try.prog 70 #[.pointer (some ⟨g, 0, none⟩)] w fun e w' => e = .returned (.int .i64 (Pl.nxt st l)) ∧ Below w.heap.size w w' := by
  have q6 := hG.cell 6
  have q7 := hG.cell 7
  have HL5 := Lib.hid (last_b S st g A l c n 5 hn hn2 (by omega) hnc hz w hG hA)
  have HP10 := Lib.hid (fun v hv w' (hb : Below w.heap.size w w') => passed_b S st g A l c n 10 hn hn2 (by omega) hnc hz v hv w' (hG.below hb hG.lt) (hA.below hb))
  have HP5 := Lib.hid (fun v hv => passed_b S st g A l c n 5 hn hn2 (by omega) hnc hz v hv w hG hA)
  have HRA := Lib.hid (fun w' (hb : Below w.heap.size w w') => refused_b A l c n hn hn2 _ rfl w' (hA.below hb))
  have HLE := Lib.hid (lst_le 5 l)
  have HR5 := Lib.hid (fun A' c' (w' : World) hA' => refused_b A' (Pl.lst 5 l) c' _ rfl (by have := HLE.out; omega) _ rfl w' hA')
  have HX : Hid (Pl.nxt st l = if st = 1 then (if 2 ≤ Pl.rf (Pl.lst 5 l) then 2 else if 10 ≤ l.length ∧ Pl.rf (Pl.lst 10 l) = 0 then 3 else 1) else if st = 2 then (if 5 ≤ l.length ∧ Pl.rf (Pl.lst 5 l) = 0 then 1 else if 5 ≤ Pl.rf l then 4 else 2) else if st = 3 then (if 0 < Pl.rf l then 1 else 3) else st) := Lib.hid rfl
  have hGlt := hG.lt
  have HB7 := Lib.hid (fun w' (hb : Below w.heap.size w w') => (hG.below hb hG.lt).cell 7)
  have HB6 := Lib.hid (fun w' (hb : Below w.heap.size w w') => (hG.below hb hG.lt).cell 6)
  generalize Pl.nxt st l = NX at *
  rw [hn] at HX
  clear hn hA hz hG
  generalize Pl.rf (Pl.lst 10 l) = r10 at *
  generalize Pl.rf (Pl.lst 5 l) = r5 at *
  generalize Pl.rf l = ra at *
  generalize Pl.lst 5 l = l5 at *
  obtain ⟨n5, hn5⟩ : ∃ n5, l5.length = n5 := ⟨_, rfl⟩
  rw [hn5] at HL5 HR5
  clear hn5
  by_cases s1 : st = 1
  · subst s1
    by_cases c1 : 2 ≤ r5
    · have HN : Hid (NX = 2) := Lib.hid (by rw [HX.out, if_pos rfl, if_pos c1])
      have c1I : (2 : Int) ≤ (r5 : Int) := by omega
      go_enter Try.func70, Try.ntmps70
      go_wp2_with fail
      refine HL5.out.mono ?_
      rintro e w1 ⟨A', c', rfl, hr1, hb1⟩
      have HR1 := Lib.hid hr1
      clear hr1
      go_wp2_with fail
      refine (HR5.out _ _ _ HR1.out).mono ?_
      rintro e w2 ⟨rfl, rfl⟩
      go_wp2
      go_ret
      exact ⟨by rw [HN.out]; rfl, hb1⟩
    · have c1I : ¬ (2 : Int) ≤ (r5 : Int) := by omega
      obtain ⟨v, hv⟩ : ∃ v, (decide (10 ≤ n) && decide (r10 = 0)) = v := ⟨_, rfl⟩
      have HN : Hid (NX = if v = true then 3 else 1) := Lib.hid (by
        rw [HX.out, if_pos rfl, if_neg c1, ← hv]
        by_cases d1 : 10 ≤ n <;> by_cases d2 : r10 = 0 <;> simp [d1, d2])
      have HP := Lib.hid (HP10.out v hv)
      clear hv
      go_enter Try.func70, Try.ntmps70
      go_wp2_with fail
      refine HL5.out.mono ?_
      rintro e w1 ⟨A', c', rfl, hr1, hb1⟩
      have HR1 := Lib.hid hr1
      clear hr1
      go_wp2_with fail
      refine (HR5.out _ _ _ HR1.out).mono ?_
      rintro e w2 ⟨rfl, rfl⟩
      go_wp2_with fail
      refine (HP.out _ hb1).mono ?_
      rintro e w2 ⟨rfl, hb2⟩
      have hB2 := hb1.trans (hb2.mono hb1.size)
      have z6 := HB6.out _ hB2
      cases v with
      | true =>
        go_wp2
        go_ret
        exact ⟨by rw [HN.out]; rfl, hB2⟩
      | false =>
        go_wp2
        go_ret
        exact ⟨by rw [HN.out]; rfl, hB2⟩
  by_cases s2 : st = 2
  · subst s2
    obtain ⟨v, hv⟩ : ∃ v, (decide (5 ≤ n) && decide (r5 = 0)) = v := ⟨_, rfl⟩
    have HN : Hid (NX = if v = true then 1 else if 5 ≤ ra then 4 else 2) := Lib.hid (by
      rw [HX.out, if_neg (by decide), if_pos rfl, ← hv]
      by_cases d1 : 5 ≤ n <;> by_cases d2 : r5 = 0 <;> simp [d1, d2])
    have HP := Lib.hid (HP5.out v hv)
    clear hv s1
    go_enter Try.func70, Try.ntmps70
    go_wp2_with fail
    refine HP.out.mono ?_
    rintro e w2 ⟨rfl, hb2⟩
    cases v with
    | true =>
      go_wp2
      go_ret
      exact ⟨by rw [HN.out]; rfl, hb2⟩
    | false =>
      have z7 := HB7.out _ hb2
      have z6 := HB6.out _ hb2
      by_cases d : 5 ≤ ra
      · have HN2 : Hid (NX = 4) := Lib.hid (by rw [HN.out, if_neg (by decide), if_pos d])
        have dI : (5 : Int) ≤ (ra : Int) := by omega
        go_wp2_with fail
        refine (HRA.out _ hb2).mono ?_
        rintro e w3 ⟨rfl, rfl⟩
        go_wp2
        go_ret
        exact ⟨by rw [HN2.out]; rfl, hb2⟩
      · have HN2 : Hid (NX = 2) := Lib.hid (by rw [HN.out, if_neg (by decide), if_neg d])
        have dI : ¬ (5 : Int) ≤ (ra : Int) := by omega
        go_wp2_with fail
        refine (HRA.out _ hb2).mono ?_
        rintro e w3 ⟨rfl, rfl⟩
        go_wp2
        go_ret
        exact ⟨by rw [HN2.out]; rfl, hb2⟩
  by_cases s3 : st = 3
  · subst s3
    by_cases d : 0 < ra
    · have HN2 : Hid (NX = 1) := Lib.hid (by rw [HX.out, if_neg (by decide), if_neg (by decide), if_pos rfl, if_pos d])
      have dI : (0 : Int) < (ra : Int) := by omega
      go_enter Try.func70, Try.ntmps70
      go_wp2_with fail
      refine (HRA.out _ (Below.refl _ _)).mono ?_
      rintro e w3 ⟨rfl, rfl⟩
      go_wp2
      go_ret
      exact ⟨by rw [HN2.out]; rfl, Below.refl _ _⟩
    · have HN2 : Hid (NX = 3) := Lib.hid (by rw [HX.out, if_neg (by decide), if_neg (by decide), if_pos rfl, if_neg d])
      have dI : ¬ (0 : Int) < (ra : Int) := by omega
      go_enter Try.func70, Try.ntmps70
      go_wp2_with fail
      refine (HRA.out _ (Below.refl _ _)).mono ?_
      rintro e w3 ⟨rfl, rfl⟩
      go_wp2
      go_ret
      exact ⟨by rw [HN2.out]; rfl, Below.refl _ _⟩
  · have HN2 : Hid (NX = st) := Lib.hid (by rw [HX.out, if_neg s1, if_neg s2, if_neg s3])
    have t1 : (st == 1) = false := by simpa using s1
    have t2 : (st == 2) = false := by simpa using s2
    have t3 : (st == 3) = false := by simpa using s3
    clear s1 s2 s3
    go_enter Try.func70, Try.ntmps70
    go_wp2
    go_ret
    exact ⟨by rw [HN2.out]; rfl, Below.refl _ _⟩
end Go.Proofs.Ytfkhlglagokodaa
