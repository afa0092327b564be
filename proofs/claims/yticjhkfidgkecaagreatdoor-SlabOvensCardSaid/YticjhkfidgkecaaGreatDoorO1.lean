/- Ovens: sizes, waits, and what is left of a size, of the program and the document. -/
import Derived.Test.YticjhkfidgkecaaGreatDoorA1
import Derived.Test.YticjhkfidgkecaaGreatDoorP4
import Derived.ProofKit
import Derived.IntWalk
namespace Go.Proofs.YticjhkfidgkecaaGreatDoor
open Go.RowKit Pl

/-- the ints of a slice that lies in memory -/
def Tb (w : World) (A : Option Addr) (l : List Int) : Prop := l = [] ∨ ∃ b off, A = some ⟨b, off, none⟩ ∧ b < w.heap.size ∧ ∀ (i : Nat) (hi : i < l.length), w.cell? ⟨b, off + i, none⟩ = some (.int .i64 l[i])
theorem Tb.below {w w' : World} {A : Option Addr} {l : List Int} (h : Tb w A l) (hb : Below w.heap.size w w') : Tb w' A l := by
  rcases h with h | ⟨b, off, h1, h2, h3⟩
  · exact .inl h
  · exact .inr ⟨b, off, h1, Nat.lt_of_lt_of_le h2 hb.size, fun i hi => (hb.cell (p := ⟨b, off + i, none⟩) h2).trans (h3 i hi)⟩
theorem Tb.open {w : World} {A : Option Addr} {l : List Int} (h : Tb w A l) (h0 : 0 < l.length) : ∃ b off, A = some ⟨b, off, none⟩ ∧ b < w.heap.size ∧ ∀ (i : Nat) (hi : i < l.length), w.cell? ⟨b, off + i, none⟩ = some (.int .i64 l[i]) := by
  rcases h with h | h
  · rw [h] at h0; simp at h0
  · exact h
set_option maxHeartbeats 400000 in
theorem isSize_any (n : Int) (w : World) : Calls Tryz.prog 92 #[.int .i64 n] w fun e w' => e = .returned (.bool (siz n)) ∧ w' = w := by
  by_cases h1 : 1 ≤ n
  · by_cases h2 : n ≤ 100000
    · have hv := Lib.hid (show siz n = true by simp [siz, h1, h2])
      go_enter Tryz.func92, Tryz.ntmps92
      go_wp2_with fail
      go_ret
      exact ⟨ret1 (congrArg Value.bool hv.out.symm), rfl⟩
    · have g2 : decide (n ≤ 100000) = false := by simpa using h2
      have hv := Lib.hid (show siz n = false by simp [siz, h2])
      go_enter Tryz.func92, Tryz.ntmps92
      go_wp2_with fail
      go_ret
      exact ⟨ret1 (congrArg Value.bool hv.out.symm), rfl⟩
  · have g1 : decide (1 ≤ n) = false := by simpa using h1
    have hv := Lib.hid (show siz n = false by simp [siz, h1])
    go_enter Tryz.func92, Tryz.ntmps92
    go_wp2_with fail
    go_ret
    exact ⟨ret1 (congrArg Value.bool hv.out.symm), rfl⟩
set_option maxHeartbeats 400000 in
theorem isWait_any (n : Int) (w : World) : Calls Tryz.prog 93 #[.int .i64 n] w fun e w' => e = .returned (.bool (wai n)) ∧ w' = w := by
  by_cases h1 : 0 ≤ n
  · by_cases h2 : n ≤ 1000
    · have hv := Lib.hid (show wai n = true by simp [wai, h1, h2])
      go_enter Tryz.func93, Tryz.ntmps93
      go_wp2_with fail
      go_ret
      exact ⟨ret1 (congrArg Value.bool hv.out.symm), rfl⟩
    · have g2 : decide (n ≤ 1000) = false := by simpa using h2
      have hv := Lib.hid (show wai n = false by simp [wai, h2])
      go_enter Tryz.func93, Tryz.ntmps93
      go_wp2_with fail
      go_ret
      exact ⟨ret1 (congrArg Value.bool hv.out.symm), rfl⟩
  · have g1 : decide (0 ≤ n) = false := by simpa using h1
    have hv := Lib.hid (show wai n = false by simp [wai, h1])
    go_enter Tryz.func93, Tryz.ntmps93
    go_wp2_with fail
    go_ret
    exact ⟨ret1 (congrArg Value.bool hv.out.symm), rfl⟩
set_option maxHeartbeats 400000 in
theorem raw_any (n : Int) (w : World) : Calls Tryz.prog 96 #[.int .i64 n] w fun e w' => e = .returned (.bool (siz n)) ∧ w' = w := by
  by_cases h1 : 1 ≤ n
  · by_cases h2 : n ≤ 100000
    · have hv := Lib.hid (show siz n = true by simp [siz, h1, h2])
      go_enter Tryz.func96, Tryz.ntmps96
      go_wp2_with fail
      go_ret
      exact ⟨ret1 (congrArg Value.bool hv.out.symm), rfl⟩
    · have g2 : decide (n ≤ 100000) = false := by simpa using h2
      have hv := Lib.hid (show siz n = false by simp [siz, h2])
      go_enter Tryz.func96, Tryz.ntmps96
      go_wp2_with fail
      go_ret
      exact ⟨ret1 (congrArg Value.bool hv.out.symm), rfl⟩
  · have g1 : decide (1 ≤ n) = false := by simpa using h1
    have hv := Lib.hid (show siz n = false by simp [siz, h1])
    go_enter Tryz.func96, Tryz.ntmps96
    go_wp2_with fail
    go_ret
    exact ⟨ret1 (congrArg Value.bool hv.out.symm), rfl⟩
theorem slice_hI (A : Option Addr) (n c m : Nat) (hm : m ≤ c) (W : World) : (Instr.slice 64 (.slice A n c) none (some (.int .i64 (m : Int))) none).run Tryz.prog W = .ok (.slice A m c) W := by
  have ht : Tryz.prog.underlying 64 = some (.slice (Tryz.prog.elem 64)) := by simp [Program.elem, Tryz.underlying64]
  rw [run_slice_h W 64 _ _ _ ht .i64 _ (by omega) (by omega)]
  have he : Tryz.prog.elem 64 = 3 := by simp [Program.elem, Tryz.underlying64]
  rw [he]
  have hz : (Go.sizeOf 3).run Tryz.prog W = .ok 1 W := by kernel_rfl
  rw [hz]
  cases A with
  | none => simp [Result.andThen, sliced]
  | some a => by_cases h : c = 0 <;> simp [Result.andThen, sliced, Addr.add, h]
/-- one day's arithmetic as the machine does it -/
theorem sh_go {s n : Int} (hs : 0 ≤ s ∧ s ≤ 200000) (hn : 0 ≤ n ∧ n ≤ 50000) :
    IntKind.i64.wrap (100000 - n) = 100000 - n ∧ IntKind.i64.wrap (s * (100000 - n)) = s * (100000 - n) ∧ IntKind.i64.wrap ((s * (100000 - n)).tdiv 100000) = sh s n := by
  obtain ⟨h1, h2, h3, h4⟩ := sh_bd hs.1 hn
  refine ⟨IntWalk.i64_in _ (by omega), IntWalk.i64_in _ (by omega), ?_⟩
  rw [Int.tdiv_eq_ediv_of_nonneg h3]
  have : sh s n = s * (100000 - n) / 100000 := rfl
  rw [← this]
  exact IntWalk.i64_in _ (by omega)
set_option maxRecDepth 100000 in
set_option maxHeartbeats 2000000 in
theorem seasoned_any (s : Int) (A : Option Addr) (t : List Int) (len c : Nat) (hlen : t.length = len) (hc : len ≤ c) (hok : OkT t) (d : Nat) (hd : d ≤ 100000) (hs : 0 ≤ s ∧ s ≤ 200000) (w : World) (hI : Tb w A t) :
    Calls Tryz.prog 94 #[.int .i64 s, .slice A len c, .int .i64 d] w fun e w' => e = .returned (.int .i64 (sea s t d)) ∧ w' = w := by
  obtain ⟨m, hmm⟩ : ∃ m, m = min d len := ⟨_, rfl⟩
  have HM := Lib.hid (show m ≤ t.length by omega)
  have HV := Lib.hid (show sea s t m = sea s t d by rw [hmm, ← hlen, sea_min])
  have hsl := fun W => slice_hI A len c m (by omega) W
  have hmI : (if (d : Int) < len then (d : Int) else (len : Int)) = m := by split <;> omega
  have HOK := Lib.hid hok
  have HS := Lib.hid hs
  have HI := Lib.hid hI
  clear hok hs hI hlen
  rcases Nat.lt_or_ge len d with h | h
  all_goals (
    have HC : Hid (m ≤ 100000) := Lib.hid (by omega)
    first | (have e : m = len := (by omega); subst e) | (have e : m = d := (by omega); subst e)
    clear hmm hmI
    go_enter Tryz.func94, Tryz.ntmps94
    go_wp2_with fail
    clear hsl
    go_loop [0, 16] (fun v i => ∃ k : Nat, k ≤ m ∧ i = .int .i64 k ∧ v = .int .i64 (sea s t k)) (fun _ i => m - (intOf i).toNat)
    case atStart => exact ⟨0, by omega, rfl, by rw [sea_zero]⟩
    case round =>
      obtain ⟨k, hk, rfl, rfl⟩ := hrel
      by_cases hlt : k < m
      · have HL := Lib.hid hlt
        have hltI : (k : Int) < (m : Int) := by omega
        have hkx : k < t.length := by have := HM.out; omega
        obtain ⟨bx, ox, rfl, hbx, hcx⟩ := HI.out.open (by omega)
        have c0 := hcx k hkx
        have HB := sea_bd k HOK.out (show 0 ≤ s by have := HS.out; omega)
        obtain ⟨k1, k2, k3⟩ := sh_go (s := sea s t k) (n := t[k]) (by have := HS.out; omega) (HOK.out _ (List.getElem_mem hkx))
        have HN := Lib.hid (sea_succ s t k hkx)
        generalize t[k] = x at *
        generalize sea s t k = y at *
        clear hcx HB
        go_wp2_with fail
        go_round
        case rel => exact ⟨k + 1, HL.out, by go_num, by rw [HN.out]⟩
        case measure => have := HL.out; simp [intOf]; omega
      · obtain rfl : k = m := by omega
        try rw [HV.out]
        go_wp2_with fail
        go_ret
        exact ⟨rfl, rfl⟩)
set_option maxRecDepth 100000 in
set_option maxHeartbeats 2000000 in
theorem dseasoned_any (s : Int) (A : Option Addr) (t : List Int) (len c : Nat) (hlen : t.length = len) (hok : OkT t) (d : Nat) (hd : d ≤ 100000) (h60 : len ≤ 60) (hs : 0 ≤ s ∧ s ≤ 200000) (w : World) (hI : Tb w A t) :
    Calls Tryz.prog 97 #[.int .i64 s, .slice A len c, .int .i64 d] w fun e w' => e = .returned (.int .i64 (sea s t d)) ∧ w' = w := by
  have HLEN := Lib.hid hlen
  have HOK := Lib.hid hok
  have HS := Lib.hid hs
  have HI := Lib.hid hI
  clear hok hs hI hlen
  go_enter Tryz.func97, Tryz.ntmps97
  go_wp2_with fail
  go_loop [0, 7] (fun v i => ∃ k : Nat, k ≤ d ∧ k ≤ len ∧ i = .int .i64 k ∧ v = .int .i64 (sea s t k)) (fun _ i => d - (intOf i).toNat)
  case atStart => exact ⟨0, by omega, by omega, rfl, by rw [sea_zero]⟩
  case round =>
    obtain ⟨k, hk, hk2, rfl, rfl⟩ := hrel
    by_cases hd1 : k < d
    · by_cases hlt : k < len
      · have HL := Lib.hid hlt
        have HD := Lib.hid hd1
        have hltI : (k : Int) < (len : Int) := by omega
        have hdI : (k : Int) < (d : Int) := by omega
        have hkx : k < t.length := by have := HLEN.out; omega
        obtain ⟨bx, ox, rfl, hbx, hcx⟩ := HI.out.open (by omega)
        have c0 := hcx k hkx
        have HB := sea_bd k HOK.out (show 0 ≤ s by have := HS.out; omega)
        obtain ⟨k1, k2, k3⟩ := sh_go (s := sea s t k) (n := t[k]) (by have := HS.out; omega) (HOK.out _ (List.getElem_mem hkx))
        have HN := Lib.hid (sea_succ s t k hkx)
        generalize t[k] = x at *
        generalize sea s t k = y at *
        clear hcx HB
        go_wp2_with fail
        go_round
        case rel => exact ⟨k + 1, HD.out, HL.out, by go_num, by rw [HN.out]⟩
        case measure => have := HD.out; simp [intOf]; omega
      · obtain rfl : k = len := by omega
        have hdI : (k : Int) < (d : Int) := by omega
        have HV := Lib.hid (sea_over s t d (by have := HLEN.out; omega))
        have HV2 : Hid (sea s t k = sea s t d) := Lib.hid (by rw [HV.out, ← HLEN.out])
        clear HV
        generalize sea s t k = y at *
        go_wp2_with fail
        go_ret
        exact ⟨ret1 (congrArg (Value.int .i64) HV2.out), rfl⟩
    · obtain rfl : k = d := by omega
      obtain ⟨y, hy⟩ : ∃ y, y = sea s t k := ⟨_, rfl⟩
      rw [← hy]
      have HY := Lib.hid hy
      clear hy
      go_wp2_with fail
      go_ret
      exact ⟨ret1 (congrArg (Value.int .i64) HY.out), rfl⟩
set_option maxRecDepth 100000 in
set_option maxHeartbeats 2000000 in
theorem table_any (A : Option Addr) (t : List Int) (len c : Nat) (hlen : t.length = len) (hm : len ≤ maxLen) (E : Int) (hE : ovE t true = E) (w : World) (hI : Tb w A t) :
    Calls Tryz.prog 95 #[.slice A len c] w fun e w' => e = .returned (.int .i64 E) ∧ w' = w := by
  have hm63 : len ≤ 9223372036854775807 := by unfold maxLen at hm; omega
  have HLEN := Lib.hid hlen
  have HE := Lib.hid hE
  have HI := Lib.hid hI
  clear hE hI hlen hm
  by_cases h60 : 60 < len
  · have hI60 : (60 : Int) < (len : Int) := by omega
    have HV : Hid (E = 4) := Lib.hid (by rw [← HE.out]; unfold ovE; rw [if_pos (by rw [HLEN.out]; exact h60)])
    go_enter Tryz.func95, Tryz.ntmps95
    go_wp2_with fail
    go_ret
    exact ⟨ret1 (congrArg (Value.int .i64) HV.out.symm), rfl⟩
  have hI60 : decide ((60 : Int) < (len : Int)) = false := by simp; omega
  have H60 := Lib.hid h60
  go_enter Tryz.func95, Tryz.ntmps95
  go_wp2_with fail
  clear hI60
  go_loop [3] (fun i => ∃ k : Nat, k ≤ len ∧ i = .int .i64 k ∧ ∀ (j : Nat) (hj : j < t.length), j < k → 0 ≤ t[j] ∧ t[j] ≤ 50000) (fun i => len - (intOf i).toNat)
  case atStart => exact ⟨0, by omega, rfl, fun j _ h => by omega⟩
  case round =>
    obtain ⟨k, hk, rfl, hok⟩ := hrel
    have HOK := Lib.hid hok
    clear hok
    by_cases hlt : k < len
    · have HL := Lib.hid hlt
      have hltI : (k : Int) < (len : Int) := by omega
      have hkx : k < t.length := by have := HLEN.out; omega
      obtain ⟨bx, ox, rfl, hbx, hcx⟩ := HI.out.open (by omega)
      have c0 := hcx k hkx
      have HBAD : Hid (¬ (0 ≤ t[k] ∧ t[k] ≤ 50000) → E = 2) := Lib.hid (fun h => by
        rw [← HE.out]; unfold ovE; rw [if_neg (by rw [HLEN.out]; exact H60.out), if_neg]
        simp only [Bool.true_and, List.all_eq_true, decide_eq_true_eq]
        exact fun hh => h (hh _ (List.getElem_mem hkx)))
      have HX : Hid (∀ x, x = t[k] → 0 ≤ x ∧ x ≤ 50000 → ∀ (j : Nat) (hj : j < t.length), j < k + 1 → 0 ≤ t[j] ∧ t[j] ≤ 50000) := Lib.hid (fun x hx h j hj hjk => by
        by_cases e : j = k
        · subst e; rw [← hx]; exact h
        · exact HOK.out j hj (by omega))
      obtain ⟨x, hx⟩ : ∃ x, x = t[k] := ⟨_, rfl⟩
      rw [← hx] at c0 HBAD
      have HX2 := Lib.hid (HX.out x hx)
      clear hcx HX hx
      by_cases h1 : x < 0
      · have HV : Hid (E = 2) := Lib.hid (HBAD.out (by omega))
        go_wp2_with fail
        go_ret
        exact ⟨ret1 (congrArg (Value.int .i64) HV.out.symm), rfl⟩
      · have g1 : decide (x < 0) = false := by simpa using h1
        by_cases h2 : 50000 < x
        · have HV : Hid (E = 2) := Lib.hid (HBAD.out (by omega))
          go_wp2_with fail
          go_ret
          exact ⟨ret1 (congrArg (Value.int .i64) HV.out.symm), rfl⟩
        · have g2 : decide (50000 < x) = false := by simpa using h2
          have HQ := Lib.hid (HX2.out ⟨by omega, by omega⟩)
          go_wp2_with fail
          go_round
          case rel => exact ⟨k + 1, HL.out, by go_num, HQ.out⟩
          case measure => have := HL.out; simp [intOf]; omega
    · obtain rfl : k = len := by omega
      have HV : Hid (E = 0) := Lib.hid (by
        rw [← HE.out]
        refine ovE_of (fun n hn => ?_) rfl (by have := HLEN.out; have := H60.out; omega)
        obtain ⟨j, hj, rfl⟩ := List.mem_iff_getElem.1 hn
        exact HOK.out j hj (by have := HLEN.out; omega))
      go_wp2_with fail
      go_ret
      exact ⟨ret1 (congrArg (Value.int .i64) HV.out.symm), rfl⟩
set_option maxRecDepth 100000 in
set_option maxHeartbeats 2000000 in
theorem ovenError_any (A : Option Addr) (t : List Int) (len c : Nat) (hlen : t.length = len) (hm : len ≤ maxLen) (ok : Bool) (E : Int) (hE : ovE t ok = E) (w : World) (hI : Tb w A t) :
    Calls Tryz.prog 91 #[.slice A len c, .bool ok] w fun e w' => e = .returned (.int .i64 E) ∧ w' = w := by
  have hm63 : len ≤ 9223372036854775807 := by unfold maxLen at hm; omega
  have HLEN := Lib.hid hlen
  have HE := Lib.hid hE
  have HI := Lib.hid hI
  clear hE hI hlen hm
  by_cases h60 : 60 < len
  · have hI60 : (60 : Int) < (len : Int) := by omega
    have HV : Hid (E = 4) := Lib.hid (by rw [← HE.out]; unfold ovE; rw [if_pos (by rw [HLEN.out]; exact h60)])
    go_enter Tryz.func91, Tryz.ntmps91
    go_wp2_with fail
    go_ret
    exact ⟨ret1 (congrArg (Value.int .i64) HV.out.symm), rfl⟩
  have hI60 : decide ((60 : Int) < (len : Int)) = false := by simp; omega
  have H60 := Lib.hid h60
  have HOV : Hid (∀ r : Bool, r = (ok && (t.take len).all (fun n => decide (0 ≤ n ∧ n ≤ 50000))) → E = if r then 0 else 2) := Lib.hid (fun r hr => by
    rw [← HE.out, hr]; unfold ovE; rw [if_neg (by rw [HLEN.out]; exact h60), List.take_of_length_le (by rw [HLEN.out]; exact Nat.le_refl _)])
  go_enter Tryz.func91, Tryz.ntmps91
  go_wp2_with fail
  clear hI60
  go_loop [1, 12] (fun v i => ∃ k : Nat, k ≤ len ∧ i = .int .i64 k ∧ ∃ r : Bool, v = .bool r ∧ Hid (r = (ok && (t.take k).all (fun n => decide (0 ≤ n ∧ n ≤ 50000))))) (fun _ i => len - (intOf i).toNat)
  case atStart => exact ⟨0, by omega, rfl, ok, rfl, Lib.hid (by simp)⟩
  case round =>
    obtain ⟨k, hk, rfl, r, rfl, HR⟩ := hrel
    by_cases hlt : k < len
    · have HL := Lib.hid hlt
      have hltI : (k : Int) < (len : Int) := by omega
      have hkx : k < t.length := by have := HLEN.out; omega
      obtain ⟨bx, ox, rfl, hbx, hcx⟩ := HI.out.open (by omega)
      have c0 := hcx k hkx
      have HX : Hid ((ok && (t.take (k + 1)).all (fun n => decide (0 ≤ n ∧ n ≤ 50000))) = (r && decide (0 ≤ t[k] ∧ t[k] ≤ 50000))) := Lib.hid (by
        rw [HR.out, List.take_succ_eq_append_getElem hkx, List.all_append]
        simp only [List.all_cons, List.all_nil, Bool.and_true, Bool.and_assoc])
      generalize t[k] = x at *
      clear hcx HR
      cases r with
      | false =>
        have HY : Hid (false = (ok && (t.take (k + 1)).all (fun n => decide (0 ≤ n ∧ n ≤ 50000)))) := Lib.hid (by rw [HX.out]; rfl)
        clear HX
        go_wp2_with fail
        go_round
        case rel => exact ⟨k + 1, HL.out, by go_num, false, rfl, HY⟩
        case measure => have := HL.out; simp [intOf]; omega
      | true =>
        by_cases h1 : 0 ≤ x
        · have HY : Hid (decide (x ≤ 50000) = (ok && (t.take (k + 1)).all (fun n => decide (0 ≤ n ∧ n ≤ 50000)))) := Lib.hid (by rw [HX.out]; simp [h1])
          clear HX
          go_wp2_with fail
          go_round
          case rel => exact ⟨k + 1, HL.out, by go_num, _, rfl, HY⟩
          case measure => have := HL.out; simp [intOf]; omega
        · have HY : Hid (false = (ok && (t.take (k + 1)).all (fun n => decide (0 ≤ n ∧ n ≤ 50000)))) := Lib.hid (by rw [HX.out]; simp [h1])
          have g1 : decide (0 ≤ x) = false := by simpa using h1
          clear HX
          go_wp2_with fail
          go_round
          case rel => exact ⟨k + 1, HL.out, by go_num, false, rfl, HY⟩
          case measure => have := HL.out; simp [intOf]; omega
    · obtain rfl : k = len := by omega
      have HV := Lib.hid (HOV.out r HR.out)
      clear HR
      cases r with
      | false =>
        go_wp2_with fail
        go_ret
        exact ⟨ret1 (congrArg (Value.int .i64) HV.out.symm), rfl⟩
      | true =>
        go_wp2_with fail
        go_ret
        exact ⟨ret1 (congrArg (Value.int .i64) HV.out.symm), rfl⟩
end Go.Proofs.YticjhkfidgkecaaGreatDoor
