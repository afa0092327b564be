/- Words and currencies, of the program and of the document. -/
import Derived.Test.YtbdnocijhbkclaaGreatDoorW1
import Derived.Test.YtbdnocijhbkclaaGreatDoorShelf1
namespace Go.Proofs.YtbdnocijhbkclaaGreatDoor
open Go.RowKit Go.Shelf

theorem by_get {s : ByteArray} {k : Nat} (h : k < s.size) : s.data.toList[k]? = some s[k] := by
  rw [Array.getElem?_toList, Array.getElem?_eq_getElem h]; rfl
theorem by_all {s : ByteArray} {p : UInt8 → Bool} : s.data.toList.all p = true ↔ ∀ (i : Nat) (hi : i < s.size), p s[i] = true := by
  rw [List.all_eq_true]
  constructor
  · intro h i hi
    exact h _ (List.mem_of_getElem? (by_get hi))
  · intro h b hb
    obtain ⟨i, hi, rfl⟩ := List.getElem_of_mem hb
    have hi' : i < s.size := by simpa using hi
    have e := by_get hi'
    rw [List.getElem?_eq_getElem hi] at e
    rw [Option.some.inj e]
    exact h i hi'
theorem by_len (s : ByteArray) : s.data.toList.length = s.size := Array.length_toList
theorem up_true {b : UInt8} : Pl.up b = true ↔ 65 ≤ b.toNat ∧ b.toNat ≤ 90 := by unfold Pl.up; rw [Bool.and_eq_true, decide_eq_true_iff, decide_eq_true_iff]
theorem dg_true {b : UInt8} : Pl.dg b = true ↔ 48 ≤ b.toNat ∧ b.toNat ≤ 57 := by unfold Pl.dg; rw [Bool.and_eq_true, decide_eq_true_iff, decide_eq_true_iff]
theorem ud_true {b : UInt8} : Pl.ud b = true ↔ (65 ≤ b.toNat ∧ b.toNat ≤ 90) ∨ (48 ≤ b.toNat ∧ b.toNat ≤ 57) := by unfold Pl.ud; rw [Bool.or_eq_true, up_true, dg_true]
theorem cyB_eq {s : ByteArray} : Pl.cyB s = (decide (s.size = 3) && s.data.toList.all Pl.up) := by unfold Pl.cyB Pl.cy; rw [by_len]
theorem wdB_eq {s : ByteArray} : Pl.wdB s = (Pl.inB 1 s.size 12 && s.data.toList.all Pl.ud) := by unfold Pl.wdB Pl.wd; rw [by_len]


set_option maxRecDepth 100000 in
set_option maxHeartbeats 1000000 in
theorem rcur_b (s : ByteArray) (n : Nat) (hn : s.size = n) (hn2 : n ≤ maxLen) (v : Bool) (hv : Pl.cyB s = v) (w : World) :
    Calls Tryz.prog 39 #[.string s] w fun e w' => e = .returned (.bool v) ∧ w' = w := by
  have hn63 : n ≤ 9223372036854775807 := by unfold maxLen at hn2; omega
  have HV : Hid ((∀ (i : Nat) (hi : i < s.size), Pl.up s[i] = true) → v = decide (n = 3)) := Lib.hid (fun h => by rw [← hv, cyB_eq, by_all.2 h, hn, Bool.and_true])
  have HV2 : Hid (∀ (i : Nat) (hi : i < s.size), Pl.up s[i] = false → v = false) := Lib.hid (fun i hi h => by
    rw [← hv, cyB_eq, Bool.and_eq_false_iff]
    refine .inr ?_
    rw [← Bool.not_eq_true, by_all]
    intro h'
    rw [h' i hi] at h
    cases h)
  clear hv hn2
  go_enter Tryz.func39, Tryz.ntmps39
  go_wp2
  go_loop [3] (fun i => ∃ k : Nat, k ≤ n ∧ i = .int .i64 k ∧ Hid (∀ (i : Nat) (hi : i < s.size), i < k → Pl.up s[i] = true)) (fun i => n - (intOf i).toNat)
  case atStart => exact ⟨0, Nat.zero_le _, rfl, Lib.hid (fun i _ hi => absurd hi (Nat.not_lt_zero _))⟩
  case round =>
    obtain ⟨k, hk, rfl, hall⟩ := hrel
    by_cases hlt : k < n
    · have hltI : (k : Int) < (n : Int) := by omega
      have hks : k < s.size := by omega
      obtain ⟨c, hc⟩ : ∃ c, s[k].toNat = c := ⟨_, rfl⟩
      have HB := Lib.hid (HV2.out k hks)
      have HY : Hid (Pl.up s[k] = true → ∀ (i : Nat) (hi : i < s.size), i = k → Pl.up s[i] = true) := Lib.hid (fun h i hi e => by subst e; exact h)
      have HP : Hid (Pl.up s[k] = true ↔ 65 ≤ c ∧ c ≤ 90) := Lib.hid (by rw [up_true, hc])
      rcases (show (c < 65) ∨ (65 ≤ c ∧ c ≤ 90) ∨ 90 < c by omega) with h1 | ⟨h1, h2⟩ | h1
      · have i1 : (c : Int) < 65 := by omega
        have HF : Hid (v = false) := Lib.hid (HB.out (by rw [← Bool.not_eq_true, HP.out]; omega))
        go_wp2
        go_ret
        exact ⟨by rw [HF.out]; rfl, rfl⟩
      · have i1 : (65 : Int) ≤ (c : Int) := by omega
        have i2 : (c : Int) ≤ 90 := by omega
        go_wp2
        go_round
        case rel => exact ⟨k + 1, by omega, by go_num, Lib.hid (fun i hi hik => by
          rcases Nat.lt_succ_iff_lt_or_eq.1 hik with h' | h'
          · exact hall.out i hi h'
          · exact HY.out (HP.out.2 (by omega)) i hi h')⟩
        case measure => simp [intOf]; omega
      · have i1 : (65 : Int) ≤ (c : Int) := by omega
        have i2 : (90 : Int) < (c : Int) := by omega
        have HF : Hid (v = false) := Lib.hid (HB.out (by rw [← Bool.not_eq_true, HP.out]; omega))
        go_wp2
        go_ret
        exact ⟨by rw [HF.out]; rfl, rfl⟩
    · obtain rfl : k = n := by omega
      have HE := Lib.hid (HV.out (fun i hi => hall.out i hi (by omega)))
      go_wp2
      go_ret
      exact ⟨by rw [HE.out, show decide (k = 3) = decide ((k : Int) = 3) from decide_eq_decide.2 (by omega)]; rfl, rfl⟩


set_option maxRecDepth 100000 in
set_option maxHeartbeats 1000000 in
theorem rword_b (s : ByteArray) (n : Nat) (hn : s.size = n) (hn2 : n ≤ maxLen) (v : Bool) (hv : Pl.wdB s = v) (w : World) :
    Calls Tryz.prog 37 #[.string s] w fun e w' => e = .returned (.bool v) ∧ w' = w := by
  have hn63 : n ≤ 9223372036854775807 := by unfold maxLen at hn2; omega
  have HV : Hid ((∀ (i : Nat) (hi : i < s.size), Pl.ud s[i] = true) → v = Pl.inB 1 n 12) := Lib.hid (fun h => by rw [← hv, wdB_eq, by_all.2 h, hn, Bool.and_true])
  have HV2 : Hid (∀ (i : Nat) (hi : i < s.size), Pl.ud s[i] = false → v = false) := Lib.hid (fun i hi h => by
    rw [← hv, wdB_eq, Bool.and_eq_false_iff]
    refine .inr ?_
    rw [← Bool.not_eq_true, by_all]
    intro h'
    rw [h' i hi] at h
    cases h)
  clear hv hn2
  go_enter Tryz.func37, Tryz.ntmps37
  go_wp2
  go_loop [3] (fun i => ∃ k : Nat, k ≤ n ∧ i = .int .i64 k ∧ Hid (∀ (i : Nat) (hi : i < s.size), i < k → Pl.ud s[i] = true)) (fun i => n - (intOf i).toNat)
  case atStart => exact ⟨0, Nat.zero_le _, rfl, Lib.hid (fun i _ hi => absurd hi (Nat.not_lt_zero _))⟩
  case round =>
    obtain ⟨k, hk, rfl, hall⟩ := hrel
    by_cases hlt : k < n
    · have hltI : (k : Int) < (n : Int) := by omega
      have hks : k < s.size := by omega
      obtain ⟨c, hc⟩ : ∃ c, s[k].toNat = c := ⟨_, rfl⟩
      have HB := Lib.hid (HV2.out k hks)
      have HY : Hid (Pl.ud s[k] = true → ∀ (i : Nat) (hi : i < s.size), i = k → Pl.ud s[i] = true) := Lib.hid (fun h i hi e => by subst e; exact h)
      have HP : Hid (Pl.ud s[k] = true ↔ (65 ≤ c ∧ c ≤ 90) ∨ (48 ≤ c ∧ c ≤ 57)) := Lib.hid (by rw [ud_true, hc])
      rcases (show (c < 48) ∨ (48 ≤ c ∧ c ≤ 57) ∨ (57 < c ∧ c < 65) ∨ (65 ≤ c ∧ c ≤ 90) ∨ 90 < c by omega) with h1 | ⟨h1, h2⟩ | ⟨h1, h2⟩ | ⟨h1, h2⟩ | h1
      · have i1 : (c : Int) < 65 := by omega
        have i2 : (c : Int) < 48 := by omega
        have HF : Hid (v = false) := Lib.hid (HB.out (by rw [← Bool.not_eq_true, HP.out]; omega))
        go_wp2
        go_ret
        exact ⟨by rw [HF.out]; rfl, rfl⟩
      · have i1 : (c : Int) < 65 := by omega
        have i2 : (48 : Int) ≤ (c : Int) := by omega
        have i3 : (c : Int) ≤ 57 := by omega
        go_wp2
        go_round
        case rel => exact ⟨k + 1, by omega, by go_num, Lib.hid (fun i hi hik => by
          rcases Nat.lt_succ_iff_lt_or_eq.1 hik with h' | h'
          · exact hall.out i hi h'
          · exact HY.out (HP.out.2 (by omega)) i hi h')⟩
        case measure => simp [intOf]; omega
      · have i1 : (c : Int) < 65 := by omega
        have i2 : (48 : Int) ≤ (c : Int) := by omega
        have i3 : (57 : Int) < (c : Int) := by omega
        have HF : Hid (v = false) := Lib.hid (HB.out (by rw [← Bool.not_eq_true, HP.out]; omega))
        go_wp2
        go_ret
        exact ⟨by rw [HF.out]; rfl, rfl⟩
      · have i1 : (65 : Int) ≤ (c : Int) := by omega
        have i2 : (c : Int) ≤ 90 := by omega
        go_wp2
        go_round
        case rel => exact ⟨k + 1, by omega, by go_num, Lib.hid (fun i hi hik => by
          rcases Nat.lt_succ_iff_lt_or_eq.1 hik with h' | h'
          · exact hall.out i hi h'
          · exact HY.out (HP.out.2 (by omega)) i hi h')⟩
        case measure => simp [intOf]; omega
      · have i1 : (65 : Int) ≤ (c : Int) := by omega
        have i2 : (90 : Int) < (c : Int) := by omega
        have i3 : (48 : Int) ≤ (c : Int) := by omega
        have i4 : (57 : Int) < (c : Int) := by omega
        have HF : Hid (v = false) := Lib.hid (HB.out (by rw [← Bool.not_eq_true, HP.out]; omega))
        go_wp2
        go_ret
        exact ⟨by rw [HF.out]; rfl, rfl⟩
    · obtain rfl : k = n := by omega
      have HE := Lib.hid (HV.out (fun i hi => hall.out i hi (by omega)))
      rcases (show k < 1 ∨ (1 ≤ k ∧ k ≤ 12) ∨ 12 < k by omega) with h1 | ⟨h1, h2⟩ | h1
      · have i1 : (k : Int) < 1 := by omega
        have HF : Hid (v = false) := Lib.hid (by rw [HE.out, Pl.inB_false]; omega)
        clear HE
        go_wp2
        go_ret
        exact ⟨by rw [HF.out]; first | rfl | (simp; done) | (simp; omega), rfl⟩
      · have i1 : (1 : Int) ≤ (k : Int) := by omega
        have i2 : (k : Int) ≤ 12 := by omega
        have HF : Hid (v = true) := Lib.hid (by rw [HE.out, Pl.inB_true]; omega)
        clear HE
        go_wp2
        go_ret
        exact ⟨by rw [HF.out]; first | rfl | (simp; done) | (simp; omega), rfl⟩
      · have i1 : (1 : Int) ≤ (k : Int) := by omega
        have i2 : (12 : Int) < (k : Int) := by omega
        have HF : Hid (v = false) := Lib.hid (by rw [HE.out, Pl.inB_false]; omega)
        clear HE
        go_wp2
        go_ret
        exact ⟨by rw [HF.out]; first | rfl | (simp; done) | (simp; omega), rfl⟩


set_option maxRecDepth 100000 in
set_option maxHeartbeats 1000000 in
theorem isof_w (s : ByteArray) (hs : s.size ≤ maxLen) (v : Bool) (hv : s.data.toList.all Pl.ud = v) (w : World) :
    Calls Tryz.prog 51 #[.string s, .string ⟨(Pl.sigW).toArray⟩] w fun e w' => e = .returned (.bool v) ∧ Below w.heap.size w w' := by
  have HC := Lib.hid (Tryz.strings_Trim s ⟨(Pl.sigW).toArray⟩ w hs (by decide) (Go.Proofs.ascii_of_all (by decide)))
  have HT : Hid ((Lib.trimS s.data.toList Pl.sigW = []) ↔ v = true) := Lib.hid (by rw [Pl.trim_nil, Pl.all_w, hv])
  change Hid (Calls Tryz.prog 68 #[.string s, .string ⟨(Pl.sigW).toArray⟩] w fun e w' => e = .returned (.string ⟨(Lib.trimS s.data.toList Pl.sigW).toArray⟩) ∧ Below w.heap.size w w') at HC
  clear hv
  generalize Lib.trimS s.data.toList Pl.sigW = r at *
  generalize (⟨(Pl.sigW).toArray⟩ : ByteArray) = cs at *
  have HR : Hid (decide ((⟨r.toArray⟩ : ByteArray) = ⟨#[]⟩) = v) := Lib.hid (by
    rw [Bool.eq_iff_iff, decide_eq_true_iff, ← HT.out]
    constructor
    · intro h
      injection h with h
      simpa using h
    · intro h; rw [h])
  have HR2 : Hid (v = (⟨r.toArray⟩ : ByteArray).toList.isEmpty) := Lib.hid (by rw [← HR.out]; exact decide_eq_emptyBytes _)
  clear HT HR
  generalize (⟨r.toArray⟩ : ByteArray) = t at *
  go_enter Tryz.func51, Tryz.ntmps51
  go_wp2_with fail
  refine HC.out.mono ?_
  rintro e w1 ⟨rfl, hb⟩
  go_wp2
  go_ret
  exact ⟨by rw [HR2.out]; rfl, hb⟩


set_option maxRecDepth 100000 in
set_option maxHeartbeats 1000000 in
theorem isof_l (s : ByteArray) (hs : s.size ≤ maxLen) (v : Bool) (hv : s.data.toList.all Pl.up = v) (w : World) :
    Calls Tryz.prog 51 #[.string s, .string ⟨(Pl.sigL).toArray⟩] w fun e w' => e = .returned (.bool v) ∧ Below w.heap.size w w' := by
  have HC := Lib.hid (Tryz.strings_Trim s ⟨(Pl.sigL).toArray⟩ w hs (by decide) (Go.Proofs.ascii_of_all (by decide)))
  have HT : Hid ((Lib.trimS s.data.toList Pl.sigL = []) ↔ v = true) := Lib.hid (by rw [Pl.trim_nil, Pl.all_l, hv])
  change Hid (Calls Tryz.prog 68 #[.string s, .string ⟨(Pl.sigL).toArray⟩] w fun e w' => e = .returned (.string ⟨(Lib.trimS s.data.toList Pl.sigL).toArray⟩) ∧ Below w.heap.size w w') at HC
  clear hv
  generalize Lib.trimS s.data.toList Pl.sigL = r at *
  generalize (⟨(Pl.sigL).toArray⟩ : ByteArray) = cs at *
  have HR : Hid (decide ((⟨r.toArray⟩ : ByteArray) = ⟨#[]⟩) = v) := Lib.hid (by
    rw [Bool.eq_iff_iff, decide_eq_true_iff, ← HT.out]
    constructor
    · intro h
      injection h with h
      simpa using h
    · intro h; rw [h])
  have HR2 : Hid (v = (⟨r.toArray⟩ : ByteArray).toList.isEmpty) := Lib.hid (by rw [← HR.out]; exact decide_eq_emptyBytes _)
  clear HT HR
  generalize (⟨r.toArray⟩ : ByteArray) = t at *
  go_enter Tryz.func51, Tryz.ntmps51
  go_wp2_with fail
  refine HC.out.mono ?_
  rintro e w1 ⟨rfl, hb⟩
  go_wp2
  go_ret
  exact ⟨by rw [HR2.out]; rfl, hb⟩


set_option maxRecDepth 100000 in
set_option maxHeartbeats 1000000 in
theorem word_b (s : ByteArray) (n : Nat) (hn : s.size = n) (hn2 : n ≤ maxLen) (v : Bool) (hv : Pl.wdB s = v) (w : World) :
    Calls Tryz.prog 31 #[.string s] w fun e w' => e = .returned (.bool v) ∧ Below w.heap.size w w' := by
  obtain ⟨p, hp⟩ : ∃ p, Pl.inB 1 (n : Int) 12 = p := ⟨_, rfl⟩
  obtain ⟨q, hq⟩ : ∃ q, s.data.toList.all Pl.ud = q := ⟨_, rfl⟩
  have HV : Hid (v = (p && q)) := Lib.hid (by rw [← hv, wdB_eq, hn, hp, hq])
  have HC := Lib.hid (within_b n 1 12 p hp w)
  have HD := Lib.hid (isof_w s (by omega) q hq w)
  change Hid (Calls Tryz.prog 51 #[.string s, .string ⟨#[65, 66, 67, 68, 69, 70, 71, 72, 73, 74, 75, 76, 77, 78, 79, 80, 81, 82, 83, 84, 85, 86, 87, 88, 89, 90, 48, 49, 50, 51, 52, 53, 54, 55, 56, 57]⟩] w fun e w' => e = .returned (.bool q) ∧ Below w.heap.size w w') at HD
  have hB := Below.refl w.heap.size w
  have hn63 : n ≤ 9223372036854775807 := by unfold maxLen at hn2; omega
  clear hv hq hp hn2
  cases p with
  | false =>
    go_enter Tryz.func31, Tryz.ntmps31
    go_wp2_with fail
    refine HC.out.mono ?_
    rintro e w1 ⟨rfl, rfl⟩
    go_wp2
    go_ret
    exact ⟨by rw [HV.out]; rfl, hB⟩
  | true =>
    go_enter Tryz.func31, Tryz.ntmps31
    go_wp2_with fail
    refine HC.out.mono ?_
    rintro e w1 ⟨rfl, rfl⟩
    go_wp2_with fail
    refine HD.out.mono ?_
    rintro e w2 ⟨rfl, hb⟩
    go_wp2
    go_ret
    exact ⟨by rw [HV.out]; rfl, hb⟩

set_option maxRecDepth 100000 in
set_option maxHeartbeats 1000000 in
theorem cur_b (s : ByteArray) (n : Nat) (hn : s.size = n) (hn2 : n ≤ maxLen) (v : Bool) (hv : Pl.cyB s = v) (w : World) :
    Calls Tryz.prog 28 #[.string s] w fun e w' => e = .returned (.bool v) ∧ Below w.heap.size w w' := by
  obtain ⟨q, hq⟩ : ∃ q, s.data.toList.all Pl.up = q := ⟨_, rfl⟩
  have HD := Lib.hid (isof_l s (by omega) q hq w)
  change Hid (Calls Tryz.prog 51 #[.string s, .string ⟨#[65, 66, 67, 68, 69, 70, 71, 72, 73, 74, 75, 76, 77, 78, 79, 80, 81, 82, 83, 84, 85, 86, 87, 88, 89, 90]⟩] w fun e w' => e = .returned (.bool q) ∧ Below w.heap.size w w') at HD
  have HV : Hid (v = (decide (n = 3) && q)) := Lib.hid (by rw [← hv, cyB_eq, hn, hq])
  have hB := Below.refl w.heap.size w
  have hn63 : n ≤ 9223372036854775807 := by unfold maxLen at hn2; omega
  clear hv hq hn2
  by_cases h3 : n = 3
  · have i1 : (n : Int) = 3 := by omega
    have HF : Hid (v = q) := Lib.hid (by rw [HV.out, decide_eq_true h3, Bool.true_and])
    clear HV h3
    go_enter Tryz.func28, Tryz.ntmps28
    go_wp2_with fail
    refine HD.out.mono ?_
    rintro e w2 ⟨rfl, hb⟩
    go_wp2
    go_ret
    exact ⟨by rw [HF.out]; rfl, hb⟩
  · have i1 : ¬ (n : Int) = 3 := by omega
    have HF : Hid (v = false) := Lib.hid (by rw [HV.out, decide_eq_false h3]; rfl)
    clear HV h3
    go_enter Tryz.func28, Tryz.ntmps28
    go_wp2_with fail
    go_ret
    exact ⟨by rw [HF.out]; first | rfl | simp, hB⟩

end Go.Proofs.YtbdnocijhbkclaaGreatDoor
