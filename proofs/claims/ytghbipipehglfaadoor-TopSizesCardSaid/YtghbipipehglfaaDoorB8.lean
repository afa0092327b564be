/- The document's listed: different indexes less than n. -/
import Derived.Test.YtghbipipehglfaaDoorB7
namespace Go.Proofs.YtghbipipehglfaaDoor
open Go.RowKit Go.Shelf

theorem bit_step {l : List Int} {k m : Nat} (h : ∀ j : Nat, m.testBit j = true ↔ ∃ j', j' < k ∧ l.getD j' 0 = (j : Int)) {y : Nat} (hy : l.getD k 0 = (y : Int)) :
    ∀ j : Nat, (m ||| 2 ^ y).testBit j = true ↔ ∃ j', j' < k + 1 ∧ l.getD j' 0 = (j : Int) := fun j => by
  rw [Nat.testBit_or, Bool.or_eq_true, h j, Nat.testBit_two_pow, decide_eq_true_eq]
  constructor
  · rintro (⟨j', h1, h2⟩ | rfl)
    · exact ⟨j', by omega, h2⟩
    · exact ⟨k, by omega, hy⟩
  · rintro ⟨j', h1, h2⟩
    rcases Nat.lt_succ_iff_lt_or_eq.1 h1 with h | rfl
    · exact .inl ⟨j', h, h2⟩
    · right; rw [hy] at h2; omega

set_option maxRecDepth 100000 in
set_option maxHeartbeats 4000000 in
theorem listed_any (A : Option Addr) (l : List Int) (c n : Nat) (hcap : l.length ≤ c) (hmax : l.length ≤ 9223372036854775807) (w : World) (hI : Ints w A l) :
    Calls Tryd.prog 55 #[.slice A l.length c, .int .i64 n] w fun e w' => e = .returned (.bool (Pl.setL n l 0).isSome) ∧ w' = w := by
  obtain ⟨R, hR⟩ : ∃ R, Pl.setL n (l.drop 0) 0 = R := ⟨_, rfl⟩
  have hR' : Pl.setL n l 0 = R := by rw [← hR, List.drop_zero]
  rw [hR']
  clear hR'
  obtain ⟨V, hV⟩ : ∃ V : Bool, R.isSome = V := ⟨_, rfl⟩
  have HV := Lib.hid hV
  rw [hV]
  clear hV
  have HR := Lib.hid hR
  clear hR
  have HI := Lib.hid hI
  clear hI
  go_enter Tryd.func55, Tryd.ntmps55
  go_wp2
  go_loop [5, 6, 8, 11] (fun _ _ _ i => ∃ k m : Nat, k ≤ l.length ∧ i = .int .i64 k ∧ Hid (Pl.setL n (l.drop k) m = R) ∧ Hid (∀ j : Nat, m.testBit j = true ↔ ∃ j', j' < k ∧ l.getD j' 0 = (j : Int))) (fun _ _ _ i => l.length - (intOf i).toNat)
  case atStart => exact ⟨0, 0, Nat.zero_le _, rfl, HR, Lib.hid (fun j => by simp)⟩
  case round =>
    obtain ⟨k, m, hk, rfl, hr, hm⟩ := hrel
    by_cases hlt : k < l.length
    · obtain ⟨bz, oz, rfl, hcz⟩ : ∃ bb off, A = some ⟨bb, off, none⟩ ∧ ∀ j, j < l.length → w.cell? ⟨bb, off + j, none⟩ = some (.int .i64 (l.getD j 0)) := by
        rcases HI.out with h | ⟨bb, off, he, _, hc⟩
        · rw [h] at hlt; simp at hlt
        · exact ⟨bb, off, he, hc⟩
      have hck := hcz k hlt
      have HCZ := Lib.hid hcz
      have hr2 := Lib.hid (hr.out.symm.trans (Pl.setL_step hlt))
      have HST := Lib.hid (fun (y : Nat) (hy : l.getD k 0 = (y : Int)) => bit_step hm.out hy)
      have hkc : k ≤ c := by omega
      clear hcz hr
      generalize hY : l.getD k 0 = y at hck hr2 HST
      clear hY
      cases hin : Pl.inB y 0 ((n : Int) - 1) with
      | false =>
        have HN : Hid (V = false) := Lib.hid (by rw [← HV.out, hr2.out, hin]; rfl)
        have hno := Pl.inB_false.1 hin
        clear hr2 hin HST
        by_cases h0 : y < 0
        · clear hno
          go_wp2
          go_ret
          exact ⟨by rw [HN.out]; rfl, rfl⟩
        · have h1 : (n : Int) ≤ y := by omega
          clear hno
          go_wp2
          go_ret
          exact ⟨by rw [HN.out]; rfl, rfl⟩
      | true =>
        obtain ⟨y0, y1⟩ := Pl.inB_true.1 hin
        obtain ⟨t, rfl⟩ := Int.eq_ofNat_of_zero_le y0
        have ht : t < n := by omega
        have hr3 : Hid (R = if m.testBit t = true then none else Pl.setL n (l.drop (k + 1)) (m ||| 2 ^ t)) := Lib.hid (by rw [hr2.out, if_pos hin]; rfl)
        have HS2 := Lib.hid (HST.out t rfl)
        clear hr2 hin HST y0 y1
        go_wp2
        go_loop [8, 27] (fun _ i => ∃ j : Nat, j ≤ k ∧ i = .int .i64 j ∧ Hid (∀ j', j' < j → l.getD j' 0 ≠ (t : Int))) (fun _ i => k - (intOf i).toNat)
        case atStart => exact ⟨0, Nat.zero_le _, rfl, Lib.hid (fun j' h => absurd h (Nat.not_lt_zero _))⟩
        case round =>
          obtain ⟨j, hj, rfl, hne⟩ := hrel
          by_cases hjk : j < k
          · have hcj := HCZ.out j (by omega)
            by_cases heq : l.getD j 0 = (t : Int)
            · have HF : Hid (V = false) := Lib.hid (by rw [← HV.out, hr3.out, if_pos ((hm.out t).2 ⟨j, hjk, heq⟩)]; rfl)
              rw [heq] at hcj
              clear heq hne hck
              go_wp2
              go_ret
              exact ⟨by rw [HF.out]; rfl, rfl⟩
            · have hne2 := Lib.hid (fun j' (hj' : j' < j + 1) => (by
                rcases Nat.lt_succ_iff_lt_or_eq.1 hj' with h' | rfl
                · exact hne.out j' h'
                · exact heq : l.getD j' 0 ≠ (t : Int)))
              clear hne
              generalize l.getD j 0 = z at hcj heq
              have hb : (((t : Nat) : Int) == z) = false := by simpa using fun h => heq h.symm
              clear heq
              go_wp2
              go_round
              case rel => exact ⟨j + 1, by omega, by go_num, hne2⟩
              case measure => simp [intOf]; omega
          · obtain rfl : j = k := by omega
            have HN : Hid (Pl.setL n (l.drop (j + 1)) (m ||| 2 ^ t) = R) := Lib.hid (by
              rw [hr3.out, if_neg]
              intro h
              obtain ⟨j', h1, h2⟩ := (hm.out t).1 h
              exact hne.out j' h1 h2)
            go_wp2
            go_round
            case rel => exact ⟨j + 1, _, by omega, by go_num, HN, HS2⟩
            case measure => simp [intOf]; omega
    · obtain rfl : k = l.length := by omega
      have HS : Hid (V = true) := Lib.hid (by rw [← HV.out, ← hr.out, List.drop_length]; rfl)
      go_wp2
      go_ret
      exact ⟨by rw [HS.out]; rfl, rfl⟩
end Go.Proofs.YtghbipipehglfaaDoor
