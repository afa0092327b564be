import Derived.Test.YthabpgclnbmnpaaGreatDoorB4
namespace Go.Proofs.YthabpgclnbmnpaaGreatDoor
open Go.RowKit Go.Shelf

theorem low_edge (l : List Geo.XY) (k : Nat) (hk : k < l.length) : Geo.low (Geo.X l k) (Geo.X l ((k + 1) % l.length)) ↔ Geo.up (Geo.edge (Geo.At l) k) := by
  rw [Geo.low_up]
  unfold Geo.edge
  rw [Geo.At_lt l hk, ← Geo.At_mod l (k + 1), Geo.At_lt l (Nat.mod_lt _ (by omega))]
theorem rdSt_val (l : List Geo.XY) (h3 : 3 ≤ l.length) (k : Nat) (hk : k ≤ l.length) :
    (rdSt l (List.range k)).1 = Geo.rds (Geo.At l) l.length k ∧ (rdSt l (List.range k)).2 = decide (Geo.up (Geo.edge (Geo.At l) (k + l.length - 1))) := by
  induction k with
  | zero =>
    refine ⟨rfl, ?_⟩
    have : (rdSt l (List.range 0)).2 = decide (Geo.low (Geo.X l (l.length - 1)) (Geo.X l 0)) := rfl
    rw [this]
    have e := low_edge l (l.length - 1) (by omega)
    rw [show l.length - 1 + 1 = l.length by omega, Nat.mod_self] at e
    rw [Nat.zero_add]
    exact decide_eq_decide.2 e
  | succ k ih =>
    obtain ⟨h1, h2⟩ := ih (by omega)
    rw [List.range_succ, rdSt_snoc, h1, h2]
    have e := low_edge l k (by omega)
    have hd : decide (Geo.low (Geo.X l k) (Geo.X l ((k + 1) % l.length))) = decide (Geo.up (Geo.edge (Geo.At l) k)) := decide_eq_decide.2 e
    constructor
    · simp only
      rw [Geo.rds, hd]
      unfold Geo.ind
      by_cases u1 : Geo.up (Geo.edge (Geo.At l) k) <;> by_cases u2 : Geo.up (Geo.edge (Geo.At l) (k + l.length - 1)) <;> simp [u1, u2]
    · simp only
      rw [hd, show k + 1 + l.length - 1 = k + l.length by omega, Geo.edge_per (Geo.At_per l)]

theorem valid_of_parts (l : List Geo.XY) (h3 : 3 ≤ l.length) (h64 : l.length ≤ 64) (hin : AllIn l) : Valid l ↔ ((tlSt l (List.range l.length)).2 = true ∧ (rdSt l (List.range l.length)).1 = 1) := by
  rw [tlSt_snd l _ (Nat.le_refl _), (rdSt_val l h3 _ (Nat.le_refl _)).1]
  have := Geo.valid_iff l h3
  unfold Geo.DLoc at this
  rw [this]
  exact ⟨fun h => h.2.2.2, fun h => ⟨h3, h64, hin, h⟩⟩
theorem not_valid_in {l : List Geo.XY} (h : ¬ AllIn l) : ¬ Valid l := fun hv => h hv.2.2.1

theorem turnsleft_any (b off cap : Nat) (l : List Geo.XY) (h3 : 3 ≤ l.length) (h64 : l.length ≤ 64) (hin : AllIn l) (w : World) (hb : b < w.heap.size)
    (hc : ∀ k, k < l.length → w.cell? ⟨b, off + k * 2, none⟩ = some (.int .i64 (Geo.X l k).1) ∧ w.cell? ⟨b, off + k * 2 + 1, none⟩ = some (.int .i64 (Geo.X l k).2)) (r : Bool) (hr : (tlSt l (List.range l.length)).2 = r) :
    Calls Tryz.prog 27 #[.slice (some ⟨b, off, none⟩) l.length cap] w fun e W' => e = .returned (.bool r) ∧ Below w.heap.size w W' := by
  subst hr
  exact callsIn_wide.1 (turnsleft_in b off cap l h3 h64 hin w hb hc)
theorem rounds_any (b off cap : Nat) (l : List Geo.XY) (h3 : 3 ≤ l.length) (h64 : l.length ≤ 64) (w : World) (hb : b < w.heap.size)
    (hc : ∀ k, k < l.length → w.cell? ⟨b, off + k * 2, none⟩ = some (.int .i64 (Geo.X l k).1) ∧ w.cell? ⟨b, off + k * 2 + 1, none⟩ = some (.int .i64 (Geo.X l k).2)) (n : Nat) (hn : (rdSt l (List.range l.length)).1 = n) :
    Calls Tryz.prog 28 #[.slice (some ⟨b, off, none⟩) l.length cap] w fun e W' => e = .returned (.int .i64 n) ∧ Below w.heap.size w W' := by
  subst hn
  exact callsIn_wide.1 (rounds_in b off cap l h3 h64 w hb hc)
theorem allin_b (A : Option Addr) (l : List Geo.XY) (c : Nat) (w : World) (hr : Pts w A l) (hl : l.length ≤ 140737488355328) (r : Bool) (h : allInB l = r) :
    Calls Tryz.prog 26 #[.slice A l.length c] w fun e w' => e = .returned (.bool r) ∧ Below w.heap.size w w' := by
  subst h; exact allin_any A l c w hr hl

set_option maxHeartbeats 1000000 in
theorem dvalid_any (A : Option Addr) (l : List Geo.XY) (c : Nat) (w : World) (h : Pts w A l) :
    Calls Tryz.prog 10 #[.slice A l.length c] w fun e w' => e = .returned (.bool (validB l)) ∧ Below w.heap.size w w' := by
  by_cases h0 : l.length < 3
  · have H := Lib.hid (ret_false (l := l) (fun hv => by have := hv.1; omega))
    go_enter Tryz.func10, Tryz.ntmps10
    go_wp2
    go_ret
    exact ⟨H.out, Below.refl _ _⟩
  by_cases h1 : 64 < l.length
  · have H := Lib.hid (ret_false (l := l) (fun hv => by have := hv.2.1; omega))
    go_enter Tryz.func10, Tryz.ntmps10
    go_wp2
    go_ret
    exact ⟨H.out, Below.refl _ _⟩
  have HP := Lib.hid h
  clear h
  cases hin : allInB l with
  | false =>
    have H := Lib.hid (ret_false (l := l) (not_valid_in (by unfold allInB at hin; simpa using hin)))
    have HI := Lib.hid hin
    clear hin
    go_enter Tryz.func10, Tryz.ntmps10
    go_wp2_with (go_at_call 26; refine (allin_b _ _ _ _ HP.out (by omega) false HI.out).mono ?_; rintro e w' ⟨rfl, hb'⟩)
    go_ret
    exact ⟨H.out, hb'⟩
  | true =>
    have hall : AllIn l := by unfold allInB at hin; simpa using hin
    have HI := Lib.hid hin
    have HA := Lib.hid hall
    have hiff := valid_of_parts l (by omega) (by omega) hall
    have HV := Lib.hid hiff
    clear hin hall hiff
    rcases HP.out with h | ⟨b, off, rfl, hb, hc⟩
    · rw [h] at h0; simp at h0
    have HC := Lib.hid hc
    clear hc
    cases ht : (tlSt l (List.range l.length)).2 with
    | false =>
      have H := Lib.hid (ret_false (l := l) (fun hv => by have := (HV.out.1 hv).1; rw [ht] at this; cases this))
      have HT := Lib.hid ht
      clear ht
      go_enter Tryz.func10, Tryz.ntmps10
      go_wp2_with (first | (go_at_call 26; refine (allin_b _ _ _ _ HP.out (by omega) true HI.out).mono ?_; rintro e w1 ⟨rfl, hb1⟩) | (go_at_call 27; refine (turnsleft_any b off _ l (by omega) (by omega) HA.out _ (Nat.lt_of_lt_of_le hb hb1.size) (fun k hk => ⟨(hb1.cell (p := ⟨b, off + k * 2, none⟩) hb).trans (HC.out k hk).1, (hb1.cell (p := ⟨b, off + k * 2 + 1, none⟩) hb).trans (HC.out k hk).2⟩) false HT.out).mono ?_; rintro e w2 ⟨rfl, hb2⟩))
      go_ret
      exact ⟨H.out, hb1.trans (hb2.mono hb1.size)⟩
    | true =>
      have HT := Lib.hid ht
      clear ht
      obtain ⟨n, hn⟩ : ∃ n, (rdSt l (List.range l.length)).1 = n := ⟨_, rfl⟩
      have HN := Lib.hid hn
      clear hn
      by_cases h1 : n = 1
      · have H := Lib.hid (ret_true (l := l) (HV.out.2 ⟨HT.out, HN.out.trans h1⟩))
        subst h1
        go_enter Tryz.func10, Tryz.ntmps10
        go_wp2_with (first | (go_at_call 26; refine (allin_b _ _ _ _ HP.out (by omega) true HI.out).mono ?_; rintro e w1 ⟨rfl, hb1⟩) | (go_at_call 27; refine (turnsleft_any b off _ l (by omega) (by omega) HA.out _ (Nat.lt_of_lt_of_le hb hb1.size) (fun k hk => ⟨(hb1.cell (p := ⟨b, off + k * 2, none⟩) hb).trans (HC.out k hk).1, (hb1.cell (p := ⟨b, off + k * 2 + 1, none⟩) hb).trans (HC.out k hk).2⟩) true HT.out).mono ?_; rintro e w2 ⟨rfl, hb2⟩) | (go_at_call 28; refine (rounds_any b off _ l (by omega) (by omega) _ (Nat.lt_of_lt_of_le hb (Nat.le_trans hb1.size hb2.size)) (fun k hk => ⟨((hb1.trans (hb2.mono hb1.size)).cell (p := ⟨b, off + k * 2, none⟩) hb).trans (HC.out k hk).1, ((hb1.trans (hb2.mono hb1.size)).cell (p := ⟨b, off + k * 2 + 1, none⟩) hb).trans (HC.out k hk).2⟩) 1 HN.out).mono ?_; rintro e w3 ⟨rfl, hb3⟩))
        go_ret
        exact ⟨H.out, (hb1.trans (hb2.mono hb1.size)).trans (hb3.mono (Nat.le_trans hb1.size hb2.size))⟩
      · have H := Lib.hid (ret_false (l := l) (fun hv => h1 (HN.out.symm.trans (HV.out.1 hv).2)))
        have hne : ((n : Int) == 1) = false := by simp; omega
        have H1 := Lib.hid h1
        clear h1
        go_enter Tryz.func10, Tryz.ntmps10
        go_wp2_with (first | (go_at_call 26; refine (allin_b _ _ _ _ HP.out (by omega) true HI.out).mono ?_; rintro e w1 ⟨rfl, hb1⟩) | (go_at_call 27; refine (turnsleft_any b off _ l (by omega) (by omega) HA.out _ (Nat.lt_of_lt_of_le hb hb1.size) (fun k hk => ⟨(hb1.cell (p := ⟨b, off + k * 2, none⟩) hb).trans (HC.out k hk).1, (hb1.cell (p := ⟨b, off + k * 2 + 1, none⟩) hb).trans (HC.out k hk).2⟩) true HT.out).mono ?_; rintro e w2 ⟨rfl, hb2⟩) | (go_at_call 28; refine (rounds_any b off _ l (by omega) (by omega) _ (Nat.lt_of_lt_of_le hb (Nat.le_trans hb1.size hb2.size)) (fun k hk => ⟨((hb1.trans (hb2.mono hb1.size)).cell (p := ⟨b, off + k * 2, none⟩) hb).trans (HC.out k hk).1, ((hb1.trans (hb2.mono hb1.size)).cell (p := ⟨b, off + k * 2 + 1, none⟩) hb).trans (HC.out k hk).2⟩) n HN.out).mono ?_; rintro e w3 ⟨rfl, hb3⟩))
        go_ret
        exact ⟨H.out, (hb1.trans (hb2.mono hb1.size)).trans (hb3.mono (Nat.le_trans hb1.size hb2.size))⟩
end Go.Proofs.YthabpgclnbmnpaaGreatDoor
