/- Choose, Ways: of both sides; the law's same. -/
import Derived.Test.YtfkhlglagokodaaB2
import Derived.Test.YtfkhlglagokodaaP4
namespace Go.Proofs.Ytfkhlglagokodaa
open Go.RowKit Go.Shelf

set_option maxRecDepth 100000 in
set_option maxHeartbeats 4000000 in
theorem same_b (A B : Option Addr) (L : List Nat) (ca cb n : Nat) (hn : L.length = n) (hn6 : n ≤ 600) (w : World) (hA : Rows irc 1 w A L) (hB : Rows irc 1 w B L) :
    Calls Try.prog 32 #[.slice A n ca, .slice B n cb] w fun e w' => e = .returned (.bool true) ∧ Below w.heap.size w w' := by
  have HA := Lib.hid hA
  have HB := Lib.hid hB
  have HN := Lib.hid hn
  clear hA hB hn
  go_enter Try.func32, Try.ntmps32
  go_wp2
  go_loopw [5, 13] (fun _ i wr => ∃ k : Nat, k ≤ n ∧ i = .int .i64 k ∧ Below w.heap.size w wr) (fun _ i _ => n - (intOf i).toNat)
  case atStart => exact ⟨0, Nat.zero_le _, rfl, Below.refl _ _⟩
  case round =>
    obtain ⟨k, hk, rfl, hw⟩ := hrel
    obtain ⟨wo, rfl⟩ : ∃ wo, wo = wr := ⟨_, rfl⟩
    by_cases hlt : k < n
    · have hkI : (k : Int) < (n : Int) := by omega
      have hkl : k < L.length := by rw [HN.out]; exact hlt
      obtain ⟨ba, oa, rfl, hba, hca⟩ := HA.out.open (by omega)
      obtain ⟨bb, ob, rfl, hbb, hcb⟩ := HB.out.open (by omega)
      have ra := rangeAt_below (hca k hkl) hba hw
      have rb := rangeAt_below (hcb k hkl) hbb hw
      clear hca hcb
      generalize L[k] = p at *
      have qa0 : wo.cell? ⟨ba, oa + k, none⟩ = some (.int .i64 (p : Int)) := by have := ra 0 _ rfl; rwa [Nat.mul_one] at this
      have qb0 : wo.cell? ⟨bb, ob + k, none⟩ = some (.int .i64 (p : Int)) := by have := rb 0 _ rfl; rwa [Nat.mul_one] at this
      have ya0 := fun e : Ext wo => e.cell qa0
      have yb0 := fun e : Ext wo => e.cell qb0
      clear ra rb hkl qa0 qb0
      go_wp2
      refine wp_region_ext (by kernel_rfl) (by kernel_rfl) ?_
      repeat (go_big_quiet_step (fail))
      refine wpQuiet_nil ?_
      rintro _ ⟨s, rfl⟩
      have hw2 := hw.trans (s.h.mono hw.size)
      clear ya0 yb0
      go_wp2
      go_roundw
      case rel => exact ⟨k + 1, by omega, by go_num, hw2⟩
      case measure => simp [intOf]; omega
    · obtain rfl : k = n := by omega
      go_wp2
      go_ret
      exact ⟨rfl, hw⟩

theorem rows_st {W : World} {g n : Nat} {f : Nat → Nat} (h : StN W g n f) : Rows irc 1 W (some ⟨g, 0, none⟩) ((List.range n).map f) := by
  refine .inr ⟨g, 0, rfl, h.lt, fun i hi j v hj => ?_⟩
  have hi' : i < n := by simpa using hi
  match j, hj with
  | 0, hj =>
    have := h.cell hi'
    simp only [List.getElem_map, List.getElem_range, List.getElem?_cons_zero, Nat.mul_one, Nat.zero_add, Nat.add_zero] at hj ⊢
    rw [this, ← hj]

set_option maxRecDepth 100000 in
set_option maxHeartbeats 1000000 in
theorem Choose_b (n k : Int) (w : World) :
    Calls Try.prog 28 #[.int .i64 n, .int .i64 k] w fun e w' => e = .returned (.tuple #[.int .i64 (Pl.Hv n k), .int .i64 (Pl.He n)]) ∧ Below w.heap.size w w' := by
  obtain ⟨x, hx⟩ : ∃ x, Pl.inB 0 n 60 = x := ⟨_, rfl⟩
  have HX := Lib.hid hx
  cases x with
  | false =>
    have HV : Hid (Pl.Hv n k = 0) := Lib.hid (by unfold Pl.Hv; rw [hx]; rfl)
    have HE : Hid (Pl.He n = 2) := Lib.hid (by unfold Pl.He; rw [hx]; rfl)
    clear hx
    go_enter Try.func28, Try.ntmps28
    go_wp2_with (go_at_call 44; refine (within_b _ _ _ _ HX.out _).mono ?_; rintro e w1 ⟨rfl, rfl⟩)
    go_ret2
    exact ⟨by rw [HV.out, HE.out]; rfl, Below.refl _ _⟩
  | true =>
    have h2 := Pl.inB_iff.1 hx
    obtain ⟨m, rfl⟩ : ∃ m : Nat, n = m := ⟨n.toNat, by omega⟩
    have HV : Hid (Pl.Hv m k = Pl.chz m k) := Lib.hid (by unfold Pl.Hv; rw [hx]; rfl)
    have HE : Hid (Pl.He m = 0) := Lib.hid (by unfold Pl.He; rw [hx]; rfl)
    have HC := Lib.hid (fun w' : World => choose_b m (by omega) k _ rfl w')
    clear hx h2
    go_enter Try.func28, Try.ntmps28
    go_wp2_with (go_at_call 44; refine (within_b _ _ _ _ HX.out _).mono ?_; rintro e w1 ⟨rfl, rfl⟩)
    refine (HC.out _).mono ?_
    rintro e w2 ⟨rfl, hb2⟩
    go_wp2
    go_ret2
    exact ⟨by rw [HV.out, HE.out]; rfl, hb2⟩

set_option maxRecDepth 100000 in
set_option maxHeartbeats 1000000 in
theorem rChoose_b (n k : Int) (w : World) :
    Calls Try.prog 29 #[.int .i64 n, .int .i64 k] w fun e w' => e = .returned (.tuple #[.int .i64 (Pl.Hv n k), .int .i64 (Pl.He n)]) ∧ Below w.heap.size w w' := by
  by_cases c1 : n < 0
  · have hx : Pl.inB 0 n 60 = false := by cases h : Pl.inB 0 n 60 with
      | false => rfl
      | true => have := Pl.inB_iff.1 h; omega
    have HV : Hid (Pl.Hv n k = 0) := Lib.hid (by unfold Pl.Hv; rw [hx]; rfl)
    have HE : Hid (Pl.He n = 2) := Lib.hid (by unfold Pl.He; rw [hx]; rfl)
    clear hx
    go_enter Try.func29, Try.ntmps29
    go_wp2
    go_ret2
    exact ⟨by rw [HV.out, HE.out]; rfl, Below.refl _ _⟩
  by_cases c2 : 60 < n
  · have hx : Pl.inB 0 n 60 = false := by cases h : Pl.inB 0 n 60 with
      | false => rfl
      | true => have := Pl.inB_iff.1 h; omega
    have HV : Hid (Pl.Hv n k = 0) := Lib.hid (by unfold Pl.Hv; rw [hx]; rfl)
    have HE : Hid (Pl.He n = 2) := Lib.hid (by unfold Pl.He; rw [hx]; rfl)
    clear hx
    go_enter Try.func29, Try.ntmps29
    go_wp2
    go_ret2
    exact ⟨by rw [HV.out, HE.out]; rfl, Below.refl _ _⟩
  · have hx : Pl.inB 0 n 60 = true := Pl.inB_iff.2 ⟨by omega, by omega⟩
    obtain ⟨m, rfl⟩ : ∃ m : Nat, n = m := ⟨n.toNat, by omega⟩
    have HV : Hid (Pl.Hv m k = Pl.chz m k) := Lib.hid (by unfold Pl.Hv; rw [hx]; rfl)
    have HE : Hid (Pl.He m = 0) := Lib.hid (by unfold Pl.He; rw [hx]; rfl)
    have HC := Lib.hid (fun w' : World => binomial_b m (by omega) k _ rfl w')
    clear hx
    go_enter Try.func29, Try.ntmps29
    go_wp2_with fail
    refine (HC.out _).mono ?_
    rintro e w2 ⟨rfl, hb2⟩
    go_wp2
    go_ret2
    exact ⟨by rw [HV.out, HE.out]; rfl, hb2⟩

set_option maxRecDepth 100000 in
set_option maxHeartbeats 2000000 in
theorem Ways_b (L b s : Int) (w : World) :
    Calls Try.prog 30 #[.int .i64 L, .int .i64 b, .int .i64 s] w fun e w' => ∃ A c, e = .returned (.tuple #[.slice A (Pl.Wl L b s).length c, .int .i64 (Pl.We L b s)]) ∧ Rows irc 1 w' A (Pl.Wl L b s) ∧ Below w.heap.size w w' := by
  obtain ⟨x, hx⟩ : ∃ x, Pl.wok L b s = x := ⟨_, rfl⟩
  obtain ⟨x1, h1⟩ : ∃ x, Pl.inB 0 L 60 = x := ⟨_, rfl⟩
  obtain ⟨x2, h2⟩ : ∃ x, Pl.inB 0 b L = x := ⟨_, rfl⟩
  obtain ⟨x3, h3⟩ : ∃ x, Pl.inB 0 s L = x := ⟨_, rfl⟩
  have H1 := Lib.hid h1
  have H2 := Lib.hid h2
  have H3 := Lib.hid h3
  have hx' : (x1 && (x2 && x3)) = x := by rw [← hx, ← h1, ← h2, ← h3]; rfl
  cases x with
  | false =>
    have HV : Hid (Pl.Wl L b s = []) := Lib.hid (by unfold Pl.Wl; rw [hx]; rfl)
    have HE : Hid (Pl.We L b s = 2) := Lib.hid (by unfold Pl.We; rw [hx]; rfl)
    have hc : x1 = false ∨ (x1 = true ∧ x2 = false) ∨ (x1 = true ∧ x2 = true ∧ x3 = false) := by cases x1 <;> cases x2 <;> cases x3 <;> simp_all
    clear hx hx' h1 h2 h3
    rw [HV.out, HE.out]
    rcases hc with rfl | ⟨rfl, rfl⟩ | ⟨rfl, rfl, rfl⟩ <;>
    (go_enter Try.func30, Try.ntmps30
     go_wp2_with (go_at_call 44; refine (within_any _ _ _ _).mono ?_; rintro e w1 ⟨rfl, rfl⟩; first | rw [H1.out] | rw [H2.out] | rw [H3.out])
     go_ret2
     exact ⟨_, _, rfl, Rows.nil _ _, Below.refl _ _⟩)
  | true =>
    obtain ⟨l, c, t, rfl, rfl, rfl, q1, q2, q3, e1, e2⟩ := Pl.wok_ok hx
    rw [e1, e2, Pl.wl_len]
    have HC := Lib.hid (fun w' : World => ways_b l c t q1 q2 q3 w')
    obtain ⟨rfl, rfl, rfl⟩ : x1 = true ∧ x2 = true ∧ x3 = true := by cases x1 <;> cases x2 <;> cases x3 <;> simp_all
    clear hx hx' h1 h2 h3 e1 e2 q1 q2 q3
    go_enter Try.func30, Try.ntmps30
    go_wp2_with (go_at_call 44; refine (within_any _ _ _ _).mono ?_; rintro e w1 ⟨rfl, rfl⟩; first | rw [H1.out] | rw [H2.out] | rw [H3.out])
    refine (HC.out _).mono ?_
    rintro e w2 ⟨g, hg, rfl, hst, hb2⟩
    have HST := Lib.hid (rows_st hst)
    clear hst
    go_wp2
    go_ret2
    exact ⟨_, _, rfl, HST.out, hb2⟩

set_option maxRecDepth 100000 in
set_option maxHeartbeats 4000000 in
theorem rWays_b (L b s : Int) (w : World) :
    Calls Try.prog 31 #[.int .i64 L, .int .i64 b, .int .i64 s] w fun e w' => ∃ A c, e = .returned (.tuple #[.slice A (Pl.Wl L b s).length c, .int .i64 (Pl.We L b s)]) ∧ Rows irc 1 w' A (Pl.Wl L b s) ∧ Below w.heap.size w w' := by
  obtain ⟨x, hx⟩ : ∃ x, Pl.wok L b s = x := ⟨_, rfl⟩
  cases x with
  | false =>
    have HV : Hid (Pl.Wl L b s = []) := Lib.hid (by unfold Pl.Wl; rw [hx]; rfl)
    have HE : Hid (Pl.We L b s = 2) := Lib.hid (by unfold Pl.We; rw [hx]; rfl)
    have hc : L < 0 ∨ (¬ L < 0 ∧ 60 < L) ∨ (¬ L < 0 ∧ ¬ 60 < L ∧ b < 0) ∨ (¬ L < 0 ∧ ¬ 60 < L ∧ ¬ b < 0 ∧ L < b) ∨ (¬ L < 0 ∧ ¬ 60 < L ∧ ¬ b < 0 ∧ ¬ L < b ∧ s < 0) ∨ (¬ L < 0 ∧ ¬ 60 < L ∧ ¬ b < 0 ∧ ¬ L < b ∧ ¬ s < 0 ∧ L < s) := by
      by_cases d1 : L < 0
      · exact .inl d1
      by_cases d2 : 60 < L
      · exact .inr (.inl ⟨d1, d2⟩)
      by_cases d3 : b < 0
      · exact .inr (.inr (.inl ⟨d1, d2, d3⟩))
      by_cases d4 : L < b
      · exact .inr (.inr (.inr (.inl ⟨d1, d2, d3, d4⟩)))
      by_cases d5 : s < 0
      · exact .inr (.inr (.inr (.inr (.inl ⟨d1, d2, d3, d4, d5⟩))))
      by_cases d6 : L < s
      · exact .inr (.inr (.inr (.inr (.inr ⟨d1, d2, d3, d4, d5, d6⟩))))
      · exfalso
        unfold Pl.wok at hx
        rw [Pl.inB_iff.2 ⟨by omega, by omega⟩, Pl.inB_iff.2 ⟨by omega, by omega⟩, Pl.inB_iff.2 ⟨by omega, by omega⟩] at hx
        cases hx
    clear hx
    rw [HV.out, HE.out]
    rcases hc with d1 | ⟨d1, d2⟩ | ⟨d1, d2, d3⟩ | ⟨d1, d2, d3, d4⟩ | ⟨d1, d2, d3, d4, d5⟩ | ⟨d1, d2, d3, d4, d5, d6⟩ <;>
    (go_enter Try.func31, Try.ntmps31
     go_wp2
     go_ret2
     first | exact ⟨_, _, rfl, Rows.nil _ _, Below.refl _ _⟩ | exact ⟨none, 0, Rows.nil _ _, Below.refl _ _⟩ | exact ⟨none, ⟨0, rfl⟩, Rows.nil _ _, Below.refl _ _⟩ | exact ⟨none, Rows.nil _ _, Below.refl _ _⟩)
  | true =>
    obtain ⟨l, c, t, rfl, rfl, rfl, q1, q2, q3, e1, e2⟩ := Pl.wok_ok hx
    rw [e1, e2, Pl.wl_len]
    have HC := Lib.hid (fun (i : Nat) (hi : i ≤ t) (w' : World) => rways_b l c t i q1 q2 hi q3 _ rfl w')
    have HL : ∀ k, (List.range (k + 1)).map (Pl.wy c (l - c) t) = (List.range k).map (Pl.wy c (l - c) t) ++ [Pl.wy c (l - c) t k] := fun k => by simp [List.range_succ]
    have HLL := Lib.hid HL
    have HWL : Hid (Pl.wl l c t = (List.range (t + 1)).map (Pl.wy c (l - c) t)) := Lib.hid rfl
    generalize Pl.wy c (l - c) t = f at *
    have d1 : ¬ (l : Int) < 0 := by omega
    have d2 : ¬ (60 : Int) < (l : Int) := by omega
    have d3 : ¬ (c : Int) < 0 := by omega
    have d4 : ¬ (l : Int) < (c : Int) := by omega
    have d5 : ¬ (t : Int) < 0 := by omega
    have d6 : ¬ (l : Int) < (t : Int) := by omega
    obtain ⟨t1, ht1⟩ : ∃ t1, t + 1 = t1 := ⟨_, rfl⟩
    have HT1 := Lib.hid ht1
    have k0 : IntKind.i64.wrap ((t : Int) + 1) = (t1 : Int) := by rw [IntWalk.i64_in _ (by omega)]; omega
    have k00 : (t : Int) + 1 = (t1 : Int) := by omega
    have ht60 : t1 ≤ 61 := by omega
    rw [ht1] at HWL ⊢
    obtain ⟨i0, hi, hz0, hz01, hz2⟩ := info_parts info3f
    clear hx e1 e2 q1 q2 q3 HL ht1
    go_enter Try.func31, Try.ntmps31
    go_wp2
    clear k0 k00 d1 d2 d3 d4 d5 d6
    go_loopw [8, 9, 36] (fun v _ j wr => ∃ i : Nat, i ≤ t1 ∧ j = .int .i64 i ∧ wr.ownsRow w.heap.size 3 1 v i (flt irc ((List.range i).map f)) ∧ Below w.heap.size w wr) (fun _ _ j _ => t1 - (intOf j).toNat)
    case atStart => exact ⟨0, Nat.zero_le _, rfl, World.ownsRow_nil _ _ _ _, Below.refl _ _⟩
    case round =>
      obtain ⟨i, hi1, rfl, hown, hB⟩ := hrel
      obtain ⟨wo, rfl⟩ : ∃ wo, wo = wr := ⟨_, rfl⟩
      by_cases hlt : i < t1
      · have hltI : (i : Int) < (t1 : Int) := by omega
        have HW := Lib.hid (HC.out i (by have := HT1.out; omega))
        have HE : Hid (flt irc ((List.range (i + 1)).map f) = flt irc ((List.range i).map f) ++ irc (f i)) := Lib.hid (by rw [HLL.out, flt_append, flt_one])
        generalize f i = X at *
        go_wp2_with fail
        refine (HW.out _).mono ?_
        rintro e w2 ⟨rfl, hb2⟩
        have hB2 := hB.trans (hb2.mono hB.size)
        have hown2 := own_keep hown hb2
        have HOW := Lib.hid (hown2.alloc (.cells (irc X).toArray 3))
        clear hb2 hB HW hown
        go_wp2_with (at_builtin; refine wpList_append_own _ rfl _ _ 33 rfl w.heap.size 3 i0 _ 1 8 Try.underlying33 hi hz0 hz01 hz2 rfl (by decide) _ _ _ rfl HOW.out ⟨w2.heap.size, 0, none⟩ 1 1 (irc X) rfl rfl (new_cells' _ _ _ rfl) (encIr.one X) (by unfold maxLen; omega) (by omega) (by have := hB2.size; simp; omega) ?_; intro v' w9 hown' hgrow _)
        have hB9 := (hB2.alloc hB2.size (.cells (irc X).toArray 3)).grown hgrow (hB2.alloc hB2.size _).size (fun s e => (hown2.lt s e).1)
        go_roundw
        case rel => exact ⟨i + 1, by omega, by go_num, by rw [HE.out]; exact hown', hB9⟩
        case measure => simp [intOf]; omega
      · obtain rfl : i = t1 := by omega
        have h' : wo.ownsRow w.heap.size 3 1 u8 ((List.range i).map f).length (flt irc ((List.range i).map f)) := by simpa using hown
        obtain ⟨A, c', rfl, hr, _⟩ := rows_of_owns encIr h'
        have HR := Lib.hid hr
        clear hr h' hown
        go_wp2
        go_ret2
        exact ⟨A, c', by simp, by rw [HWL.out]; exact HR.out, hB⟩
end Go.Proofs.Ytfkhlglagokodaa
