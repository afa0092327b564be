/- sort.Search and Tolerance, of the program. -/
import Derived.Test.YtmjnlmmjfbpogaaV7
import Derived.Test.YtmjnlmmjfbpogaaP9
import Derived.Deep.RegionHeld
namespace Go.Proofs.Ytmjnlmmjfbpogaa
open Go.RowKit Go.Shelf

theorem eg_tol : ∀ args w, (callFunc 66 args).run Try.prog w = .ok (.enter 66 args) w := enters_of Try.func66 (by kernel_rfl) rfl

set_option maxRecDepth 100000 in
set_option maxHeartbeats 4000000 in
theorem tol1_any (A : Option Addr) (l : List Pl.Tm) (c n : Nat) (hn : l.length = n) (h : Pl.Ok l) (m : Int) (ba bx : Nat) (tol : Int) (ht : 0 ≤ tol ∧ tol ≤ 1000) (v : Bool) (hv : decide (m ≤ ((Pl.mt l tol).length : Int)) = v) (w : World) (hI : Tms w A l)
    (ha : w.cell? ⟨ba, 0, none⟩ = some (.slice A n c)) (hx : w.cell? ⟨bx, 0, none⟩ = some (.int .i64 m)) :
    Calls Try.prog 66 (#[.int .i64 tol] ++ #[.pointer (some ⟨ba, 0, none⟩), .pointer (some ⟨bx, 0, none⟩)]) w fun e w' => e = .returned (.bool v) ∧ Below w.heap.size w w' := by
  have HC := Lib.hid (fun (w' : World) hI => match_any A l c n hn h tol ht w' hI)
  have HI := Lib.hid hI
  have HV := Lib.hid hv.symm
  generalize Pl.mt l tol = M at *
  clear h hI hn ht hv
  have hB0 := Below.refl w.heap.size w
  change Calls _ _ #[.int .i64 tol, .pointer (some ⟨ba, 0, none⟩), .pointer (some ⟨bx, 0, none⟩)] _ _
  go_enter Try.func66, Try.ntmps66
  go_wp2_with fail
  refine Code.wp_mono (Q := fun e' a' w' => e' = .normal ∧ ∃ y3 y5 y6 y7 y8 y9 y10, a' = { tmps := #[.int .i64 tol, .pointer (some ⟨ba, 0, none⟩), .pointer (some ⟨bx, 0, none⟩), y3, .bool v, y5, y6, y7, y8, y9, y10], defers := [] } ∧ Below w.heap.size w w') ?goon ?region
  case goon =>
    rintro _ _ w3 ⟨rfl, y3, y5, y6, y7, y8, y9, y10, rfl, hB3⟩
    go_wp2
    go_ret
    exact ⟨rfl, hB3⟩
  refine wp_region_held (S := fun W => Below w.heap.size w W) (by kernel_rfl) ?_
  change wpAnyH _ _ _ _ _ _ _ _ (World.drew _)
  have hBd := hB0.drew
  have hTake : ∀ W, Below w.heap.size w W → W.cell? ⟨ba, 0, none⟩ = some (.slice A n c) := fun W hb => by
    have := (⟨W, hb⟩ : Ext w).cell ha; exact this
  have hTakx : ∀ W, Below w.heap.size w W → W.cell? ⟨bx, 0, none⟩ = some (.int .i64 m) := fun W hb => by
    have := (⟨W, hb⟩ : Ext w).cell hx; exact this
  refine wpAnyH_take (i := 0) (v := ?_) rfl (by kernel_rfl) (by decide +kernel) (by decide +kernel) (fun _ _ _ h => by cases h.1) (Or.inl ⟨by rfl, ?_⟩) hBd ?_
  rotate_left
  · intro w' hS; have q := hTake _ hS; first | (go_simp; done) | (go_simp; with_reducible rfl)
  refine wpAnyH_take (i := 1) (v := ?_) rfl (by kernel_rfl) (by decide +kernel) (by decide +kernel) (fun _ _ _ h => by cases h.1) (Or.inl ⟨by rfl, ?_⟩) hBd ?_
  rotate_left
  · intro w' hS; first | (go_simp; done) | (go_simp; with_reducible rfl)
  refine wpAnyH_take (i := 4) (v := ?_) rfl (by kernel_rfl) (by decide +kernel) (by decide +kernel) (fun _ _ _ h => by cases h.1) (Or.inl ⟨by rfl, ?_⟩) hBd ?_
  rotate_left
  · intro w' hS; have q := hTakx _ hS; first | (go_simp; done) | (go_simp; with_reducible rfl)
  have HId := Lib.hid (HI.out.below hBd)
  clear hTake hTakx ha hx
  refine wpAnyH_all (rs := [2]) (by decide +kernel) (by simp) ?_
  intro i hi
  obtain rfl := List.mem_singleton.1 hi
  refine wpOp_go rfl rfl (fun K hK => ?_)
  go_simp
  refine (HC.out _ HId.out).mono ?_
  rintro e w1 ⟨v1, rfl, hown, hb1⟩
  obtain ⟨A1, c1, rfl, _⟩ := rows_of_owns encPr hown
  have hB1 := hBd.trans (hb1.mono hBd.size)
  clear hown HC
  refine hK _ _ ⟨hB1, ?_⟩
  clear hK K hi
  refine wpAnyH_all (rs := [3]) (by decide +kernel) (by simp) ?_
  intro i hi
  obtain rfl := List.mem_singleton.1 hi
  refine wpOp_go rfl rfl (fun K hK => ?_)
  go_simp
  refine hK _ _ ⟨hB1, ?_⟩
  clear hK K hi
  refine wpAnyH_all (rs := [5]) (by decide +kernel) (by simp) ?_
  intro i hi
  obtain rfl := List.mem_singleton.1 hi
  refine wpOp_go rfl rfl (fun K hK => ?_)
  go_simp
  refine hK _ _ ⟨hB1, ?_⟩
  clear hK K hi
  refine wpAnyH_all (rs := [6]) (by decide +kernel) (by simp) ?_
  intro i hi
  obtain rfl := List.mem_singleton.1 hi
  refine wpOp_go rfl rfl (fun K hK => ?_)
  go_simp
  refine hK _ _ ⟨hB1, ?_⟩
  clear hK K hi
  refine wpAnyH_done (by decide +kernel) ?_ _
  rw [HV.out]
  exact ⟨rfl, _, _, _, _, _, _, _, rfl, hB1⟩

set_option maxRecDepth 100000 in
set_option maxHeartbeats 4000000 in
theorem search_any (cb : Array Value) (p : Nat → Bool) (w : World)
    (hf : ∀ (w' : World) (i : Nat), Below w.heap.size w w' → i < 1001 → Calls Try.prog 66 (#[.int .i64 i] ++ cb) w' fun e w'' => e = .returned (.bool (p i)) ∧ Below w'.heap.size w' w'')
    (hmono : ∀ a b : Nat, a ≤ b → b < 1001 → p a = true → p b = true) :
    Calls Try.prog 65 #[.int .i64 1001, .func (.func 66) #[] cb] w fun e w' => ∃ t : Nat, e = .returned (.int .i64 t) ∧ t ≤ 1001 ∧ (∀ s, s < t → p s = false) ∧ (∀ s, t ≤ s → s < 1001 → p s = true) ∧ Below w.heap.size w w' := by
  have HF := Lib.hid hf
  have M := Lib.hid hmono
  clear hf hmono
  have eg := eg_tol
  have H0 : Hid ((∀ t, t < 0 → p t = false) ∧ (∀ t, 1001 ≤ t → t < 1001 → p t = true)) := Lib.hid ⟨fun t ht => absurd ht (Nat.not_lt_zero _), fun t h1 h2 => by omega⟩
  go_enter Try.func65, Try.ntmps65
  go_wp2
  go_loopw [5, 6] (fun s5 s6 wr => ∃ lo hi : Nat, s5 = .int .i64 lo ∧ s6 = .int .i64 hi ∧ lo ≤ hi ∧ hi ≤ 1001 ∧ Hid ((∀ t, t < lo → p t = false) ∧ (∀ t, hi ≤ t → t < 1001 → p t = true)) ∧ Below w.heap.size w wr) (fun s5 s6 _ => (intOf s6).toNat - (intOf s5).toNat)
  case atStart => exact ⟨0, 1001, rfl, rfl, by omega, by omega, H0, Below.refl _ _⟩
  case round =>
    obtain ⟨lo, hi, rfl, rfl, hlh, hin, I, hB⟩ := hrel
    obtain ⟨wo, rfl⟩ : ∃ wo, wo = wr := ⟨_, rfl⟩
    by_cases hlt : lo < hi
    · have hltI : (lo : Int) < (hi : Int) := by omega
      have hc := HF.out wo ((lo + hi) / 2) hB (by omega)
      rw [show (((lo + hi) / 2 : Nat) : Int) = ((lo : Int) + (hi : Int)) / 2 by omega] at hc
      obtain ⟨x, hp⟩ : ∃ x, p ((lo + hi) / 2) = x := ⟨_, rfl⟩
      rw [hp] at hc
      have HC := Lib.hid hc
      have HP := Lib.hid hp
      clear hc hp
      cases x with
      | false =>
        go_wp2_with (go_at_fn 66; refine HC.out.mono ?_; rintro e w' ⟨rfl, hb1⟩)
        go_roundw
        case rel =>
          exact ⟨(lo + hi) / 2 + 1, hi, by rw [show ((lo : Int) + (hi : Int)) / 2 + 1 = (((lo + hi) / 2 + 1 : Nat) : Int) by omega], rfl, by omega, hin, Lib.hid ⟨fun t ht => (by
            cases h : p t with
            | false => rfl
            | true => have := M.out t ((lo + hi) / 2) (by omega) (by omega) h; rw [HP.out] at this; cases this), I.out.2⟩, hB.trans (hb1.mono hB.size)⟩
        case measure => simp [intOf]; omega
      | true =>
        go_wp2_with (go_at_fn 66; refine HC.out.mono ?_; rintro e w' ⟨rfl, hb1⟩)
        go_roundw
        case rel =>
          exact ⟨lo, (lo + hi) / 2, rfl, by rw [show ((lo : Int) + (hi : Int)) / 2 = (((lo + hi) / 2 : Nat) : Int) by omega], by omega, by omega, Lib.hid ⟨I.out.1, fun t ht htn => M.out ((lo + hi) / 2) t ht htn HP.out⟩, hB.trans (hb1.mono hB.size)⟩
        case measure => simp [intOf]; omega
    · obtain rfl : hi = lo := by omega
      go_wp2
      go_ret
      exact ⟨hi, rfl, hin, I.out.1, I.out.2, hB⟩

set_option maxRecDepth 100000 in
set_option maxHeartbeats 4000000 in
theorem Tolerance_any (A : Option Addr) (l : List Pl.Tm) (c n : Nat) (hn : l.length = n) (m : Int) (w : World) (hI : Tms w A l) :
    Calls Try.prog 35 #[.slice A n c, .int .i64 m] w fun e w' => ∃ t r, e = .returned (.tuple #[.int .i64 t, .int .i64 r]) ∧ Pl.Tp l m t r ∧ Below w.heap.size w w' := by
  obtain ⟨x, hx⟩ : ∃ x, Pl.vs l = x := ⟨_, rfl⟩
  have HV := Lib.hid (fun (w' : World) hI => valid_any A l c w' hI)
  rw [hn, hx] at HV
  have hB0 : Below w.heap.size w ((w.alloc (.cells #[.slice A n c] 22)).alloc (.cells #[.int .i64 m] 3)) := ((Below.refl w.heap.size w).alloc (Nat.le_refl _) _).alloc (by simp) _
  have bA := (Blk.new w 22 #[.slice A n c]).alloc (.cells #[.int .i64 m] 3)
  have bX := Blk.new (w.alloc (.cells #[.slice A n c] 22)) 3 #[.int .i64 m]
  simp only [World.size_alloc] at bX
  have HI := Lib.hid (hI.below hB0)
  have HN := Lib.hid hn
  have HX := Lib.hid hx
  clear hI hn hx
  go_enter Try.func35, Try.ntmps35
  have q0 := bA.cell 0
  have p0 := bX.cell 0
  go_wp2_with fail
  refine (HV.out _ HI.out).mono ?_
  rintro e w1 ⟨rfl, hb1⟩
  have bA1 := bA.below hb1 bA.lt
  have bX1 := bX.below hb1 bX.lt
  have HI1 := Lib.hid (HI.out.below hb1)
  have hB1 := hB0.trans (hb1.mono hB0.size)
  clear q0 p0 bA bX HI hb1 hB0 HV
  cases x with
  | false =>
    go_wp2
    go_ret2
    exact ⟨_, _, rfl, .inl ⟨HX.out, rfl, rfl⟩, hB1⟩
  | true =>
    have p1 := bX1.cell 0
    by_cases hm : m < 0
    · go_wp2
      go_ret2
      exact ⟨_, _, rfl, .inr (.inl ⟨HX.out, hm, rfl, rfl⟩), hB1⟩
    · have hok : Pl.Ok l := Pl.ok_of HX.out
      have hS := search_any #[.pointer (some ⟨w.heap.size, 0, none⟩), .pointer (some ⟨w.heap.size + 1, 0, none⟩)] (fun t => decide (m ≤ ((Pl.mt l t).length : Int))) w1
        (fun w' i hb hi => tol1_any A l c n HN.out hok m w.heap.size (w.heap.size + 1) i (by omega) _ rfl w' (HI1.out.below hb) ((bA1.below hb bA1.lt).cell 0) ((bX1.below hb bX1.lt).cell 0))
        (fun a b hab _ h => by
          have h1 := of_decide_eq_true h
          have h2 := Pl.mt_tol hok (show (a : Int) ≤ (b : Int) by omega)
          exact decide_eq_true (by omega))
      have HSS := Lib.hid hS
      clear hS hok
      go_wp2_with fail
      refine HSS.out.mono ?_
      rintro e w2 ⟨t, rfl, ht, hs1, hs2, hb2⟩
      have hB2 := hB1.trans (hb2.mono hB1.size)
      have H1 := Lib.hid hs1
      have H2 := Lib.hid hs2
      clear hs1 hs2 hb2 HSS p1
      by_cases hbig : t = 1001
      · subst hbig
        go_wp2
        go_ret2
        refine ⟨_, _, rfl, .inr (.inr (.inl ⟨HX.out, by omega, ?_, rfl, rfl⟩)), hB2⟩
        have := of_decide_eq_false (H1.out 1000 (by omega))
        have e : ((1000 : Nat) : Int) = 1000 := rfl
        rw [e] at this
        omega
      · have htI : ¬ ((t : Int) > 1000) := by omega
        go_wp2
        go_ret2
        exact ⟨_, _, rfl, .inr (.inr (.inr ⟨HX.out, by omega, Pl.isT_of (by omega) H1.out H2.out, rfl⟩)), hB2⟩
end Go.Proofs.Ytmjnlmmjfbpogaa
