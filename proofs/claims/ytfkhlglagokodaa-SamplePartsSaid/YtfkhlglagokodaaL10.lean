/- SampleParts. -/
import Derived.Test.YtfkhlglagokodaaL7
import Derived.Test.YtfkhlglagokodaaG6
import Derived.Test.YtfkhlglagokodaaP8
import Derived.Test.YtfkhlglagokodaaB1
import Derived.Deep.RegionHeld
namespace Go.Proofs.Ytfkhlglagokodaa
open Go.RowKit Go.Shelf

/-- a list that came in, or a part of it, behind one that is owned -/
theorem app_run (w : World) (A : Option Addr) (ys : List Int) (m c : Nat) (hm : ys.length = m) (hz : A = none → m = 0 ∧ c = 0) (hl : m ≤ 300) (hA : Rows inL 1 w A ys) (v : Value) (n : Nat) (xs : List Value) (B : Nat) (hown : w.ownsRow B 3 1 v n xs) (hB : B ≤ w.heap.size) (hn : n ≤ 300) :
    ∃ v' w', (Builtin.append_ #[33, 33] 33 #[v, .slice A m c]).run Try.prog w = .ok v' w' ∧ w'.ownsRow B 3 1 v' (n + m) (xs ++ flt inL ys) ∧ w.grownBy w' v.ownBlock := by
  subst hm
  obtain ⟨i0, hi0, hz0, hn0, hy0⟩ := info_parts info3f
  cases A with
  | none =>
    obtain ⟨h0, rfl⟩ := hz rfl
    obtain rfl : ys = [] := List.length_eq_zero_iff.1 h0
    refine ⟨v, w, run_append_owned_none (P := Try.prog) w B 33 33 3 i0 1 Try.underlying33 hi0 v n xs hown, by rw [flt_nil, List.append_nil]; exact hown, rfl, rfl, rfl, Nat.le_refl _, fun _ _ _ => rfl⟩
  | some a =>
    obtain ⟨v', w', h1, h2, h3, _⟩ := run_append_own (P := Try.prog) w B 33 33 3 i0 _ 1 8 Try.underlying33 hi0 hz0 hn0 hy0 rfl (by decide) v n xs hown a ys.length c (flt inL ys) (flt_len encIn ys) (fun j u hj => by
      rcases hA with h | ⟨b, off, h4, _, h5⟩
      · rw [h] at hj; simp [flt] at hj
      · cases h4; exact rows_cells encIn h5 j u hj) (flt_one' encIn ys) (by unfold maxLen; omega) (by omega) hB
    exact ⟨v', w', h1, h2, h3⟩
theorem rows_take {α : Type} {enc : α → List Value} {k : Nat} {W : World} {A : Option Addr} {l : List α} (h : Rows enc k W A l) (D : Nat) : Rows enc k W A (l.take D) := by
  rcases h with h | ⟨b, off, h1, h2, h3⟩
  · rw [h]; exact .inl List.take_nil
  · refine .inr ⟨b, off, h1, h2, fun i hi => ?_⟩
    rw [List.length_take] at hi
    rw [List.getElem_take]
    exact h3 i (by omega)

set_option maxRecDepth 100000 in
set_option maxHeartbeats 16000000 in
theorem ro_b (A : Option Addr) (l : List (Int × Bool)) (c n : Nat) (hn : l.length = n) (hn2 : n ≤ 200) (w : World) (hA : Rows isL 2 w A l) :
    Calls Try.prog 43 #[.slice A n c] w fun e w' => e = .returned (.int .i64 (Pl.ro l)) ∧ Below w.heap.size w w' := by
  have HA := Lib.hid hA
  have HN := Lib.hid hn
  clear hA hn
  go_enter Try.func43, Try.ntmps43
  go_wp2
  go_loopw [3, 5, 8] (fun x _ j wr => ∃ k : Nat, k ≤ n ∧ x = .int .i64 (Pl.ro (l.take k)) ∧ j = .int .i64 k ∧ Below w.heap.size w wr) (fun _ _ j _ => n - (intOf j).toNat)
  case atStart => exact ⟨0, Nat.zero_le _, rfl, rfl, Below.refl _ _⟩
  case round =>
    obtain ⟨k, hk, rfl, rfl, hB⟩ := hrel
    obtain ⟨wo, rfl⟩ : ∃ wo, wo = wr := ⟨_, rfl⟩
    by_cases hlt : k < n
    · have hltI : (k : Int) < (n : Int) := by omega
      have hkl : k < l.length := by rw [HN.out]; exact hlt
      obtain ⟨ba, oa, rfl, hba, hca⟩ := HA.out.open (by omega)
      have ra := rangeAt_below (hca k hkl) hba hB
      have hR : Pl.ro (l.take (k + 1)) = Pl.ro (l.take k) + (if l[k].2 then 0 else 1) := by
        unfold Pl.ro
        rw [List.take_succ_eq_append_getElem hkl, List.countP_append, List.countP_cons, List.countP_nil]
        cases l[k].2 <;> rfl
      have hle : Pl.ro (l.take k) ≤ k := Nat.le_trans List.countP_le_length (by rw [List.length_take]; omega)
      have HR := Lib.hid hR
      clear hca hR
      generalize l[k] = p at *
      obtain ⟨p1, p2⟩ := p
      have qa0 : wo.cell? ⟨ba, oa + k * 2, none⟩ = some (.int .i64 p1) := ra 0 _ rfl
      have qa1 : wo.cell? ⟨ba, oa + k * 2 + 1, none⟩ = some (.bool p2) := ra 1 _ rfl
      clear ra
      generalize Pl.ro (l.take k) = X at *
      have hB2 := hB.alloc hB.size (.cells (isA p1 p2) 62)
      cases p2 with
      | true =>
        go_wp2
        go_roundw
        case rel => exact ⟨k + 1, by omega, by rw [HR.out]; rfl, by go_num, hB2⟩
        case measure => simp [intOf]; omega
      | false =>
        go_wp2
        go_roundw
        case rel => exact ⟨k + 1, by omega, by rw [HR.out]; first | rfl | go_num, by go_num, hB2⟩
        case measure => simp [intOf]; omega
    · obtain rfl : k = n := by omega
      have HE : Hid (Pl.ro (l.take k) = Pl.ro l) := Lib.hid (by rw [List.take_of_length_le (by rw [HN.out]; exact Nat.le_refl _)])
      rw [HE.out]
      go_wp2
      go_ret
      exact ⟨rfl, hB⟩

set_option maxRecDepth 100000 in
set_option maxHeartbeats 32000000 in
theorem law_parts (S : Pl.Sc) (A : Option Addr) (xs : List Int) (c : Nat) (hn63 : c ≤ maxLen) (hnc : xs.length ≤ c) (hz : A = none → xs.length = 0 ∧ c = 0) (u : Nat) (hu : u ≤ 255) (w : World) (hA : Rows inL 1 w A xs) :
    Calls Try.prog 13 #[.agg (scA S), .slice A xs.length c, .int .u8 u] w fun e w' => e = .returned (.bool true) ∧ Below w.heap.size w w' := by
  have hB0 := (Below.refl w.heap.size w).alloc (Nat.le_refl _) (.cells (scA S) 25)
  have bS := Blk.new w 25 (scA S)
  have hr := bS.range
  have H1 := Lib.hid (History2_b S A xs c _ rfl (Nat.le_trans hnc hn63) _ (hA.below hB0))
  have H7 := Lib.hid awake_any
  have HK := Lib.hid (fun h => Pl.hs_ok (S := S) (xs := xs) h)
  have HER := Lib.hid (fun h => Pl.hs_err (S := S) (st := 1) (found := xs) h)
  have HA := Lib.hid hA
  have HSel := Lib.hid (fun ys (h1 : Pl.vS S = true) (h2 : ys.length ≤ 200) => Pl.hs_mk (S := S) (xs := ys) h1 h2)
  generalize Pl.hs S 1 xs = R at *
  obtain ⟨E, s, out⟩ := R
  dsimp only at HK HER H1
  obtain ⟨n, hn⟩ : ∃ n, xs.length = n := ⟨_, rfl⟩
  have HN := Lib.hid hn
  rw [hn] at H1 hnc hz HK ⊢
  have HZ := Lib.hid hz
  clear hA hz hn
  by_cases hE : E = 0
  rotate_left
  · have hE1 : (E != 0) = true := by simpa using hE
    have he := HER.out hE
    injection he with he1 he2
    subst he1 he2
    clear HK HER hE
    go_enter Try.func13, Try.ntmps13
    go_wp2_with (refine ldm_sc hr rfl _ rfl rfl ?_)
    refine H1.out.mono ?_
    rintro e w1 ⟨A1, c1, rfl, hr1, hnl1, hb1⟩
    have hB1 := hB0.trans (hb1.mono hB0.size)
    clear hr1
    go_wp2_with fail
    refine (H7.out _).mono ?_
    rintro e w5 ⟨rfl, hb5⟩
    have hB5 := hB1.trans (hb5.mono hB1.size)
    go_wp2
    go_ret
    exact ⟨rfl, hB5⟩
  · subst hE
    obtain ⟨hvS, hn200, hh⟩ := HK.out rfl
    obtain ⟨hol, hpre⟩ := Pl.hist_pre hh
    obtain ⟨k, hk⟩ : ∃ k, u % (n + 1) = k := ⟨_, rfl⟩
    have hkn : k ≤ n := by have := Nat.mod_lt u (show 0 < n + 1 by omega); omega
    obtain ⟨mid, hm1, hm2⟩ := hpre k (by rw [HN.out]; exact hkn)
    have a4 : IntKind.i64.wrap (u : Int) = (u : Int) := IntWalk.i64_in _ (by omega)
    have a6 : (u : Int).tmod ((n : Int) + 1) = (k : Int) := by rw [← hk]; rfl
    have b6 : (u : Int) % ((n : Int) + 1) = (k : Int) := by rw [← hk]; rfl
    have a8 : ¬ (n : Int) + 1 = 0 := by omega
    have huI : (u : Int) ≤ 255 := by omega
    rw [HN.out] at hol
    have hol2 : out.length = n := hol
    rw [hol2] at H1
    have HOL := Lib.hid hol2
    have HM1 := Lib.hid hm1
    have HM2 := Lib.hid hm2
    have HH := Lib.hid hh
    clear HK HER hk hol hol2 hm1 hm2 hpre hh
    go_enter Try.func13, Try.ntmps13
    go_wp2_with (refine ldm_sc hr rfl _ rfl rfl ?_)
    refine H1.out.mono ?_
    rintro e w1 ⟨A1, c1, rfl, hr1, hnl1, hb1⟩
    have hB1 := hB0.trans (hb1.mono hB0.size)
    have bS1 := bS.below hb1 bS.lt
    have HR1 := Lib.hid hr1
    clear hr1 hb1 hr bS hB0
    have hkI : (k : Int) ≤ (n : Int) := by omega
    have hkc : k ≤ c := by omega
    have hkcI : (k : Int) ≤ (c : Int) := by omega
    have HST0 := Lib.hid (fun (W9 : World) A9 c9 (hro : Rows inL 1 W9 A9 (xs ++ [0])) => State_b S A9 (xs ++ [0]) c9 (n + 1) (by rw [List.length_append, HN.out]; rfl) (by unfold maxLen; omega) W9 hro)
    have HE0 : Hid (n < 200 → (Pl.hs S 1 (xs ++ [0])).1 = if s = 4 then 51 else 0) := Lib.hid (fun h => by
      rw [HSel.out (xs ++ [0]) hvS (by rw [List.length_append, HN.out]; exact h), Pl.hist_more 0 HH.out, Pl.acE_zero (Pl.pl_ok hvS s)])
    have HRF : Hid (s = 4 → 5 ≤ Pl.ro out) := Lib.hid (fun h => by
      have h5 := HH.out
      rw [h] at h5
      have := Pl.hist_stopped h5 (by decide)
      simpa [Pl.rf] using this)
    generalize Pl.hs S 1 (xs ++ [0]) = R12 at *
    obtain ⟨E12, s12, o12⟩ := R12
    dsimp only at HST0 HE0
    cases A with
    | none =>
      obtain ⟨rfl, rfl⟩ := HZ.out rfl
      obtain rfl : k = 0 := by omega
      have hTS : ∀ W, Below w1.heap.size w1 W → ∀ q, q < 6 → W.cell? ⟨w.heap.size, q, none⟩ = (scA S)[q]? := fun W hb q _ => (bS1.below hb bS1.lt).cell q
      have HS1 := Lib.hid bS1
      have hlt1 := bS1.lt
      have hlK : (xs.take 0).length = 0 := by rw [List.length_take, HN.out]; omega
      have hBd := (Below.refl w1.heap.size w1).drew
      have hBA := ((Below.refl w1.heap.size w1).alloc (Nat.le_refl _) (.cells #[] 3)).drew
      have hoE : ((w1.alloc (.cells #[] 3)).drew).ownsRow w1.heap.size 3 1 (.slice (some ⟨w1.heap.size, 0, none⟩) 0 0) 0 [] := World.ownsRow_lit (e := 3) (size := 1) (base := w1.heap.size) w1 #[] 0 (Nat.le_refl _) (by unfold maxLen; omega) rfl
      obtain ⟨v5, w5, hr5, ho5, hg5⟩ := app_run _ none (xs.take 0) 0 0 hlK (by intro h; first | (cases h; done) | exact ⟨rfl, rfl⟩) (by omega) (rows_take (HA.out.below (hB1.trans (hBA.mono hB1.size))) 0) _ 0 [] w1.heap.size hoE hBA.size (by omega)
      have hB5 := hBA.grown hg5 hBA.size (fun s e => (hoE.lt s e).1)
      have ho5' : w5.ownsRow w1.heap.size 3 1 v5 (xs.take 0).length (flt inL (xs.take 0)) := by rw [hlK]; simpa using ho5
      obtain ⟨A5, c5, hv5, hro5, _, hcm5⟩ := rows_of_owns encIn ho5'
      rw [hlK] at hv5
      subst hv5
      have HR5 := Lib.hid hr5
      have HC5 := Lib.hid (History2_b S A5 (xs.take 0) c5 0 hlK (by unfold maxLen; omega) w5 hro5)
      rw [HSel.out (xs.take 0) hvS (by rw [hlK]; omega), HM1.out] at HC5
      dsimp only at HC5
      have hoK : (out.take 0).length = 0 := by rw [List.length_take, HOL.out]; omega
      rw [hoK] at HC5
      clear bS1 hr5 ho5 ho5' hg5 hoE hro5
      go_wp2
      refine wp_region_held (S := fun W => Below w1.heap.size w1 W) (by kernel_rfl) ?_
      change wpAnyH _ _ _ _ _ _ _ _ (World.drew _)
      refine wpAnyH_take (i := 0) (v := ?_) rfl (by kernel_rfl) (by decide +kernel) (by decide +kernel) (fun _ _ _ h => h) (Or.inl ⟨by rfl, ?_⟩) hBd ?_
      rotate_left
      · intro w' hS; have s0 := (hTS _ hS 0 (by omega)).trans rfl; have s1 := (hTS _ hS 1 (by omega)).trans rfl; have s2 := (hTS _ hS 2 (by omega)).trans rfl; have s3 := (hTS _ hS 3 (by omega)).trans rfl; have s4 := (hTS _ hS 4 (by omega)).trans rfl; have s5 := (hTS _ hS 5 (by omega)).trans rfl; first | (go_simp; done) | (go_simp; with_reducible rfl)
      refine wpAnyH_take (i := 2) (v := ?_) rfl (by kernel_rfl) (by decide +kernel) (by decide +kernel) (fun _ _ _ h => h) (Or.inl ⟨by rfl, ?_⟩) hBd ?_
      rotate_left
      · intro w' hS; first | (go_simp; done) | (go_simp; with_reducible rfl)
      refine wpAnyH_take (i := 3) (v := ?_) rfl (by kernel_rfl) (by decide +kernel) (by decide +kernel) (fun _ _ _ h => h) (Or.inl ⟨by rfl, ?_⟩) hBd ?_
      rotate_left
      · intro w' hS; first | (go_simp; done) | (go_simp; with_reducible rfl)
      refine wpAnyH_take (i := 4) (v := ?_) rfl (by kernel_rfl) (by decide +kernel) (by decide +kernel) (fun _ _ _ h => h) (Or.inl ⟨by rfl, ?_⟩) hBd ?_
      rotate_left
      · intro w' hS; first | (go_simp; done) | (go_simp; with_reducible rfl)
      clear hTS
      refine wpAnyH_all (rs := [1]) (by decide +kernel) (by simp) ?_
      intro x hx
      obtain rfl := List.mem_singleton.1 hx
      refine wpOp_go' rfl rfl (fun K hK => ?_)
      go_simp
      refine hK _ _ ⟨hBA, ?_⟩
      clear hK K hx
      refine wpAnyH_all (rs := [5]) (by decide +kernel) (by simp) ?_
      intro x hx
      obtain rfl := List.mem_singleton.1 hx
      refine wpOp_go' rfl rfl (fun K hK => ?_)
      refine step_append_run (.tmp 43) (.tmp 46) 33 rfl _ _ _ rfl rfl HR5.out (hK _ _ ⟨hB5, ?_⟩)
      clear hK K hx
      refine wpAnyH_all (rs := [6]) (by decide +kernel) (by simp) ?_
      intro x hx
      obtain rfl := List.mem_singleton.1 hx
      refine wpOp_go' rfl rfl (fun K hK => ?_)
      go_simp
      refine HC5.out.mono ?_
      rintro e w6 ⟨A2, c2, rfl, hr2, hnl2, hb6⟩
      have hB6 := hB5.trans (hb6.mono hB5.size)
      refine hK _ _ ⟨hB6, ?_⟩
      clear hK K hx
      refine wpAnyH_take (i := 7) (v := ?_) rfl (by kernel_rfl) (by decide +kernel) (by decide +kernel) (fun _ _ _ h => h) (Or.inl ⟨by rfl, ?_⟩) hB6 ?_
      rotate_left
      · intro w' hS; first | (go_simp; done) | (go_simp; with_reducible rfl)
      refine wpAnyH_take (i := 8) (v := ?_) rfl (by kernel_rfl) (by decide +kernel) (by decide +kernel) (fun _ _ _ h => h) (Or.inl ⟨by rfl, ?_⟩) hB6 ?_
      rotate_left
      · intro w' hS; first | (go_simp; done) | (go_simp; with_reducible rfl)
      refine wpAnyH_take (i := 9) (v := ?_) rfl (by kernel_rfl) (by decide +kernel) (by decide +kernel) (fun _ _ _ h => h) (Or.inl ⟨by rfl, ?_⟩) hB6 ?_
      rotate_left
      · intro w' hS; first | (go_simp; done) | (go_simp; with_reducible rfl)
      refine wpAnyH_take (i := 10) (v := ?_) rfl (by kernel_rfl) (by decide +kernel) (by decide +kernel) (fun _ _ _ h => h) (Or.inl ⟨by rfl, ?_⟩) hB6 ?_
      rotate_left
      · intro w' hS; first | (go_simp; done) | (go_simp; with_reducible rfl)
      refine wpAnyH_all (rs := [11]) (by decide +kernel) (by simp) ?_
      intro x hx
      obtain rfl := List.mem_singleton.1 hx
      refine wpOp_go' rfl rfl (fun K hK => ?_)
      go_simp
      refine hK _ _ ⟨hB6, ?_⟩
      clear hK K hx
      refine wpAnyH_all (rs := [12]) (by decide +kernel) (by simp) ?_
      intro x hx
      obtain rfl := List.mem_singleton.1 hx
      refine wpOp_go' rfl rfl (fun K hK => ?_)
      go_simp
      refine hK _ _ ⟨hB6, ?_⟩
      clear hK K hx
      refine wpAnyH_all (rs := [13]) (by decide +kernel) (by simp) ?_
      intro x hx
      obtain rfl := List.mem_singleton.1 hx
      refine wpOp_go' rfl rfl (fun K hK => ?_)
      go_simp
      refine hK _ _ ⟨hB6, ?_⟩
      clear hK K hx
      refine wpAnyH_done (by decide +kernel) ?_ _
      have HBA := Lib.hid (hB1.trans (hB6.mono hB1.size))
      have HRO := Lib.hid (HR1.out.below hB6)
      have HR2 := Lib.hid hr2
      have HSC := Lib.hid (HS1.out.below hB6 hlt1)
      have HAX := Lib.hid (HA.out.below HBA.out)
      have hlt6 : w.heap.size < w6.heap.size := Nat.lt_of_lt_of_le hlt1 hB6.size
      clear hB6 hb6 hr2 hnl2 hB5 hBA hBd HR5 HC5 hB1
      cases A1 with
      | none =>
        obtain rfl := hnl1.2 rfl
        have HSM := Lib.hid (samelots_b none A2 (out.take 0) 0 c2 0 hoK (by omega) w6 (rows_take HRO.out 0) HR2.out)
        go_wp2_with fail
        refine HSM.out.mono ?_
        rintro e w7 ⟨rfl, hb7⟩
        have HB7 := Lib.hid (HBA.out.trans (hb7.mono HBA.out.size))
        have HRO7 := Lib.hid (HRO.out.below hb7)
        have HSC7 := Lib.hid (HSC.out.below hb7 hlt6)
        have HAX7 := Lib.hid (HAX.out.below hb7)
        clear hb7 HSM
        have hs4 : s ≠ 4 := by
          have hx0 : xs = [] := List.length_eq_zero_iff.1 HN.out
          have h := HH.out
          rw [hx0] at h
          injection h with _ h
          injection h with h1 _
          rw [← h1]
          decide
        have t4 : (s == 4) = false := by simpa using hs4
        have HSCW := HSC7
        have HAW := HAX7
        have HBW := Lib.hid (HB7.out)
        have HE12 : Hid (E12 = 0) := Lib.hid (by
          have h12 := HE0.out (by omega)
          first | exact h12 | (simp at h12; exact h12) | (simp [hs4] at h12; exact h12))
        have HST := Lib.hid (fun W9 A9 c9 hro => HST0.out W9 A9 c9 hro)
        rw [HE12.out] at HST
        have hTS : ∀ V, Below w7.heap.size w7 V → ∀ q, q < 6 → V.cell? ⟨w.heap.size, q, none⟩ = (scA S)[q]? := fun V hb q _ => (HSCW.out.below hb HSCW.out.lt).cell q
        have hBd := (Below.refl w7.heap.size w7).drew
        go_wp2
        refine wp_region_held (S := fun V => Below w7.heap.size w7 V) (by kernel_rfl) ?_
        change wpAnyH _ _ _ _ _ _ _ _ (World.drew _)
        refine wpAnyH_take (i := 0) (v := ?_) rfl (by kernel_rfl) (by decide +kernel) (by decide +kernel) (fun _ _ _ h => h) (Or.inl ⟨by rfl, ?_⟩) hBd ?_
        rotate_left
        · intro w' hS; have s0 := (hTS _ hS 0 (by omega)).trans rfl; have s1 := (hTS _ hS 1 (by omega)).trans rfl; have s2 := (hTS _ hS 2 (by omega)).trans rfl; have s3 := (hTS _ hS 3 (by omega)).trans rfl; have s4 := (hTS _ hS 4 (by omega)).trans rfl; have s5 := (hTS _ hS 5 (by omega)).trans rfl; first | (go_simp; done) | (go_simp; with_reducible rfl)
        refine wpAnyH_take (i := 2) (v := ?_) rfl (by kernel_rfl) (by decide +kernel) (by decide +kernel) (fun _ _ _ h => h) (Or.inl ⟨by rfl, ?_⟩) hBd ?_
        rotate_left
        · intro w' hS; first | (go_simp; done) | (go_simp; with_reducible rfl)
        clear hTS
        refine wpAnyH_all (rs := [1, 4]) (by decide +kernel) (by simp) ?_
        intro x hx
        rcases List.mem_cons.1 hx with rfl | hx
        · refine wpOp_go' rfl rfl (fun K hK => ?_)
          have hBA := ((Below.refl w7.heap.size w7).alloc (Nat.le_refl _) (.cells #[] 3)).drew
          have hoE : ((w7.alloc (.cells #[] 3)).drew).ownsRow w7.heap.size 3 1 (.slice (some ⟨w7.heap.size, 0, none⟩) 0 0) 0 [] := World.ownsRow_lit (e := 3) (size := 1) (base := w7.heap.size) w7 #[] 0 (Nat.le_refl _) (by unfold maxLen; omega) rfl
          go_simp
          refine hK _ _ ⟨hBA, ?_⟩
          clear hK K hx
          refine wpAnyH_all (rs := [3, 4]) (by decide +kernel) (by simp) ?_
          intro x hx
          rcases List.mem_cons.1 hx with rfl | hx
          · obtain ⟨v3, w3, hr3, ho3, hg3⟩ := app_run ((w7.alloc (.cells #[] 3)).drew) none xs 0 0 HN.out (by intro h; first | (cases h; done) | exact ⟨rfl, rfl⟩) (by omega) (HAW.out.below hBA) _ 0 [] w7.heap.size hoE hBA.size (by omega)
            have hB3 := hBA.grown hg3 hBA.size (fun s e => (hoE.lt s e).1)
            have HR3 := Lib.hid hr3
            clear hr3
            refine wpOp_go' rfl rfl (fun K hK => ?_)
            refine step_append_run (.tmp 103) (.tmp 104) 33 rfl _ _ _ rfl rfl HR3.out (hK _ _ ⟨hB3, ?_⟩)
            clear hK K hx
            have hB4 := hB3.alloc hB3.size (.cells #[.int .i64 0] 3)
            have hbk := Blk.new w3 3 #[.int .i64 0]
            have ho4 := ho3.alloc (.cells #[.int .i64 0] 3)
            have HB4 := Lib.hid hbk
            obtain ⟨i0, hi0, hz0, hn0, hy0⟩ := info_parts info3f
            obtain ⟨v9, w9, hr9, ho9, hg9, _⟩ := run_append_own (P := Try.prog) (w3.alloc (.cells #[.int .i64 0] 3)) w7.heap.size 33 33 3 i0 _ 1 8 Try.underlying33 hi0 hz0 hn0 hy0 rfl (by decide) _ _ _ ho4 ⟨w3.heap.size, 0, none⟩ 1 1 (inL 0) rfl (fun j u hj => by
              match j, hj with
              | 0, hj => exact (HB4.out.cell 0).trans hj) (encIn.one 0) (by unfold maxLen; omega) (by omega) hB4.size
            have hB9 := hB4.grown hg9 hB4.size (fun s e => (ho4.lt s e).1)
            have HR9 := Lib.hid hr9
            have hl9 : (xs ++ [0]).length = 0 + 1 := by rw [List.length_append, HN.out]; rfl
            have ho9' : w9.ownsRow w7.heap.size 3 1 v9 (xs ++ [0]).length (flt inL (xs ++ [0])) := by rw [hl9, flt_append, flt_one]; simpa using ho9
            obtain ⟨A9, c9, hv9, hro9, _, _⟩ := rows_of_owns encIn ho9'
            rw [hl9] at hv9
            subst hv9
            clear hr9 ho9 ho9' hg9 hi0 hz0 hn0 hy0
            refine wpAnyH_all (rs := [4]) (by decide +kernel) (by simp) ?_
            intro x hx
            obtain rfl := List.mem_singleton.1 hx
            refine wpOp_go' rfl rfl (fun K hK => ?_)
            go_simp
            refine hK _ _ ⟨hB4, ?_⟩
            clear hK K hx
            refine wpAnyH_all (rs := [5]) (by decide +kernel) (by simp) ?_
            intro x hx
            obtain rfl := List.mem_singleton.1 hx
            refine wpOp_go' rfl rfl (fun K hK => ?_)
            refine step_append_run (.tmp 105) (.tmp 106) 33 rfl _ _ _ rfl rfl HR9.out (hK _ _ ⟨hB9, ?_⟩)
            clear hK K hx
            refine wpAnyH_all (rs := [6]) (by decide +kernel) (by simp) ?_
            intro x hx
            obtain rfl := List.mem_singleton.1 hx
            refine wpOp_go' rfl rfl (fun K hK => ?_)
            go_simp
            refine (HST.out _ _ _ hro9).mono ?_
            rintro e w10 ⟨rfl, hb10⟩
            have hB10 := hB9.trans (hb10.mono hB9.size)
            refine hK _ _ ⟨hB10, ?_⟩
            clear hK K hx
            refine wpAnyH_take (i := 7) (v := ?_) rfl (by kernel_rfl) (by decide +kernel) (by decide +kernel) (fun _ _ _ h => h) (Or.inl ⟨by rfl, ?_⟩) hB10 ?_
            rotate_left
            · intro w' hS; first | (go_simp; done) | (go_simp; with_reducible rfl)
            refine wpAnyH_take (i := 8) (v := ?_) rfl (by kernel_rfl) (by decide +kernel) (by decide +kernel) (fun _ _ _ h => h) (Or.inl ⟨by rfl, ?_⟩) hB10 ?_
            rotate_left
            · intro w' hS; first | (go_simp; done) | (go_simp; with_reducible rfl)
            refine wpAnyH_take (i := 9) (v := ?_) rfl (by kernel_rfl) (by decide +kernel) (by decide +kernel) (fun _ _ _ h => h) (Or.inl ⟨by rfl, ?_⟩) hB10 ?_
            rotate_left
            · intro w' hS; first | (go_simp; done) | (go_simp; with_reducible rfl)
            refine wpAnyH_all (rs := [10]) (by decide +kernel) (by simp) ?_
            intro x hx
            obtain rfl := List.mem_singleton.1 hx
            refine wpOp_go' rfl rfl (fun K hK => ?_)
            go_simp
            refine hK _ _ ⟨hB10, ?_⟩
            clear hK K hx
            refine wpAnyH_all (rs := [11]) (by decide +kernel) (by simp) ?_
            intro x hx
            obtain rfl := List.mem_singleton.1 hx
            refine wpOp_go' rfl rfl (fun K hK => ?_)
            go_simp
            refine hK _ _ ⟨hB10, ?_⟩
            clear hK K hx
            refine wpAnyH_done (by decide +kernel) ?_ _
            have hBf := HBW.out.trans (hB10.mono HBW.out.size)
            clear hB9 hro9 hB10 hb10
            go_wp2_with fail
            refine (H7.out _).mono ?_
            rintro e w11 ⟨rfl, hb11⟩
            have hBg := hBf.trans (hb11.mono hBf.size)
            go_wp2
            go_ret
            exact ⟨rfl, hBg⟩
          · obtain rfl := List.mem_singleton.1 hx
            refine wpOp_go' rfl rfl (fun K hK => ?_)
            have hBF := (((Below.refl w7.heap.size w7).alloc (Nat.le_refl _) (.cells #[] 3)).alloc (by simp) (.cells #[.int .i64 0] 3)).drew
            have hoF : (((w7.alloc (.cells #[] 3)).alloc (.cells #[.int .i64 0] 3)).drew).ownsRow w7.heap.size 3 1 (.slice (some ⟨w7.heap.size, 0, none⟩) 0 0) 0 [] := (World.ownsRow_lit (e := 3) (size := 1) (base := w7.heap.size) w7 #[] 0 (Nat.le_refl _) (by unfold maxLen; omega) rfl).alloc (.cells #[.int .i64 0] 3)
            have hbF : Blk (((w7.alloc (.cells #[] 3)).alloc (.cells #[.int .i64 0] 3)).drew) (w7.heap.size + 1) 3 #[.int .i64 0] := by have h := Blk.new (w7.alloc (.cells #[] 3)) 3 #[.int .i64 0]; simp only [World.size_alloc] at h; exact h
            go_simp
            refine hK _ _ ⟨hBF, ?_⟩
            clear hK K hx
            obtain ⟨v3, w3, hr3, ho3, hg3⟩ := app_run (((w7.alloc (.cells #[] 3)).alloc (.cells #[.int .i64 0] 3)).drew) none xs 0 0 HN.out (by intro h; first | (cases h; done) | exact ⟨rfl, rfl⟩) (by omega) (HAW.out.below hBF) _ 0 [] w7.heap.size hoF hBF.size (by omega)
            have hB3 := hBF.grown hg3 hBF.size (fun s e => (hoF.lt s e).1)
            have HR3 := Lib.hid hr3
            clear hr3
            have hbk3 : Blk w3 (w7.heap.size + 1) 3 #[.int .i64 0] := (hg3.block _ hbF.lt (by simp [Value.ownBlock])).trans hbF
            have HB4 := Lib.hid hbk3
            obtain ⟨i0, hi0, hz0, hn0, hy0⟩ := info_parts info3f
            obtain ⟨v9, w9, hr9, ho9, hg9, _⟩ := run_append_own (P := Try.prog) (w3) w7.heap.size 33 33 3 i0 _ 1 8 Try.underlying33 hi0 hz0 hn0 hy0 rfl (by decide) _ _ _ ho3 ⟨w7.heap.size + 1, 0, none⟩ 1 1 (inL 0) rfl (fun j u hj => by
              match j, hj with
              | 0, hj => exact (HB4.out.cell 0).trans hj) (encIn.one 0) (by unfold maxLen; omega) (by omega) hB3.size
            have hB9 := hB3.grown hg9 hB3.size (fun s e => (ho3.lt s e).1)
            have HR9 := Lib.hid hr9
            have hl9 : (xs ++ [0]).length = 0 + 1 := by rw [List.length_append, HN.out]; rfl
            have ho9' : w9.ownsRow w7.heap.size 3 1 v9 (xs ++ [0]).length (flt inL (xs ++ [0])) := by rw [hl9, flt_append, flt_one]; simpa using ho9
            obtain ⟨A9, c9, hv9, hro9, _, _⟩ := rows_of_owns encIn ho9'
            rw [hl9] at hv9
            subst hv9
            clear hr9 ho9 ho9' hg9 hi0 hz0 hn0 hy0
            refine wpAnyH_all (rs := [3]) (by decide +kernel) (by simp) ?_
            intro x hx
            obtain rfl := List.mem_singleton.1 hx
            refine wpOp_go' rfl rfl (fun K hK => ?_)
            refine step_append_run (.tmp 103) (.tmp 104) 33 rfl _ _ _ rfl rfl HR3.out (hK _ _ ⟨hB3, ?_⟩)
            clear hK K hx
            refine wpAnyH_all (rs := [5]) (by decide +kernel) (by simp) ?_
            intro x hx
            obtain rfl := List.mem_singleton.1 hx
            refine wpOp_go' rfl rfl (fun K hK => ?_)
            refine step_append_run (.tmp 105) (.tmp 106) 33 rfl _ _ _ rfl rfl HR9.out (hK _ _ ⟨hB9, ?_⟩)
            clear hK K hx
            refine wpAnyH_all (rs := [6]) (by decide +kernel) (by simp) ?_
            intro x hx
            obtain rfl := List.mem_singleton.1 hx
            refine wpOp_go' rfl rfl (fun K hK => ?_)
            go_simp
            refine (HST.out _ _ _ hro9).mono ?_
            rintro e w10 ⟨rfl, hb10⟩
            have hB10 := hB9.trans (hb10.mono hB9.size)
            refine hK _ _ ⟨hB10, ?_⟩
            clear hK K hx
            refine wpAnyH_take (i := 7) (v := ?_) rfl (by kernel_rfl) (by decide +kernel) (by decide +kernel) (fun _ _ _ h => h) (Or.inl ⟨by rfl, ?_⟩) hB10 ?_
            rotate_left
            · intro w' hS; first | (go_simp; done) | (go_simp; with_reducible rfl)
            refine wpAnyH_take (i := 8) (v := ?_) rfl (by kernel_rfl) (by decide +kernel) (by decide +kernel) (fun _ _ _ h => h) (Or.inl ⟨by rfl, ?_⟩) hB10 ?_
            rotate_left
            · intro w' hS; first | (go_simp; done) | (go_simp; with_reducible rfl)
            refine wpAnyH_take (i := 9) (v := ?_) rfl (by kernel_rfl) (by decide +kernel) (by decide +kernel) (fun _ _ _ h => h) (Or.inl ⟨by rfl, ?_⟩) hB10 ?_
            rotate_left
            · intro w' hS; first | (go_simp; done) | (go_simp; with_reducible rfl)
            refine wpAnyH_all (rs := [10]) (by decide +kernel) (by simp) ?_
            intro x hx
            obtain rfl := List.mem_singleton.1 hx
            refine wpOp_go' rfl rfl (fun K hK => ?_)
            go_simp
            refine hK _ _ ⟨hB10, ?_⟩
            clear hK K hx
            refine wpAnyH_all (rs := [11]) (by decide +kernel) (by simp) ?_
            intro x hx
            obtain rfl := List.mem_singleton.1 hx
            refine wpOp_go' rfl rfl (fun K hK => ?_)
            go_simp
            refine hK _ _ ⟨hB10, ?_⟩
            clear hK K hx
            refine wpAnyH_done (by decide +kernel) ?_ _
            have hBf := HBW.out.trans (hB10.mono HBW.out.size)
            clear hB9 hro9 hB10 hb10
            go_wp2_with fail
            refine (H7.out _).mono ?_
            rintro e w11 ⟨rfl, hb11⟩
            have hBg := hBf.trans (hb11.mono hBf.size)
            go_wp2
            go_ret
            exact ⟨rfl, hBg⟩
        · obtain rfl := List.mem_singleton.1 hx
          refine wpOp_go' rfl rfl (fun K hK => ?_)
          have hBD := ((Below.refl w7.heap.size w7).alloc (Nat.le_refl _) (.cells #[.int .i64 0] 3)).drew
          have hBF := (((Below.refl w7.heap.size w7).alloc (Nat.le_refl _) (.cells #[.int .i64 0] 3)).alloc (by simp) (.cells #[] 3)).drew
          have hoF : (((w7.alloc (.cells #[.int .i64 0] 3)).alloc (.cells #[] 3)).drew).ownsRow w7.heap.size 3 1 (.slice (some ⟨w7.heap.size + 1, 0, none⟩) 0 0) 0 [] := by have h := World.ownsRow_lit (e := 3) (size := 1) (base := w7.heap.size) (w7.alloc (.cells #[.int .i64 0] 3)) #[] 0 (by simp) (by unfold maxLen; omega) rfl; simp only [World.size_alloc] at h; exact h
          have hbF : Blk (((w7.alloc (.cells #[.int .i64 0] 3)).alloc (.cells #[] 3)).drew) w7.heap.size 3 #[.int .i64 0] := (Blk.new w7 3 #[.int .i64 0]).alloc (.cells #[] 3)
          go_simp
          refine hK _ _ ⟨hBD, ?_⟩
          clear hK K hx
          refine wpAnyH_all (rs := [1]) (by decide +kernel) (by simp) ?_
          intro x hx
          obtain rfl := List.mem_singleton.1 hx
          refine wpOp_go' rfl rfl (fun K hK => ?_)
          go_simp
          refine hK _ _ ⟨hBF, ?_⟩
          clear hK K hx
          obtain ⟨v3, w3, hr3, ho3, hg3⟩ := app_run (((w7.alloc (.cells #[.int .i64 0] 3)).alloc (.cells #[] 3)).drew) none xs 0 0 HN.out (by intro h; first | (cases h; done) | exact ⟨rfl, rfl⟩) (by omega) (HAW.out.below hBF) _ 0 [] w7.heap.size hoF hBF.size (by omega)
          have hB3 := hBF.grown hg3 hBF.size (fun s e => (hoF.lt s e).1)
          have HR3 := Lib.hid hr3
          clear hr3
          have hbk3 : Blk w3 w7.heap.size 3 #[.int .i64 0] := (hg3.block _ hbF.lt (by simp [Value.ownBlock])).trans hbF
          have HB4 := Lib.hid hbk3
          obtain ⟨i0, hi0, hz0, hn0, hy0⟩ := info_parts info3f
          obtain ⟨v9, w9, hr9, ho9, hg9, _⟩ := run_append_own (P := Try.prog) (w3) w7.heap.size 33 33 3 i0 _ 1 8 Try.underlying33 hi0 hz0 hn0 hy0 rfl (by decide) _ _ _ ho3 ⟨w7.heap.size, 0, none⟩ 1 1 (inL 0) rfl (fun j u hj => by
            match j, hj with
            | 0, hj => exact (HB4.out.cell 0).trans hj) (encIn.one 0) (by unfold maxLen; omega) (by omega) hB3.size
          have hB9 := hB3.grown hg9 hB3.size (fun s e => (ho3.lt s e).1)
          have HR9 := Lib.hid hr9
          have hl9 : (xs ++ [0]).length = 0 + 1 := by rw [List.length_append, HN.out]; rfl
          have ho9' : w9.ownsRow w7.heap.size 3 1 v9 (xs ++ [0]).length (flt inL (xs ++ [0])) := by rw [hl9, flt_append, flt_one]; simpa using ho9
          obtain ⟨A9, c9, hv9, hro9, _, _⟩ := rows_of_owns encIn ho9'
          rw [hl9] at hv9
          subst hv9
          clear hr9 ho9 ho9' hg9 hi0 hz0 hn0 hy0
          refine wpAnyH_all (rs := [3]) (by decide +kernel) (by simp) ?_
          intro x hx
          obtain rfl := List.mem_singleton.1 hx
          refine wpOp_go' rfl rfl (fun K hK => ?_)
          refine step_append_run (.tmp 103) (.tmp 104) 33 rfl _ _ _ rfl rfl HR3.out (hK _ _ ⟨hB3, ?_⟩)
          clear hK K hx
          refine wpAnyH_all (rs := [5]) (by decide +kernel) (by simp) ?_
          intro x hx
          obtain rfl := List.mem_singleton.1 hx
          refine wpOp_go' rfl rfl (fun K hK => ?_)
          refine step_append_run (.tmp 105) (.tmp 106) 33 rfl _ _ _ rfl rfl HR9.out (hK _ _ ⟨hB9, ?_⟩)
          clear hK K hx
          refine wpAnyH_all (rs := [6]) (by decide +kernel) (by simp) ?_
          intro x hx
          obtain rfl := List.mem_singleton.1 hx
          refine wpOp_go' rfl rfl (fun K hK => ?_)
          go_simp
          refine (HST.out _ _ _ hro9).mono ?_
          rintro e w10 ⟨rfl, hb10⟩
          have hB10 := hB9.trans (hb10.mono hB9.size)
          refine hK _ _ ⟨hB10, ?_⟩
          clear hK K hx
          refine wpAnyH_take (i := 7) (v := ?_) rfl (by kernel_rfl) (by decide +kernel) (by decide +kernel) (fun _ _ _ h => h) (Or.inl ⟨by rfl, ?_⟩) hB10 ?_
          rotate_left
          · intro w' hS; first | (go_simp; done) | (go_simp; with_reducible rfl)
          refine wpAnyH_take (i := 8) (v := ?_) rfl (by kernel_rfl) (by decide +kernel) (by decide +kernel) (fun _ _ _ h => h) (Or.inl ⟨by rfl, ?_⟩) hB10 ?_
          rotate_left
          · intro w' hS; first | (go_simp; done) | (go_simp; with_reducible rfl)
          refine wpAnyH_take (i := 9) (v := ?_) rfl (by kernel_rfl) (by decide +kernel) (by decide +kernel) (fun _ _ _ h => h) (Or.inl ⟨by rfl, ?_⟩) hB10 ?_
          rotate_left
          · intro w' hS; first | (go_simp; done) | (go_simp; with_reducible rfl)
          refine wpAnyH_all (rs := [10]) (by decide +kernel) (by simp) ?_
          intro x hx
          obtain rfl := List.mem_singleton.1 hx
          refine wpOp_go' rfl rfl (fun K hK => ?_)
          go_simp
          refine hK _ _ ⟨hB10, ?_⟩
          clear hK K hx
          refine wpAnyH_all (rs := [11]) (by decide +kernel) (by simp) ?_
          intro x hx
          obtain rfl := List.mem_singleton.1 hx
          refine wpOp_go' rfl rfl (fun K hK => ?_)
          go_simp
          refine hK _ _ ⟨hB10, ?_⟩
          clear hK K hx
          refine wpAnyH_done (by decide +kernel) ?_ _
          have hBf := HBW.out.trans (hB10.mono HBW.out.size)
          clear hB9 hro9 hB10 hb10
          go_wp2_with fail
          refine (H7.out _).mono ?_
          rintro e w11 ⟨rfl, hb11⟩
          have hBg := hBf.trans (hb11.mono hBf.size)
          go_wp2
          go_ret
          exact ⟨rfl, hBg⟩
      | some a1 =>
        have hkc1 : 0 ≤ c1 := by have := hnl1.1; omega
        have hkc1I : (((0 : Nat) : Int) : Int) ≤ (c1 : Int) := by omega
        have HSM := Lib.hid (samelots_b (some a1) A2 (out.take 0) c1 c2 0 hoK (by omega) w6 (rows_take HRO.out 0) HR2.out)
        go_wp2_with fail
        refine HSM.out.mono ?_
        rintro e w7 ⟨rfl, hb7⟩
        have HB7 := Lib.hid (HBA.out.trans (hb7.mono HBA.out.size))
        have HRO7 := Lib.hid (HRO.out.below hb7)
        have HSC7 := Lib.hid (HSC.out.below hb7 hlt6)
        have HAX7 := Lib.hid (HAX.out.below hb7)
        clear hb7 HSM
        have hs4 : s ≠ 4 := by
          have hx0 : xs = [] := List.length_eq_zero_iff.1 HN.out
          have h := HH.out
          rw [hx0] at h
          injection h with _ h
          injection h with h1 _
          rw [← h1]
          decide
        have t4 : (s == 4) = false := by simpa using hs4
        have HSCW := HSC7
        have HAW := HAX7
        have HBW := Lib.hid (HB7.out)
        have HE12 : Hid (E12 = 0) := Lib.hid (by
          have h12 := HE0.out (by omega)
          first | exact h12 | (simp at h12; exact h12) | (simp [hs4] at h12; exact h12))
        have HST := Lib.hid (fun W9 A9 c9 hro => HST0.out W9 A9 c9 hro)
        rw [HE12.out] at HST
        have hTS : ∀ V, Below w7.heap.size w7 V → ∀ q, q < 6 → V.cell? ⟨w.heap.size, q, none⟩ = (scA S)[q]? := fun V hb q _ => (HSCW.out.below hb HSCW.out.lt).cell q
        have hBd := (Below.refl w7.heap.size w7).drew
        go_wp2
        refine wp_region_held (S := fun V => Below w7.heap.size w7 V) (by kernel_rfl) ?_
        change wpAnyH _ _ _ _ _ _ _ _ (World.drew _)
        refine wpAnyH_take (i := 0) (v := ?_) rfl (by kernel_rfl) (by decide +kernel) (by decide +kernel) (fun _ _ _ h => h) (Or.inl ⟨by rfl, ?_⟩) hBd ?_
        rotate_left
        · intro w' hS; have s0 := (hTS _ hS 0 (by omega)).trans rfl; have s1 := (hTS _ hS 1 (by omega)).trans rfl; have s2 := (hTS _ hS 2 (by omega)).trans rfl; have s3 := (hTS _ hS 3 (by omega)).trans rfl; have s4 := (hTS _ hS 4 (by omega)).trans rfl; have s5 := (hTS _ hS 5 (by omega)).trans rfl; first | (go_simp; done) | (go_simp; with_reducible rfl)
        refine wpAnyH_take (i := 2) (v := ?_) rfl (by kernel_rfl) (by decide +kernel) (by decide +kernel) (fun _ _ _ h => h) (Or.inl ⟨by rfl, ?_⟩) hBd ?_
        rotate_left
        · intro w' hS; first | (go_simp; done) | (go_simp; with_reducible rfl)
        clear hTS
        refine wpAnyH_all (rs := [1, 4]) (by decide +kernel) (by simp) ?_
        intro x hx
        rcases List.mem_cons.1 hx with rfl | hx
        · refine wpOp_go' rfl rfl (fun K hK => ?_)
          have hBA := ((Below.refl w7.heap.size w7).alloc (Nat.le_refl _) (.cells #[] 3)).drew
          have hoE : ((w7.alloc (.cells #[] 3)).drew).ownsRow w7.heap.size 3 1 (.slice (some ⟨w7.heap.size, 0, none⟩) 0 0) 0 [] := World.ownsRow_lit (e := 3) (size := 1) (base := w7.heap.size) w7 #[] 0 (Nat.le_refl _) (by unfold maxLen; omega) rfl
          go_simp
          refine hK _ _ ⟨hBA, ?_⟩
          clear hK K hx
          refine wpAnyH_all (rs := [3, 4]) (by decide +kernel) (by simp) ?_
          intro x hx
          rcases List.mem_cons.1 hx with rfl | hx
          · obtain ⟨v3, w3, hr3, ho3, hg3⟩ := app_run ((w7.alloc (.cells #[] 3)).drew) none xs 0 0 HN.out (by intro h; first | (cases h; done) | exact ⟨rfl, rfl⟩) (by omega) (HAW.out.below hBA) _ 0 [] w7.heap.size hoE hBA.size (by omega)
            have hB3 := hBA.grown hg3 hBA.size (fun s e => (hoE.lt s e).1)
            have HR3 := Lib.hid hr3
            clear hr3
            refine wpOp_go' rfl rfl (fun K hK => ?_)
            refine step_append_run (.tmp 103) (.tmp 104) 33 rfl _ _ _ rfl rfl HR3.out (hK _ _ ⟨hB3, ?_⟩)
            clear hK K hx
            have hB4 := hB3.alloc hB3.size (.cells #[.int .i64 0] 3)
            have hbk := Blk.new w3 3 #[.int .i64 0]
            have ho4 := ho3.alloc (.cells #[.int .i64 0] 3)
            have HB4 := Lib.hid hbk
            obtain ⟨i0, hi0, hz0, hn0, hy0⟩ := info_parts info3f
            obtain ⟨v9, w9, hr9, ho9, hg9, _⟩ := run_append_own (P := Try.prog) (w3.alloc (.cells #[.int .i64 0] 3)) w7.heap.size 33 33 3 i0 _ 1 8 Try.underlying33 hi0 hz0 hn0 hy0 rfl (by decide) _ _ _ ho4 ⟨w3.heap.size, 0, none⟩ 1 1 (inL 0) rfl (fun j u hj => by
              match j, hj with
              | 0, hj => exact (HB4.out.cell 0).trans hj) (encIn.one 0) (by unfold maxLen; omega) (by omega) hB4.size
            have hB9 := hB4.grown hg9 hB4.size (fun s e => (ho4.lt s e).1)
            have HR9 := Lib.hid hr9
            have hl9 : (xs ++ [0]).length = 0 + 1 := by rw [List.length_append, HN.out]; rfl
            have ho9' : w9.ownsRow w7.heap.size 3 1 v9 (xs ++ [0]).length (flt inL (xs ++ [0])) := by rw [hl9, flt_append, flt_one]; simpa using ho9
            obtain ⟨A9, c9, hv9, hro9, _, _⟩ := rows_of_owns encIn ho9'
            rw [hl9] at hv9
            subst hv9
            clear hr9 ho9 ho9' hg9 hi0 hz0 hn0 hy0
            refine wpAnyH_all (rs := [4]) (by decide +kernel) (by simp) ?_
            intro x hx
            obtain rfl := List.mem_singleton.1 hx
            refine wpOp_go' rfl rfl (fun K hK => ?_)
            go_simp
            refine hK _ _ ⟨hB4, ?_⟩
            clear hK K hx
            refine wpAnyH_all (rs := [5]) (by decide +kernel) (by simp) ?_
            intro x hx
            obtain rfl := List.mem_singleton.1 hx
            refine wpOp_go' rfl rfl (fun K hK => ?_)
            refine step_append_run (.tmp 105) (.tmp 106) 33 rfl _ _ _ rfl rfl HR9.out (hK _ _ ⟨hB9, ?_⟩)
            clear hK K hx
            refine wpAnyH_all (rs := [6]) (by decide +kernel) (by simp) ?_
            intro x hx
            obtain rfl := List.mem_singleton.1 hx
            refine wpOp_go' rfl rfl (fun K hK => ?_)
            go_simp
            refine (HST.out _ _ _ hro9).mono ?_
            rintro e w10 ⟨rfl, hb10⟩
            have hB10 := hB9.trans (hb10.mono hB9.size)
            refine hK _ _ ⟨hB10, ?_⟩
            clear hK K hx
            refine wpAnyH_take (i := 7) (v := ?_) rfl (by kernel_rfl) (by decide +kernel) (by decide +kernel) (fun _ _ _ h => h) (Or.inl ⟨by rfl, ?_⟩) hB10 ?_
            rotate_left
            · intro w' hS; first | (go_simp; done) | (go_simp; with_reducible rfl)
            refine wpAnyH_take (i := 8) (v := ?_) rfl (by kernel_rfl) (by decide +kernel) (by decide +kernel) (fun _ _ _ h => h) (Or.inl ⟨by rfl, ?_⟩) hB10 ?_
            rotate_left
            · intro w' hS; first | (go_simp; done) | (go_simp; with_reducible rfl)
            refine wpAnyH_take (i := 9) (v := ?_) rfl (by kernel_rfl) (by decide +kernel) (by decide +kernel) (fun _ _ _ h => h) (Or.inl ⟨by rfl, ?_⟩) hB10 ?_
            rotate_left
            · intro w' hS; first | (go_simp; done) | (go_simp; with_reducible rfl)
            refine wpAnyH_all (rs := [10]) (by decide +kernel) (by simp) ?_
            intro x hx
            obtain rfl := List.mem_singleton.1 hx
            refine wpOp_go' rfl rfl (fun K hK => ?_)
            go_simp
            refine hK _ _ ⟨hB10, ?_⟩
            clear hK K hx
            refine wpAnyH_all (rs := [11]) (by decide +kernel) (by simp) ?_
            intro x hx
            obtain rfl := List.mem_singleton.1 hx
            refine wpOp_go' rfl rfl (fun K hK => ?_)
            go_simp
            refine hK _ _ ⟨hB10, ?_⟩
            clear hK K hx
            refine wpAnyH_done (by decide +kernel) ?_ _
            have hBf := HBW.out.trans (hB10.mono HBW.out.size)
            clear hB9 hro9 hB10 hb10
            go_wp2_with fail
            refine (H7.out _).mono ?_
            rintro e w11 ⟨rfl, hb11⟩
            have hBg := hBf.trans (hb11.mono hBf.size)
            go_wp2
            go_ret
            exact ⟨rfl, hBg⟩
          · obtain rfl := List.mem_singleton.1 hx
            refine wpOp_go' rfl rfl (fun K hK => ?_)
            have hBF := (((Below.refl w7.heap.size w7).alloc (Nat.le_refl _) (.cells #[] 3)).alloc (by simp) (.cells #[.int .i64 0] 3)).drew
            have hoF : (((w7.alloc (.cells #[] 3)).alloc (.cells #[.int .i64 0] 3)).drew).ownsRow w7.heap.size 3 1 (.slice (some ⟨w7.heap.size, 0, none⟩) 0 0) 0 [] := (World.ownsRow_lit (e := 3) (size := 1) (base := w7.heap.size) w7 #[] 0 (Nat.le_refl _) (by unfold maxLen; omega) rfl).alloc (.cells #[.int .i64 0] 3)
            have hbF : Blk (((w7.alloc (.cells #[] 3)).alloc (.cells #[.int .i64 0] 3)).drew) (w7.heap.size + 1) 3 #[.int .i64 0] := by have h := Blk.new (w7.alloc (.cells #[] 3)) 3 #[.int .i64 0]; simp only [World.size_alloc] at h; exact h
            go_simp
            refine hK _ _ ⟨hBF, ?_⟩
            clear hK K hx
            obtain ⟨v3, w3, hr3, ho3, hg3⟩ := app_run (((w7.alloc (.cells #[] 3)).alloc (.cells #[.int .i64 0] 3)).drew) none xs 0 0 HN.out (by intro h; first | (cases h; done) | exact ⟨rfl, rfl⟩) (by omega) (HAW.out.below hBF) _ 0 [] w7.heap.size hoF hBF.size (by omega)
            have hB3 := hBF.grown hg3 hBF.size (fun s e => (hoF.lt s e).1)
            have HR3 := Lib.hid hr3
            clear hr3
            have hbk3 : Blk w3 (w7.heap.size + 1) 3 #[.int .i64 0] := (hg3.block _ hbF.lt (by simp [Value.ownBlock])).trans hbF
            have HB4 := Lib.hid hbk3
            obtain ⟨i0, hi0, hz0, hn0, hy0⟩ := info_parts info3f
            obtain ⟨v9, w9, hr9, ho9, hg9, _⟩ := run_append_own (P := Try.prog) (w3) w7.heap.size 33 33 3 i0 _ 1 8 Try.underlying33 hi0 hz0 hn0 hy0 rfl (by decide) _ _ _ ho3 ⟨w7.heap.size + 1, 0, none⟩ 1 1 (inL 0) rfl (fun j u hj => by
              match j, hj with
              | 0, hj => exact (HB4.out.cell 0).trans hj) (encIn.one 0) (by unfold maxLen; omega) (by omega) hB3.size
            have hB9 := hB3.grown hg9 hB3.size (fun s e => (ho3.lt s e).1)
            have HR9 := Lib.hid hr9
            have hl9 : (xs ++ [0]).length = 0 + 1 := by rw [List.length_append, HN.out]; rfl
            have ho9' : w9.ownsRow w7.heap.size 3 1 v9 (xs ++ [0]).length (flt inL (xs ++ [0])) := by rw [hl9, flt_append, flt_one]; simpa using ho9
            obtain ⟨A9, c9, hv9, hro9, _, _⟩ := rows_of_owns encIn ho9'
            rw [hl9] at hv9
            subst hv9
            clear hr9 ho9 ho9' hg9 hi0 hz0 hn0 hy0
            refine wpAnyH_all (rs := [3]) (by decide +kernel) (by simp) ?_
            intro x hx
            obtain rfl := List.mem_singleton.1 hx
            refine wpOp_go' rfl rfl (fun K hK => ?_)
            refine step_append_run (.tmp 103) (.tmp 104) 33 rfl _ _ _ rfl rfl HR3.out (hK _ _ ⟨hB3, ?_⟩)
            clear hK K hx
            refine wpAnyH_all (rs := [5]) (by decide +kernel) (by simp) ?_
            intro x hx
            obtain rfl := List.mem_singleton.1 hx
            refine wpOp_go' rfl rfl (fun K hK => ?_)
            refine step_append_run (.tmp 105) (.tmp 106) 33 rfl _ _ _ rfl rfl HR9.out (hK _ _ ⟨hB9, ?_⟩)
            clear hK K hx
            refine wpAnyH_all (rs := [6]) (by decide +kernel) (by simp) ?_
            intro x hx
            obtain rfl := List.mem_singleton.1 hx
            refine wpOp_go' rfl rfl (fun K hK => ?_)
            go_simp
            refine (HST.out _ _ _ hro9).mono ?_
            rintro e w10 ⟨rfl, hb10⟩
            have hB10 := hB9.trans (hb10.mono hB9.size)
            refine hK _ _ ⟨hB10, ?_⟩
            clear hK K hx
            refine wpAnyH_take (i := 7) (v := ?_) rfl (by kernel_rfl) (by decide +kernel) (by decide +kernel) (fun _ _ _ h => h) (Or.inl ⟨by rfl, ?_⟩) hB10 ?_
            rotate_left
            · intro w' hS; first | (go_simp; done) | (go_simp; with_reducible rfl)
            refine wpAnyH_take (i := 8) (v := ?_) rfl (by kernel_rfl) (by decide +kernel) (by decide +kernel) (fun _ _ _ h => h) (Or.inl ⟨by rfl, ?_⟩) hB10 ?_
            rotate_left
            · intro w' hS; first | (go_simp; done) | (go_simp; with_reducible rfl)
            refine wpAnyH_take (i := 9) (v := ?_) rfl (by kernel_rfl) (by decide +kernel) (by decide +kernel) (fun _ _ _ h => h) (Or.inl ⟨by rfl, ?_⟩) hB10 ?_
            rotate_left
            · intro w' hS; first | (go_simp; done) | (go_simp; with_reducible rfl)
            refine wpAnyH_all (rs := [10]) (by decide +kernel) (by simp) ?_
            intro x hx
            obtain rfl := List.mem_singleton.1 hx
            refine wpOp_go' rfl rfl (fun K hK => ?_)
            go_simp
            refine hK _ _ ⟨hB10, ?_⟩
            clear hK K hx
            refine wpAnyH_all (rs := [11]) (by decide +kernel) (by simp) ?_
            intro x hx
            obtain rfl := List.mem_singleton.1 hx
            refine wpOp_go' rfl rfl (fun K hK => ?_)
            go_simp
            refine hK _ _ ⟨hB10, ?_⟩
            clear hK K hx
            refine wpAnyH_done (by decide +kernel) ?_ _
            have hBf := HBW.out.trans (hB10.mono HBW.out.size)
            clear hB9 hro9 hB10 hb10
            go_wp2_with fail
            refine (H7.out _).mono ?_
            rintro e w11 ⟨rfl, hb11⟩
            have hBg := hBf.trans (hb11.mono hBf.size)
            go_wp2
            go_ret
            exact ⟨rfl, hBg⟩
        · obtain rfl := List.mem_singleton.1 hx
          refine wpOp_go' rfl rfl (fun K hK => ?_)
          have hBD := ((Below.refl w7.heap.size w7).alloc (Nat.le_refl _) (.cells #[.int .i64 0] 3)).drew
          have hBF := (((Below.refl w7.heap.size w7).alloc (Nat.le_refl _) (.cells #[.int .i64 0] 3)).alloc (by simp) (.cells #[] 3)).drew
          have hoF : (((w7.alloc (.cells #[.int .i64 0] 3)).alloc (.cells #[] 3)).drew).ownsRow w7.heap.size 3 1 (.slice (some ⟨w7.heap.size + 1, 0, none⟩) 0 0) 0 [] := by have h := World.ownsRow_lit (e := 3) (size := 1) (base := w7.heap.size) (w7.alloc (.cells #[.int .i64 0] 3)) #[] 0 (by simp) (by unfold maxLen; omega) rfl; simp only [World.size_alloc] at h; exact h
          have hbF : Blk (((w7.alloc (.cells #[.int .i64 0] 3)).alloc (.cells #[] 3)).drew) w7.heap.size 3 #[.int .i64 0] := (Blk.new w7 3 #[.int .i64 0]).alloc (.cells #[] 3)
          go_simp
          refine hK _ _ ⟨hBD, ?_⟩
          clear hK K hx
          refine wpAnyH_all (rs := [1]) (by decide +kernel) (by simp) ?_
          intro x hx
          obtain rfl := List.mem_singleton.1 hx
          refine wpOp_go' rfl rfl (fun K hK => ?_)
          go_simp
          refine hK _ _ ⟨hBF, ?_⟩
          clear hK K hx
          obtain ⟨v3, w3, hr3, ho3, hg3⟩ := app_run (((w7.alloc (.cells #[.int .i64 0] 3)).alloc (.cells #[] 3)).drew) none xs 0 0 HN.out (by intro h; first | (cases h; done) | exact ⟨rfl, rfl⟩) (by omega) (HAW.out.below hBF) _ 0 [] w7.heap.size hoF hBF.size (by omega)
          have hB3 := hBF.grown hg3 hBF.size (fun s e => (hoF.lt s e).1)
          have HR3 := Lib.hid hr3
          clear hr3
          have hbk3 : Blk w3 w7.heap.size 3 #[.int .i64 0] := (hg3.block _ hbF.lt (by simp [Value.ownBlock])).trans hbF
          have HB4 := Lib.hid hbk3
          obtain ⟨i0, hi0, hz0, hn0, hy0⟩ := info_parts info3f
          obtain ⟨v9, w9, hr9, ho9, hg9, _⟩ := run_append_own (P := Try.prog) (w3) w7.heap.size 33 33 3 i0 _ 1 8 Try.underlying33 hi0 hz0 hn0 hy0 rfl (by decide) _ _ _ ho3 ⟨w7.heap.size, 0, none⟩ 1 1 (inL 0) rfl (fun j u hj => by
            match j, hj with
            | 0, hj => exact (HB4.out.cell 0).trans hj) (encIn.one 0) (by unfold maxLen; omega) (by omega) hB3.size
          have hB9 := hB3.grown hg9 hB3.size (fun s e => (ho3.lt s e).1)
          have HR9 := Lib.hid hr9
          have hl9 : (xs ++ [0]).length = 0 + 1 := by rw [List.length_append, HN.out]; rfl
          have ho9' : w9.ownsRow w7.heap.size 3 1 v9 (xs ++ [0]).length (flt inL (xs ++ [0])) := by rw [hl9, flt_append, flt_one]; simpa using ho9
          obtain ⟨A9, c9, hv9, hro9, _, _⟩ := rows_of_owns encIn ho9'
          rw [hl9] at hv9
          subst hv9
          clear hr9 ho9 ho9' hg9 hi0 hz0 hn0 hy0
          refine wpAnyH_all (rs := [3]) (by decide +kernel) (by simp) ?_
          intro x hx
          obtain rfl := List.mem_singleton.1 hx
          refine wpOp_go' rfl rfl (fun K hK => ?_)
          refine step_append_run (.tmp 103) (.tmp 104) 33 rfl _ _ _ rfl rfl HR3.out (hK _ _ ⟨hB3, ?_⟩)
          clear hK K hx
          refine wpAnyH_all (rs := [5]) (by decide +kernel) (by simp) ?_
          intro x hx
          obtain rfl := List.mem_singleton.1 hx
          refine wpOp_go' rfl rfl (fun K hK => ?_)
          refine step_append_run (.tmp 105) (.tmp 106) 33 rfl _ _ _ rfl rfl HR9.out (hK _ _ ⟨hB9, ?_⟩)
          clear hK K hx
          refine wpAnyH_all (rs := [6]) (by decide +kernel) (by simp) ?_
          intro x hx
          obtain rfl := List.mem_singleton.1 hx
          refine wpOp_go' rfl rfl (fun K hK => ?_)
          go_simp
          refine (HST.out _ _ _ hro9).mono ?_
          rintro e w10 ⟨rfl, hb10⟩
          have hB10 := hB9.trans (hb10.mono hB9.size)
          refine hK _ _ ⟨hB10, ?_⟩
          clear hK K hx
          refine wpAnyH_take (i := 7) (v := ?_) rfl (by kernel_rfl) (by decide +kernel) (by decide +kernel) (fun _ _ _ h => h) (Or.inl ⟨by rfl, ?_⟩) hB10 ?_
          rotate_left
          · intro w' hS; first | (go_simp; done) | (go_simp; with_reducible rfl)
          refine wpAnyH_take (i := 8) (v := ?_) rfl (by kernel_rfl) (by decide +kernel) (by decide +kernel) (fun _ _ _ h => h) (Or.inl ⟨by rfl, ?_⟩) hB10 ?_
          rotate_left
          · intro w' hS; first | (go_simp; done) | (go_simp; with_reducible rfl)
          refine wpAnyH_take (i := 9) (v := ?_) rfl (by kernel_rfl) (by decide +kernel) (by decide +kernel) (fun _ _ _ h => h) (Or.inl ⟨by rfl, ?_⟩) hB10 ?_
          rotate_left
          · intro w' hS; first | (go_simp; done) | (go_simp; with_reducible rfl)
          refine wpAnyH_all (rs := [10]) (by decide +kernel) (by simp) ?_
          intro x hx
          obtain rfl := List.mem_singleton.1 hx
          refine wpOp_go' rfl rfl (fun K hK => ?_)
          go_simp
          refine hK _ _ ⟨hB10, ?_⟩
          clear hK K hx
          refine wpAnyH_all (rs := [11]) (by decide +kernel) (by simp) ?_
          intro x hx
          obtain rfl := List.mem_singleton.1 hx
          refine wpOp_go' rfl rfl (fun K hK => ?_)
          go_simp
          refine hK _ _ ⟨hB10, ?_⟩
          clear hK K hx
          refine wpAnyH_done (by decide +kernel) ?_ _
          have hBf := HBW.out.trans (hB10.mono HBW.out.size)
          clear hB9 hro9 hB10 hb10
          go_wp2_with fail
          refine (H7.out _).mono ?_
          rintro e w11 ⟨rfl, hb11⟩
          have hBg := hBf.trans (hb11.mono hBf.size)
          go_wp2
          go_ret
          exact ⟨rfl, hBg⟩
    | some a =>
      have hTS : ∀ W, Below w1.heap.size w1 W → ∀ q, q < 6 → W.cell? ⟨w.heap.size, q, none⟩ = (scA S)[q]? := fun W hb q _ => (bS1.below hb bS1.lt).cell q
      have HS1 := Lib.hid bS1
      have hlt1 := bS1.lt
      have hlK : (xs.take k).length = k := by rw [List.length_take, HN.out]; omega
      have hBd := (Below.refl w1.heap.size w1).drew
      have hBA := ((Below.refl w1.heap.size w1).alloc (Nat.le_refl _) (.cells #[] 3)).drew
      have hoE : ((w1.alloc (.cells #[] 3)).drew).ownsRow w1.heap.size 3 1 (.slice (some ⟨w1.heap.size, 0, none⟩) 0 0) 0 [] := World.ownsRow_lit (e := 3) (size := 1) (base := w1.heap.size) w1 #[] 0 (Nat.le_refl _) (by unfold maxLen; omega) rfl
      obtain ⟨v5, w5, hr5, ho5, hg5⟩ := app_run _ (some a) (xs.take k) k c hlK (by intro h; first | (cases h; done) | exact ⟨rfl, rfl⟩) (by omega) (rows_take (HA.out.below (hB1.trans (hBA.mono hB1.size))) k) _ 0 [] w1.heap.size hoE hBA.size (by omega)
      have hB5 := hBA.grown hg5 hBA.size (fun s e => (hoE.lt s e).1)
      have ho5' : w5.ownsRow w1.heap.size 3 1 v5 (xs.take k).length (flt inL (xs.take k)) := by rw [hlK]; simpa using ho5
      obtain ⟨A5, c5, hv5, hro5, _, hcm5⟩ := rows_of_owns encIn ho5'
      rw [hlK] at hv5
      subst hv5
      have HR5 := Lib.hid hr5
      have HC5 := Lib.hid (History2_b S A5 (xs.take k) c5 k hlK (by unfold maxLen; omega) w5 hro5)
      rw [HSel.out (xs.take k) hvS (by rw [hlK]; omega), HM1.out] at HC5
      dsimp only at HC5
      have hoK : (out.take k).length = k := by rw [List.length_take, HOL.out]; omega
      rw [hoK] at HC5
      clear bS1 hr5 ho5 ho5' hg5 hoE hro5
      go_wp2
      refine wp_region_held (S := fun W => Below w1.heap.size w1 W) (by kernel_rfl) ?_
      change wpAnyH _ _ _ _ _ _ _ _ (World.drew _)
      refine wpAnyH_take (i := 0) (v := ?_) rfl (by kernel_rfl) (by decide +kernel) (by decide +kernel) (fun _ _ _ h => h) (Or.inl ⟨by rfl, ?_⟩) hBd ?_
      rotate_left
      · intro w' hS; have s0 := (hTS _ hS 0 (by omega)).trans rfl; have s1 := (hTS _ hS 1 (by omega)).trans rfl; have s2 := (hTS _ hS 2 (by omega)).trans rfl; have s3 := (hTS _ hS 3 (by omega)).trans rfl; have s4 := (hTS _ hS 4 (by omega)).trans rfl; have s5 := (hTS _ hS 5 (by omega)).trans rfl; first | (go_simp; done) | (go_simp; with_reducible rfl)
      refine wpAnyH_take (i := 2) (v := ?_) rfl (by kernel_rfl) (by decide +kernel) (by decide +kernel) (fun _ _ _ h => h) (Or.inl ⟨by rfl, ?_⟩) hBd ?_
      rotate_left
      · intro w' hS; first | (go_simp; done) | (go_simp; with_reducible rfl)
      refine wpAnyH_take (i := 3) (v := ?_) rfl (by kernel_rfl) (by decide +kernel) (by decide +kernel) (fun _ _ _ h => h) (Or.inl ⟨by rfl, ?_⟩) hBd ?_
      rotate_left
      · intro w' hS; first | (go_simp; done) | (go_simp; with_reducible rfl)
      refine wpAnyH_take (i := 4) (v := ?_) rfl (by kernel_rfl) (by decide +kernel) (by decide +kernel) (fun _ _ _ h => h) (Or.inl ⟨by rfl, ?_⟩) hBd ?_
      rotate_left
      · intro w' hS; first | (go_simp; done) | (go_simp; with_reducible rfl)
      clear hTS
      refine wpAnyH_all (rs := [1]) (by decide +kernel) (by simp) ?_
      intro x hx
      obtain rfl := List.mem_singleton.1 hx
      refine wpOp_go' rfl rfl (fun K hK => ?_)
      go_simp
      refine hK _ _ ⟨hBA, ?_⟩
      clear hK K hx
      refine wpAnyH_all (rs := [5]) (by decide +kernel) (by simp) ?_
      intro x hx
      obtain rfl := List.mem_singleton.1 hx
      refine wpOp_go' rfl rfl (fun K hK => ?_)
      refine step_append_run (.tmp 43) (.tmp 46) 33 rfl _ _ _ rfl rfl HR5.out (hK _ _ ⟨hB5, ?_⟩)
      clear hK K hx
      refine wpAnyH_all (rs := [6]) (by decide +kernel) (by simp) ?_
      intro x hx
      obtain rfl := List.mem_singleton.1 hx
      refine wpOp_go' rfl rfl (fun K hK => ?_)
      go_simp
      refine HC5.out.mono ?_
      rintro e w6 ⟨A2, c2, rfl, hr2, hnl2, hb6⟩
      have hB6 := hB5.trans (hb6.mono hB5.size)
      refine hK _ _ ⟨hB6, ?_⟩
      clear hK K hx
      refine wpAnyH_take (i := 7) (v := ?_) rfl (by kernel_rfl) (by decide +kernel) (by decide +kernel) (fun _ _ _ h => h) (Or.inl ⟨by rfl, ?_⟩) hB6 ?_
      rotate_left
      · intro w' hS; first | (go_simp; done) | (go_simp; with_reducible rfl)
      refine wpAnyH_take (i := 8) (v := ?_) rfl (by kernel_rfl) (by decide +kernel) (by decide +kernel) (fun _ _ _ h => h) (Or.inl ⟨by rfl, ?_⟩) hB6 ?_
      rotate_left
      · intro w' hS; first | (go_simp; done) | (go_simp; with_reducible rfl)
      refine wpAnyH_take (i := 9) (v := ?_) rfl (by kernel_rfl) (by decide +kernel) (by decide +kernel) (fun _ _ _ h => h) (Or.inl ⟨by rfl, ?_⟩) hB6 ?_
      rotate_left
      · intro w' hS; first | (go_simp; done) | (go_simp; with_reducible rfl)
      refine wpAnyH_take (i := 10) (v := ?_) rfl (by kernel_rfl) (by decide +kernel) (by decide +kernel) (fun _ _ _ h => h) (Or.inl ⟨by rfl, ?_⟩) hB6 ?_
      rotate_left
      · intro w' hS; first | (go_simp; done) | (go_simp; with_reducible rfl)
      refine wpAnyH_all (rs := [11]) (by decide +kernel) (by simp) ?_
      intro x hx
      obtain rfl := List.mem_singleton.1 hx
      refine wpOp_go' rfl rfl (fun K hK => ?_)
      go_simp
      refine hK _ _ ⟨hB6, ?_⟩
      clear hK K hx
      refine wpAnyH_all (rs := [12]) (by decide +kernel) (by simp) ?_
      intro x hx
      obtain rfl := List.mem_singleton.1 hx
      refine wpOp_go' rfl rfl (fun K hK => ?_)
      go_simp
      refine hK _ _ ⟨hB6, ?_⟩
      clear hK K hx
      refine wpAnyH_all (rs := [13]) (by decide +kernel) (by simp) ?_
      intro x hx
      obtain rfl := List.mem_singleton.1 hx
      refine wpOp_go' rfl rfl (fun K hK => ?_)
      go_simp
      refine hK _ _ ⟨hB6, ?_⟩
      clear hK K hx
      refine wpAnyH_done (by decide +kernel) ?_ _
      have HBA := Lib.hid (hB1.trans (hB6.mono hB1.size))
      have HRO := Lib.hid (HR1.out.below hB6)
      have HR2 := Lib.hid hr2
      have HSC := Lib.hid (HS1.out.below hB6 hlt1)
      have HAX := Lib.hid (HA.out.below HBA.out)
      have hlt6 : w.heap.size < w6.heap.size := Nat.lt_of_lt_of_le hlt1 hB6.size
      clear hB6 hb6 hr2 hnl2 hB5 hBA hBd HR5 HC5 hB1
      cases A1 with
      | none =>
        obtain rfl := hnl1.2 rfl
        obtain rfl : n = 0 := by have := hnl1.1; omega
        obtain rfl : k = 0 := by omega
        have HSM := Lib.hid (samelots_b none A2 (out.take 0) 0 c2 0 hoK (by omega) w6 (rows_take HRO.out 0) HR2.out)
        go_wp2_with fail
        refine HSM.out.mono ?_
        rintro e w7 ⟨rfl, hb7⟩
        have HB7 := Lib.hid (HBA.out.trans (hb7.mono HBA.out.size))
        have HRO7 := Lib.hid (HRO.out.below hb7)
        have HSC7 := Lib.hid (HSC.out.below hb7 hlt6)
        have HAX7 := Lib.hid (HAX.out.below hb7)
        clear hb7 HSM
        have hs4 : s ≠ 4 := by
          have hx0 : xs = [] := List.length_eq_zero_iff.1 HN.out
          have h := HH.out
          rw [hx0] at h
          injection h with _ h
          injection h with h1 _
          rw [← h1]
          decide
        have t4 : (s == 4) = false := by simpa using hs4
        have HSCW := HSC7
        have HAW := HAX7
        have HBW := Lib.hid (HB7.out)
        have HE12 : Hid (E12 = 0) := Lib.hid (by
          have h12 := HE0.out (by omega)
          first | exact h12 | (simp at h12; exact h12) | (simp [hs4] at h12; exact h12))
        have HST := Lib.hid (fun W9 A9 c9 hro => HST0.out W9 A9 c9 hro)
        rw [HE12.out] at HST
        have hTS : ∀ V, Below w7.heap.size w7 V → ∀ q, q < 6 → V.cell? ⟨w.heap.size, q, none⟩ = (scA S)[q]? := fun V hb q _ => (HSCW.out.below hb HSCW.out.lt).cell q
        have hBd := (Below.refl w7.heap.size w7).drew
        go_wp2
        refine wp_region_held (S := fun V => Below w7.heap.size w7 V) (by kernel_rfl) ?_
        change wpAnyH _ _ _ _ _ _ _ _ (World.drew _)
        refine wpAnyH_take (i := 0) (v := ?_) rfl (by kernel_rfl) (by decide +kernel) (by decide +kernel) (fun _ _ _ h => h) (Or.inl ⟨by rfl, ?_⟩) hBd ?_
        rotate_left
        · intro w' hS; have s0 := (hTS _ hS 0 (by omega)).trans rfl; have s1 := (hTS _ hS 1 (by omega)).trans rfl; have s2 := (hTS _ hS 2 (by omega)).trans rfl; have s3 := (hTS _ hS 3 (by omega)).trans rfl; have s4 := (hTS _ hS 4 (by omega)).trans rfl; have s5 := (hTS _ hS 5 (by omega)).trans rfl; first | (go_simp; done) | (go_simp; with_reducible rfl)
        refine wpAnyH_take (i := 2) (v := ?_) rfl (by kernel_rfl) (by decide +kernel) (by decide +kernel) (fun _ _ _ h => h) (Or.inl ⟨by rfl, ?_⟩) hBd ?_
        rotate_left
        · intro w' hS; first | (go_simp; done) | (go_simp; with_reducible rfl)
        clear hTS
        refine wpAnyH_all (rs := [1, 4]) (by decide +kernel) (by simp) ?_
        intro x hx
        rcases List.mem_cons.1 hx with rfl | hx
        · refine wpOp_go' rfl rfl (fun K hK => ?_)
          have hBA := ((Below.refl w7.heap.size w7).alloc (Nat.le_refl _) (.cells #[] 3)).drew
          have hoE : ((w7.alloc (.cells #[] 3)).drew).ownsRow w7.heap.size 3 1 (.slice (some ⟨w7.heap.size, 0, none⟩) 0 0) 0 [] := World.ownsRow_lit (e := 3) (size := 1) (base := w7.heap.size) w7 #[] 0 (Nat.le_refl _) (by unfold maxLen; omega) rfl
          go_simp
          refine hK _ _ ⟨hBA, ?_⟩
          clear hK K hx
          refine wpAnyH_all (rs := [3, 4]) (by decide +kernel) (by simp) ?_
          intro x hx
          rcases List.mem_cons.1 hx with rfl | hx
          · obtain ⟨v3, w3, hr3, ho3, hg3⟩ := app_run ((w7.alloc (.cells #[] 3)).drew) (some a) xs 0 c HN.out (by intro h; first | (cases h; done) | exact ⟨rfl, rfl⟩) (by omega) (HAW.out.below hBA) _ 0 [] w7.heap.size hoE hBA.size (by omega)
            have hB3 := hBA.grown hg3 hBA.size (fun s e => (hoE.lt s e).1)
            have HR3 := Lib.hid hr3
            clear hr3
            refine wpOp_go' rfl rfl (fun K hK => ?_)
            refine step_append_run (.tmp 103) (.tmp 104) 33 rfl _ _ _ rfl rfl HR3.out (hK _ _ ⟨hB3, ?_⟩)
            clear hK K hx
            have hB4 := hB3.alloc hB3.size (.cells #[.int .i64 0] 3)
            have hbk := Blk.new w3 3 #[.int .i64 0]
            have ho4 := ho3.alloc (.cells #[.int .i64 0] 3)
            have HB4 := Lib.hid hbk
            obtain ⟨i0, hi0, hz0, hn0, hy0⟩ := info_parts info3f
            obtain ⟨v9, w9, hr9, ho9, hg9, _⟩ := run_append_own (P := Try.prog) (w3.alloc (.cells #[.int .i64 0] 3)) w7.heap.size 33 33 3 i0 _ 1 8 Try.underlying33 hi0 hz0 hn0 hy0 rfl (by decide) _ _ _ ho4 ⟨w3.heap.size, 0, none⟩ 1 1 (inL 0) rfl (fun j u hj => by
              match j, hj with
              | 0, hj => exact (HB4.out.cell 0).trans hj) (encIn.one 0) (by unfold maxLen; omega) (by omega) hB4.size
            have hB9 := hB4.grown hg9 hB4.size (fun s e => (ho4.lt s e).1)
            have HR9 := Lib.hid hr9
            have hl9 : (xs ++ [0]).length = 0 + 1 := by rw [List.length_append, HN.out]; rfl
            have ho9' : w9.ownsRow w7.heap.size 3 1 v9 (xs ++ [0]).length (flt inL (xs ++ [0])) := by rw [hl9, flt_append, flt_one]; simpa using ho9
            obtain ⟨A9, c9, hv9, hro9, _, _⟩ := rows_of_owns encIn ho9'
            rw [hl9] at hv9
            subst hv9
            clear hr9 ho9 ho9' hg9 hi0 hz0 hn0 hy0
            refine wpAnyH_all (rs := [4]) (by decide +kernel) (by simp) ?_
            intro x hx
            obtain rfl := List.mem_singleton.1 hx
            refine wpOp_go' rfl rfl (fun K hK => ?_)
            go_simp
            refine hK _ _ ⟨hB4, ?_⟩
            clear hK K hx
            refine wpAnyH_all (rs := [5]) (by decide +kernel) (by simp) ?_
            intro x hx
            obtain rfl := List.mem_singleton.1 hx
            refine wpOp_go' rfl rfl (fun K hK => ?_)
            refine step_append_run (.tmp 105) (.tmp 106) 33 rfl _ _ _ rfl rfl HR9.out (hK _ _ ⟨hB9, ?_⟩)
            clear hK K hx
            refine wpAnyH_all (rs := [6]) (by decide +kernel) (by simp) ?_
            intro x hx
            obtain rfl := List.mem_singleton.1 hx
            refine wpOp_go' rfl rfl (fun K hK => ?_)
            go_simp
            refine (HST.out _ _ _ hro9).mono ?_
            rintro e w10 ⟨rfl, hb10⟩
            have hB10 := hB9.trans (hb10.mono hB9.size)
            refine hK _ _ ⟨hB10, ?_⟩
            clear hK K hx
            refine wpAnyH_take (i := 7) (v := ?_) rfl (by kernel_rfl) (by decide +kernel) (by decide +kernel) (fun _ _ _ h => h) (Or.inl ⟨by rfl, ?_⟩) hB10 ?_
            rotate_left
            · intro w' hS; first | (go_simp; done) | (go_simp; with_reducible rfl)
            refine wpAnyH_take (i := 8) (v := ?_) rfl (by kernel_rfl) (by decide +kernel) (by decide +kernel) (fun _ _ _ h => h) (Or.inl ⟨by rfl, ?_⟩) hB10 ?_
            rotate_left
            · intro w' hS; first | (go_simp; done) | (go_simp; with_reducible rfl)
            refine wpAnyH_take (i := 9) (v := ?_) rfl (by kernel_rfl) (by decide +kernel) (by decide +kernel) (fun _ _ _ h => h) (Or.inl ⟨by rfl, ?_⟩) hB10 ?_
            rotate_left
            · intro w' hS; first | (go_simp; done) | (go_simp; with_reducible rfl)
            refine wpAnyH_all (rs := [10]) (by decide +kernel) (by simp) ?_
            intro x hx
            obtain rfl := List.mem_singleton.1 hx
            refine wpOp_go' rfl rfl (fun K hK => ?_)
            go_simp
            refine hK _ _ ⟨hB10, ?_⟩
            clear hK K hx
            refine wpAnyH_all (rs := [11]) (by decide +kernel) (by simp) ?_
            intro x hx
            obtain rfl := List.mem_singleton.1 hx
            refine wpOp_go' rfl rfl (fun K hK => ?_)
            go_simp
            refine hK _ _ ⟨hB10, ?_⟩
            clear hK K hx
            refine wpAnyH_done (by decide +kernel) ?_ _
            have hBf := HBW.out.trans (hB10.mono HBW.out.size)
            clear hB9 hro9 hB10 hb10
            go_wp2_with fail
            refine (H7.out _).mono ?_
            rintro e w11 ⟨rfl, hb11⟩
            have hBg := hBf.trans (hb11.mono hBf.size)
            go_wp2
            go_ret
            exact ⟨rfl, hBg⟩
          · obtain rfl := List.mem_singleton.1 hx
            refine wpOp_go' rfl rfl (fun K hK => ?_)
            have hBF := (((Below.refl w7.heap.size w7).alloc (Nat.le_refl _) (.cells #[] 3)).alloc (by simp) (.cells #[.int .i64 0] 3)).drew
            have hoF : (((w7.alloc (.cells #[] 3)).alloc (.cells #[.int .i64 0] 3)).drew).ownsRow w7.heap.size 3 1 (.slice (some ⟨w7.heap.size, 0, none⟩) 0 0) 0 [] := (World.ownsRow_lit (e := 3) (size := 1) (base := w7.heap.size) w7 #[] 0 (Nat.le_refl _) (by unfold maxLen; omega) rfl).alloc (.cells #[.int .i64 0] 3)
            have hbF : Blk (((w7.alloc (.cells #[] 3)).alloc (.cells #[.int .i64 0] 3)).drew) (w7.heap.size + 1) 3 #[.int .i64 0] := by have h := Blk.new (w7.alloc (.cells #[] 3)) 3 #[.int .i64 0]; simp only [World.size_alloc] at h; exact h
            go_simp
            refine hK _ _ ⟨hBF, ?_⟩
            clear hK K hx
            obtain ⟨v3, w3, hr3, ho3, hg3⟩ := app_run (((w7.alloc (.cells #[] 3)).alloc (.cells #[.int .i64 0] 3)).drew) (some a) xs 0 c HN.out (by intro h; first | (cases h; done) | exact ⟨rfl, rfl⟩) (by omega) (HAW.out.below hBF) _ 0 [] w7.heap.size hoF hBF.size (by omega)
            have hB3 := hBF.grown hg3 hBF.size (fun s e => (hoF.lt s e).1)
            have HR3 := Lib.hid hr3
            clear hr3
            have hbk3 : Blk w3 (w7.heap.size + 1) 3 #[.int .i64 0] := (hg3.block _ hbF.lt (by simp [Value.ownBlock])).trans hbF
            have HB4 := Lib.hid hbk3
            obtain ⟨i0, hi0, hz0, hn0, hy0⟩ := info_parts info3f
            obtain ⟨v9, w9, hr9, ho9, hg9, _⟩ := run_append_own (P := Try.prog) (w3) w7.heap.size 33 33 3 i0 _ 1 8 Try.underlying33 hi0 hz0 hn0 hy0 rfl (by decide) _ _ _ ho3 ⟨w7.heap.size + 1, 0, none⟩ 1 1 (inL 0) rfl (fun j u hj => by
              match j, hj with
              | 0, hj => exact (HB4.out.cell 0).trans hj) (encIn.one 0) (by unfold maxLen; omega) (by omega) hB3.size
            have hB9 := hB3.grown hg9 hB3.size (fun s e => (ho3.lt s e).1)
            have HR9 := Lib.hid hr9
            have hl9 : (xs ++ [0]).length = 0 + 1 := by rw [List.length_append, HN.out]; rfl
            have ho9' : w9.ownsRow w7.heap.size 3 1 v9 (xs ++ [0]).length (flt inL (xs ++ [0])) := by rw [hl9, flt_append, flt_one]; simpa using ho9
            obtain ⟨A9, c9, hv9, hro9, _, _⟩ := rows_of_owns encIn ho9'
            rw [hl9] at hv9
            subst hv9
            clear hr9 ho9 ho9' hg9 hi0 hz0 hn0 hy0
            refine wpAnyH_all (rs := [3]) (by decide +kernel) (by simp) ?_
            intro x hx
            obtain rfl := List.mem_singleton.1 hx
            refine wpOp_go' rfl rfl (fun K hK => ?_)
            refine step_append_run (.tmp 103) (.tmp 104) 33 rfl _ _ _ rfl rfl HR3.out (hK _ _ ⟨hB3, ?_⟩)
            clear hK K hx
            refine wpAnyH_all (rs := [5]) (by decide +kernel) (by simp) ?_
            intro x hx
            obtain rfl := List.mem_singleton.1 hx
            refine wpOp_go' rfl rfl (fun K hK => ?_)
            refine step_append_run (.tmp 105) (.tmp 106) 33 rfl _ _ _ rfl rfl HR9.out (hK _ _ ⟨hB9, ?_⟩)
            clear hK K hx
            refine wpAnyH_all (rs := [6]) (by decide +kernel) (by simp) ?_
            intro x hx
            obtain rfl := List.mem_singleton.1 hx
            refine wpOp_go' rfl rfl (fun K hK => ?_)
            go_simp
            refine (HST.out _ _ _ hro9).mono ?_
            rintro e w10 ⟨rfl, hb10⟩
            have hB10 := hB9.trans (hb10.mono hB9.size)
            refine hK _ _ ⟨hB10, ?_⟩
            clear hK K hx
            refine wpAnyH_take (i := 7) (v := ?_) rfl (by kernel_rfl) (by decide +kernel) (by decide +kernel) (fun _ _ _ h => h) (Or.inl ⟨by rfl, ?_⟩) hB10 ?_
            rotate_left
            · intro w' hS; first | (go_simp; done) | (go_simp; with_reducible rfl)
            refine wpAnyH_take (i := 8) (v := ?_) rfl (by kernel_rfl) (by decide +kernel) (by decide +kernel) (fun _ _ _ h => h) (Or.inl ⟨by rfl, ?_⟩) hB10 ?_
            rotate_left
            · intro w' hS; first | (go_simp; done) | (go_simp; with_reducible rfl)
            refine wpAnyH_take (i := 9) (v := ?_) rfl (by kernel_rfl) (by decide +kernel) (by decide +kernel) (fun _ _ _ h => h) (Or.inl ⟨by rfl, ?_⟩) hB10 ?_
            rotate_left
            · intro w' hS; first | (go_simp; done) | (go_simp; with_reducible rfl)
            refine wpAnyH_all (rs := [10]) (by decide +kernel) (by simp) ?_
            intro x hx
            obtain rfl := List.mem_singleton.1 hx
            refine wpOp_go' rfl rfl (fun K hK => ?_)
            go_simp
            refine hK _ _ ⟨hB10, ?_⟩
            clear hK K hx
            refine wpAnyH_all (rs := [11]) (by decide +kernel) (by simp) ?_
            intro x hx
            obtain rfl := List.mem_singleton.1 hx
            refine wpOp_go' rfl rfl (fun K hK => ?_)
            go_simp
            refine hK _ _ ⟨hB10, ?_⟩
            clear hK K hx
            refine wpAnyH_done (by decide +kernel) ?_ _
            have hBf := HBW.out.trans (hB10.mono HBW.out.size)
            clear hB9 hro9 hB10 hb10
            go_wp2_with fail
            refine (H7.out _).mono ?_
            rintro e w11 ⟨rfl, hb11⟩
            have hBg := hBf.trans (hb11.mono hBf.size)
            go_wp2
            go_ret
            exact ⟨rfl, hBg⟩
        · obtain rfl := List.mem_singleton.1 hx
          refine wpOp_go' rfl rfl (fun K hK => ?_)
          have hBD := ((Below.refl w7.heap.size w7).alloc (Nat.le_refl _) (.cells #[.int .i64 0] 3)).drew
          have hBF := (((Below.refl w7.heap.size w7).alloc (Nat.le_refl _) (.cells #[.int .i64 0] 3)).alloc (by simp) (.cells #[] 3)).drew
          have hoF : (((w7.alloc (.cells #[.int .i64 0] 3)).alloc (.cells #[] 3)).drew).ownsRow w7.heap.size 3 1 (.slice (some ⟨w7.heap.size + 1, 0, none⟩) 0 0) 0 [] := by have h := World.ownsRow_lit (e := 3) (size := 1) (base := w7.heap.size) (w7.alloc (.cells #[.int .i64 0] 3)) #[] 0 (by simp) (by unfold maxLen; omega) rfl; simp only [World.size_alloc] at h; exact h
          have hbF : Blk (((w7.alloc (.cells #[.int .i64 0] 3)).alloc (.cells #[] 3)).drew) w7.heap.size 3 #[.int .i64 0] := (Blk.new w7 3 #[.int .i64 0]).alloc (.cells #[] 3)
          go_simp
          refine hK _ _ ⟨hBD, ?_⟩
          clear hK K hx
          refine wpAnyH_all (rs := [1]) (by decide +kernel) (by simp) ?_
          intro x hx
          obtain rfl := List.mem_singleton.1 hx
          refine wpOp_go' rfl rfl (fun K hK => ?_)
          go_simp
          refine hK _ _ ⟨hBF, ?_⟩
          clear hK K hx
          obtain ⟨v3, w3, hr3, ho3, hg3⟩ := app_run (((w7.alloc (.cells #[.int .i64 0] 3)).alloc (.cells #[] 3)).drew) (some a) xs 0 c HN.out (by intro h; first | (cases h; done) | exact ⟨rfl, rfl⟩) (by omega) (HAW.out.below hBF) _ 0 [] w7.heap.size hoF hBF.size (by omega)
          have hB3 := hBF.grown hg3 hBF.size (fun s e => (hoF.lt s e).1)
          have HR3 := Lib.hid hr3
          clear hr3
          have hbk3 : Blk w3 w7.heap.size 3 #[.int .i64 0] := (hg3.block _ hbF.lt (by simp [Value.ownBlock])).trans hbF
          have HB4 := Lib.hid hbk3
          obtain ⟨i0, hi0, hz0, hn0, hy0⟩ := info_parts info3f
          obtain ⟨v9, w9, hr9, ho9, hg9, _⟩ := run_append_own (P := Try.prog) (w3) w7.heap.size 33 33 3 i0 _ 1 8 Try.underlying33 hi0 hz0 hn0 hy0 rfl (by decide) _ _ _ ho3 ⟨w7.heap.size, 0, none⟩ 1 1 (inL 0) rfl (fun j u hj => by
            match j, hj with
            | 0, hj => exact (HB4.out.cell 0).trans hj) (encIn.one 0) (by unfold maxLen; omega) (by omega) hB3.size
          have hB9 := hB3.grown hg9 hB3.size (fun s e => (ho3.lt s e).1)
          have HR9 := Lib.hid hr9
          have hl9 : (xs ++ [0]).length = 0 + 1 := by rw [List.length_append, HN.out]; rfl
          have ho9' : w9.ownsRow w7.heap.size 3 1 v9 (xs ++ [0]).length (flt inL (xs ++ [0])) := by rw [hl9, flt_append, flt_one]; simpa using ho9
          obtain ⟨A9, c9, hv9, hro9, _, _⟩ := rows_of_owns encIn ho9'
          rw [hl9] at hv9
          subst hv9
          clear hr9 ho9 ho9' hg9 hi0 hz0 hn0 hy0
          refine wpAnyH_all (rs := [3]) (by decide +kernel) (by simp) ?_
          intro x hx
          obtain rfl := List.mem_singleton.1 hx
          refine wpOp_go' rfl rfl (fun K hK => ?_)
          refine step_append_run (.tmp 103) (.tmp 104) 33 rfl _ _ _ rfl rfl HR3.out (hK _ _ ⟨hB3, ?_⟩)
          clear hK K hx
          refine wpAnyH_all (rs := [5]) (by decide +kernel) (by simp) ?_
          intro x hx
          obtain rfl := List.mem_singleton.1 hx
          refine wpOp_go' rfl rfl (fun K hK => ?_)
          refine step_append_run (.tmp 105) (.tmp 106) 33 rfl _ _ _ rfl rfl HR9.out (hK _ _ ⟨hB9, ?_⟩)
          clear hK K hx
          refine wpAnyH_all (rs := [6]) (by decide +kernel) (by simp) ?_
          intro x hx
          obtain rfl := List.mem_singleton.1 hx
          refine wpOp_go' rfl rfl (fun K hK => ?_)
          go_simp
          refine (HST.out _ _ _ hro9).mono ?_
          rintro e w10 ⟨rfl, hb10⟩
          have hB10 := hB9.trans (hb10.mono hB9.size)
          refine hK _ _ ⟨hB10, ?_⟩
          clear hK K hx
          refine wpAnyH_take (i := 7) (v := ?_) rfl (by kernel_rfl) (by decide +kernel) (by decide +kernel) (fun _ _ _ h => h) (Or.inl ⟨by rfl, ?_⟩) hB10 ?_
          rotate_left
          · intro w' hS; first | (go_simp; done) | (go_simp; with_reducible rfl)
          refine wpAnyH_take (i := 8) (v := ?_) rfl (by kernel_rfl) (by decide +kernel) (by decide +kernel) (fun _ _ _ h => h) (Or.inl ⟨by rfl, ?_⟩) hB10 ?_
          rotate_left
          · intro w' hS; first | (go_simp; done) | (go_simp; with_reducible rfl)
          refine wpAnyH_take (i := 9) (v := ?_) rfl (by kernel_rfl) (by decide +kernel) (by decide +kernel) (fun _ _ _ h => h) (Or.inl ⟨by rfl, ?_⟩) hB10 ?_
          rotate_left
          · intro w' hS; first | (go_simp; done) | (go_simp; with_reducible rfl)
          refine wpAnyH_all (rs := [10]) (by decide +kernel) (by simp) ?_
          intro x hx
          obtain rfl := List.mem_singleton.1 hx
          refine wpOp_go' rfl rfl (fun K hK => ?_)
          go_simp
          refine hK _ _ ⟨hB10, ?_⟩
          clear hK K hx
          refine wpAnyH_all (rs := [11]) (by decide +kernel) (by simp) ?_
          intro x hx
          obtain rfl := List.mem_singleton.1 hx
          refine wpOp_go' rfl rfl (fun K hK => ?_)
          go_simp
          refine hK _ _ ⟨hB10, ?_⟩
          clear hK K hx
          refine wpAnyH_done (by decide +kernel) ?_ _
          have hBf := HBW.out.trans (hB10.mono HBW.out.size)
          clear hB9 hro9 hB10 hb10
          go_wp2_with fail
          refine (H7.out _).mono ?_
          rintro e w11 ⟨rfl, hb11⟩
          have hBg := hBf.trans (hb11.mono hBf.size)
          go_wp2
          go_ret
          exact ⟨rfl, hBg⟩
      | some a1 =>
        have hkc1 : k ≤ c1 := by have := hnl1.1; omega
        have hkc1I : (((k : Nat) : Int) : Int) ≤ (c1 : Int) := by omega
        have HSM := Lib.hid (samelots_b (some a1) A2 (out.take k) c1 c2 k hoK (by omega) w6 (rows_take HRO.out k) HR2.out)
        go_wp2_with fail
        refine HSM.out.mono ?_
        rintro e w7 ⟨rfl, hb7⟩
        have HB7 := Lib.hid (HBA.out.trans (hb7.mono HBA.out.size))
        have HRO7 := Lib.hid (HRO.out.below hb7)
        have HSC7 := Lib.hid (HSC.out.below hb7 hlt6)
        have HAX7 := Lib.hid (HAX.out.below hb7)
        clear hb7 HSM
        by_cases hs4 : s = 4
        · subst hs4
          by_cases hkl : (k : Int) < (n : Int)
          · have hkn1 : k < n := by omega
            have hko : k < out.length := by rw [HOL.out]; exact hkn1
            obtain ⟨ba, oa, ha1, hba, hca⟩ := HRO7.out.open (by omega)
            cases ha1
            have qk : w7.cell? ⟨ba, oa + k * 2, none⟩ = some (.int .i64 mid) := by rw [← HM2.out hko]; exact hca k hko 0 _ rfl
            clear hca
            have h5 := HRF.out rfl
            have h5I : ¬ (Pl.ro out : Int) < 5 := by omega
            have HRC := Lib.hid (ro_b (some ⟨ba, oa, none⟩) out c1 n HOL.out (by omega) w7 HRO7.out)
            go_wp2_with fail
            refine HRC.out.mono ?_
            rintro e w8 ⟨rfl, hb8⟩
            have HSCW := Lib.hid (HSC7.out.below hb8 HSC7.out.lt)
            have HAW := Lib.hid (HAX7.out.below hb8)
            have HBW := Lib.hid (HB7.out.trans (hb8.mono HB7.out.size))
            by_cases hn2 : (200 : Int) ≤ ((n : Nat) : Int)
            · go_wp2_with fail
              refine (H7.out _).mono ?_
              rintro e w11 ⟨rfl, hb11⟩
              have hBg := HBW.out.trans (hb11.mono HBW.out.size)
              go_wp2
              go_ret
              exact ⟨rfl, hBg⟩
            · have HE12 : Hid (E12 = 51) := Lib.hid (by
                have h12 := HE0.out (by omega)
                first | exact h12 | (simp at h12; exact h12) | (simp [hs4] at h12; exact h12))
              have HST := Lib.hid (fun W9 A9 c9 hro => HST0.out W9 A9 c9 hro)
              rw [HE12.out] at HST
              have hTS : ∀ V, Below w8.heap.size w8 V → ∀ q, q < 6 → V.cell? ⟨w.heap.size, q, none⟩ = (scA S)[q]? := fun V hb q _ => (HSCW.out.below hb HSCW.out.lt).cell q
              have hBd := (Below.refl w8.heap.size w8).drew
              go_wp2
              refine wp_region_held (S := fun V => Below w8.heap.size w8 V) (by kernel_rfl) ?_
              change wpAnyH _ _ _ _ _ _ _ _ (World.drew _)
              refine wpAnyH_take (i := 0) (v := ?_) rfl (by kernel_rfl) (by decide +kernel) (by decide +kernel) (fun _ _ _ h => h) (Or.inl ⟨by rfl, ?_⟩) hBd ?_
              rotate_left
              · intro w' hS; have s0 := (hTS _ hS 0 (by omega)).trans rfl; have s1 := (hTS _ hS 1 (by omega)).trans rfl; have s2 := (hTS _ hS 2 (by omega)).trans rfl; have s3 := (hTS _ hS 3 (by omega)).trans rfl; have s4 := (hTS _ hS 4 (by omega)).trans rfl; have s5 := (hTS _ hS 5 (by omega)).trans rfl; first | (go_simp; done) | (go_simp; with_reducible rfl)
              refine wpAnyH_take (i := 2) (v := ?_) rfl (by kernel_rfl) (by decide +kernel) (by decide +kernel) (fun _ _ _ h => h) (Or.inl ⟨by rfl, ?_⟩) hBd ?_
              rotate_left
              · intro w' hS; first | (go_simp; done) | (go_simp; with_reducible rfl)
              clear hTS
              refine wpAnyH_all (rs := [1, 4]) (by decide +kernel) (by simp) ?_
              intro x hx
              rcases List.mem_cons.1 hx with rfl | hx
              · refine wpOp_go' rfl rfl (fun K hK => ?_)
                have hBA := ((Below.refl w8.heap.size w8).alloc (Nat.le_refl _) (.cells #[] 3)).drew
                have hoE : ((w8.alloc (.cells #[] 3)).drew).ownsRow w8.heap.size 3 1 (.slice (some ⟨w8.heap.size, 0, none⟩) 0 0) 0 [] := World.ownsRow_lit (e := 3) (size := 1) (base := w8.heap.size) w8 #[] 0 (Nat.le_refl _) (by unfold maxLen; omega) rfl
                go_simp
                refine hK _ _ ⟨hBA, ?_⟩
                clear hK K hx
                refine wpAnyH_all (rs := [3, 4]) (by decide +kernel) (by simp) ?_
                intro x hx
                rcases List.mem_cons.1 hx with rfl | hx
                · obtain ⟨v3, w3, hr3, ho3, hg3⟩ := app_run ((w8.alloc (.cells #[] 3)).drew) (some a) xs n c HN.out (by intro h; first | (cases h; done) | exact ⟨rfl, rfl⟩) (by omega) (HAW.out.below hBA) _ 0 [] w8.heap.size hoE hBA.size (by omega)
                  have hB3 := hBA.grown hg3 hBA.size (fun s e => (hoE.lt s e).1)
                  have HR3 := Lib.hid hr3
                  clear hr3
                  refine wpOp_go' rfl rfl (fun K hK => ?_)
                  refine step_append_run (.tmp 103) (.tmp 104) 33 rfl _ _ _ rfl rfl HR3.out (hK _ _ ⟨hB3, ?_⟩)
                  clear hK K hx
                  have hB4 := hB3.alloc hB3.size (.cells #[.int .i64 0] 3)
                  have hbk := Blk.new w3 3 #[.int .i64 0]
                  have ho4 := ho3.alloc (.cells #[.int .i64 0] 3)
                  have HB4 := Lib.hid hbk
                  obtain ⟨i0, hi0, hz0, hn0, hy0⟩ := info_parts info3f
                  obtain ⟨v9, w9, hr9, ho9, hg9, _⟩ := run_append_own (P := Try.prog) (w3.alloc (.cells #[.int .i64 0] 3)) w8.heap.size 33 33 3 i0 _ 1 8 Try.underlying33 hi0 hz0 hn0 hy0 rfl (by decide) _ _ _ ho4 ⟨w3.heap.size, 0, none⟩ 1 1 (inL 0) rfl (fun j u hj => by
                    match j, hj with
                    | 0, hj => exact (HB4.out.cell 0).trans hj) (encIn.one 0) (by unfold maxLen; omega) (by omega) hB4.size
                  have hB9 := hB4.grown hg9 hB4.size (fun s e => (ho4.lt s e).1)
                  have HR9 := Lib.hid hr9
                  have hl9 : (xs ++ [0]).length = n + 1 := by rw [List.length_append, HN.out]; rfl
                  have ho9' : w9.ownsRow w8.heap.size 3 1 v9 (xs ++ [0]).length (flt inL (xs ++ [0])) := by rw [hl9, flt_append, flt_one]; simpa using ho9
                  obtain ⟨A9, c9, hv9, hro9, _, _⟩ := rows_of_owns encIn ho9'
                  rw [hl9] at hv9
                  subst hv9
                  clear hr9 ho9 ho9' hg9 hi0 hz0 hn0 hy0
                  refine wpAnyH_all (rs := [4]) (by decide +kernel) (by simp) ?_
                  intro x hx
                  obtain rfl := List.mem_singleton.1 hx
                  refine wpOp_go' rfl rfl (fun K hK => ?_)
                  go_simp
                  refine hK _ _ ⟨hB4, ?_⟩
                  clear hK K hx
                  refine wpAnyH_all (rs := [5]) (by decide +kernel) (by simp) ?_
                  intro x hx
                  obtain rfl := List.mem_singleton.1 hx
                  refine wpOp_go' rfl rfl (fun K hK => ?_)
                  refine step_append_run (.tmp 105) (.tmp 106) 33 rfl _ _ _ rfl rfl HR9.out (hK _ _ ⟨hB9, ?_⟩)
                  clear hK K hx
                  refine wpAnyH_all (rs := [6]) (by decide +kernel) (by simp) ?_
                  intro x hx
                  obtain rfl := List.mem_singleton.1 hx
                  refine wpOp_go' rfl rfl (fun K hK => ?_)
                  go_simp
                  refine (HST.out _ _ _ hro9).mono ?_
                  rintro e w10 ⟨rfl, hb10⟩
                  have hB10 := hB9.trans (hb10.mono hB9.size)
                  refine hK _ _ ⟨hB10, ?_⟩
                  clear hK K hx
                  refine wpAnyH_take (i := 7) (v := ?_) rfl (by kernel_rfl) (by decide +kernel) (by decide +kernel) (fun _ _ _ h => h) (Or.inl ⟨by rfl, ?_⟩) hB10 ?_
                  rotate_left
                  · intro w' hS; first | (go_simp; done) | (go_simp; with_reducible rfl)
                  refine wpAnyH_take (i := 8) (v := ?_) rfl (by kernel_rfl) (by decide +kernel) (by decide +kernel) (fun _ _ _ h => h) (Or.inl ⟨by rfl, ?_⟩) hB10 ?_
                  rotate_left
                  · intro w' hS; first | (go_simp; done) | (go_simp; with_reducible rfl)
                  refine wpAnyH_take (i := 9) (v := ?_) rfl (by kernel_rfl) (by decide +kernel) (by decide +kernel) (fun _ _ _ h => h) (Or.inl ⟨by rfl, ?_⟩) hB10 ?_
                  rotate_left
                  · intro w' hS; first | (go_simp; done) | (go_simp; with_reducible rfl)
                  refine wpAnyH_all (rs := [10]) (by decide +kernel) (by simp) ?_
                  intro x hx
                  obtain rfl := List.mem_singleton.1 hx
                  refine wpOp_go' rfl rfl (fun K hK => ?_)
                  go_simp
                  refine hK _ _ ⟨hB10, ?_⟩
                  clear hK K hx
                  refine wpAnyH_all (rs := [11]) (by decide +kernel) (by simp) ?_
                  intro x hx
                  obtain rfl := List.mem_singleton.1 hx
                  refine wpOp_go' rfl rfl (fun K hK => ?_)
                  go_simp
                  refine hK _ _ ⟨hB10, ?_⟩
                  clear hK K hx
                  refine wpAnyH_done (by decide +kernel) ?_ _
                  have hBf := HBW.out.trans (hB10.mono HBW.out.size)
                  clear hB9 hro9 hB10 hb10
                  go_wp2_with fail
                  refine (H7.out _).mono ?_
                  rintro e w11 ⟨rfl, hb11⟩
                  have hBg := hBf.trans (hb11.mono hBf.size)
                  go_wp2
                  go_ret
                  exact ⟨rfl, hBg⟩
                · obtain rfl := List.mem_singleton.1 hx
                  refine wpOp_go' rfl rfl (fun K hK => ?_)
                  have hBF := (((Below.refl w8.heap.size w8).alloc (Nat.le_refl _) (.cells #[] 3)).alloc (by simp) (.cells #[.int .i64 0] 3)).drew
                  have hoF : (((w8.alloc (.cells #[] 3)).alloc (.cells #[.int .i64 0] 3)).drew).ownsRow w8.heap.size 3 1 (.slice (some ⟨w8.heap.size, 0, none⟩) 0 0) 0 [] := (World.ownsRow_lit (e := 3) (size := 1) (base := w8.heap.size) w8 #[] 0 (Nat.le_refl _) (by unfold maxLen; omega) rfl).alloc (.cells #[.int .i64 0] 3)
                  have hbF : Blk (((w8.alloc (.cells #[] 3)).alloc (.cells #[.int .i64 0] 3)).drew) (w8.heap.size + 1) 3 #[.int .i64 0] := by have h := Blk.new (w8.alloc (.cells #[] 3)) 3 #[.int .i64 0]; simp only [World.size_alloc] at h; exact h
                  go_simp
                  refine hK _ _ ⟨hBF, ?_⟩
                  clear hK K hx
                  obtain ⟨v3, w3, hr3, ho3, hg3⟩ := app_run (((w8.alloc (.cells #[] 3)).alloc (.cells #[.int .i64 0] 3)).drew) (some a) xs n c HN.out (by intro h; first | (cases h; done) | exact ⟨rfl, rfl⟩) (by omega) (HAW.out.below hBF) _ 0 [] w8.heap.size hoF hBF.size (by omega)
                  have hB3 := hBF.grown hg3 hBF.size (fun s e => (hoF.lt s e).1)
                  have HR3 := Lib.hid hr3
                  clear hr3
                  have hbk3 : Blk w3 (w8.heap.size + 1) 3 #[.int .i64 0] := (hg3.block _ hbF.lt (by simp [Value.ownBlock])).trans hbF
                  have HB4 := Lib.hid hbk3
                  obtain ⟨i0, hi0, hz0, hn0, hy0⟩ := info_parts info3f
                  obtain ⟨v9, w9, hr9, ho9, hg9, _⟩ := run_append_own (P := Try.prog) (w3) w8.heap.size 33 33 3 i0 _ 1 8 Try.underlying33 hi0 hz0 hn0 hy0 rfl (by decide) _ _ _ ho3 ⟨w8.heap.size + 1, 0, none⟩ 1 1 (inL 0) rfl (fun j u hj => by
                    match j, hj with
                    | 0, hj => exact (HB4.out.cell 0).trans hj) (encIn.one 0) (by unfold maxLen; omega) (by omega) hB3.size
                  have hB9 := hB3.grown hg9 hB3.size (fun s e => (ho3.lt s e).1)
                  have HR9 := Lib.hid hr9
                  have hl9 : (xs ++ [0]).length = n + 1 := by rw [List.length_append, HN.out]; rfl
                  have ho9' : w9.ownsRow w8.heap.size 3 1 v9 (xs ++ [0]).length (flt inL (xs ++ [0])) := by rw [hl9, flt_append, flt_one]; simpa using ho9
                  obtain ⟨A9, c9, hv9, hro9, _, _⟩ := rows_of_owns encIn ho9'
                  rw [hl9] at hv9
                  subst hv9
                  clear hr9 ho9 ho9' hg9 hi0 hz0 hn0 hy0
                  refine wpAnyH_all (rs := [3]) (by decide +kernel) (by simp) ?_
                  intro x hx
                  obtain rfl := List.mem_singleton.1 hx
                  refine wpOp_go' rfl rfl (fun K hK => ?_)
                  refine step_append_run (.tmp 103) (.tmp 104) 33 rfl _ _ _ rfl rfl HR3.out (hK _ _ ⟨hB3, ?_⟩)
                  clear hK K hx
                  refine wpAnyH_all (rs := [5]) (by decide +kernel) (by simp) ?_
                  intro x hx
                  obtain rfl := List.mem_singleton.1 hx
                  refine wpOp_go' rfl rfl (fun K hK => ?_)
                  refine step_append_run (.tmp 105) (.tmp 106) 33 rfl _ _ _ rfl rfl HR9.out (hK _ _ ⟨hB9, ?_⟩)
                  clear hK K hx
                  refine wpAnyH_all (rs := [6]) (by decide +kernel) (by simp) ?_
                  intro x hx
                  obtain rfl := List.mem_singleton.1 hx
                  refine wpOp_go' rfl rfl (fun K hK => ?_)
                  go_simp
                  refine (HST.out _ _ _ hro9).mono ?_
                  rintro e w10 ⟨rfl, hb10⟩
                  have hB10 := hB9.trans (hb10.mono hB9.size)
                  refine hK _ _ ⟨hB10, ?_⟩
                  clear hK K hx
                  refine wpAnyH_take (i := 7) (v := ?_) rfl (by kernel_rfl) (by decide +kernel) (by decide +kernel) (fun _ _ _ h => h) (Or.inl ⟨by rfl, ?_⟩) hB10 ?_
                  rotate_left
                  · intro w' hS; first | (go_simp; done) | (go_simp; with_reducible rfl)
                  refine wpAnyH_take (i := 8) (v := ?_) rfl (by kernel_rfl) (by decide +kernel) (by decide +kernel) (fun _ _ _ h => h) (Or.inl ⟨by rfl, ?_⟩) hB10 ?_
                  rotate_left
                  · intro w' hS; first | (go_simp; done) | (go_simp; with_reducible rfl)
                  refine wpAnyH_take (i := 9) (v := ?_) rfl (by kernel_rfl) (by decide +kernel) (by decide +kernel) (fun _ _ _ h => h) (Or.inl ⟨by rfl, ?_⟩) hB10 ?_
                  rotate_left
                  · intro w' hS; first | (go_simp; done) | (go_simp; with_reducible rfl)
                  refine wpAnyH_all (rs := [10]) (by decide +kernel) (by simp) ?_
                  intro x hx
                  obtain rfl := List.mem_singleton.1 hx
                  refine wpOp_go' rfl rfl (fun K hK => ?_)
                  go_simp
                  refine hK _ _ ⟨hB10, ?_⟩
                  clear hK K hx
                  refine wpAnyH_all (rs := [11]) (by decide +kernel) (by simp) ?_
                  intro x hx
                  obtain rfl := List.mem_singleton.1 hx
                  refine wpOp_go' rfl rfl (fun K hK => ?_)
                  go_simp
                  refine hK _ _ ⟨hB10, ?_⟩
                  clear hK K hx
                  refine wpAnyH_done (by decide +kernel) ?_ _
                  have hBf := HBW.out.trans (hB10.mono HBW.out.size)
                  clear hB9 hro9 hB10 hb10
                  go_wp2_with fail
                  refine (H7.out _).mono ?_
                  rintro e w11 ⟨rfl, hb11⟩
                  have hBg := hBf.trans (hb11.mono hBf.size)
                  go_wp2
                  go_ret
                  exact ⟨rfl, hBg⟩
              · obtain rfl := List.mem_singleton.1 hx
                refine wpOp_go' rfl rfl (fun K hK => ?_)
                have hBD := ((Below.refl w8.heap.size w8).alloc (Nat.le_refl _) (.cells #[.int .i64 0] 3)).drew
                have hBF := (((Below.refl w8.heap.size w8).alloc (Nat.le_refl _) (.cells #[.int .i64 0] 3)).alloc (by simp) (.cells #[] 3)).drew
                have hoF : (((w8.alloc (.cells #[.int .i64 0] 3)).alloc (.cells #[] 3)).drew).ownsRow w8.heap.size 3 1 (.slice (some ⟨w8.heap.size + 1, 0, none⟩) 0 0) 0 [] := by have h := World.ownsRow_lit (e := 3) (size := 1) (base := w8.heap.size) (w8.alloc (.cells #[.int .i64 0] 3)) #[] 0 (by simp) (by unfold maxLen; omega) rfl; simp only [World.size_alloc] at h; exact h
                have hbF : Blk (((w8.alloc (.cells #[.int .i64 0] 3)).alloc (.cells #[] 3)).drew) w8.heap.size 3 #[.int .i64 0] := (Blk.new w8 3 #[.int .i64 0]).alloc (.cells #[] 3)
                go_simp
                refine hK _ _ ⟨hBD, ?_⟩
                clear hK K hx
                refine wpAnyH_all (rs := [1]) (by decide +kernel) (by simp) ?_
                intro x hx
                obtain rfl := List.mem_singleton.1 hx
                refine wpOp_go' rfl rfl (fun K hK => ?_)
                go_simp
                refine hK _ _ ⟨hBF, ?_⟩
                clear hK K hx
                obtain ⟨v3, w3, hr3, ho3, hg3⟩ := app_run (((w8.alloc (.cells #[.int .i64 0] 3)).alloc (.cells #[] 3)).drew) (some a) xs n c HN.out (by intro h; first | (cases h; done) | exact ⟨rfl, rfl⟩) (by omega) (HAW.out.below hBF) _ 0 [] w8.heap.size hoF hBF.size (by omega)
                have hB3 := hBF.grown hg3 hBF.size (fun s e => (hoF.lt s e).1)
                have HR3 := Lib.hid hr3
                clear hr3
                have hbk3 : Blk w3 w8.heap.size 3 #[.int .i64 0] := (hg3.block _ hbF.lt (by simp [Value.ownBlock])).trans hbF
                have HB4 := Lib.hid hbk3
                obtain ⟨i0, hi0, hz0, hn0, hy0⟩ := info_parts info3f
                obtain ⟨v9, w9, hr9, ho9, hg9, _⟩ := run_append_own (P := Try.prog) (w3) w8.heap.size 33 33 3 i0 _ 1 8 Try.underlying33 hi0 hz0 hn0 hy0 rfl (by decide) _ _ _ ho3 ⟨w8.heap.size, 0, none⟩ 1 1 (inL 0) rfl (fun j u hj => by
                  match j, hj with
                  | 0, hj => exact (HB4.out.cell 0).trans hj) (encIn.one 0) (by unfold maxLen; omega) (by omega) hB3.size
                have hB9 := hB3.grown hg9 hB3.size (fun s e => (ho3.lt s e).1)
                have HR9 := Lib.hid hr9
                have hl9 : (xs ++ [0]).length = n + 1 := by rw [List.length_append, HN.out]; rfl
                have ho9' : w9.ownsRow w8.heap.size 3 1 v9 (xs ++ [0]).length (flt inL (xs ++ [0])) := by rw [hl9, flt_append, flt_one]; simpa using ho9
                obtain ⟨A9, c9, hv9, hro9, _, _⟩ := rows_of_owns encIn ho9'
                rw [hl9] at hv9
                subst hv9
                clear hr9 ho9 ho9' hg9 hi0 hz0 hn0 hy0
                refine wpAnyH_all (rs := [3]) (by decide +kernel) (by simp) ?_
                intro x hx
                obtain rfl := List.mem_singleton.1 hx
                refine wpOp_go' rfl rfl (fun K hK => ?_)
                refine step_append_run (.tmp 103) (.tmp 104) 33 rfl _ _ _ rfl rfl HR3.out (hK _ _ ⟨hB3, ?_⟩)
                clear hK K hx
                refine wpAnyH_all (rs := [5]) (by decide +kernel) (by simp) ?_
                intro x hx
                obtain rfl := List.mem_singleton.1 hx
                refine wpOp_go' rfl rfl (fun K hK => ?_)
                refine step_append_run (.tmp 105) (.tmp 106) 33 rfl _ _ _ rfl rfl HR9.out (hK _ _ ⟨hB9, ?_⟩)
                clear hK K hx
                refine wpAnyH_all (rs := [6]) (by decide +kernel) (by simp) ?_
                intro x hx
                obtain rfl := List.mem_singleton.1 hx
                refine wpOp_go' rfl rfl (fun K hK => ?_)
                go_simp
                refine (HST.out _ _ _ hro9).mono ?_
                rintro e w10 ⟨rfl, hb10⟩
                have hB10 := hB9.trans (hb10.mono hB9.size)
                refine hK _ _ ⟨hB10, ?_⟩
                clear hK K hx
                refine wpAnyH_take (i := 7) (v := ?_) rfl (by kernel_rfl) (by decide +kernel) (by decide +kernel) (fun _ _ _ h => h) (Or.inl ⟨by rfl, ?_⟩) hB10 ?_
                rotate_left
                · intro w' hS; first | (go_simp; done) | (go_simp; with_reducible rfl)
                refine wpAnyH_take (i := 8) (v := ?_) rfl (by kernel_rfl) (by decide +kernel) (by decide +kernel) (fun _ _ _ h => h) (Or.inl ⟨by rfl, ?_⟩) hB10 ?_
                rotate_left
                · intro w' hS; first | (go_simp; done) | (go_simp; with_reducible rfl)
                refine wpAnyH_take (i := 9) (v := ?_) rfl (by kernel_rfl) (by decide +kernel) (by decide +kernel) (fun _ _ _ h => h) (Or.inl ⟨by rfl, ?_⟩) hB10 ?_
                rotate_left
                · intro w' hS; first | (go_simp; done) | (go_simp; with_reducible rfl)
                refine wpAnyH_all (rs := [10]) (by decide +kernel) (by simp) ?_
                intro x hx
                obtain rfl := List.mem_singleton.1 hx
                refine wpOp_go' rfl rfl (fun K hK => ?_)
                go_simp
                refine hK _ _ ⟨hB10, ?_⟩
                clear hK K hx
                refine wpAnyH_all (rs := [11]) (by decide +kernel) (by simp) ?_
                intro x hx
                obtain rfl := List.mem_singleton.1 hx
                refine wpOp_go' rfl rfl (fun K hK => ?_)
                go_simp
                refine hK _ _ ⟨hB10, ?_⟩
                clear hK K hx
                refine wpAnyH_done (by decide +kernel) ?_ _
                have hBf := HBW.out.trans (hB10.mono HBW.out.size)
                clear hB9 hro9 hB10 hb10
                go_wp2_with fail
                refine (H7.out _).mono ?_
                rintro e w11 ⟨rfl, hb11⟩
                have hBg := hBf.trans (hb11.mono hBf.size)
                go_wp2
                go_ret
                exact ⟨rfl, hBg⟩
          · have h5 := HRF.out rfl
            have h5I : ¬ (Pl.ro out : Int) < 5 := by omega
            have HRC := Lib.hid (ro_b (some a1) out c1 n HOL.out (by omega) w7 HRO7.out)
            go_wp2_with fail
            refine HRC.out.mono ?_
            rintro e w8 ⟨rfl, hb8⟩
            have HSCW := Lib.hid (HSC7.out.below hb8 HSC7.out.lt)
            have HAW := Lib.hid (HAX7.out.below hb8)
            have HBW := Lib.hid (HB7.out.trans (hb8.mono HB7.out.size))
            by_cases hn2 : (200 : Int) ≤ ((n : Nat) : Int)
            · go_wp2_with fail
              refine (H7.out _).mono ?_
              rintro e w11 ⟨rfl, hb11⟩
              have hBg := HBW.out.trans (hb11.mono HBW.out.size)
              go_wp2
              go_ret
              exact ⟨rfl, hBg⟩
            · have HE12 : Hid (E12 = 51) := Lib.hid (by
                have h12 := HE0.out (by omega)
                first | exact h12 | (simp at h12; exact h12) | (simp [hs4] at h12; exact h12))
              have HST := Lib.hid (fun W9 A9 c9 hro => HST0.out W9 A9 c9 hro)
              rw [HE12.out] at HST
              have hTS : ∀ V, Below w8.heap.size w8 V → ∀ q, q < 6 → V.cell? ⟨w.heap.size, q, none⟩ = (scA S)[q]? := fun V hb q _ => (HSCW.out.below hb HSCW.out.lt).cell q
              have hBd := (Below.refl w8.heap.size w8).drew
              go_wp2
              refine wp_region_held (S := fun V => Below w8.heap.size w8 V) (by kernel_rfl) ?_
              change wpAnyH _ _ _ _ _ _ _ _ (World.drew _)
              refine wpAnyH_take (i := 0) (v := ?_) rfl (by kernel_rfl) (by decide +kernel) (by decide +kernel) (fun _ _ _ h => h) (Or.inl ⟨by rfl, ?_⟩) hBd ?_
              rotate_left
              · intro w' hS; have s0 := (hTS _ hS 0 (by omega)).trans rfl; have s1 := (hTS _ hS 1 (by omega)).trans rfl; have s2 := (hTS _ hS 2 (by omega)).trans rfl; have s3 := (hTS _ hS 3 (by omega)).trans rfl; have s4 := (hTS _ hS 4 (by omega)).trans rfl; have s5 := (hTS _ hS 5 (by omega)).trans rfl; first | (go_simp; done) | (go_simp; with_reducible rfl)
              refine wpAnyH_take (i := 2) (v := ?_) rfl (by kernel_rfl) (by decide +kernel) (by decide +kernel) (fun _ _ _ h => h) (Or.inl ⟨by rfl, ?_⟩) hBd ?_
              rotate_left
              · intro w' hS; first | (go_simp; done) | (go_simp; with_reducible rfl)
              clear hTS
              refine wpAnyH_all (rs := [1, 4]) (by decide +kernel) (by simp) ?_
              intro x hx
              rcases List.mem_cons.1 hx with rfl | hx
              · refine wpOp_go' rfl rfl (fun K hK => ?_)
                have hBA := ((Below.refl w8.heap.size w8).alloc (Nat.le_refl _) (.cells #[] 3)).drew
                have hoE : ((w8.alloc (.cells #[] 3)).drew).ownsRow w8.heap.size 3 1 (.slice (some ⟨w8.heap.size, 0, none⟩) 0 0) 0 [] := World.ownsRow_lit (e := 3) (size := 1) (base := w8.heap.size) w8 #[] 0 (Nat.le_refl _) (by unfold maxLen; omega) rfl
                go_simp
                refine hK _ _ ⟨hBA, ?_⟩
                clear hK K hx
                refine wpAnyH_all (rs := [3, 4]) (by decide +kernel) (by simp) ?_
                intro x hx
                rcases List.mem_cons.1 hx with rfl | hx
                · obtain ⟨v3, w3, hr3, ho3, hg3⟩ := app_run ((w8.alloc (.cells #[] 3)).drew) (some a) xs n c HN.out (by intro h; first | (cases h; done) | exact ⟨rfl, rfl⟩) (by omega) (HAW.out.below hBA) _ 0 [] w8.heap.size hoE hBA.size (by omega)
                  have hB3 := hBA.grown hg3 hBA.size (fun s e => (hoE.lt s e).1)
                  have HR3 := Lib.hid hr3
                  clear hr3
                  refine wpOp_go' rfl rfl (fun K hK => ?_)
                  refine step_append_run (.tmp 103) (.tmp 104) 33 rfl _ _ _ rfl rfl HR3.out (hK _ _ ⟨hB3, ?_⟩)
                  clear hK K hx
                  have hB4 := hB3.alloc hB3.size (.cells #[.int .i64 0] 3)
                  have hbk := Blk.new w3 3 #[.int .i64 0]
                  have ho4 := ho3.alloc (.cells #[.int .i64 0] 3)
                  have HB4 := Lib.hid hbk
                  obtain ⟨i0, hi0, hz0, hn0, hy0⟩ := info_parts info3f
                  obtain ⟨v9, w9, hr9, ho9, hg9, _⟩ := run_append_own (P := Try.prog) (w3.alloc (.cells #[.int .i64 0] 3)) w8.heap.size 33 33 3 i0 _ 1 8 Try.underlying33 hi0 hz0 hn0 hy0 rfl (by decide) _ _ _ ho4 ⟨w3.heap.size, 0, none⟩ 1 1 (inL 0) rfl (fun j u hj => by
                    match j, hj with
                    | 0, hj => exact (HB4.out.cell 0).trans hj) (encIn.one 0) (by unfold maxLen; omega) (by omega) hB4.size
                  have hB9 := hB4.grown hg9 hB4.size (fun s e => (ho4.lt s e).1)
                  have HR9 := Lib.hid hr9
                  have hl9 : (xs ++ [0]).length = n + 1 := by rw [List.length_append, HN.out]; rfl
                  have ho9' : w9.ownsRow w8.heap.size 3 1 v9 (xs ++ [0]).length (flt inL (xs ++ [0])) := by rw [hl9, flt_append, flt_one]; simpa using ho9
                  obtain ⟨A9, c9, hv9, hro9, _, _⟩ := rows_of_owns encIn ho9'
                  rw [hl9] at hv9
                  subst hv9
                  clear hr9 ho9 ho9' hg9 hi0 hz0 hn0 hy0
                  refine wpAnyH_all (rs := [4]) (by decide +kernel) (by simp) ?_
                  intro x hx
                  obtain rfl := List.mem_singleton.1 hx
                  refine wpOp_go' rfl rfl (fun K hK => ?_)
                  go_simp
                  refine hK _ _ ⟨hB4, ?_⟩
                  clear hK K hx
                  refine wpAnyH_all (rs := [5]) (by decide +kernel) (by simp) ?_
                  intro x hx
                  obtain rfl := List.mem_singleton.1 hx
                  refine wpOp_go' rfl rfl (fun K hK => ?_)
                  refine step_append_run (.tmp 105) (.tmp 106) 33 rfl _ _ _ rfl rfl HR9.out (hK _ _ ⟨hB9, ?_⟩)
                  clear hK K hx
                  refine wpAnyH_all (rs := [6]) (by decide +kernel) (by simp) ?_
                  intro x hx
                  obtain rfl := List.mem_singleton.1 hx
                  refine wpOp_go' rfl rfl (fun K hK => ?_)
                  go_simp
                  refine (HST.out _ _ _ hro9).mono ?_
                  rintro e w10 ⟨rfl, hb10⟩
                  have hB10 := hB9.trans (hb10.mono hB9.size)
                  refine hK _ _ ⟨hB10, ?_⟩
                  clear hK K hx
                  refine wpAnyH_take (i := 7) (v := ?_) rfl (by kernel_rfl) (by decide +kernel) (by decide +kernel) (fun _ _ _ h => h) (Or.inl ⟨by rfl, ?_⟩) hB10 ?_
                  rotate_left
                  · intro w' hS; first | (go_simp; done) | (go_simp; with_reducible rfl)
                  refine wpAnyH_take (i := 8) (v := ?_) rfl (by kernel_rfl) (by decide +kernel) (by decide +kernel) (fun _ _ _ h => h) (Or.inl ⟨by rfl, ?_⟩) hB10 ?_
                  rotate_left
                  · intro w' hS; first | (go_simp; done) | (go_simp; with_reducible rfl)
                  refine wpAnyH_take (i := 9) (v := ?_) rfl (by kernel_rfl) (by decide +kernel) (by decide +kernel) (fun _ _ _ h => h) (Or.inl ⟨by rfl, ?_⟩) hB10 ?_
                  rotate_left
                  · intro w' hS; first | (go_simp; done) | (go_simp; with_reducible rfl)
                  refine wpAnyH_all (rs := [10]) (by decide +kernel) (by simp) ?_
                  intro x hx
                  obtain rfl := List.mem_singleton.1 hx
                  refine wpOp_go' rfl rfl (fun K hK => ?_)
                  go_simp
                  refine hK _ _ ⟨hB10, ?_⟩
                  clear hK K hx
                  refine wpAnyH_all (rs := [11]) (by decide +kernel) (by simp) ?_
                  intro x hx
                  obtain rfl := List.mem_singleton.1 hx
                  refine wpOp_go' rfl rfl (fun K hK => ?_)
                  go_simp
                  refine hK _ _ ⟨hB10, ?_⟩
                  clear hK K hx
                  refine wpAnyH_done (by decide +kernel) ?_ _
                  have hBf := HBW.out.trans (hB10.mono HBW.out.size)
                  clear hB9 hro9 hB10 hb10
                  go_wp2_with fail
                  refine (H7.out _).mono ?_
                  rintro e w11 ⟨rfl, hb11⟩
                  have hBg := hBf.trans (hb11.mono hBf.size)
                  go_wp2
                  go_ret
                  exact ⟨rfl, hBg⟩
                · obtain rfl := List.mem_singleton.1 hx
                  refine wpOp_go' rfl rfl (fun K hK => ?_)
                  have hBF := (((Below.refl w8.heap.size w8).alloc (Nat.le_refl _) (.cells #[] 3)).alloc (by simp) (.cells #[.int .i64 0] 3)).drew
                  have hoF : (((w8.alloc (.cells #[] 3)).alloc (.cells #[.int .i64 0] 3)).drew).ownsRow w8.heap.size 3 1 (.slice (some ⟨w8.heap.size, 0, none⟩) 0 0) 0 [] := (World.ownsRow_lit (e := 3) (size := 1) (base := w8.heap.size) w8 #[] 0 (Nat.le_refl _) (by unfold maxLen; omega) rfl).alloc (.cells #[.int .i64 0] 3)
                  have hbF : Blk (((w8.alloc (.cells #[] 3)).alloc (.cells #[.int .i64 0] 3)).drew) (w8.heap.size + 1) 3 #[.int .i64 0] := by have h := Blk.new (w8.alloc (.cells #[] 3)) 3 #[.int .i64 0]; simp only [World.size_alloc] at h; exact h
                  go_simp
                  refine hK _ _ ⟨hBF, ?_⟩
                  clear hK K hx
                  obtain ⟨v3, w3, hr3, ho3, hg3⟩ := app_run (((w8.alloc (.cells #[] 3)).alloc (.cells #[.int .i64 0] 3)).drew) (some a) xs n c HN.out (by intro h; first | (cases h; done) | exact ⟨rfl, rfl⟩) (by omega) (HAW.out.below hBF) _ 0 [] w8.heap.size hoF hBF.size (by omega)
                  have hB3 := hBF.grown hg3 hBF.size (fun s e => (hoF.lt s e).1)
                  have HR3 := Lib.hid hr3
                  clear hr3
                  have hbk3 : Blk w3 (w8.heap.size + 1) 3 #[.int .i64 0] := (hg3.block _ hbF.lt (by simp [Value.ownBlock])).trans hbF
                  have HB4 := Lib.hid hbk3
                  obtain ⟨i0, hi0, hz0, hn0, hy0⟩ := info_parts info3f
                  obtain ⟨v9, w9, hr9, ho9, hg9, _⟩ := run_append_own (P := Try.prog) (w3) w8.heap.size 33 33 3 i0 _ 1 8 Try.underlying33 hi0 hz0 hn0 hy0 rfl (by decide) _ _ _ ho3 ⟨w8.heap.size + 1, 0, none⟩ 1 1 (inL 0) rfl (fun j u hj => by
                    match j, hj with
                    | 0, hj => exact (HB4.out.cell 0).trans hj) (encIn.one 0) (by unfold maxLen; omega) (by omega) hB3.size
                  have hB9 := hB3.grown hg9 hB3.size (fun s e => (ho3.lt s e).1)
                  have HR9 := Lib.hid hr9
                  have hl9 : (xs ++ [0]).length = n + 1 := by rw [List.length_append, HN.out]; rfl
                  have ho9' : w9.ownsRow w8.heap.size 3 1 v9 (xs ++ [0]).length (flt inL (xs ++ [0])) := by rw [hl9, flt_append, flt_one]; simpa using ho9
                  obtain ⟨A9, c9, hv9, hro9, _, _⟩ := rows_of_owns encIn ho9'
                  rw [hl9] at hv9
                  subst hv9
                  clear hr9 ho9 ho9' hg9 hi0 hz0 hn0 hy0
                  refine wpAnyH_all (rs := [3]) (by decide +kernel) (by simp) ?_
                  intro x hx
                  obtain rfl := List.mem_singleton.1 hx
                  refine wpOp_go' rfl rfl (fun K hK => ?_)
                  refine step_append_run (.tmp 103) (.tmp 104) 33 rfl _ _ _ rfl rfl HR3.out (hK _ _ ⟨hB3, ?_⟩)
                  clear hK K hx
                  refine wpAnyH_all (rs := [5]) (by decide +kernel) (by simp) ?_
                  intro x hx
                  obtain rfl := List.mem_singleton.1 hx
                  refine wpOp_go' rfl rfl (fun K hK => ?_)
                  refine step_append_run (.tmp 105) (.tmp 106) 33 rfl _ _ _ rfl rfl HR9.out (hK _ _ ⟨hB9, ?_⟩)
                  clear hK K hx
                  refine wpAnyH_all (rs := [6]) (by decide +kernel) (by simp) ?_
                  intro x hx
                  obtain rfl := List.mem_singleton.1 hx
                  refine wpOp_go' rfl rfl (fun K hK => ?_)
                  go_simp
                  refine (HST.out _ _ _ hro9).mono ?_
                  rintro e w10 ⟨rfl, hb10⟩
                  have hB10 := hB9.trans (hb10.mono hB9.size)
                  refine hK _ _ ⟨hB10, ?_⟩
                  clear hK K hx
                  refine wpAnyH_take (i := 7) (v := ?_) rfl (by kernel_rfl) (by decide +kernel) (by decide +kernel) (fun _ _ _ h => h) (Or.inl ⟨by rfl, ?_⟩) hB10 ?_
                  rotate_left
                  · intro w' hS; first | (go_simp; done) | (go_simp; with_reducible rfl)
                  refine wpAnyH_take (i := 8) (v := ?_) rfl (by kernel_rfl) (by decide +kernel) (by decide +kernel) (fun _ _ _ h => h) (Or.inl ⟨by rfl, ?_⟩) hB10 ?_
                  rotate_left
                  · intro w' hS; first | (go_simp; done) | (go_simp; with_reducible rfl)
                  refine wpAnyH_take (i := 9) (v := ?_) rfl (by kernel_rfl) (by decide +kernel) (by decide +kernel) (fun _ _ _ h => h) (Or.inl ⟨by rfl, ?_⟩) hB10 ?_
                  rotate_left
                  · intro w' hS; first | (go_simp; done) | (go_simp; with_reducible rfl)
                  refine wpAnyH_all (rs := [10]) (by decide +kernel) (by simp) ?_
                  intro x hx
                  obtain rfl := List.mem_singleton.1 hx
                  refine wpOp_go' rfl rfl (fun K hK => ?_)
                  go_simp
                  refine hK _ _ ⟨hB10, ?_⟩
                  clear hK K hx
                  refine wpAnyH_all (rs := [11]) (by decide +kernel) (by simp) ?_
                  intro x hx
                  obtain rfl := List.mem_singleton.1 hx
                  refine wpOp_go' rfl rfl (fun K hK => ?_)
                  go_simp
                  refine hK _ _ ⟨hB10, ?_⟩
                  clear hK K hx
                  refine wpAnyH_done (by decide +kernel) ?_ _
                  have hBf := HBW.out.trans (hB10.mono HBW.out.size)
                  clear hB9 hro9 hB10 hb10
                  go_wp2_with fail
                  refine (H7.out _).mono ?_
                  rintro e w11 ⟨rfl, hb11⟩
                  have hBg := hBf.trans (hb11.mono hBf.size)
                  go_wp2
                  go_ret
                  exact ⟨rfl, hBg⟩
              · obtain rfl := List.mem_singleton.1 hx
                refine wpOp_go' rfl rfl (fun K hK => ?_)
                have hBD := ((Below.refl w8.heap.size w8).alloc (Nat.le_refl _) (.cells #[.int .i64 0] 3)).drew
                have hBF := (((Below.refl w8.heap.size w8).alloc (Nat.le_refl _) (.cells #[.int .i64 0] 3)).alloc (by simp) (.cells #[] 3)).drew
                have hoF : (((w8.alloc (.cells #[.int .i64 0] 3)).alloc (.cells #[] 3)).drew).ownsRow w8.heap.size 3 1 (.slice (some ⟨w8.heap.size + 1, 0, none⟩) 0 0) 0 [] := by have h := World.ownsRow_lit (e := 3) (size := 1) (base := w8.heap.size) (w8.alloc (.cells #[.int .i64 0] 3)) #[] 0 (by simp) (by unfold maxLen; omega) rfl; simp only [World.size_alloc] at h; exact h
                have hbF : Blk (((w8.alloc (.cells #[.int .i64 0] 3)).alloc (.cells #[] 3)).drew) w8.heap.size 3 #[.int .i64 0] := (Blk.new w8 3 #[.int .i64 0]).alloc (.cells #[] 3)
                go_simp
                refine hK _ _ ⟨hBD, ?_⟩
                clear hK K hx
                refine wpAnyH_all (rs := [1]) (by decide +kernel) (by simp) ?_
                intro x hx
                obtain rfl := List.mem_singleton.1 hx
                refine wpOp_go' rfl rfl (fun K hK => ?_)
                go_simp
                refine hK _ _ ⟨hBF, ?_⟩
                clear hK K hx
                obtain ⟨v3, w3, hr3, ho3, hg3⟩ := app_run (((w8.alloc (.cells #[.int .i64 0] 3)).alloc (.cells #[] 3)).drew) (some a) xs n c HN.out (by intro h; first | (cases h; done) | exact ⟨rfl, rfl⟩) (by omega) (HAW.out.below hBF) _ 0 [] w8.heap.size hoF hBF.size (by omega)
                have hB3 := hBF.grown hg3 hBF.size (fun s e => (hoF.lt s e).1)
                have HR3 := Lib.hid hr3
                clear hr3
                have hbk3 : Blk w3 w8.heap.size 3 #[.int .i64 0] := (hg3.block _ hbF.lt (by simp [Value.ownBlock])).trans hbF
                have HB4 := Lib.hid hbk3
                obtain ⟨i0, hi0, hz0, hn0, hy0⟩ := info_parts info3f
                obtain ⟨v9, w9, hr9, ho9, hg9, _⟩ := run_append_own (P := Try.prog) (w3) w8.heap.size 33 33 3 i0 _ 1 8 Try.underlying33 hi0 hz0 hn0 hy0 rfl (by decide) _ _ _ ho3 ⟨w8.heap.size, 0, none⟩ 1 1 (inL 0) rfl (fun j u hj => by
                  match j, hj with
                  | 0, hj => exact (HB4.out.cell 0).trans hj) (encIn.one 0) (by unfold maxLen; omega) (by omega) hB3.size
                have hB9 := hB3.grown hg9 hB3.size (fun s e => (ho3.lt s e).1)
                have HR9 := Lib.hid hr9
                have hl9 : (xs ++ [0]).length = n + 1 := by rw [List.length_append, HN.out]; rfl
                have ho9' : w9.ownsRow w8.heap.size 3 1 v9 (xs ++ [0]).length (flt inL (xs ++ [0])) := by rw [hl9, flt_append, flt_one]; simpa using ho9
                obtain ⟨A9, c9, hv9, hro9, _, _⟩ := rows_of_owns encIn ho9'
                rw [hl9] at hv9
                subst hv9
                clear hr9 ho9 ho9' hg9 hi0 hz0 hn0 hy0
                refine wpAnyH_all (rs := [3]) (by decide +kernel) (by simp) ?_
                intro x hx
                obtain rfl := List.mem_singleton.1 hx
                refine wpOp_go' rfl rfl (fun K hK => ?_)
                refine step_append_run (.tmp 103) (.tmp 104) 33 rfl _ _ _ rfl rfl HR3.out (hK _ _ ⟨hB3, ?_⟩)
                clear hK K hx
                refine wpAnyH_all (rs := [5]) (by decide +kernel) (by simp) ?_
                intro x hx
                obtain rfl := List.mem_singleton.1 hx
                refine wpOp_go' rfl rfl (fun K hK => ?_)
                refine step_append_run (.tmp 105) (.tmp 106) 33 rfl _ _ _ rfl rfl HR9.out (hK _ _ ⟨hB9, ?_⟩)
                clear hK K hx
                refine wpAnyH_all (rs := [6]) (by decide +kernel) (by simp) ?_
                intro x hx
                obtain rfl := List.mem_singleton.1 hx
                refine wpOp_go' rfl rfl (fun K hK => ?_)
                go_simp
                refine (HST.out _ _ _ hro9).mono ?_
                rintro e w10 ⟨rfl, hb10⟩
                have hB10 := hB9.trans (hb10.mono hB9.size)
                refine hK _ _ ⟨hB10, ?_⟩
                clear hK K hx
                refine wpAnyH_take (i := 7) (v := ?_) rfl (by kernel_rfl) (by decide +kernel) (by decide +kernel) (fun _ _ _ h => h) (Or.inl ⟨by rfl, ?_⟩) hB10 ?_
                rotate_left
                · intro w' hS; first | (go_simp; done) | (go_simp; with_reducible rfl)
                refine wpAnyH_take (i := 8) (v := ?_) rfl (by kernel_rfl) (by decide +kernel) (by decide +kernel) (fun _ _ _ h => h) (Or.inl ⟨by rfl, ?_⟩) hB10 ?_
                rotate_left
                · intro w' hS; first | (go_simp; done) | (go_simp; with_reducible rfl)
                refine wpAnyH_take (i := 9) (v := ?_) rfl (by kernel_rfl) (by decide +kernel) (by decide +kernel) (fun _ _ _ h => h) (Or.inl ⟨by rfl, ?_⟩) hB10 ?_
                rotate_left
                · intro w' hS; first | (go_simp; done) | (go_simp; with_reducible rfl)
                refine wpAnyH_all (rs := [10]) (by decide +kernel) (by simp) ?_
                intro x hx
                obtain rfl := List.mem_singleton.1 hx
                refine wpOp_go' rfl rfl (fun K hK => ?_)
                go_simp
                refine hK _ _ ⟨hB10, ?_⟩
                clear hK K hx
                refine wpAnyH_all (rs := [11]) (by decide +kernel) (by simp) ?_
                intro x hx
                obtain rfl := List.mem_singleton.1 hx
                refine wpOp_go' rfl rfl (fun K hK => ?_)
                go_simp
                refine hK _ _ ⟨hB10, ?_⟩
                clear hK K hx
                refine wpAnyH_done (by decide +kernel) ?_ _
                have hBf := HBW.out.trans (hB10.mono HBW.out.size)
                clear hB9 hro9 hB10 hb10
                go_wp2_with fail
                refine (H7.out _).mono ?_
                rintro e w11 ⟨rfl, hb11⟩
                have hBg := hBf.trans (hb11.mono hBf.size)
                go_wp2
                go_ret
                exact ⟨rfl, hBg⟩
        · by_cases hkl : (k : Int) < (n : Int)
          · have hkn1 : k < n := by omega
            have hko : k < out.length := by rw [HOL.out]; exact hkn1
            obtain ⟨ba, oa, ha1, hba, hca⟩ := HRO7.out.open (by omega)
            cases ha1
            have qk : w7.cell? ⟨ba, oa + k * 2, none⟩ = some (.int .i64 mid) := by rw [← HM2.out hko]; exact hca k hko 0 _ rfl
            clear hca
            have t4 : (s == 4) = false := by simpa using hs4
            have HSCW := HSC7
            have HAW := HAX7
            have HBW := Lib.hid (HB7.out)
            by_cases hn2 : (200 : Int) ≤ ((n : Nat) : Int)
            · go_wp2_with fail
              refine (H7.out _).mono ?_
              rintro e w11 ⟨rfl, hb11⟩
              have hBg := HBW.out.trans (hb11.mono HBW.out.size)
              go_wp2
              go_ret
              exact ⟨rfl, hBg⟩
            · have HE12 : Hid (E12 = 0) := Lib.hid (by
                have h12 := HE0.out (by omega)
                first | exact h12 | (simp at h12; exact h12) | (simp [hs4] at h12; exact h12))
              have HST := Lib.hid (fun W9 A9 c9 hro => HST0.out W9 A9 c9 hro)
              rw [HE12.out] at HST
              have hTS : ∀ V, Below w7.heap.size w7 V → ∀ q, q < 6 → V.cell? ⟨w.heap.size, q, none⟩ = (scA S)[q]? := fun V hb q _ => (HSCW.out.below hb HSCW.out.lt).cell q
              have hBd := (Below.refl w7.heap.size w7).drew
              go_wp2
              refine wp_region_held (S := fun V => Below w7.heap.size w7 V) (by kernel_rfl) ?_
              change wpAnyH _ _ _ _ _ _ _ _ (World.drew _)
              refine wpAnyH_take (i := 0) (v := ?_) rfl (by kernel_rfl) (by decide +kernel) (by decide +kernel) (fun _ _ _ h => h) (Or.inl ⟨by rfl, ?_⟩) hBd ?_
              rotate_left
              · intro w' hS; have s0 := (hTS _ hS 0 (by omega)).trans rfl; have s1 := (hTS _ hS 1 (by omega)).trans rfl; have s2 := (hTS _ hS 2 (by omega)).trans rfl; have s3 := (hTS _ hS 3 (by omega)).trans rfl; have s4 := (hTS _ hS 4 (by omega)).trans rfl; have s5 := (hTS _ hS 5 (by omega)).trans rfl; first | (go_simp; done) | (go_simp; with_reducible rfl)
              refine wpAnyH_take (i := 2) (v := ?_) rfl (by kernel_rfl) (by decide +kernel) (by decide +kernel) (fun _ _ _ h => h) (Or.inl ⟨by rfl, ?_⟩) hBd ?_
              rotate_left
              · intro w' hS; first | (go_simp; done) | (go_simp; with_reducible rfl)
              clear hTS
              refine wpAnyH_all (rs := [1, 4]) (by decide +kernel) (by simp) ?_
              intro x hx
              rcases List.mem_cons.1 hx with rfl | hx
              · refine wpOp_go' rfl rfl (fun K hK => ?_)
                have hBA := ((Below.refl w7.heap.size w7).alloc (Nat.le_refl _) (.cells #[] 3)).drew
                have hoE : ((w7.alloc (.cells #[] 3)).drew).ownsRow w7.heap.size 3 1 (.slice (some ⟨w7.heap.size, 0, none⟩) 0 0) 0 [] := World.ownsRow_lit (e := 3) (size := 1) (base := w7.heap.size) w7 #[] 0 (Nat.le_refl _) (by unfold maxLen; omega) rfl
                go_simp
                refine hK _ _ ⟨hBA, ?_⟩
                clear hK K hx
                refine wpAnyH_all (rs := [3, 4]) (by decide +kernel) (by simp) ?_
                intro x hx
                rcases List.mem_cons.1 hx with rfl | hx
                · obtain ⟨v3, w3, hr3, ho3, hg3⟩ := app_run ((w7.alloc (.cells #[] 3)).drew) (some a) xs n c HN.out (by intro h; first | (cases h; done) | exact ⟨rfl, rfl⟩) (by omega) (HAW.out.below hBA) _ 0 [] w7.heap.size hoE hBA.size (by omega)
                  have hB3 := hBA.grown hg3 hBA.size (fun s e => (hoE.lt s e).1)
                  have HR3 := Lib.hid hr3
                  clear hr3
                  refine wpOp_go' rfl rfl (fun K hK => ?_)
                  refine step_append_run (.tmp 103) (.tmp 104) 33 rfl _ _ _ rfl rfl HR3.out (hK _ _ ⟨hB3, ?_⟩)
                  clear hK K hx
                  have hB4 := hB3.alloc hB3.size (.cells #[.int .i64 0] 3)
                  have hbk := Blk.new w3 3 #[.int .i64 0]
                  have ho4 := ho3.alloc (.cells #[.int .i64 0] 3)
                  have HB4 := Lib.hid hbk
                  obtain ⟨i0, hi0, hz0, hn0, hy0⟩ := info_parts info3f
                  obtain ⟨v9, w9, hr9, ho9, hg9, _⟩ := run_append_own (P := Try.prog) (w3.alloc (.cells #[.int .i64 0] 3)) w7.heap.size 33 33 3 i0 _ 1 8 Try.underlying33 hi0 hz0 hn0 hy0 rfl (by decide) _ _ _ ho4 ⟨w3.heap.size, 0, none⟩ 1 1 (inL 0) rfl (fun j u hj => by
                    match j, hj with
                    | 0, hj => exact (HB4.out.cell 0).trans hj) (encIn.one 0) (by unfold maxLen; omega) (by omega) hB4.size
                  have hB9 := hB4.grown hg9 hB4.size (fun s e => (ho4.lt s e).1)
                  have HR9 := Lib.hid hr9
                  have hl9 : (xs ++ [0]).length = n + 1 := by rw [List.length_append, HN.out]; rfl
                  have ho9' : w9.ownsRow w7.heap.size 3 1 v9 (xs ++ [0]).length (flt inL (xs ++ [0])) := by rw [hl9, flt_append, flt_one]; simpa using ho9
                  obtain ⟨A9, c9, hv9, hro9, _, _⟩ := rows_of_owns encIn ho9'
                  rw [hl9] at hv9
                  subst hv9
                  clear hr9 ho9 ho9' hg9 hi0 hz0 hn0 hy0
                  refine wpAnyH_all (rs := [4]) (by decide +kernel) (by simp) ?_
                  intro x hx
                  obtain rfl := List.mem_singleton.1 hx
                  refine wpOp_go' rfl rfl (fun K hK => ?_)
                  go_simp
                  refine hK _ _ ⟨hB4, ?_⟩
                  clear hK K hx
                  refine wpAnyH_all (rs := [5]) (by decide +kernel) (by simp) ?_
                  intro x hx
                  obtain rfl := List.mem_singleton.1 hx
                  refine wpOp_go' rfl rfl (fun K hK => ?_)
                  refine step_append_run (.tmp 105) (.tmp 106) 33 rfl _ _ _ rfl rfl HR9.out (hK _ _ ⟨hB9, ?_⟩)
                  clear hK K hx
                  refine wpAnyH_all (rs := [6]) (by decide +kernel) (by simp) ?_
                  intro x hx
                  obtain rfl := List.mem_singleton.1 hx
                  refine wpOp_go' rfl rfl (fun K hK => ?_)
                  go_simp
                  refine (HST.out _ _ _ hro9).mono ?_
                  rintro e w10 ⟨rfl, hb10⟩
                  have hB10 := hB9.trans (hb10.mono hB9.size)
                  refine hK _ _ ⟨hB10, ?_⟩
                  clear hK K hx
                  refine wpAnyH_take (i := 7) (v := ?_) rfl (by kernel_rfl) (by decide +kernel) (by decide +kernel) (fun _ _ _ h => h) (Or.inl ⟨by rfl, ?_⟩) hB10 ?_
                  rotate_left
                  · intro w' hS; first | (go_simp; done) | (go_simp; with_reducible rfl)
                  refine wpAnyH_take (i := 8) (v := ?_) rfl (by kernel_rfl) (by decide +kernel) (by decide +kernel) (fun _ _ _ h => h) (Or.inl ⟨by rfl, ?_⟩) hB10 ?_
                  rotate_left
                  · intro w' hS; first | (go_simp; done) | (go_simp; with_reducible rfl)
                  refine wpAnyH_take (i := 9) (v := ?_) rfl (by kernel_rfl) (by decide +kernel) (by decide +kernel) (fun _ _ _ h => h) (Or.inl ⟨by rfl, ?_⟩) hB10 ?_
                  rotate_left
                  · intro w' hS; first | (go_simp; done) | (go_simp; with_reducible rfl)
                  refine wpAnyH_all (rs := [10]) (by decide +kernel) (by simp) ?_
                  intro x hx
                  obtain rfl := List.mem_singleton.1 hx
                  refine wpOp_go' rfl rfl (fun K hK => ?_)
                  go_simp
                  refine hK _ _ ⟨hB10, ?_⟩
                  clear hK K hx
                  refine wpAnyH_all (rs := [11]) (by decide +kernel) (by simp) ?_
                  intro x hx
                  obtain rfl := List.mem_singleton.1 hx
                  refine wpOp_go' rfl rfl (fun K hK => ?_)
                  go_simp
                  refine hK _ _ ⟨hB10, ?_⟩
                  clear hK K hx
                  refine wpAnyH_done (by decide +kernel) ?_ _
                  have hBf := HBW.out.trans (hB10.mono HBW.out.size)
                  clear hB9 hro9 hB10 hb10
                  go_wp2_with fail
                  refine (H7.out _).mono ?_
                  rintro e w11 ⟨rfl, hb11⟩
                  have hBg := hBf.trans (hb11.mono hBf.size)
                  go_wp2
                  go_ret
                  exact ⟨rfl, hBg⟩
                · obtain rfl := List.mem_singleton.1 hx
                  refine wpOp_go' rfl rfl (fun K hK => ?_)
                  have hBF := (((Below.refl w7.heap.size w7).alloc (Nat.le_refl _) (.cells #[] 3)).alloc (by simp) (.cells #[.int .i64 0] 3)).drew
                  have hoF : (((w7.alloc (.cells #[] 3)).alloc (.cells #[.int .i64 0] 3)).drew).ownsRow w7.heap.size 3 1 (.slice (some ⟨w7.heap.size, 0, none⟩) 0 0) 0 [] := (World.ownsRow_lit (e := 3) (size := 1) (base := w7.heap.size) w7 #[] 0 (Nat.le_refl _) (by unfold maxLen; omega) rfl).alloc (.cells #[.int .i64 0] 3)
                  have hbF : Blk (((w7.alloc (.cells #[] 3)).alloc (.cells #[.int .i64 0] 3)).drew) (w7.heap.size + 1) 3 #[.int .i64 0] := by have h := Blk.new (w7.alloc (.cells #[] 3)) 3 #[.int .i64 0]; simp only [World.size_alloc] at h; exact h
                  go_simp
                  refine hK _ _ ⟨hBF, ?_⟩
                  clear hK K hx
                  obtain ⟨v3, w3, hr3, ho3, hg3⟩ := app_run (((w7.alloc (.cells #[] 3)).alloc (.cells #[.int .i64 0] 3)).drew) (some a) xs n c HN.out (by intro h; first | (cases h; done) | exact ⟨rfl, rfl⟩) (by omega) (HAW.out.below hBF) _ 0 [] w7.heap.size hoF hBF.size (by omega)
                  have hB3 := hBF.grown hg3 hBF.size (fun s e => (hoF.lt s e).1)
                  have HR3 := Lib.hid hr3
                  clear hr3
                  have hbk3 : Blk w3 (w7.heap.size + 1) 3 #[.int .i64 0] := (hg3.block _ hbF.lt (by simp [Value.ownBlock])).trans hbF
                  have HB4 := Lib.hid hbk3
                  obtain ⟨i0, hi0, hz0, hn0, hy0⟩ := info_parts info3f
                  obtain ⟨v9, w9, hr9, ho9, hg9, _⟩ := run_append_own (P := Try.prog) (w3) w7.heap.size 33 33 3 i0 _ 1 8 Try.underlying33 hi0 hz0 hn0 hy0 rfl (by decide) _ _ _ ho3 ⟨w7.heap.size + 1, 0, none⟩ 1 1 (inL 0) rfl (fun j u hj => by
                    match j, hj with
                    | 0, hj => exact (HB4.out.cell 0).trans hj) (encIn.one 0) (by unfold maxLen; omega) (by omega) hB3.size
                  have hB9 := hB3.grown hg9 hB3.size (fun s e => (ho3.lt s e).1)
                  have HR9 := Lib.hid hr9
                  have hl9 : (xs ++ [0]).length = n + 1 := by rw [List.length_append, HN.out]; rfl
                  have ho9' : w9.ownsRow w7.heap.size 3 1 v9 (xs ++ [0]).length (flt inL (xs ++ [0])) := by rw [hl9, flt_append, flt_one]; simpa using ho9
                  obtain ⟨A9, c9, hv9, hro9, _, _⟩ := rows_of_owns encIn ho9'
                  rw [hl9] at hv9
                  subst hv9
                  clear hr9 ho9 ho9' hg9 hi0 hz0 hn0 hy0
                  refine wpAnyH_all (rs := [3]) (by decide +kernel) (by simp) ?_
                  intro x hx
                  obtain rfl := List.mem_singleton.1 hx
                  refine wpOp_go' rfl rfl (fun K hK => ?_)
                  refine step_append_run (.tmp 103) (.tmp 104) 33 rfl _ _ _ rfl rfl HR3.out (hK _ _ ⟨hB3, ?_⟩)
                  clear hK K hx
                  refine wpAnyH_all (rs := [5]) (by decide +kernel) (by simp) ?_
                  intro x hx
                  obtain rfl := List.mem_singleton.1 hx
                  refine wpOp_go' rfl rfl (fun K hK => ?_)
                  refine step_append_run (.tmp 105) (.tmp 106) 33 rfl _ _ _ rfl rfl HR9.out (hK _ _ ⟨hB9, ?_⟩)
                  clear hK K hx
                  refine wpAnyH_all (rs := [6]) (by decide +kernel) (by simp) ?_
                  intro x hx
                  obtain rfl := List.mem_singleton.1 hx
                  refine wpOp_go' rfl rfl (fun K hK => ?_)
                  go_simp
                  refine (HST.out _ _ _ hro9).mono ?_
                  rintro e w10 ⟨rfl, hb10⟩
                  have hB10 := hB9.trans (hb10.mono hB9.size)
                  refine hK _ _ ⟨hB10, ?_⟩
                  clear hK K hx
                  refine wpAnyH_take (i := 7) (v := ?_) rfl (by kernel_rfl) (by decide +kernel) (by decide +kernel) (fun _ _ _ h => h) (Or.inl ⟨by rfl, ?_⟩) hB10 ?_
                  rotate_left
                  · intro w' hS; first | (go_simp; done) | (go_simp; with_reducible rfl)
                  refine wpAnyH_take (i := 8) (v := ?_) rfl (by kernel_rfl) (by decide +kernel) (by decide +kernel) (fun _ _ _ h => h) (Or.inl ⟨by rfl, ?_⟩) hB10 ?_
                  rotate_left
                  · intro w' hS; first | (go_simp; done) | (go_simp; with_reducible rfl)
                  refine wpAnyH_take (i := 9) (v := ?_) rfl (by kernel_rfl) (by decide +kernel) (by decide +kernel) (fun _ _ _ h => h) (Or.inl ⟨by rfl, ?_⟩) hB10 ?_
                  rotate_left
                  · intro w' hS; first | (go_simp; done) | (go_simp; with_reducible rfl)
                  refine wpAnyH_all (rs := [10]) (by decide +kernel) (by simp) ?_
                  intro x hx
                  obtain rfl := List.mem_singleton.1 hx
                  refine wpOp_go' rfl rfl (fun K hK => ?_)
                  go_simp
                  refine hK _ _ ⟨hB10, ?_⟩
                  clear hK K hx
                  refine wpAnyH_all (rs := [11]) (by decide +kernel) (by simp) ?_
                  intro x hx
                  obtain rfl := List.mem_singleton.1 hx
                  refine wpOp_go' rfl rfl (fun K hK => ?_)
                  go_simp
                  refine hK _ _ ⟨hB10, ?_⟩
                  clear hK K hx
                  refine wpAnyH_done (by decide +kernel) ?_ _
                  have hBf := HBW.out.trans (hB10.mono HBW.out.size)
                  clear hB9 hro9 hB10 hb10
                  go_wp2_with fail
                  refine (H7.out _).mono ?_
                  rintro e w11 ⟨rfl, hb11⟩
                  have hBg := hBf.trans (hb11.mono hBf.size)
                  go_wp2
                  go_ret
                  exact ⟨rfl, hBg⟩
              · obtain rfl := List.mem_singleton.1 hx
                refine wpOp_go' rfl rfl (fun K hK => ?_)
                have hBD := ((Below.refl w7.heap.size w7).alloc (Nat.le_refl _) (.cells #[.int .i64 0] 3)).drew
                have hBF := (((Below.refl w7.heap.size w7).alloc (Nat.le_refl _) (.cells #[.int .i64 0] 3)).alloc (by simp) (.cells #[] 3)).drew
                have hoF : (((w7.alloc (.cells #[.int .i64 0] 3)).alloc (.cells #[] 3)).drew).ownsRow w7.heap.size 3 1 (.slice (some ⟨w7.heap.size + 1, 0, none⟩) 0 0) 0 [] := by have h := World.ownsRow_lit (e := 3) (size := 1) (base := w7.heap.size) (w7.alloc (.cells #[.int .i64 0] 3)) #[] 0 (by simp) (by unfold maxLen; omega) rfl; simp only [World.size_alloc] at h; exact h
                have hbF : Blk (((w7.alloc (.cells #[.int .i64 0] 3)).alloc (.cells #[] 3)).drew) w7.heap.size 3 #[.int .i64 0] := (Blk.new w7 3 #[.int .i64 0]).alloc (.cells #[] 3)
                go_simp
                refine hK _ _ ⟨hBD, ?_⟩
                clear hK K hx
                refine wpAnyH_all (rs := [1]) (by decide +kernel) (by simp) ?_
                intro x hx
                obtain rfl := List.mem_singleton.1 hx
                refine wpOp_go' rfl rfl (fun K hK => ?_)
                go_simp
                refine hK _ _ ⟨hBF, ?_⟩
                clear hK K hx
                obtain ⟨v3, w3, hr3, ho3, hg3⟩ := app_run (((w7.alloc (.cells #[.int .i64 0] 3)).alloc (.cells #[] 3)).drew) (some a) xs n c HN.out (by intro h; first | (cases h; done) | exact ⟨rfl, rfl⟩) (by omega) (HAW.out.below hBF) _ 0 [] w7.heap.size hoF hBF.size (by omega)
                have hB3 := hBF.grown hg3 hBF.size (fun s e => (hoF.lt s e).1)
                have HR3 := Lib.hid hr3
                clear hr3
                have hbk3 : Blk w3 w7.heap.size 3 #[.int .i64 0] := (hg3.block _ hbF.lt (by simp [Value.ownBlock])).trans hbF
                have HB4 := Lib.hid hbk3
                obtain ⟨i0, hi0, hz0, hn0, hy0⟩ := info_parts info3f
                obtain ⟨v9, w9, hr9, ho9, hg9, _⟩ := run_append_own (P := Try.prog) (w3) w7.heap.size 33 33 3 i0 _ 1 8 Try.underlying33 hi0 hz0 hn0 hy0 rfl (by decide) _ _ _ ho3 ⟨w7.heap.size, 0, none⟩ 1 1 (inL 0) rfl (fun j u hj => by
                  match j, hj with
                  | 0, hj => exact (HB4.out.cell 0).trans hj) (encIn.one 0) (by unfold maxLen; omega) (by omega) hB3.size
                have hB9 := hB3.grown hg9 hB3.size (fun s e => (ho3.lt s e).1)
                have HR9 := Lib.hid hr9
                have hl9 : (xs ++ [0]).length = n + 1 := by rw [List.length_append, HN.out]; rfl
                have ho9' : w9.ownsRow w7.heap.size 3 1 v9 (xs ++ [0]).length (flt inL (xs ++ [0])) := by rw [hl9, flt_append, flt_one]; simpa using ho9
                obtain ⟨A9, c9, hv9, hro9, _, _⟩ := rows_of_owns encIn ho9'
                rw [hl9] at hv9
                subst hv9
                clear hr9 ho9 ho9' hg9 hi0 hz0 hn0 hy0
                refine wpAnyH_all (rs := [3]) (by decide +kernel) (by simp) ?_
                intro x hx
                obtain rfl := List.mem_singleton.1 hx
                refine wpOp_go' rfl rfl (fun K hK => ?_)
                refine step_append_run (.tmp 103) (.tmp 104) 33 rfl _ _ _ rfl rfl HR3.out (hK _ _ ⟨hB3, ?_⟩)
                clear hK K hx
                refine wpAnyH_all (rs := [5]) (by decide +kernel) (by simp) ?_
                intro x hx
                obtain rfl := List.mem_singleton.1 hx
                refine wpOp_go' rfl rfl (fun K hK => ?_)
                refine step_append_run (.tmp 105) (.tmp 106) 33 rfl _ _ _ rfl rfl HR9.out (hK _ _ ⟨hB9, ?_⟩)
                clear hK K hx
                refine wpAnyH_all (rs := [6]) (by decide +kernel) (by simp) ?_
                intro x hx
                obtain rfl := List.mem_singleton.1 hx
                refine wpOp_go' rfl rfl (fun K hK => ?_)
                go_simp
                refine (HST.out _ _ _ hro9).mono ?_
                rintro e w10 ⟨rfl, hb10⟩
                have hB10 := hB9.trans (hb10.mono hB9.size)
                refine hK _ _ ⟨hB10, ?_⟩
                clear hK K hx
                refine wpAnyH_take (i := 7) (v := ?_) rfl (by kernel_rfl) (by decide +kernel) (by decide +kernel) (fun _ _ _ h => h) (Or.inl ⟨by rfl, ?_⟩) hB10 ?_
                rotate_left
                · intro w' hS; first | (go_simp; done) | (go_simp; with_reducible rfl)
                refine wpAnyH_take (i := 8) (v := ?_) rfl (by kernel_rfl) (by decide +kernel) (by decide +kernel) (fun _ _ _ h => h) (Or.inl ⟨by rfl, ?_⟩) hB10 ?_
                rotate_left
                · intro w' hS; first | (go_simp; done) | (go_simp; with_reducible rfl)
                refine wpAnyH_take (i := 9) (v := ?_) rfl (by kernel_rfl) (by decide +kernel) (by decide +kernel) (fun _ _ _ h => h) (Or.inl ⟨by rfl, ?_⟩) hB10 ?_
                rotate_left
                · intro w' hS; first | (go_simp; done) | (go_simp; with_reducible rfl)
                refine wpAnyH_all (rs := [10]) (by decide +kernel) (by simp) ?_
                intro x hx
                obtain rfl := List.mem_singleton.1 hx
                refine wpOp_go' rfl rfl (fun K hK => ?_)
                go_simp
                refine hK _ _ ⟨hB10, ?_⟩
                clear hK K hx
                refine wpAnyH_all (rs := [11]) (by decide +kernel) (by simp) ?_
                intro x hx
                obtain rfl := List.mem_singleton.1 hx
                refine wpOp_go' rfl rfl (fun K hK => ?_)
                go_simp
                refine hK _ _ ⟨hB10, ?_⟩
                clear hK K hx
                refine wpAnyH_done (by decide +kernel) ?_ _
                have hBf := HBW.out.trans (hB10.mono HBW.out.size)
                clear hB9 hro9 hB10 hb10
                go_wp2_with fail
                refine (H7.out _).mono ?_
                rintro e w11 ⟨rfl, hb11⟩
                have hBg := hBf.trans (hb11.mono hBf.size)
                go_wp2
                go_ret
                exact ⟨rfl, hBg⟩
          · have t4 : (s == 4) = false := by simpa using hs4
            have HSCW := HSC7
            have HAW := HAX7
            have HBW := Lib.hid (HB7.out)
            by_cases hn2 : (200 : Int) ≤ ((n : Nat) : Int)
            · go_wp2_with fail
              refine (H7.out _).mono ?_
              rintro e w11 ⟨rfl, hb11⟩
              have hBg := HBW.out.trans (hb11.mono HBW.out.size)
              go_wp2
              go_ret
              exact ⟨rfl, hBg⟩
            · have HE12 : Hid (E12 = 0) := Lib.hid (by
                have h12 := HE0.out (by omega)
                first | exact h12 | (simp at h12; exact h12) | (simp [hs4] at h12; exact h12))
              have HST := Lib.hid (fun W9 A9 c9 hro => HST0.out W9 A9 c9 hro)
              rw [HE12.out] at HST
              have hTS : ∀ V, Below w7.heap.size w7 V → ∀ q, q < 6 → V.cell? ⟨w.heap.size, q, none⟩ = (scA S)[q]? := fun V hb q _ => (HSCW.out.below hb HSCW.out.lt).cell q
              have hBd := (Below.refl w7.heap.size w7).drew
              go_wp2
              refine wp_region_held (S := fun V => Below w7.heap.size w7 V) (by kernel_rfl) ?_
              change wpAnyH _ _ _ _ _ _ _ _ (World.drew _)
              refine wpAnyH_take (i := 0) (v := ?_) rfl (by kernel_rfl) (by decide +kernel) (by decide +kernel) (fun _ _ _ h => h) (Or.inl ⟨by rfl, ?_⟩) hBd ?_
              rotate_left
              · intro w' hS; have s0 := (hTS _ hS 0 (by omega)).trans rfl; have s1 := (hTS _ hS 1 (by omega)).trans rfl; have s2 := (hTS _ hS 2 (by omega)).trans rfl; have s3 := (hTS _ hS 3 (by omega)).trans rfl; have s4 := (hTS _ hS 4 (by omega)).trans rfl; have s5 := (hTS _ hS 5 (by omega)).trans rfl; first | (go_simp; done) | (go_simp; with_reducible rfl)
              refine wpAnyH_take (i := 2) (v := ?_) rfl (by kernel_rfl) (by decide +kernel) (by decide +kernel) (fun _ _ _ h => h) (Or.inl ⟨by rfl, ?_⟩) hBd ?_
              rotate_left
              · intro w' hS; first | (go_simp; done) | (go_simp; with_reducible rfl)
              clear hTS
              refine wpAnyH_all (rs := [1, 4]) (by decide +kernel) (by simp) ?_
              intro x hx
              rcases List.mem_cons.1 hx with rfl | hx
              · refine wpOp_go' rfl rfl (fun K hK => ?_)
                have hBA := ((Below.refl w7.heap.size w7).alloc (Nat.le_refl _) (.cells #[] 3)).drew
                have hoE : ((w7.alloc (.cells #[] 3)).drew).ownsRow w7.heap.size 3 1 (.slice (some ⟨w7.heap.size, 0, none⟩) 0 0) 0 [] := World.ownsRow_lit (e := 3) (size := 1) (base := w7.heap.size) w7 #[] 0 (Nat.le_refl _) (by unfold maxLen; omega) rfl
                go_simp
                refine hK _ _ ⟨hBA, ?_⟩
                clear hK K hx
                refine wpAnyH_all (rs := [3, 4]) (by decide +kernel) (by simp) ?_
                intro x hx
                rcases List.mem_cons.1 hx with rfl | hx
                · obtain ⟨v3, w3, hr3, ho3, hg3⟩ := app_run ((w7.alloc (.cells #[] 3)).drew) (some a) xs n c HN.out (by intro h; first | (cases h; done) | exact ⟨rfl, rfl⟩) (by omega) (HAW.out.below hBA) _ 0 [] w7.heap.size hoE hBA.size (by omega)
                  have hB3 := hBA.grown hg3 hBA.size (fun s e => (hoE.lt s e).1)
                  have HR3 := Lib.hid hr3
                  clear hr3
                  refine wpOp_go' rfl rfl (fun K hK => ?_)
                  refine step_append_run (.tmp 103) (.tmp 104) 33 rfl _ _ _ rfl rfl HR3.out (hK _ _ ⟨hB3, ?_⟩)
                  clear hK K hx
                  have hB4 := hB3.alloc hB3.size (.cells #[.int .i64 0] 3)
                  have hbk := Blk.new w3 3 #[.int .i64 0]
                  have ho4 := ho3.alloc (.cells #[.int .i64 0] 3)
                  have HB4 := Lib.hid hbk
                  obtain ⟨i0, hi0, hz0, hn0, hy0⟩ := info_parts info3f
                  obtain ⟨v9, w9, hr9, ho9, hg9, _⟩ := run_append_own (P := Try.prog) (w3.alloc (.cells #[.int .i64 0] 3)) w7.heap.size 33 33 3 i0 _ 1 8 Try.underlying33 hi0 hz0 hn0 hy0 rfl (by decide) _ _ _ ho4 ⟨w3.heap.size, 0, none⟩ 1 1 (inL 0) rfl (fun j u hj => by
                    match j, hj with
                    | 0, hj => exact (HB4.out.cell 0).trans hj) (encIn.one 0) (by unfold maxLen; omega) (by omega) hB4.size
                  have hB9 := hB4.grown hg9 hB4.size (fun s e => (ho4.lt s e).1)
                  have HR9 := Lib.hid hr9
                  have hl9 : (xs ++ [0]).length = n + 1 := by rw [List.length_append, HN.out]; rfl
                  have ho9' : w9.ownsRow w7.heap.size 3 1 v9 (xs ++ [0]).length (flt inL (xs ++ [0])) := by rw [hl9, flt_append, flt_one]; simpa using ho9
                  obtain ⟨A9, c9, hv9, hro9, _, _⟩ := rows_of_owns encIn ho9'
                  rw [hl9] at hv9
                  subst hv9
                  clear hr9 ho9 ho9' hg9 hi0 hz0 hn0 hy0
                  refine wpAnyH_all (rs := [4]) (by decide +kernel) (by simp) ?_
                  intro x hx
                  obtain rfl := List.mem_singleton.1 hx
                  refine wpOp_go' rfl rfl (fun K hK => ?_)
                  go_simp
                  refine hK _ _ ⟨hB4, ?_⟩
                  clear hK K hx
                  refine wpAnyH_all (rs := [5]) (by decide +kernel) (by simp) ?_
                  intro x hx
                  obtain rfl := List.mem_singleton.1 hx
                  refine wpOp_go' rfl rfl (fun K hK => ?_)
                  refine step_append_run (.tmp 105) (.tmp 106) 33 rfl _ _ _ rfl rfl HR9.out (hK _ _ ⟨hB9, ?_⟩)
                  clear hK K hx
                  refine wpAnyH_all (rs := [6]) (by decide +kernel) (by simp) ?_
                  intro x hx
                  obtain rfl := List.mem_singleton.1 hx
                  refine wpOp_go' rfl rfl (fun K hK => ?_)
                  go_simp
                  refine (HST.out _ _ _ hro9).mono ?_
                  rintro e w10 ⟨rfl, hb10⟩
                  have hB10 := hB9.trans (hb10.mono hB9.size)
                  refine hK _ _ ⟨hB10, ?_⟩
                  clear hK K hx
                  refine wpAnyH_take (i := 7) (v := ?_) rfl (by kernel_rfl) (by decide +kernel) (by decide +kernel) (fun _ _ _ h => h) (Or.inl ⟨by rfl, ?_⟩) hB10 ?_
                  rotate_left
                  · intro w' hS; first | (go_simp; done) | (go_simp; with_reducible rfl)
                  refine wpAnyH_take (i := 8) (v := ?_) rfl (by kernel_rfl) (by decide +kernel) (by decide +kernel) (fun _ _ _ h => h) (Or.inl ⟨by rfl, ?_⟩) hB10 ?_
                  rotate_left
                  · intro w' hS; first | (go_simp; done) | (go_simp; with_reducible rfl)
                  refine wpAnyH_take (i := 9) (v := ?_) rfl (by kernel_rfl) (by decide +kernel) (by decide +kernel) (fun _ _ _ h => h) (Or.inl ⟨by rfl, ?_⟩) hB10 ?_
                  rotate_left
                  · intro w' hS; first | (go_simp; done) | (go_simp; with_reducible rfl)
                  refine wpAnyH_all (rs := [10]) (by decide +kernel) (by simp) ?_
                  intro x hx
                  obtain rfl := List.mem_singleton.1 hx
                  refine wpOp_go' rfl rfl (fun K hK => ?_)
                  go_simp
                  refine hK _ _ ⟨hB10, ?_⟩
                  clear hK K hx
                  refine wpAnyH_all (rs := [11]) (by decide +kernel) (by simp) ?_
                  intro x hx
                  obtain rfl := List.mem_singleton.1 hx
                  refine wpOp_go' rfl rfl (fun K hK => ?_)
                  go_simp
                  refine hK _ _ ⟨hB10, ?_⟩
                  clear hK K hx
                  refine wpAnyH_done (by decide +kernel) ?_ _
                  have hBf := HBW.out.trans (hB10.mono HBW.out.size)
                  clear hB9 hro9 hB10 hb10
                  go_wp2_with fail
                  refine (H7.out _).mono ?_
                  rintro e w11 ⟨rfl, hb11⟩
                  have hBg := hBf.trans (hb11.mono hBf.size)
                  go_wp2
                  go_ret
                  exact ⟨rfl, hBg⟩
                · obtain rfl := List.mem_singleton.1 hx
                  refine wpOp_go' rfl rfl (fun K hK => ?_)
                  have hBF := (((Below.refl w7.heap.size w7).alloc (Nat.le_refl _) (.cells #[] 3)).alloc (by simp) (.cells #[.int .i64 0] 3)).drew
                  have hoF : (((w7.alloc (.cells #[] 3)).alloc (.cells #[.int .i64 0] 3)).drew).ownsRow w7.heap.size 3 1 (.slice (some ⟨w7.heap.size, 0, none⟩) 0 0) 0 [] := (World.ownsRow_lit (e := 3) (size := 1) (base := w7.heap.size) w7 #[] 0 (Nat.le_refl _) (by unfold maxLen; omega) rfl).alloc (.cells #[.int .i64 0] 3)
                  have hbF : Blk (((w7.alloc (.cells #[] 3)).alloc (.cells #[.int .i64 0] 3)).drew) (w7.heap.size + 1) 3 #[.int .i64 0] := by have h := Blk.new (w7.alloc (.cells #[] 3)) 3 #[.int .i64 0]; simp only [World.size_alloc] at h; exact h
                  go_simp
                  refine hK _ _ ⟨hBF, ?_⟩
                  clear hK K hx
                  obtain ⟨v3, w3, hr3, ho3, hg3⟩ := app_run (((w7.alloc (.cells #[] 3)).alloc (.cells #[.int .i64 0] 3)).drew) (some a) xs n c HN.out (by intro h; first | (cases h; done) | exact ⟨rfl, rfl⟩) (by omega) (HAW.out.below hBF) _ 0 [] w7.heap.size hoF hBF.size (by omega)
                  have hB3 := hBF.grown hg3 hBF.size (fun s e => (hoF.lt s e).1)
                  have HR3 := Lib.hid hr3
                  clear hr3
                  have hbk3 : Blk w3 (w7.heap.size + 1) 3 #[.int .i64 0] := (hg3.block _ hbF.lt (by simp [Value.ownBlock])).trans hbF
                  have HB4 := Lib.hid hbk3
                  obtain ⟨i0, hi0, hz0, hn0, hy0⟩ := info_parts info3f
                  obtain ⟨v9, w9, hr9, ho9, hg9, _⟩ := run_append_own (P := Try.prog) (w3) w7.heap.size 33 33 3 i0 _ 1 8 Try.underlying33 hi0 hz0 hn0 hy0 rfl (by decide) _ _ _ ho3 ⟨w7.heap.size + 1, 0, none⟩ 1 1 (inL 0) rfl (fun j u hj => by
                    match j, hj with
                    | 0, hj => exact (HB4.out.cell 0).trans hj) (encIn.one 0) (by unfold maxLen; omega) (by omega) hB3.size
                  have hB9 := hB3.grown hg9 hB3.size (fun s e => (ho3.lt s e).1)
                  have HR9 := Lib.hid hr9
                  have hl9 : (xs ++ [0]).length = n + 1 := by rw [List.length_append, HN.out]; rfl
                  have ho9' : w9.ownsRow w7.heap.size 3 1 v9 (xs ++ [0]).length (flt inL (xs ++ [0])) := by rw [hl9, flt_append, flt_one]; simpa using ho9
                  obtain ⟨A9, c9, hv9, hro9, _, _⟩ := rows_of_owns encIn ho9'
                  rw [hl9] at hv9
                  subst hv9
                  clear hr9 ho9 ho9' hg9 hi0 hz0 hn0 hy0
                  refine wpAnyH_all (rs := [3]) (by decide +kernel) (by simp) ?_
                  intro x hx
                  obtain rfl := List.mem_singleton.1 hx
                  refine wpOp_go' rfl rfl (fun K hK => ?_)
                  refine step_append_run (.tmp 103) (.tmp 104) 33 rfl _ _ _ rfl rfl HR3.out (hK _ _ ⟨hB3, ?_⟩)
                  clear hK K hx
                  refine wpAnyH_all (rs := [5]) (by decide +kernel) (by simp) ?_
                  intro x hx
                  obtain rfl := List.mem_singleton.1 hx
                  refine wpOp_go' rfl rfl (fun K hK => ?_)
                  refine step_append_run (.tmp 105) (.tmp 106) 33 rfl _ _ _ rfl rfl HR9.out (hK _ _ ⟨hB9, ?_⟩)
                  clear hK K hx
                  refine wpAnyH_all (rs := [6]) (by decide +kernel) (by simp) ?_
                  intro x hx
                  obtain rfl := List.mem_singleton.1 hx
                  refine wpOp_go' rfl rfl (fun K hK => ?_)
                  go_simp
                  refine (HST.out _ _ _ hro9).mono ?_
                  rintro e w10 ⟨rfl, hb10⟩
                  have hB10 := hB9.trans (hb10.mono hB9.size)
                  refine hK _ _ ⟨hB10, ?_⟩
                  clear hK K hx
                  refine wpAnyH_take (i := 7) (v := ?_) rfl (by kernel_rfl) (by decide +kernel) (by decide +kernel) (fun _ _ _ h => h) (Or.inl ⟨by rfl, ?_⟩) hB10 ?_
                  rotate_left
                  · intro w' hS; first | (go_simp; done) | (go_simp; with_reducible rfl)
                  refine wpAnyH_take (i := 8) (v := ?_) rfl (by kernel_rfl) (by decide +kernel) (by decide +kernel) (fun _ _ _ h => h) (Or.inl ⟨by rfl, ?_⟩) hB10 ?_
                  rotate_left
                  · intro w' hS; first | (go_simp; done) | (go_simp; with_reducible rfl)
                  refine wpAnyH_take (i := 9) (v := ?_) rfl (by kernel_rfl) (by decide +kernel) (by decide +kernel) (fun _ _ _ h => h) (Or.inl ⟨by rfl, ?_⟩) hB10 ?_
                  rotate_left
                  · intro w' hS; first | (go_simp; done) | (go_simp; with_reducible rfl)
                  refine wpAnyH_all (rs := [10]) (by decide +kernel) (by simp) ?_
                  intro x hx
                  obtain rfl := List.mem_singleton.1 hx
                  refine wpOp_go' rfl rfl (fun K hK => ?_)
                  go_simp
                  refine hK _ _ ⟨hB10, ?_⟩
                  clear hK K hx
                  refine wpAnyH_all (rs := [11]) (by decide +kernel) (by simp) ?_
                  intro x hx
                  obtain rfl := List.mem_singleton.1 hx
                  refine wpOp_go' rfl rfl (fun K hK => ?_)
                  go_simp
                  refine hK _ _ ⟨hB10, ?_⟩
                  clear hK K hx
                  refine wpAnyH_done (by decide +kernel) ?_ _
                  have hBf := HBW.out.trans (hB10.mono HBW.out.size)
                  clear hB9 hro9 hB10 hb10
                  go_wp2_with fail
                  refine (H7.out _).mono ?_
                  rintro e w11 ⟨rfl, hb11⟩
                  have hBg := hBf.trans (hb11.mono hBf.size)
                  go_wp2
                  go_ret
                  exact ⟨rfl, hBg⟩
              · obtain rfl := List.mem_singleton.1 hx
                refine wpOp_go' rfl rfl (fun K hK => ?_)
                have hBD := ((Below.refl w7.heap.size w7).alloc (Nat.le_refl _) (.cells #[.int .i64 0] 3)).drew
                have hBF := (((Below.refl w7.heap.size w7).alloc (Nat.le_refl _) (.cells #[.int .i64 0] 3)).alloc (by simp) (.cells #[] 3)).drew
                have hoF : (((w7.alloc (.cells #[.int .i64 0] 3)).alloc (.cells #[] 3)).drew).ownsRow w7.heap.size 3 1 (.slice (some ⟨w7.heap.size + 1, 0, none⟩) 0 0) 0 [] := by have h := World.ownsRow_lit (e := 3) (size := 1) (base := w7.heap.size) (w7.alloc (.cells #[.int .i64 0] 3)) #[] 0 (by simp) (by unfold maxLen; omega) rfl; simp only [World.size_alloc] at h; exact h
                have hbF : Blk (((w7.alloc (.cells #[.int .i64 0] 3)).alloc (.cells #[] 3)).drew) w7.heap.size 3 #[.int .i64 0] := (Blk.new w7 3 #[.int .i64 0]).alloc (.cells #[] 3)
                go_simp
                refine hK _ _ ⟨hBD, ?_⟩
                clear hK K hx
                refine wpAnyH_all (rs := [1]) (by decide +kernel) (by simp) ?_
                intro x hx
                obtain rfl := List.mem_singleton.1 hx
                refine wpOp_go' rfl rfl (fun K hK => ?_)
                go_simp
                refine hK _ _ ⟨hBF, ?_⟩
                clear hK K hx
                obtain ⟨v3, w3, hr3, ho3, hg3⟩ := app_run (((w7.alloc (.cells #[.int .i64 0] 3)).alloc (.cells #[] 3)).drew) (some a) xs n c HN.out (by intro h; first | (cases h; done) | exact ⟨rfl, rfl⟩) (by omega) (HAW.out.below hBF) _ 0 [] w7.heap.size hoF hBF.size (by omega)
                have hB3 := hBF.grown hg3 hBF.size (fun s e => (hoF.lt s e).1)
                have HR3 := Lib.hid hr3
                clear hr3
                have hbk3 : Blk w3 w7.heap.size 3 #[.int .i64 0] := (hg3.block _ hbF.lt (by simp [Value.ownBlock])).trans hbF
                have HB4 := Lib.hid hbk3
                obtain ⟨i0, hi0, hz0, hn0, hy0⟩ := info_parts info3f
                obtain ⟨v9, w9, hr9, ho9, hg9, _⟩ := run_append_own (P := Try.prog) (w3) w7.heap.size 33 33 3 i0 _ 1 8 Try.underlying33 hi0 hz0 hn0 hy0 rfl (by decide) _ _ _ ho3 ⟨w7.heap.size, 0, none⟩ 1 1 (inL 0) rfl (fun j u hj => by
                  match j, hj with
                  | 0, hj => exact (HB4.out.cell 0).trans hj) (encIn.one 0) (by unfold maxLen; omega) (by omega) hB3.size
                have hB9 := hB3.grown hg9 hB3.size (fun s e => (ho3.lt s e).1)
                have HR9 := Lib.hid hr9
                have hl9 : (xs ++ [0]).length = n + 1 := by rw [List.length_append, HN.out]; rfl
                have ho9' : w9.ownsRow w7.heap.size 3 1 v9 (xs ++ [0]).length (flt inL (xs ++ [0])) := by rw [hl9, flt_append, flt_one]; simpa using ho9
                obtain ⟨A9, c9, hv9, hro9, _, _⟩ := rows_of_owns encIn ho9'
                rw [hl9] at hv9
                subst hv9
                clear hr9 ho9 ho9' hg9 hi0 hz0 hn0 hy0
                refine wpAnyH_all (rs := [3]) (by decide +kernel) (by simp) ?_
                intro x hx
                obtain rfl := List.mem_singleton.1 hx
                refine wpOp_go' rfl rfl (fun K hK => ?_)
                refine step_append_run (.tmp 103) (.tmp 104) 33 rfl _ _ _ rfl rfl HR3.out (hK _ _ ⟨hB3, ?_⟩)
                clear hK K hx
                refine wpAnyH_all (rs := [5]) (by decide +kernel) (by simp) ?_
                intro x hx
                obtain rfl := List.mem_singleton.1 hx
                refine wpOp_go' rfl rfl (fun K hK => ?_)
                refine step_append_run (.tmp 105) (.tmp 106) 33 rfl _ _ _ rfl rfl HR9.out (hK _ _ ⟨hB9, ?_⟩)
                clear hK K hx
                refine wpAnyH_all (rs := [6]) (by decide +kernel) (by simp) ?_
                intro x hx
                obtain rfl := List.mem_singleton.1 hx
                refine wpOp_go' rfl rfl (fun K hK => ?_)
                go_simp
                refine (HST.out _ _ _ hro9).mono ?_
                rintro e w10 ⟨rfl, hb10⟩
                have hB10 := hB9.trans (hb10.mono hB9.size)
                refine hK _ _ ⟨hB10, ?_⟩
                clear hK K hx
                refine wpAnyH_take (i := 7) (v := ?_) rfl (by kernel_rfl) (by decide +kernel) (by decide +kernel) (fun _ _ _ h => h) (Or.inl ⟨by rfl, ?_⟩) hB10 ?_
                rotate_left
                · intro w' hS; first | (go_simp; done) | (go_simp; with_reducible rfl)
                refine wpAnyH_take (i := 8) (v := ?_) rfl (by kernel_rfl) (by decide +kernel) (by decide +kernel) (fun _ _ _ h => h) (Or.inl ⟨by rfl, ?_⟩) hB10 ?_
                rotate_left
                · intro w' hS; first | (go_simp; done) | (go_simp; with_reducible rfl)
                refine wpAnyH_take (i := 9) (v := ?_) rfl (by kernel_rfl) (by decide +kernel) (by decide +kernel) (fun _ _ _ h => h) (Or.inl ⟨by rfl, ?_⟩) hB10 ?_
                rotate_left
                · intro w' hS; first | (go_simp; done) | (go_simp; with_reducible rfl)
                refine wpAnyH_all (rs := [10]) (by decide +kernel) (by simp) ?_
                intro x hx
                obtain rfl := List.mem_singleton.1 hx
                refine wpOp_go' rfl rfl (fun K hK => ?_)
                go_simp
                refine hK _ _ ⟨hB10, ?_⟩
                clear hK K hx
                refine wpAnyH_all (rs := [11]) (by decide +kernel) (by simp) ?_
                intro x hx
                obtain rfl := List.mem_singleton.1 hx
                refine wpOp_go' rfl rfl (fun K hK => ?_)
                go_simp
                refine hK _ _ ⟨hB10, ?_⟩
                clear hK K hx
                refine wpAnyH_done (by decide +kernel) ?_ _
                have hBf := HBW.out.trans (hB10.mono HBW.out.size)
                clear hB9 hro9 hB10 hb10
                go_wp2_with fail
                refine (H7.out _).mono ?_
                rintro e w11 ⟨rfl, hb11⟩
                have hBg := hBf.trans (hb11.mono hBf.size)
                go_wp2
                go_ret
                exact ⟨rfl, hBg⟩
end Go.Proofs.Ytfkhlglagokodaa
