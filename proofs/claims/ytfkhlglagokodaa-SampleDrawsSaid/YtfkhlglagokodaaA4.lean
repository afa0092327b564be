/- chance, of the program. -/
import Derived.Test.YtfkhlglagokodaaA3
import Derived.Deep.RegionHeld
namespace Go.Proofs.Ytfkhlglagokodaa
open Go.RowKit Go.Shelf

theorem wpOp_go {P : Program} {ops : Array Oper} {Q : Exit → Act → World → Prop} {K : Act → World → Prop} {a : Act} {w : World} {i : Nat} {o : Oper} (ho : ops[i]? = some o) (hw : Region.wanted o (yielded ops a.tmps) = true)
    (h : ∀ K' : Act → World → Prop, (∀ a w, K a w → K' a w) → Oper.wp P o a w K' Q) : wpOp P ops Q i K a w :=
  wpOp_step ho fun K' hK => by rw [if_pos hw]; exact h K' hK
/-- a fraction -/
abbrev frA (x y : Int) : Array Value := #[.int .i64 x, .int .i64 y]
theorem infoFr : (Try.prog.info? 51).map (·.size) = some 2 := by kernel_rfl

set_option maxRecDepth 100000 in
set_option maxHeartbeats 4000000 in
theorem chance_b (s a L b : Nat) (hL : L ≤ 60) (hb : b ≤ L) (hs : s ≤ L) (ha : a < s) (w : World) :
    Calls Try.prog 52 #[.agg (pnA ⟨s, a⟩), .int .i64 L, .int .i64 b] w fun e w' => e = .returned (.agg (frA (Pl.cn s a L b) (Pl.cd s a L b))) ∧ Below w.heap.size w w' := by
  have hB0 := ((Below.refl w.heap.size w).alloc (Nat.le_refl _) (.cells (pnA ⟨s, a⟩) 23)).alloc (by simp) (.cells (frA 0 0) 51)
  have bP := (Blk.new w 23 (pnA ⟨s, a⟩)).alloc (.cells (frA 0 0) 51)
  have bR := Blk.new (w.alloc (.cells (pnA ⟨s, a⟩) 23)) 51 (frA 0 0)
  simp only [World.size_alloc] at bR
  have HC := Lib.hid (fun (w' : World) => ways_b L b s hL hb hs w')
  have k0 : IntKind.i64.wrap ((a : Int) + 1) = ((a + 1 : Nat) : Int) := by rw [IntWalk.i64_in _ (by omega)]; omega
  go_enter Try.func52, Try.ntmps52
  go_wp2_with fail
  generalize hw0 : (w.alloc (.cells (pnA ⟨s, a⟩) 23)).alloc (.cells (frA 0 0) 51) = w0 at *
  have hw0s : w.heap.size + 1 < w0.heap.size := bR.lt
  clear hw0
  refine Code.wp_mono (Q := fun e' a' w' => e' = .normal ∧ ∃ g y12 y13 y14 y15 y16 y17 y18 y19, a' = { tmps := #[.agg (pnA ⟨s, a⟩), .int .i64 L, .int .i64 b, .pointer (some ⟨w.heap.size, 0, none⟩), undef, undef, .pointer (some ⟨w.heap.size + 1, 0, none⟩), .int .i64 0, undef, undef, undef, undef, y12, y13, y14, y15, y16, y17, y18, y19, .slice (some ⟨g, 0, none⟩) (a + 1) (s + 1), .int .i64 ((a + 1 : Nat) : Int), .int .i64 0, undef, undef, undef, undef, undef, undef, undef, undef, undef, undef, undef, undef, undef, undef, undef, undef, undef, undef, undef, undef, undef], defers := [] } ∧ w0.heap.size ≤ g ∧ StN w' g (s + 1) (Pl.wy b (L - b) s) ∧ Below w0.heap.size w0 w') ?goon ?region
  case region =>
    refine wp_region_held (S := fun W => Below w0.heap.size w0 W) (by kernel_rfl) ?_
    change wpAnyH _ _ _ _ _ _ _ _ (World.drew _)
    have hBd := (Below.refl w0.heap.size w0).drew
    have hTs : ∀ W, Below w0.heap.size w0 W → W.cell? ⟨w.heap.size, 0, none⟩ = some (.int .i64 s) := fun W hb => ((bP.below hb bP.lt).cell 0).trans rfl
    have hTa : ∀ W, Below w0.heap.size w0 W → W.cell? ⟨w.heap.size, 1, none⟩ = some (.int .i64 a) := fun W hb => ((bP.below hb bP.lt).cell 1).trans rfl
    refine wpAnyH_take (i := 0) (v := ?_) rfl (by kernel_rfl) (by decide +kernel) (by decide +kernel) (fun _ _ _ h => by cases h.1) (Or.inl ⟨by rfl, ?_⟩) hBd ?_
    rotate_left
    · intro w' hS; first | (go_simp; done) | (go_simp; with_reducible rfl)
    refine wpAnyH_take (i := 1) (v := ?_) rfl (by kernel_rfl) (by decide +kernel) (by decide +kernel) (fun _ _ _ h => by cases h.1) (Or.inl ⟨by rfl, ?_⟩) hBd ?_
    rotate_left
    · intro w' hS; first | (go_simp; done) | (go_simp; with_reducible rfl)
    refine wpAnyH_take (i := 2) (v := ?_) rfl (by kernel_rfl) (by decide +kernel) (by decide +kernel) (fun _ _ _ h => by cases h.1) (Or.inl ⟨by rfl, ?_⟩) hBd ?_
    rotate_left
    · intro w' hS; first | (go_simp; done) | (go_simp; with_reducible rfl)
    refine wpAnyH_take (i := 3) (v := ?_) rfl (by kernel_rfl) (by decide +kernel) (by decide +kernel) (fun _ _ _ h => by cases h.1) (Or.inl ⟨by rfl, ?_⟩) hBd ?_
    rotate_left
    · intro w' hS; have q := hTs _ hS; first | (go_simp; done) | (go_simp; with_reducible rfl)
    refine wpAnyH_take (i := 5) (v := ?_) rfl (by kernel_rfl) (by decide +kernel) (by decide +kernel) (fun _ _ _ h => by cases h.1) (Or.inl ⟨by rfl, ?_⟩) hBd ?_
    rotate_left
    · intro w' hS; first | (go_simp; done) | (go_simp; with_reducible rfl)
    refine wpAnyH_take (i := 6) (v := ?_) rfl (by kernel_rfl) (by decide +kernel) (by decide +kernel) (fun _ _ _ h => by cases h.1) (Or.inl ⟨by rfl, ?_⟩) hBd ?_
    rotate_left
    · intro w' hS; have q := hTa _ hS; first | (go_simp; done) | (go_simp; with_reducible rfl)
    refine wpAnyH_take (i := 7) (v := ?_) rfl (by kernel_rfl) (by decide +kernel) (by decide +kernel) (fun _ _ _ h => by cases h.1) (Or.inl ⟨by rfl, ?_⟩) hBd ?_
    rotate_left
    · intro w' hS; first | (go_simp; done) | (go_simp; with_reducible rfl)
    refine wpAnyH_take (i := 10) (v := ?_) rfl (by kernel_rfl) (by decide +kernel) (by decide +kernel) (fun _ _ _ h => by cases h.1) (Or.inl ⟨by rfl, ?_⟩) hBd ?_
    rotate_left
    · intro w' hS; first | (go_simp; done) | (go_simp; with_reducible rfl)
    clear hTs hTa
    refine wpAnyH_all (rs := [4]) (by decide +kernel) (by simp) ?_
    intro i hi
    obtain rfl := List.mem_singleton.1 hi
    refine wpOp_go rfl rfl (fun K hK => ?_)
    go_simp
    refine (HC.out _).mono ?_
    rintro e w1 ⟨g, hg, rfl, hst, hb1⟩
    have hB1 := hBd.trans (hb1.mono hBd.size)
    refine hK _ _ ⟨hB1, ?_⟩
    clear hK K hi
    have hsa1 : a + 1 ≤ s + 1 := by omega
    have hsa2 : (a : Int) + 1 ≤ ((s + 1 : Nat) : Int) := by omega
    have hsa3 : (a : Int) + 1 ≤ (s : Int) + 1 := by omega
    have hsa4 : (0 : Int) ≤ (a : Int) + 1 := by omega
    have hsa5 : ((a : Int) + 1).toNat = a + 1 := by omega
    have hsa6 : ¬ (a : Int) + 1 < 0 := by omega
    have hsa7 : ¬ (s : Int) + 1 < (a : Int) + 1 := by omega
    refine wpAnyH_all (rs := [8]) (by decide +kernel) (by simp) ?_
    intro i hi
    obtain rfl := List.mem_singleton.1 hi
    refine wpOp_go rfl rfl (fun K hK => ?_)
    go_simp
    refine hK _ _ ⟨hB1, ?_⟩
    clear hK K hi
    refine wpAnyH_all (rs := [9]) (by decide +kernel) (by simp) ?_
    intro i hi
    obtain rfl := List.mem_singleton.1 hi
    refine wpOp_go rfl rfl (fun K hK => ?_)
    go_simp
    refine hK _ _ ⟨hB1, ?_⟩
    clear hK K hi
    refine wpAnyH_done (by decide +kernel) ?_ _
    exact ⟨rfl, g, _, _, _, _, _, _, _, _, rfl, Nat.le_trans hBd.size hg, hst, hB1⟩
  case goon =>
    rintro _ _ w1 ⟨rfl, g, y12, y13, y14, y15, y16, y17, y18, y19, rfl, hg, hst, hb1⟩
    have hB1 := hB0.trans (hb1.mono (by omega))
    have bP1 := bP.below hb1 bP.lt
    have bR1 := bR.below hb1 bR.lt
    clear bP bR hB0 hb1 HC k0
    obtain ⟨f, hf⟩ : ∃ f, Pl.wy b (L - b) s = f := ⟨_, rfl⟩
    have hpart : ∀ k, k ≤ s + 1 → Pl.sm f k ≤ 118264581564861424 := fun k hk => by
      rw [← hf]
      refine Nat.le_trans (Pl.wy_part hk) ?_
      rw [show b + (L - b) = L from by omega]
      exact Pl.ch_le hL s
    have HPT := Lib.hid hpart
    have HN : Hid (Pl.sm f (a + 1) = Pl.nm s a L b) := Lib.hid (by rw [← hf]; rfl)
    rw [hf] at hst
    have HCH := Lib.hid (fun (w' : World) => choose_b L hL (s : Int) _ (chz_nat L s) w')
    have HCL := Lib.hid (Pl.ch_le hL s)
    have HCP := Lib.hid (Pl.ch_pos hs)
    have hsa : a + 1 ≤ s + 1 := by omega
    obtain ⟨a1, ha1⟩ : ∃ a1, a + 1 = a1 := ⟨_, rfl⟩
    obtain ⟨s1, hs1⟩ : ∃ s1, s + 1 = s1 := ⟨_, rfl⟩
    rw [ha1] at HN hsa ⊢
    rw [hs1] at hst hsa HPT ⊢
    have hs60 : s1 ≤ 61 := by omega
    clear hf hpart
    go_wp2
    go_loopw [7, 9, 22] (fun x _ j wr => ∃ i : Nat, i ≤ a1 ∧ x = .int .i64 (Pl.sm f i) ∧ j = .int .i64 i ∧ wr = w1) (fun _ _ j _ => a1 - (intOf j).toNat)
    case atStart => exact ⟨0, Nat.zero_le _, rfl, rfl, rfl⟩
    case round =>
      obtain ⟨i, hi, rfl, rfl, hwr⟩ := hrel
      rw [hwr]
      clear hwr
      by_cases hlt : i < a1
      · have hltI : (i : Int) < (a1 : Int) := by omega
        have q0 := hst.cell (q := i) (by omega)
        have b1 := HPT.out (i + 1) (by omega)
        have e1 : Pl.sm f (i + 1) = Pl.sm f i + f i := rfl
        rw [e1] at b1
        have E1 := Lib.hid e1
        generalize Pl.sm f i = X at *
        generalize f i = Y at *
        have k1 : IntKind.i64.wrap ((X : Int) + (Y : Int)) = ((X + Y : Nat) : Int) := by rw [IntWalk.i64_in _ (by omega)]; omega
        clear b1 e1
        go_wp2
        go_roundw
        case rel => exact ⟨i + 1, by omega, by rw [E1.out]; first | rfl | go_num, by go_num, trivial⟩
        case measure => simp [intOf]; omega
      · obtain rfl : i = a1 := by omega
        have HX : Hid (Pl.sm f i ≤ 118264581564861424) := Lib.hid (HPT.out i hsa)
        rw [HN.out] at HX ⊢
        have HD := Lib.hid (fun (w' : World) => divisor_b (Pl.nm s a L b) (Pl.ch L s) HX.out HCL.out _ rfl w')
        change Hid (∀ w', Calls _ _ _ w' fun e w'' => e = .returned (.int .i64 (Pl.dv s a L b)) ∧ _) at HD
        have hdp := Pl.dv_pos (a := a) (bad := b) hs
        have e1 : Pl.nm s a L b / Pl.dv s a L b = Pl.cn s a L b := rfl
        have e2 : Pl.ch L s / Pl.dv s a L b = Pl.cd s a L b := rfl
        have hx := HX.out
        have hc := HCL.out
        have c1 : Pl.cn s a L b ≤ Pl.nm s a L b := Nat.div_le_self _ _
        have c2 : Pl.cd s a L b ≤ Pl.ch L s := Nat.div_le_self _ _
        clear hst HN HPT HX HCL HCP
        generalize hcn : Pl.cn s a L b = cn at *
        generalize hcd : Pl.cd s a L b = cd at *
        have HCN := Lib.hid hcn
        have HCD := Lib.hid hcd
        clear hcn hcd
        generalize Pl.nm s a L b = N at *
        generalize Pl.ch L s = A at *
        generalize Pl.dv s a L b = d at *
        have hd1 : ¬ (d : Int) = 0 := by omega
        have k1 : (N : Int).tdiv (d : Int) = (cn : Int) := by rw [← e1]; rfl
        have k2 : (A : Int).tdiv (d : Int) = (cd : Int) := by rw [← e2]; rfl
        have k3 : IntKind.i64.wrap ((N : Int).tdiv (d : Int)) = (cn : Int) := by rw [k1]; exact IntWalk.i64_in _ (by omega)
        have k4 : IntKind.i64.wrap ((A : Int).tdiv (d : Int)) = (cd : Int) := by rw [k2]; exact IntWalk.i64_in _ (by omega)
        have k5 : (N : Int) / (d : Int) = (cn : Int) := by rw [← e1]; rfl
        have k6 : (A : Int) / (d : Int) = (cd : Int) := by rw [← e2]; rfl
        have q0 := bP1.cell 0
        go_wp2_with fail
        refine (HCH.out _).mono ?_
        rintro e w2 ⟨rfl, hb2⟩
        have hB2 := hB1.trans (hb2.mono hB1.size)
        have bR2 := bR1.below hb2 bR1.lt
        clear q0 bP1 bR1 hB1 hb2 HCH
        go_wp2_with fail
        refine (HD.out _).mono ?_
        rintro e w3 ⟨rfl, hb3⟩
        have hB3 := hB2.trans (hb3.mono hB2.size)
        have bR3 := bR2.below hb3 bR2.lt
        have hr0 := (bR3.cell 0).trans rfl
        have hr1 := (bR3.cell 1).trans rfl
        have fr0 := bR3.frozen 0
        have fr1 := bR3.frozen 1
        clear bR2 hB2 hb3 HD
        go_wp2
        go_region
        have bR4 := ((bR3.set_ 0 (.int .i64 cn)).set_ 1 (.int .i64 cd)).drew
        have hB4 := ((hB3.setCell (p := ⟨w.heap.size + 1, 0, none⟩) (by show w.heap.size ≤ w.heap.size + 1; omega) (.int .i64 cn)).setCell (p := ⟨w.heap.size + 1, 1, none⟩) (by show w.heap.size ≤ w.heap.size + 1; omega) (.int .i64 cd)).drew
        go_wp2
        exact bodyPost_ret (results_cell_row rfl _ _ _ _ _ _ _ rfl bR4 Try.underlying51 rfl infoFr) rfl ⟨by rw [HCN.out, HCD.out]; rfl, hB4⟩
end Go.Proofs.Ytfkhlglagokodaa
