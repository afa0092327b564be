/- Binomial, Gcd: of the document. -/
import Derived.Test.YtfkhlglagokodaaA3
namespace Go.Proofs.Ytfkhlglagokodaa
open Go.RowKit Go.Shelf

theorem wp_region_tail {P : Program} {id : Nat} {Q : Exit → Act → World → Prop} {a : Act} {w : World} {l : List Oper} (n : Nat) (hm : P.follows .mixedOrders = true) (hB : Region.lexTailB .any l.toArray n = true)
    (h : ∀ W : World, W = w.drew → wpStill P l.toArray W (fun a' => wpList P l.toArray Q (l.drop n) a' W) (l.take n) a) : (Code.region id l.toArray true).wp P Q a w :=
  wp_region_still_tail n hm hB (h _ rfl)
theorem wpOp_go' {P : Program} {ops : Array Oper} {Q : Exit → Act → World → Prop} {K : Act → World → Prop} {a : Act} {w : World} {i : Nat} {o : Oper} (ho : ops[i]? = some o) (hw : Region.wanted o (yielded ops a.tmps) = true)
    (h : ∀ K' : Act → World → Prop, (∀ a w, K a w → K' a w) → Oper.wp P o a w K' Q) : wpOp P ops Q i K a w :=
  wpOp_step ho fun K' hK => by rw [if_pos hw]; exact h K' hK
theorem step_append_run {P : Program} {o : Oper} {a : Act} {w w1 : World} {K : Act → World → Prop} {Q : Exit → Act → World → Prop} (s x : Operand) (t : TypeId) (ho : o.op = .call { callee := .builtin .append, args := #[s, x], argTypes := #[t, t] })
    (v sl v' : Value) (hs : a.eval s = v) (hx : a.eval x = sl) (hr : (Builtin.append_ #[t, t] o.type #[v, sl]).run P w = .ok v' w1) (hK : K (a.put o.dst v') w1) : o.wp P a w K Q := by
  unfold Oper.wp execOp
  simp only [ho, resolve, invoke, builtin, Sem.run_bind, Sem.run_pure, Result.andThen_ok, List.map_toArray, List.map_cons, List.map_nil, hs, hx, hr]
  exact hK
/-- the first k of a row -/
def rwl (n k : Nat) : List Nat := (List.range k).map (Pl.ch n)
theorem rwl_len (n k : Nat) : (rwl n k).length = k := by simp [rwl]
theorem rwl_succ (n k : Nat) : rwl n (k + 1) = rwl n k ++ [Pl.ch n k] := by simp [rwl, List.range_succ]
theorem rwl_get {n k q : Nat} (h : q < (rwl n k).length) : (rwl n k)[q] = Pl.ch n q := by simp [rwl]
/-- a row of numbers that is owned, opened -/
theorem rwl_open {W : World} {B : Nat} {v : Value} {n k : Nat} (h : W.ownsRow B 3 1 v k (flt irc (rwl n k))) (h0 : 0 < k) :
    ∃ b off c, v = .slice (some ⟨b, off, none⟩) k c ∧ b < W.heap.size ∧ ∀ q, q < k → W.cell? ⟨b, off + q, none⟩ = some (.int .i64 (Pl.ch n q)) := by
  have h' : W.ownsRow B 3 1 v (rwl n k).length (flt irc (rwl n k)) := by rw [rwl_len]; exact h
  obtain ⟨A, c, hv, hr, _⟩ := rows_of_owns encIr h'
  rw [rwl_len] at hv
  obtain ⟨b, off, rfl, hb, hc⟩ := hr.open (by rw [rwl_len]; exact h0)
  refine ⟨b, off, c, hv, hb, fun q hq => ?_⟩
  have := hc q (by rw [rwl_len]; exact hq) 0 _ rfl
  rw [Nat.mul_one] at this
  rw [rwl_get] at this
  exact this

set_option maxRecDepth 100000 in
set_option maxHeartbeats 8000000 in
theorem binomial_b (n : Nat) (hn : n ≤ 60) (k : Int) (v : Nat) (hv : Pl.chz n k = v) (w : World) :
    Calls Try.prog 49 #[.int .i64 n, .int .i64 k] w fun e w' => e = .returned (.int .i64 v) ∧ Below w.heap.size w w' := by
  have HV := Lib.hid hv
  clear hv
  obtain ⟨i0, hi, hz0, hz01, hz2⟩ := info_parts info3f
  have ho0 : (w.alloc (.cells #[.int .i64 1] 3)).ownsRow w.heap.size 3 1 (.slice (some ⟨w.heap.size, 0, none⟩) 1 1) 1 (flt irc (rwl 0 1)) := World.ownsRow_lit (e := 3) (size := 1) (base := w.heap.size) w #[.int .i64 1] 1 (Nat.le_refl _) (by unfold maxLen; omega) rfl
  have hB0 := (Below.refl w.heap.size w).alloc (Nat.le_refl _) (.cells #[.int .i64 1] 3)
  go_enter Try.func49, Try.ntmps49
  go_wp2
  go_loopw [5, 6, 7, 10] (fun vr _ _ j wr => ∃ q : Nat, q ≤ n ∧ j = .int .i64 q ∧ wr.ownsRow w.heap.size 3 1 vr (q + 1) (flt irc (rwl q (q + 1))) ∧ Below w.heap.size w wr) (fun _ _ _ j _ => n - (intOf j).toNat)
  case atStart => exact ⟨0, Nat.zero_le _, rfl, ho0, hB0⟩
  case round =>
    clear ho0 hB0
    obtain ⟨q, hq, rfl, hown, hB⟩ := hrel
    obtain ⟨wo, rfl⟩ : ∃ wo, wo = wr := ⟨_, rfl⟩
    by_cases hlt : q < n
    · have hltI : (q : Int) < (n : Int) := by omega
      obtain ⟨br, off, c, rfl, hbr, hcr⟩ := rwl_open hown (by omega)
      have HCR := Lib.hid hcr
      have ho1 : (wo.alloc (.cells #[.int .i64 1] 3)).ownsRow wo.heap.size 3 1 (.slice (some ⟨wo.heap.size, 0, none⟩) 1 1) 1 (flt irc (rwl (q + 1) 1)) := World.ownsRow_lit (e := 3) (size := 1) (base := wo.heap.size) wo #[.int .i64 1] 1 (Nat.le_refl _) (by unfold maxLen; omega) rfl
      have hB1 := (Below.refl wo.heap.size wo).alloc (Nat.le_refl _) (.cells #[.int .i64 1] 3)
      clear hown hcr
      obtain ⟨q1, hq1⟩ : ∃ q1, q + 1 = q1 := ⟨_, rfl⟩
      have HQ1 := Lib.hid hq1
      have hq60 : q1 ≤ 60 := by omega
      rw [hq1] at ho1 ⊢
      clear hq1
      go_wp2
      go_loopw [6, 7] (fun vn j wr => ∃ i : Nat, 1 ≤ i ∧ i ≤ q1 ∧ j = .int .i64 i ∧ wr.ownsRow wo.heap.size 3 1 vn i (flt irc (rwl q1 i)) ∧ Below wo.heap.size wo wr) (fun _ j _ => q1 - (intOf j).toNat)
      case atStart => exact ⟨1, by omega, by have := HQ1.out; omega, rfl, ho1, hB1⟩
      case round =>
        clear ho1 hB1
        obtain ⟨i, hi1, hiq, rfl, hown, hBi⟩ := hrel
        obtain ⟨wp, rfl⟩ : ∃ wp, wp = wr := ⟨_, rfl⟩
        by_cases hlt2 : i < q1
        · have hltI2 : (i : Int) < (q1 : Int) := by omega
          obtain ⟨p, hp⟩ : ∃ p, i = p + 1 := ⟨i - 1, by omega⟩
          have g1 : (0 : Int) ≤ (i : Int) - 1 := by omega
          have g2 : (i : Int) - 1 < (q1 : Int) := by omega
          have g3 : IntKind.i64.wrap ((i : Int) - 1) = (i : Int) - 1 := IntWalk.i64_in _ (by omega)
          have g4 : ((i : Int) - 1).toNat = p := by omega
          have g5 : (0 : Int) < (i : Int) := by omega
          have g6 : (1 : Int) ≤ (i : Int) := by omega
          have g7 : 0 < i := by omega
          have g8 : ¬ i = 0 := by omega
          have g10 : ¬ (i : Int) - 1 < 0 := by omega
          have g11 : ¬ (i : Int) < 1 := by omega
          have g12 : ¬ (q1 : Int) ≤ (i : Int) - 1 := by omega
          have g13 : i - 1 = p := by omega
          have c1' := HCR.out p (by have := HQ1.out; omega)
          have c2' := HCR.out i (by have := HQ1.out; omega)
          have HE : Hid (flt irc (rwl q1 (i + 1)) = flt irc (rwl q1 i) ++ irc (Pl.ch q p + Pl.ch q i)) := Lib.hid (by rw [rwl_succ, flt_append, flt_one, ← HQ1.out, hp, Pl.ch_ss])
          have b1 := Pl.ch_le (n := q) (by have := HQ1.out; omega) p
          have b2 := Pl.ch_le (n := q) (by have := HQ1.out; omega) i
          generalize Pl.ch q p = X at *
          generalize Pl.ch q i = Y at *
          obtain ⟨Z, hZ⟩ : ∃ Z, X + Y = Z := ⟨_, rfl⟩
          rw [hZ] at HE
          have k1 : IntKind.i64.wrap ((X : Int) + (Y : Int)) = (Z : Int) := by rw [IntWalk.i64_in _ (by omega)]; omega
          clear hZ b1 b2
          have hi60 : i ≤ 60 := by omega
          have HP := Lib.hid hp
          clear hp
          go_wp2
          refine Code.wp_mono (Q := fun e' a' w' => e' = .normal ∧ ∃ v' y19 y20 y21 y22 y23 y24 y25 y26 y27 y28 y29 y30, a' = { tmps := #[.int .i64 n, .int .i64 k, undef, undef, .int .i64 0, .slice (some ⟨br, off, none⟩) q1 c, v', .int .i64 i, .slice (some ⟨w.heap.size, 0, none⟩) 1 1, .int .i64 n, .int .i64 q, .bool true, .slice (some ⟨wo.heap.size, 0, none⟩) 1 1, .int .i64 i, .slice (some ⟨br, off, none⟩) q1 c, .int .i64 q1, .bool true, u17, u18, y19, y20, y21, y22, y23, y24, y25, y26, y27, y28, y29, y30, v', u32, u33, u34, u35, undef, undef, undef, undef, undef, undef, undef, undef, undef, undef, undef], defers := [] } ∧ w'.ownsRow wo.heap.size 3 1 v' (i + 1) (flt irc (rwl q1 (i + 1))) ∧ Below wo.heap.size wo w') ?goon ?region
          case region =>
            refine wp_region_held (S := fun W => Below wo.heap.size wo W) (by kernel_rfl) ?_
            change wpAnyH _ _ _ _ _ _ _ _ (World.drew _)
            have hBd := hBi.drew
            have hoW : wp.drew.ownsRow wo.heap.size 3 1 u6 i (flt irc (rwl q1 i)) := hown
            have hTp : ∀ W, Below wo.heap.size wo W → W.cell? ⟨br, off + p, none⟩ = some (.int .i64 X) := fun W hb => ((hb.cell (p := ⟨br, off + p, none⟩) hbr).trans c1')
            have hTi : ∀ W, Below wo.heap.size wo W → W.cell? ⟨br, off + i, none⟩ = some (.int .i64 Y) := fun W hb => ((hb.cell (p := ⟨br, off + i, none⟩) hbr).trans c2')
            clear c1' c2' hown hBi
            refine wpAnyH_take (i := 0) (v := ?_) rfl (by kernel_rfl) (by decide +kernel) (by decide +kernel) (fun _ _ _ h => by cases h.1) (Or.inl ⟨by rfl, ?_⟩) hBd ?_
            rotate_left
            · intro w' hS; first | (go_simp; done) | (go_simp; with_reducible rfl)
            refine wpAnyH_take (i := 1) (v := ?_) rfl (by kernel_rfl) (by decide +kernel) (by decide +kernel) (fun _ _ _ h => by cases h.1) (Or.inl ⟨by rfl, ?_⟩) hBd ?_
            rotate_left
            · intro w' hS; first | (go_simp; done) | (go_simp; with_reducible rfl)
            refine wpAnyH_take (i := 2) (v := ?_) rfl (by kernel_rfl) (by decide +kernel) (by decide +kernel) (fun _ _ _ h => by cases h.1) (Or.inl ⟨by rfl, ?_⟩) hBd ?_
            rotate_left
            · intro w' hS; first | (go_simp; done) | (go_simp; with_reducible rfl)
            refine wpAnyH_take (i := 3) (v := ?_) rfl (by kernel_rfl) (by decide +kernel) (by decide +kernel) (fun _ _ _ h => by cases h.1) (Or.inl ⟨by rfl, ?_⟩) hBd ?_
            rotate_left
            · intro w' hS; first | (go_simp; done) | (go_simp; with_reducible rfl)
            refine wpAnyH_take (i := 4) (v := ?_) rfl (by kernel_rfl) (by decide +kernel) (by decide +kernel) (fun _ _ _ h => by cases h.1) (Or.inl ⟨by rfl, ?_⟩) hBd ?_
            rotate_left
            · intro w' hS; first | (go_simp; done) | (go_simp; with_reducible rfl)
            refine wpAnyH_take (i := 5) (v := ?_) rfl (by kernel_rfl) (by decide +kernel) (by decide +kernel) (fun _ _ _ h => by cases h.1) (Or.inl ⟨by rfl, ?_⟩) hBd ?_
            rotate_left
            · intro w' hS; have q := hTp _ hS; first | (go_simp; done) | (go_simp; with_reducible rfl)
            refine wpAnyH_take (i := 6) (v := ?_) rfl (by kernel_rfl) (by decide +kernel) (by decide +kernel) (fun _ _ _ h => by cases h.1) (Or.inl ⟨by rfl, ?_⟩) hBd ?_
            rotate_left
            · intro w' hS; first | (go_simp; done) | (go_simp; with_reducible rfl)
            refine wpAnyH_take (i := 7) (v := ?_) rfl (by kernel_rfl) (by decide +kernel) (by decide +kernel) (fun _ _ _ h => by cases h.1) (Or.inl ⟨by rfl, ?_⟩) hBd ?_
            rotate_left
            · intro w' hS; first | (go_simp; done) | (go_simp; with_reducible rfl)
            refine wpAnyH_take (i := 8) (v := ?_) rfl (by kernel_rfl) (by decide +kernel) (by decide +kernel) (fun _ _ _ h => by cases h.1) (Or.inl ⟨by rfl, ?_⟩) hBd ?_
            rotate_left
            · intro w' hS; first | (go_simp; done) | (go_simp; with_reducible rfl)
            refine wpAnyH_take (i := 9) (v := ?_) rfl (by kernel_rfl) (by decide +kernel) (by decide +kernel) (fun _ _ _ h => by cases h.1) (Or.inl ⟨by rfl, ?_⟩) hBd ?_
            rotate_left
            · intro w' hS; have q := hTi _ hS; first | (go_simp; done) | (go_simp; with_reducible rfl)
            refine wpAnyH_take (i := 10) (v := ?_) rfl (by kernel_rfl) (by decide +kernel) (by decide +kernel) (fun _ _ _ h => by cases h.1) (Or.inl ⟨by rfl, ?_⟩) hBd ?_
            rotate_left
            · intro w' hS; first | (go_simp; done) | (go_simp; with_reducible rfl)
            clear hTp hTi
            have HOW := Lib.hid (hoW.alloc (.cells (irc Z).toArray 3))
            have hBA := hBd.alloc hBd.size (.cells (irc Z).toArray 3)
            obtain ⟨v', w9, hr, hown', hgrow, _⟩ := run_append_own (P := Try.prog) (wp.drew.alloc (.cells (irc Z).toArray 3)) wo.heap.size 33 33 3 i0 _ 1 8 Try.underlying33 hi hz0 hz01 hz2 rfl (by decide) _ _ _ HOW.out ⟨wp.drew.heap.size, 0, none⟩ 1 1 (irc Z) rfl (new_cells' _ _ _ rfl) (encIr.one Z) (by unfold maxLen; omega) (by omega) hBA.size
            have HR := Lib.hid hr
            have hB9 := hBA.grown hgrow hBA.size (fun s e => (hoW.lt s e).1)
            have hu6 : ∀ s, u6.ownBlock = some s → wo.heap.size ≤ s := fun s e => (hoW.lt s e).1
            clear hr hoW HOW hgrow
            refine wpAnyH_all (rs := [11]) (by decide +kernel) (by simp) ?_
            intro x hx
            obtain rfl := List.mem_singleton.1 hx
            refine wpOp_go' rfl rfl (fun K hK => ?_)
            go_simp
            refine hK _ _ ⟨hBA, ?_⟩
            clear hK K hx
            refine wpAnyH_all (rs := [12]) (by decide +kernel) (by simp) ?_
            intro x hx
            obtain rfl := List.mem_singleton.1 hx
            refine wpOp_go' rfl rfl (fun K hK => ?_)
            refine step_append_run (.tmp 19) (.tmp 30) 33 rfl _ _ _ rfl rfl HR.out (hK _ _ ⟨hB9, ?_⟩)
            clear hK K hx
            refine wpAnyH_all (rs := [13]) (by decide +kernel) (by simp) ?_
            intro x hx
            obtain rfl := List.mem_singleton.1 hx
            refine wpOp_go' rfl rfl (fun K hK => ?_)
            go_simp
            refine hK _ _ ⟨hB9, ?_⟩
            clear hK K hx
            refine wpAnyH_done (by decide +kernel) ?_ _
            refine ⟨rfl, _, _, _, _, _, _, _, _, _, _, _, _, _, rfl, ?_, hB9⟩
            rw [HE.out]
            exact hown'
          case goon =>
            rintro _ _ w9 ⟨rfl, v', y19, y20, y21, y22, y23, y24, y25, y26, y27, y28, y29, y30, rfl, hown', hB9⟩
            clear hown hBi c1' c2'
            go_wp2
            go_roundw
            case rel => exact ⟨i + 1, by omega, by omega, by go_num, hown', hB9⟩
            case measure => simp [intOf]; omega
        · obtain rfl : i = q1 := by omega
          have HOW := Lib.hid (hown.alloc (.cells (irc 1).toArray 3))
          have HE : Hid (flt irc (rwl i (i + 1)) = flt irc (rwl i i) ++ irc 1) := Lib.hid (by rw [rwl_succ, flt_append, flt_one, Pl.ch_self])
          go_wp2_with (at_builtin; refine wpList_append_own _ rfl _ _ 33 rfl wo.heap.size 3 i0 _ 1 8 Try.underlying33 hi hz0 hz01 hz2 rfl (by decide) _ _ _ rfl HOW.out ⟨wp.heap.size, 0, none⟩ 1 1 (irc 1) rfl rfl (new_cells' _ _ _ rfl) (encIr.one 1) (by unfold maxLen; omega) (by omega) (by have := hBi.size; simp; omega) ?_; intro v' w9 hown' hgrow _)
          have hB9 := (hBi.alloc hBi.size (.cells (irc 1).toArray 3)).grown hgrow (hBi.alloc hBi.size _).size (fun s e => (hown.lt s e).1)
          have hi2 := HQ1.out
          go_roundw
          case rel => exact ⟨i, by omega, by rw [← hi2]; go_num, by rw [HE.out]; exact own_mono hown' hB.size, hB.trans (hB9.mono hB.size)⟩
          case measure => simp [intOf]; omega
    · obtain rfl : q = n := by omega
      obtain ⟨br, off, c, rfl, hbr, hcr⟩ := rwl_open hown (by omega)
      have HCR := Lib.hid hcr
      clear hown hcr
      by_cases c1 : k < 0
      · have HZ : Hid (v = 0) := Lib.hid (by rw [← HV.out]; unfold Pl.chz; rw [if_pos c1])
        go_wp2
        go_ret
        exact ⟨by rw [HZ.out]; rfl, hB⟩
      · by_cases c2 : (q : Int) < k
        · have HZ : Hid (v = 0) := Lib.hid (by rw [← HV.out]; unfold Pl.chz; rw [if_neg c1]; exact Pl.ch_lt (by omega))
          go_wp2
          go_ret
          exact ⟨by rw [HZ.out]; rfl, hB⟩
        · obtain ⟨K, rfl⟩ : ∃ K : Nat, k = K := ⟨k.toNat, by omega⟩
          have hc := HCR.out K (by omega)
          rw [show Pl.ch q K = v from by rw [← HV.out, chz_nat]] at hc
          have hKI : (K : Int) < ((q + 1 : Nat) : Int) := by omega
          have hKI2 : (K : Int) < (q : Int) + 1 := by omega
          go_wp2
          go_ret
          exact ⟨rfl, hB⟩

set_option maxRecDepth 100000 in
set_option maxHeartbeats 2000000 in
theorem gcd_b (a b : Nat) (ha : a ≤ 118264581564861424) (hb : b ≤ 118264581564861424) (v : Nat) (hv : Nat.gcd a b = v) (w : World) :
    Calls Try.prog 63 #[.int .i64 a, .int .i64 b] w fun e w' => e = .returned (.int .i64 v) ∧ Below w.heap.size w w' := by
  have HV := Lib.hid hv
  clear hv
  go_enter Try.func63, Try.ntmps63
  go_wp2
  go_loopw [0, 1] (fun x y wr => ∃ c d : Nat, x = .int .i64 c ∧ y = .int .i64 d ∧ c ≤ 118264581564861424 ∧ d ≤ 118264581564861424 ∧ Hid (Nat.gcd c d = v) ∧ Below w.heap.size w wr) (fun _ y _ => (intOf y).toNat)
  case atStart => exact ⟨a, b, rfl, rfl, ha, hb, HV, Below.refl _ _⟩
  case round =>
    clear ha hb HV
    obtain ⟨c, d, rfl, rfl, hc, hd, hg, hB⟩ := hrel
    obtain ⟨wo, rfl⟩ : ∃ wo, wo = wr := ⟨_, rfl⟩
    by_cases hz : d = 0
    · subst hz
      have HG : Hid (c = v) := Lib.hid (by rw [← hg.out, Nat.gcd_zero_right])
      clear hg
      go_wp2
      go_ret
      exact ⟨by rw [← HG.out]; rfl, hB⟩
    · have hz1 : ¬ (d : Int) = 0 := by omega
      have hz2 : (0 : Int) < (d : Int) := by omega
      obtain ⟨r, hr⟩ : ∃ r, c % d = r := ⟨_, rfl⟩
      have hrd : r < d := by rw [← hr]; exact Nat.mod_lt _ (by omega)
      have HG : Hid (Nat.gcd d r = v) := Lib.hid (by rw [← hr, Pl.gcd_step]; exact hg.out)
      have k1 : (c : Int).tmod (d : Int) = (r : Int) := by rw [← hr]; rfl
      have k2 : IntKind.i64.wrap ((c : Int).tmod (d : Int)) = (r : Int) := by rw [k1]; exact IntWalk.i64_in _ (by omega)
      clear hg hr
      go_wp2
      refine wp_region_ext (by kernel_rfl) (by kernel_rfl) ?_
      repeat (go_big_quiet_step (fail))
      refine wpQuiet_nil ?_
      rintro _ ⟨s, rfl⟩
      have hw2 := hB.trans (s.h.mono hB.size)
      go_wp2
      go_roundw
      case rel => exact ⟨d, r, rfl, by first | rfl | rw [k1], hd, by omega, HG, hw2⟩
      case measure => simp [intOf]; omega
end Go.Proofs.Ytfkhlglagokodaa
