/- The union of sets: union; isOpen. -/
import Derived.Test.YtghbipipehglfaaDoorC2
import Derived.Test.YtghbipipehglfaaDoorA13
namespace Go.Proofs.YtghbipipehglfaaDoor
open Go.RowKit Go.Shelf
attribute [local go_sem] Oper.semAt_some

theorem StA.frm {n₀ B : Nat} {W W' : World} {g n : Nat} {f : Nat → Nat} (h : StA W g n f) (hF : Frm n₀ B W W') (h1 : g < n₀) (h2 : g ≠ B) : StA W' g n f := by
  obtain ⟨arr, b1, b2, b3⟩ := h
  exact ⟨arr, (hF.block g h1 h2).trans b1, b2, b3⟩

/-- the walk through a set of indexes less than m -/
theorem indexes_fin (n : Nat) (hn : 2 ≤ n) (Bs n₀ B s m : Nat) (hm : m ≤ 40) (hs : s < 2 ^ m) (w : World) (hBs : Bs < n₀) (hBB : Bs ≠ B) (hB0 : 0 ≠ B) (hn0 : 0 < n₀) (hn₀ : n₀ ≤ w.heap.size) (hT : Tab w)
    (hc : w.cell? ⟨Bs, 0, none⟩ = some (.int .u64 s)) :
    SeqStopsK Fence.wide n Tryd.prog 90 #[.pointer (some ⟨Bs, 0, none⟩)] (fun x : Fin m => #[Value.int .i64 (x.val : Int)]) (Frm n₀ B) (fun ys => ys.map (·.val) = Pl.els s 64) (fun _ => True) (Pl.els s 64).length w := fun l J Jx W hW _ _ hY h0 => by
  have hs40 : s < 2 ^ 40 := Nat.lt_of_lt_of_le hs (Nat.pow_le_pow_right (by omega) hm)
  refine (indexes1_in n hn l Bs n₀ B s hs40 hBs hBB hn0 hB0 (fun pre W => ∃ fp : List (Fin m), fp.map (·.val) = pre ∧ J fp W) (fun pre W => ∃ fp : List (Fin m), fp.map (·.val) = pre ∧ Jx fp W) (fun x W1 hx hJ => ?_) W (hT.below hW) ((hW.cell (p := ⟨Bs, 0, none⟩) (Nat.lt_of_lt_of_le hBs hn₀)).trans hc) ⟨[], rfl, h0⟩).mono ?_
  · obtain ⟨fp, hfp, hJ⟩ := hJ
    have hlen : fp.length < (Pl.els s 64).length := by
      have := congrArg List.length hfp
      rw [List.length_map] at this
      rw [this]; exact els_len_lt hs40 (by omega) hx
    obtain ⟨fn, tmps, assign, body, hy, hR⟩ := hY fp ⟨x, bit_lt hs hx⟩ W1 hJ hlen
    refine ⟨fn, tmps, assign, body, hy, hR.mono ?_⟩
    rintro e W3 (⟨rfl, hJ3, hk3⟩ | ⟨rfl, hJx3⟩)
    · exact .inl ⟨rfl, ⟨_, by rw [List.map_append, hfp]; rfl, hJ3⟩, hk3⟩
    · exact .inr ⟨rfl, ⟨_, by rw [List.map_append, hfp]; rfl, hJx3⟩⟩
  · rintro e W' ⟨he, ⟨ys, rfl, fp, hfp, hj⟩ | ⟨pre, _, fp, _, hj⟩⟩
    · exact ⟨he, .inl ⟨fp, hfp, hj⟩⟩
    · exact ⟨he, .inr ⟨fp, trivial, hj⟩⟩

theorem or_nat {a b : Nat} (ha : a < 2 ^ 40) (hb : b < 2 ^ 40) : bits BinOp.or IntKind.u64 (a : Int) (b : Int) = ((a ||| b : Nat) : Int) := bits_or_u64_nat a b (by omega) (by omega)
theorem unl_40 {F : Nat → Nat} (hF : ∀ q, F q < 2 ^ 40) (l : List Nat) : Pl.unl F l < 2 ^ 40 := Pl.unl_lt fun i _ => hF i

set_option maxRecDepth 100000 in
set_option maxHeartbeats 4000000 in
theorem union_in (g n c m : Nat) (F : Nat → Nat) (hn : n ≤ 40) (hm : m < 2 ^ n) (hF40 : ∀ q, F q < 2 ^ 40) (w : World) (hT : Tab w) (hst : StA w g n F) :
    CallsIn Fence.wide 6 Tryd.prog 53 #[.slice (some ⟨g, 0, none⟩) n c, .int .u64 m] w fun e w' => e = .returned (.int .u64 (Pl.unl F (Pl.els m 64) : Nat)) ∧ Below w.heap.size w w' := by
  have hB1 : Below w.heap.size w (w.alloc (.cells #[.slice (some ⟨g, 0, none⟩) n c] 58)) := (Below.refl _ w).alloc (Nat.le_refl _) _
  have hB2 := hB1.alloc hB1.size (.cells #[.int .u64 0] 62)
  have hB3 := hB2.alloc hB2.size (.cells #[.int .u64 m] 62)
  have hf1 : Fence.wide.fn 75 := trivial
  have bF := ((Boxed.new w 58 (.slice (some ⟨g, 0, none⟩) n c)).alloc (.cells #[.int .u64 0] 62)).alloc (.cells #[.int .u64 m] 62)
  have bU := (Boxed.new (w.alloc (.cells #[.slice (some ⟨g, 0, none⟩) n c] 58)) 62 (.int .u64 0)).alloc (.cells #[.int .u64 m] 62)
  have bM := Boxed.new ((w.alloc (.cells #[.slice (some ⟨g, 0, none⟩) n c] 58)).alloc (.cells #[.int .u64 0] 62)) 62 (.int .u64 m)
  have hT3 := hT.below hB3
  have hs3 := hst.below hB3 hst.lt
  have hgl := hst.lt
  have hT0 := hT.1
  simp only [World.size_alloc] at bU bM
  refine callsIn_of_wp_marks Tryd.func53 rfl trivial ?_ rfl
  simp only [Tryd.ntmps53, List.size_toArray, List.length_cons, List.length_nil, Nat.reduceAdd, Nat.reduceSub, Array.replicate_succ, Array.replicate_zero, List.push_toArray, List.append_toArray, List.nil_append, List.cons_append]
  gi_wp2_with (gi_at_call 75; refine (indexes_in _ _ _).mono ?_; rintro e w' ⟨rfl, rfl⟩)
  have hsz : (((w.alloc (.cells #[.slice (some ⟨g, 0, none⟩) n c] 58)).alloc (.cells #[.int .u64 0] 62)).alloc (.cells #[.int .u64 m] 62)).heap.size = w.heap.size + 1 + 1 + 1 := by simp
  obtain ⟨W0, hW0⟩ : ∃ W0, ((w.alloc (.cells #[.slice (some ⟨g, 0, none⟩) n c] 58)).alloc (.cells #[.int .u64 0] 62)).alloc (.cells #[.int .u64 m] 62) = W0 := ⟨_, rfl⟩
  rw [hW0] at bF bU bM hT3 hs3 hsz hB3 ⊢
  clear hW0 hB1 hB2 hst
  have hH40 := Lib.hid hF40
  clear hF40
  refine wpIn_rangeFunc_ownG rfl (by omega) (gf := 90) (lb := #[.pointer (some ⟨w.heap.size + 1 + 1, 0, none⟩)]) rfl trivial (enters_of Tryd.func90 (by kernel_rfl) rfl)
    (indexes_fin (6 - 1) (by omega) (w.heap.size + 1 + 1) W0.heap.size (w.heap.size + 1) m n hn hm W0 (by omega) (by omega) (by omega) (by omega) (Nat.le_refl _) hT3 bM.cell)
    Frm.trans (frm_b (Nat.le_refl _)) (Below.refl _ _) (fun _ => rfl)
    (fun pre W => Boxed W (w.heap.size + 1) 62 (.int .u64 (Pl.unl F (pre.map (·.val)) : Nat)) ∧ Frm W0.heap.size (w.heap.size + 1) W0 W)
    (fun _ _ _ => False)
    (OwnFrom.and (Own.from (blk_own (w.heap.size + 1) 62 (fun pre : List (Fin n) => #[.int .u64 (Pl.unl F (pre.map (·.val)) : Nat)])) _) (ownFrom_frm (Nat.le_refl _) (Nat.le_refl _)))
    (fun _ _ _ _ _ hs _ _ => hs)
    ⟨bU, Frm.refl _ _ _⟩
    (fun i => { tmps := #[.slice (some ⟨g, 0, none⟩) n c, .int .u64 m, .pointer (some ⟨w.heap.size, 0, none⟩), undef, .int .u64 0, .pointer (some ⟨w.heap.size + 1, 0, none⟩), .int .i64 (i.val : Int), .int .u64 m, .func (.func 90) #[] #[.pointer (some ⟨w.heap.size + 1 + 1, 0, none⟩)], .int .i64 (i.val : Int), undef, undef, undef, undef, undef, undef, undef], defers := [] }) ?assign ?body ?done ?stop
  case assign =>
    intro l i W K hK
    gi_wp2
    exact hK
  case body =>
    rintro l pre i W ⟨hv, hF⟩ hlt
    obtain ⟨x, hx⟩ := i
    dsimp only
    have HU := Lib.hid (Pl.unl_snoc F (pre.map (·.val)) x)
    have hOR := or_nat (unl_40 hH40.out (pre.map (·.val))) (hH40.out x)
    have hc := hv.cell
    have hf := hv.frozen
    have hcf : W.cell? ⟨w.heap.size, 0, none⟩ = some (.slice (some ⟨g, 0, none⟩) n c) := (hF.cell (p := ⟨w.heap.size, 0, none⟩) (by simp; omega) (by simp)).trans bF.cell
    have hs := hs3.frm hF (by omega) (by omega)
    have hcx : W.cell? ⟨g, x, none⟩ = some (.int .u64 (F x : Nat)) := hs.cell hx
    generalize hA : Pl.unl F (pre.map (·.val)) = a at *
    clear hA
    generalize hB : F x = b at *
    clear hB
    gi_wp2
    gi_region
    all_goals
      have hF2 : Frm W0.heap.size (w.heap.size + 1) W (W.setCell ⟨w.heap.size + 1, 0, none⟩ (.int .u64 ((a ||| b : Nat) : Int))).drew := .of_only (Only.setCell (w.heap.size + 1) W 0 _).drew
      exact ⟨((KeepsOthers.setCell W _ _).trans (KeepsOthers.drew _)).from _, hF2, by rw [List.map_append, List.map_singleton, HU.out]; exact hv.set _, hF.trans hF2⟩
  case done =>
    rintro D ys W hD hys ⟨hv, hF⟩ hK
    rw [hys] at hv
    have hc := hv.cell
    gi_wp2
    refine ⟨by simp, .inl ⟨_, _, rfl, run_takeDeferred hK, ?_⟩⟩
    exact ⟨_, results_tmp rfl _ _ _, rfl, (hB3.trans (hF.below (by omega) (by omega))).trans (belowK_b (w := w) (Nat.le_refl _) W D _ _ (by omega) hK rfl rfl)⟩
  case stop =>
    rintro D c pre W _ _ h _
    exact h.elim

theorem union_any (g n c m : Nat) (F : Nat → Nat) (hn : n ≤ 40) (hm : m < 2 ^ n) (hF40 : ∀ q, F q < 2 ^ 40) (w : World) (hT : Tab w) (hst : StA w g n F) :
    Calls Tryd.prog 53 #[.slice (some ⟨g, 0, none⟩) n c, .int .u64 m] w fun e w' => e = .returned (.int .u64 (Pl.unl F (Pl.els m 64) : Nat)) ∧ Below w.heap.size w w' :=
  (callsIn_wide (n := 6)).1 (union_in g n c m F hn hm hF40 w hT hst)

theorem els_first (n : Nat) (hn : n ≤ 64) : Pl.els (2 ^ n - 1) 64 = List.range n := by
  rw [Pl.els_lt (n := n) (by have := Nat.two_pow_pos n; omega) hn, Pl.els_full]

set_option maxRecDepth 100000 in
set_option maxHeartbeats 1000000 in
/-- isOpen: not all heads are covered by all sizes -/
theorem isopen_any (g : Nat) (ss : List Pl.Sz) (hs : List Pl.Hd) (F : Nat → Nat) (c d : Nat) (B : Option Addr) (hn : ss.length ≤ 40) (hh : hs.length ≤ 40) (hF : Pl.IsF ss hs F) (w : World) (hT : Tab w) (hst : StA w g ss.length F) :
    Calls Tryd.prog 60 #[.slice (some ⟨g, 0, none⟩) ss.length c, .slice B hs.length d] w fun e w' => e = .returned (.bool (!Pl.cv ss hs (List.range ss.length))) ∧ Below w.heap.size w w' := by
  have hF40 : ∀ q, F q < 2 ^ 40 := fun q => Nat.lt_of_lt_of_le (hF.lt q) (Nat.pow_le_pow_right (by omega) hh)
  have H1 := Lib.hid (union_any g ss.length c (2 ^ ss.length - 1) F hn (by have := Nat.two_pow_pos ss.length; omega) hF40 w hT hst)
  have HC := hF.cover (List.range ss.length)
  have HO1 := Lib.hid (fun w => first_any ss.length (by omega) w)
  have HO2 := Lib.hid (fun w => first_any hs.length (by omega) w)
  rw [els_first _ (by omega)] at H1
  have hU := hF.unl (List.range ss.length)
  have hb : (((Pl.unl F (List.range ss.length) : Nat) : Int) != ((2 ^ hs.length - 1 : Nat) : Int)) = !Pl.cv ss hs (List.range ss.length) := by
    rw [Bool.eq_iff_iff, bne_iff_ne, Bool.not_eq_true', ← Bool.not_eq_true, ← HC]
    omega
  clear HC hU hF hF40 hst
  generalize Pl.cv ss hs (List.range ss.length) = C at *
  generalize Pl.unl F (List.range ss.length) = U at *
  generalize 2 ^ hs.length - 1 = H at *
  generalize 2 ^ ss.length - 1 = M at *
  go_enter Tryd.func60, Tryd.ntmps60
  go_wp2_with (first | (go_at_call 54; refine (HO1.out _).mono ?_; rintro e w' ⟨rfl, hw'⟩; obtain rfl : w = w' := hw'.symm) | (go_at_call 53; refine H1.out.mono ?_; rintro e w1 ⟨rfl, hb1⟩; have HO1 := (True.intro)) | (go_at_call 54; refine (HO2.out _).mono ?_; rintro e w' ⟨rfl, hw'⟩; obtain rfl : w1 = w' := hw'.symm))
  go_ret
  exact ⟨rfl, hb1⟩
end Go.Proofs.YtghbipipehglfaaDoor
