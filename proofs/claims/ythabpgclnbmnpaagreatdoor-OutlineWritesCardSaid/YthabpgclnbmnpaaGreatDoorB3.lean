import Derived.Test.YthabpgclnbmnpaaGreatDoorB2
namespace Go.Proofs.YthabpgclnbmnpaaGreatDoor
open Go.RowKit Go.Shelf
attribute [local go_sem] Oper.semAt_some

/-- the state of turnsLeft when these sides have come: the corner before; whether all turns were left -/
def tlSt (l : List Geo.XY) (pre : List Nat) : Geo.XY × Bool :=
  pre.foldl (fun s k => (Geo.X l k, s.2 && decide (0 < Geo.turn s.1 (Geo.X l k) (Geo.X l ((k + 1) % l.length))))) (Geo.X l (l.length - 1), true)
theorem tlSt_snoc (l : List Geo.XY) (pre : List Nat) (k : Nat) : tlSt l (pre ++ [k]) = (Geo.X l k, (tlSt l pre).2 && decide (0 < Geo.turn (tlSt l pre).1 (Geo.X l k) (Geo.X l ((k + 1) % l.length)))) := by
  unfold tlSt
  rw [List.foldl_append]
  rfl
theorem tlSt_fst (l : List Geo.XY) (k : Nat) (hn : 0 < l.length) (hk : k ≤ l.length) : (tlSt l (List.range k)).1 = Geo.At l (k + l.length - 1) := by
  cases k with
  | zero => simp [tlSt]; rw [Geo.At_lt l (by omega)]
  | succ k => rw [List.range_succ, tlSt_snoc, show k + 1 + l.length - 1 = k + l.length by omega, Geo.At_per, Geo.At_lt l (by omega)]
theorem tlSt_snd (l : List Geo.XY) (k : Nat) (hk : k ≤ l.length) : (tlSt l (List.range k)).2 = true ↔ ∀ i, i < k → 0 < Geo.turn (Geo.At l (i + l.length - 1)) (Geo.At l i) (Geo.At l (i + 1)) := by
  induction k with
  | zero => simp [tlSt]
  | succ k ih =>
    have hn : 0 < l.length := by omega
    rw [List.range_succ, tlSt_snoc, tlSt_fst l k hn (by omega)]
    simp only [Bool.and_eq_true, decide_eq_true_eq]
    rw [ih (by omega)]
    have e1 : Geo.At l k = Geo.X l k := Geo.At_lt l (by omega)
    have e2 : Geo.At l (k + 1) = Geo.X l ((k + 1) % l.length) := by rw [← Geo.At_mod, Geo.At_lt l (Nat.mod_lt _ hn)]
    constructor
    · rintro ⟨h1, h2⟩ i hi
      by_cases e : i = k
      · subst e; rw [e1, e2]; exact h2
      · exact h1 i (by omega)
    · intro h
      refine ⟨fun i hi => h i (by omega), ?_⟩
      have := h k (by omega)
      rw [e1, e2] at this
      exact this
theorem tlSt_stop (l : List Geo.XY) (k : Nat) (hk : k ≤ l.length) (h : (tlSt l (List.range k)).2 = false) : (tlSt l (List.range l.length)).2 = false := by
  cases hh : (tlSt l (List.range l.length)).2 with
  | false => rfl
  | true =>
    have h1 := (tlSt_snd l l.length (Nat.le_refl _)).1 hh
    have h2 := (tlSt_snd l k hk).2 (fun i hi => h1 i (by omega))
    rw [h] at h2
    cases h2

/-- In of whatever index -/
theorem in_all {l : List Geo.XY} (h : AllIn l) (k : Nat) : Geo.In (Geo.X l k) := by
  by_cases hk : k < l.length
  · exact h k hk
  · unfold Geo.X Geo.In; rw [List.getElem?_eq_none (by omega)]; simp

set_option maxRecDepth 100000 in
set_option maxHeartbeats 2000000 in
theorem turnsleft_in (b off cap : Nat) (l : List Geo.XY) (h3 : 3 ≤ l.length) (h64 : l.length ≤ 64) (hin : AllIn l) (w : World) (hb : b < w.heap.size)
    (hc : ∀ k, k < l.length → w.cell? ⟨b, off + k * 2, none⟩ = some (.int .i64 (Geo.X l k).1) ∧ w.cell? ⟨b, off + k * 2 + 1, none⟩ = some (.int .i64 (Geo.X l k).2)) :
    CallsIn Fence.wide 5 Tryz.prog 27 #[.slice (some ⟨b, off, none⟩) l.length cap] w fun e W' => e = .returned (.bool (tlSt l (List.range l.length)).2) ∧ Below w.heap.size w W' := by
  have HC := Lib.hid hc
  have HIN := Lib.hid hin
  clear hc hin
  have c1 : w.cell? ⟨b, off + (l.length - 1) * 2, none⟩ = some (.int .i64 (Geo.X l (l.length - 1)).1) := (HC.out _ (by omega)).1
  have c2 : w.cell? ⟨b, off + (l.length - 1) * 2 + 1, none⟩ = some (.int .i64 (Geo.X l (l.length - 1)).2) := (HC.out _ (by omega)).2
  refine callsIn_of_wp_marks Tryz.func27 rfl trivial ?_ rfl
  simp only [Tryz.ntmps27, List.size_toArray, List.length_cons, List.length_nil, Nat.reduceAdd, Nat.reduceSub, Array.replicate_succ, Array.replicate_zero, List.push_toArray, List.append_toArray, List.nil_append, List.cons_append]
  gi_wp2_with (refine ⟨trivial, ?_⟩; gi_at_call 42; refine (sides_any _ _ _ _ _).mono ?_; rintro e w' ⟨rfl, rfl⟩)
  clear c1 c2
  have bR := ((Blk.new w 4 #[.bool false]).alloc (.cells (xyA (Geo.X l (l.length - 1))) 42)).alloc (.cells #[.slice (some ⟨b, off, none⟩) l.length cap] 22)
  have bB := (Blk.new (w.alloc (.cells #[.bool false] 4)) 42 (xyA (Geo.X l (l.length - 1)))).alloc (.cells #[.slice (some ⟨b, off, none⟩) l.length cap] 22)
  have bO := Blk.new ((w.alloc (.cells #[.bool false] 4)).alloc (.cells (xyA (Geo.X l (l.length - 1))) 42)) 22 #[.slice (some ⟨b, off, none⟩) l.length cap]
  have hB0 : Below w.heap.size w (((w.alloc (.cells #[.bool false] 4)).alloc (.cells (xyA (Geo.X l (l.length - 1))) 42)).alloc (.cells #[.slice (some ⟨b, off, none⟩) l.length cap] 22)) := (((Below.refl _ w).alloc (Nat.le_refl _) _).alloc (by simp) _).alloc (by simp; omega) _
  have hsz : (((w.alloc (.cells #[.bool false] 4)).alloc (.cells (xyA (Geo.X l (l.length - 1))) 42)).alloc (.cells #[.slice (some ⟨b, off, none⟩) l.length cap] 22)).heap.size = w.heap.size + 3 := by simp
  simp only [World.size_alloc] at bR bB bO
  unfold xyA at bB bO bR hB0 hsz
  obtain ⟨W0, hW0⟩ : ∃ W0, ((w.alloc (.cells #[.bool false] 4)).alloc (.cells #[.int .i64 (Geo.X l (l.length - 1)).1, .int .i64 (Geo.X l (l.length - 1)).2] 42)).alloc (.cells #[.slice (some ⟨b, off, none⟩) l.length cap] 22) = W0 := ⟨_, rfl⟩
  rw [hW0] at bR bB bO hB0 hsz ⊢
  clear hW0
  refine wpIn_rangeFunc_ownH rfl (by omega) (gf := 61) (lb := #[.pointer (some ⟨w.heap.size + 1 + 1, 0, none⟩)]) rfl trivial (enters_of Tryz.func61 (by kernel_rfl) rfl)
    (sides_stops (5 - 1) (w.heap.size + 1 + 1) w.heap.size b off cap l (by omega) h64 W0 (by omega) (by omega) hb (bO.cell 0) (fun k hk => ⟨(hB0.cell (p := ⟨b, off + k * 2, none⟩) hb).trans (HC.out k hk).1, (hB0.cell (p := ⟨b, off + k * 2 + 1, none⟩) hb).trans (HC.out k hk).2⟩))
    KeepsO.trans (keepsO_b (by omega) (by omega)) (Below.refl _ _) (fun _ => rfl)
    (fun pre W => (((Blk W (w.heap.size + 1) 42 (xyA (tlSt l pre).1) ∧ Blk W w.heap.size 4 #[.bool false]) ∧ Blk W (w.heap.size + 1 + 1) 22 #[.slice (some ⟨b, off, none⟩) l.length cap]) ∧ (tlSt l pre).2 = true) ∧ Below w.heap.size w W)
    (fun c pre W => ((fun (_ : List Nat) W => Blk W w.heap.size 4 #[.bool false]) pre W ∧ (c = .ret ∧ (tlSt l pre).2 = false)) ∧ Below w.heap.size w W)
    (OwnFrom.and (OwnFrom.and (OwnFrom.and (OwnFrom.and (Own.from (blk_own _ _ _) _) (Own.from (blk_own _ _ _) _)) (Own.from (blk_own _ _ _) _)) (fun _ _ _ _ hs _ _ => hs)) (ownFrom_below (Nat.le_refl _) (by omega)))
    (fun c => OwnFrom.and (OwnFrom.and (Own.from (blk_own _ _ _) _) (fun _ _ _ _ hs _ _ => hs)) (ownFrom_below (Nat.le_refl _) (by omega)))
    ⟨⟨⟨⟨bB, bR⟩, bO⟩, rfl⟩, hB0⟩
    (fun x a' W => ∃ Ba, (Blk W Ba 42 (xyA (Geo.X l x)) ∧ Blk W (Ba + 1) 42 (xyA (Geo.X l ((x + 1) % l.length)))) ∧ w.heap.size + 1 + 1 < Ba ∧ a' = { tmps := #[.slice (some ⟨b, off, none⟩) l.length cap, undef, .pointer (some ⟨w.heap.size, 0, none⟩), .pointer (some ⟨w.heap.size + 1, 0, none⟩), .pointer (some ⟨Ba, 0, none⟩), .pointer (some ⟨Ba + 1, 0, none⟩), .slice (some ⟨b, off, none⟩) l.length cap, .slice (some ⟨b, off, none⟩) l.length cap, .int .i64 l.length, .int .i64 ((l.length : Int) - 1), .pointer (some ⟨b, off + (l.length - 1) * 2, none⟩), .agg #[.int .i64 (Geo.X l (l.length - 1)).1, .int .i64 (Geo.X l (l.length - 1)).2], .slice (some ⟨b, off, none⟩) l.length cap, .func (.func 61) #[] #[.pointer (some ⟨w.heap.size + 1 + 1, 0, none⟩)], .agg #[.int .i64 (Geo.X l x).1, .int .i64 (Geo.X l x).2], .agg #[.int .i64 (Geo.X l ((x + 1) % l.length)).1, .int .i64 (Geo.X l ((x + 1) % l.length)).2], undef, undef, undef, undef, undef, undef], defers := [] })
    (fun x a' _ X Y row hs hg hr => by obtain ⟨Ba, ⟨h1, h2⟩, h4⟩ := hs; exact ⟨Ba, ⟨blk_own Ba 42 (fun (_ : Unit) => xyA (Geo.X l x)) () X Y row h1 hg (fun r e => (hr r e).2), blk_own (Ba + 1) 42 (fun (_ : Unit) => xyA (Geo.X l ((x + 1) % l.length))) () X Y row h2 hg (fun r e => (hr r e).2)⟩, h4⟩)
    ?assign ?body ?done ?stop
  case assign =>
    rintro lp pre x W K ⟨⟨⟨⟨b1, b2⟩, b0⟩, ht⟩, hB1⟩ hK
    have HT := Lib.hid ht
    clear ht
    have hsW := hB1.size
    have hl1 := b0.lt
    dsimp only [sideEnc]
    gi_wp2
    refine hK _ _ (((KeepsOthers.alloc _ _).trans (KeepsOthers.alloc _ _)).from _) (((KeepsO.refl _ _ W).alloc hsW (by omega) _).alloc (by simp; omega) (by simp; omega) _) ⟨⟨⟨⟨(b1.alloc _).alloc _, (b2.alloc _).alloc _⟩, (b0.alloc _).alloc _⟩, HT.out⟩, (hB1.alloc hsW _).alloc (by simp; omega) _⟩ ⟨W.heap.size, ⟨(Blk.new W 42 _).alloc _, ?_⟩, ?_, rfl⟩
    · have := Blk.new (W.alloc (.cells #[.int .i64 (Geo.X l x).1, .int .i64 (Geo.X l x).2] 42)) 42 (xyA (Geo.X l ((x + 1) % l.length)))
      rwa [World.size_alloc] at this
    · exact hl1
  case body =>
    rintro lp pre x a' W hlp ⟨r, hr⟩ ⟨⟨⟨⟨b1, b2⟩, b0⟩, ht⟩, hB1⟩ ⟨Ba, ⟨b3, b4⟩, hBa, rfl⟩ hlt
    have HT := Lib.hid ht
    clear ht
    obtain ⟨a1, a2, a3, a4⟩ := in_all HIN.out x
    obtain ⟨a5, a6, a7, a8⟩ := in_all HIN.out ((x + 1) % l.length)
    obtain ⟨a9, a10, a11, a12⟩ : Geo.In (tlSt l pre).1 := by
      rcases List.eq_nil_or_concat pre with h | ⟨p, k, h⟩
      · rw [h]; exact in_all HIN.out _
      · rw [h, List.concat_eq_append, tlSt_snoc]; exact in_all HIN.out _
    have hsn := tlSt_snoc l pre x
    have HS := Lib.hid hsn
    clear hsn
    have d1 := b1.cell 0
    have d2 := b1.cell 1
    have d3 := b3.cell 0
    have d4 := b3.cell 1
    have d5 := b4.cell 0
    have d6 := b4.cell 1
    simp only [xyA, List.getElem?_toArray, List.getElem?_cons_zero, List.getElem?_cons_succ] at d1 d2 d3 d4 d5 d6
    generalize hS1 : (tlSt l pre).1 = s1 at *
    generalize hX1 : Geo.X l x = x1 at *
    generalize hX2 : Geo.X l ((x + 1) % l.length) = x2 at *
    clear hS1 hX1 hX2
    have hl1 := b1.lt
    have hl2 := b2.lt
    have hl3 := b3.lt
    have hl4 := b4.lt
    have hl0 := b0.lt
    gi_wp2_with (refine ⟨trivial, ?_⟩; gi_at_call 49; refine (CallsIn.inRound lp (callsIn_wide.2 (turn_any _ _ _ _ _ _ (by omega) (by omega) (by omega) (by omega) (by omega) (by omega) (by omega) (by omega) (by omega) (by omega) (by omega) (by omega) _))).mono ?_; rintro e w' ⟨rfl, hb'⟩; have q1 := (b2.below hb' hl2).cell 0; have q2 := (b2.below hb' hl2).frozen 0; have q3 := (b3.below hb' hl3).cell 0; have q4 := (b3.below hb' hl3).cell 1; have q5 := (b1.below hb' hl1).cell 0; have q6 := (b1.below hb' hl1).cell 1; have q7 := (b1.below hb' hl1).frozen 0; have q8 := (b1.below hb' hl1).frozen 1; simp only [xyA, List.getElem?_toArray, List.getElem?_cons_zero, List.getElem?_cons_succ] at q1 q3 q4 q5 q6)
    · have hle : (x1.1 - s1.1) * (x2.2 - x1.2) - (x1.2 - s1.2) * (x2.1 - x1.1) ≤ 0 := by assumption
      refine ⟨(keepsFrom_below hb').trans ((KeepsOthers.setCell _ _ _).from _), ⟨(b2.below hb' hl2).set_ 0 _, rfl, ?_⟩, (hB1.trans (hb'.mono hB1.size)).setCell (p := ⟨w.heap.size, 0, none⟩) (Nat.le_refl _) _⟩
      rw [HS.out, HT.out]
      simp only [Bool.true_and, decide_eq_false_iff_not]
      unfold Geo.turn Geo.cr Geo.sub
      simp only
      omega
    · have hgt : ¬ (x1.1 - s1.1) * (x2.2 - x1.2) - (x1.2 - s1.2) * (x2.1 - x1.1) ≤ 0 := by omega
      have hst : tlSt l (pre ++ [x]) = (x1, true) := by
        rw [HS.out, HT.out]
        simp only [Bool.true_and, Prod.mk.injEq, true_and, decide_eq_true_eq]
        unfold Geo.turn Geo.cr Geo.sub
        simp only
        omega
      refine ⟨?_, ?_, ⟨⟨⟨?_, ?_⟩, ?_⟩, ?_⟩, ?_⟩
      · exact (keepsFrom_below hb').trans (((KeepsOthers.setCell _ _ _).trans (KeepsOthers.setCell _ _ _)).from _)
      · refine ⟨((hb'.mono hB1.size).setCell (p := ⟨w.heap.size + 1, 0, none⟩) (by simp) _).setCell (p := ⟨w.heap.size + 1, 1, none⟩) (by simp) _, ?_⟩
        exact (((b0.below hb' hl0).far (p := ⟨w.heap.size + 1, 0, none⟩) (by simp) _).far (p := ⟨w.heap.size + 1, 1, none⟩) (by simp) _).trans b0.symm
      · rw [hst]
        exact ((b1.below hb' hl1).set_ 0 _).set_ 1 _
      · exact ((b2.below hb' hl2).far (p := ⟨w.heap.size + 1, 0, none⟩) (by simp) _).far (p := ⟨w.heap.size + 1, 1, none⟩) (by simp) _
      · exact ((b0.below hb' hl0).far (p := ⟨w.heap.size + 1, 0, none⟩) (by simp) _).far (p := ⟨w.heap.size + 1, 1, none⟩) (by simp) _
      · rw [hst]
      · exact ((hB1.trans (hb'.mono hB1.size)).setCell (p := ⟨w.heap.size + 1, 0, none⟩) (by simp) _).setCell (p := ⟨w.heap.size + 1, 1, none⟩) (by simp) _
  case done =>
    rintro D ys W hD rfl ⟨⟨⟨⟨b1, b2⟩, b0⟩, ht⟩, hB1⟩ hK
    have HT := Lib.hid ht
    clear ht
    have q1 := b2.cell 0
    have q2 := b2.frozen 0
    simp only [List.getElem?_toArray, List.getElem?_cons_zero] at q1
    gi_wp2
    have hK' := (KeepsOthers.setCell W ⟨w.heap.size, 0, none⟩ (.bool true)).same D _ hK rfl
    refine ⟨by simp, .inl ⟨_, _, rfl, run_takeDeferred hK', ?_⟩⟩
    have hc5 := cell_kept (World.cell?_setCell_same' W ⟨w.heap.size, 0, none⟩ (.bool true) (by rw [q1]; rfl)) (grownBy_putObj' _ D (.deferred none)) (fun r e => by cases e; exact ⟨_, hK', rfl⟩)
    refine ⟨.bool true, ?_, by rw [HT.out], (hB1.setCell (p := ⟨w.heap.size, 0, none⟩) (Nat.le_refl _) _).trans (belowK_b (w := w) (Nat.le_refl _) _ D _ _ (by omega) hK' rfl rfl)⟩
    simp [results, Tryz.f27, go_sem, hc5]
  case stop =>
    rintro D c pre W hD ⟨k, hk, rfl⟩ ⟨⟨b2, rfl, ht⟩, hB1⟩ hK
    have HT := Lib.hid (tlSt_stop l k hk ht)
    clear ht
    have q1 := b2.cell 0
    simp only [List.getElem?_toArray, List.getElem?_cons_zero] at q1
    gi_wp2
    refine ⟨by simp, .inl ⟨_, _, rfl, run_takeDeferred hK, ?_⟩⟩
    have hc5 := cell_kept q1 (grownBy_putObj' _ D (.deferred none)) (fun r e => by cases e; exact ⟨_, hK, rfl⟩)
    refine ⟨.bool false, ?_, by rw [HT.out], hB1.trans (belowK_b (w := w) (Nat.le_refl _) _ D _ _ (by omega) hK rfl rfl)⟩
    simp [results, Tryz.f27, go_sem, hc5]
end Go.Proofs.YthabpgclnbmnpaaGreatDoor
