import Derived.Test.YtflkhjicgojcbaaH2
namespace Go.Proofs.Ytflkhjicgojcbaa
open Go.RowKit Go.Shelf
attribute [local go_sem] Oper.semAt_some

/-- whether the first sides hold p -/
def hdSt (l : List Geo.XY) (p : Geo.XY) (pre : List Nat) : Bool := pre.foldl (fun s k => s && decide (0 ≤ Geo.turn (Geo.X l k) (Geo.X l ((k + 1) % l.length)) p)) true
theorem hdSt_snoc (l : List Geo.XY) (p : Geo.XY) (pre : List Nat) (k : Nat) : hdSt l p (pre ++ [k]) = (hdSt l p pre && decide (0 ≤ Geo.turn (Geo.X l k) (Geo.X l ((k + 1) % l.length)) p)) := by
  unfold hdSt; rw [List.foldl_append]; rfl
theorem hdSt_iff (l : List Geo.XY) (p : Geo.XY) (k : Nat) : hdSt l p (List.range k) = true ↔ ∀ i, i < k → 0 ≤ Geo.Cross (Geo.X l i) (Geo.X l ((i + 1) % l.length)) p := by
  induction k with
  | zero => simp [hdSt]
  | succ k ih =>
    rw [List.range_succ, hdSt_snoc, Bool.and_eq_true, ih, decide_eq_true_eq, Geo.turn_eq]
    constructor
    · rintro ⟨h1, h2⟩ i hi
      by_cases e : i = k
      · subst e; exact h2
      · exact h1 i (by omega)
    · intro h
      exact ⟨fun i hi => h i (by omega), h k (by omega)⟩
theorem hdSt_all (l : List Geo.XY) (p : Geo.XY) : hdSt l p (List.range l.length) = holdB l p := by
  rw [Bool.eq_iff_iff, hdSt_iff]
  unfold holdB
  rw [decide_eq_true_eq]
  rfl
theorem hdSt_stop (l : List Geo.XY) (p : Geo.XY) (k : Nat) (hk : k ≤ l.length) (h : hdSt l p (List.range k) = false) : holdB l p = false := by
  rw [← hdSt_all]
  cases hh : hdSt l p (List.range l.length) with
  | false => rfl
  | true =>
    have h1 := (hdSt_iff l p l.length).1 hh
    have h2 := (hdSt_iff l p k).2 (fun i hi => h1 i (by omega))
    rw [h] at h2
    cases h2

set_option maxRecDepth 100000 in
set_option maxHeartbeats 2000000 in
theorem holds_in (b off cap : Nat) (l : List Geo.XY) (p : Geo.XY) (h3 : 3 ≤ l.length) (h64 : l.length ≤ 64) (hin : AllIn l) (p1 : -100000 ≤ p.1) (p2 : p.1 ≤ 100000) (p3 : -100000 ≤ p.2) (p4 : p.2 ≤ 100000) (w : World) (hb : b < w.heap.size)
    (hc : ∀ k, k < l.length → w.cell? ⟨b, off + k * 2, none⟩ = some (.int .i64 (Geo.X l k).1) ∧ w.cell? ⟨b, off + k * 2 + 1, none⟩ = some (.int .i64 (Geo.X l k).2)) :
    CallsIn Fence.wide 5 Try.prog 82 #[.slice (some ⟨b, off, none⟩) l.length cap, .agg #[.int .i64 p.1, .int .i64 p.2]] w fun e W' => e = .returned (.bool (holdB l p)) ∧ Below w.heap.size w W' := by
  have HC := Lib.hid hc
  have HIN := Lib.hid hin
  clear hc hin
  refine callsIn_of_wp_marks Try.func82 rfl trivial ?_ rfl
  simp only [Try.ntmps82, List.size_toArray, List.length_cons, List.length_nil, Nat.reduceAdd, Nat.reduceSub, Array.replicate_succ, Array.replicate_zero, List.push_toArray, List.append_toArray, List.nil_append, List.cons_append]
  gi_wp2_with (refine ⟨trivial, ?_⟩; gi_at_call 71; refine (sides_any _ _ _ _ _).mono ?_; rintro e w' ⟨rfl, rfl⟩)
  have bP := ((Blk.new w 38 #[.int .i64 p.1, .int .i64 p.2]).alloc (.cells #[.bool false] 4)).alloc (.cells #[.slice (some ⟨b, off, none⟩) l.length cap] 22)
  have bR := (Blk.new (w.alloc (.cells #[.int .i64 p.1, .int .i64 p.2] 38)) 4 #[.bool false]).alloc (.cells #[.slice (some ⟨b, off, none⟩) l.length cap] 22)
  have bO := Blk.new ((w.alloc (.cells #[.int .i64 p.1, .int .i64 p.2] 38)).alloc (.cells #[.bool false] 4)) 22 #[.slice (some ⟨b, off, none⟩) l.length cap]
  have hB0 : Below w.heap.size w (((w.alloc (.cells #[.int .i64 p.1, .int .i64 p.2] 38)).alloc (.cells #[.bool false] 4)).alloc (.cells #[.slice (some ⟨b, off, none⟩) l.length cap] 22)) := (((Below.refl _ w).alloc (Nat.le_refl _) _).alloc (by simp) _).alloc (by simp; omega) _
  have hsz : (((w.alloc (.cells #[.int .i64 p.1, .int .i64 p.2] 38)).alloc (.cells #[.bool false] 4)).alloc (.cells #[.slice (some ⟨b, off, none⟩) l.length cap] 22)).heap.size = w.heap.size + 3 := by simp
  simp only [World.size_alloc] at bR bP bO
  obtain ⟨W0, hW0⟩ : ∃ W0, ((w.alloc (.cells #[.int .i64 p.1, .int .i64 p.2] 38)).alloc (.cells #[.bool false] 4)).alloc (.cells #[.slice (some ⟨b, off, none⟩) l.length cap] 22) = W0 := ⟨_, rfl⟩
  rw [hW0] at bR bP bO hB0 hsz ⊢
  clear hW0
  refine wpIn_rangeFunc_ownH rfl (by omega) (gf := 102) (lb := #[.pointer (some ⟨w.heap.size + 1 + 1, 0, none⟩)]) rfl trivial (enters_of Try.func102 (by kernel_rfl) rfl)
    (sides_stops (5 - 1) (w.heap.size + 1 + 1) w.heap.size b off cap l (by omega) h64 W0 (by omega) (by omega) hb (bO.cell 0) (fun k hk => ⟨(hB0.cell (p := ⟨b, off + k * 2, none⟩) hb).trans (HC.out k hk).1, (hB0.cell (p := ⟨b, off + k * 2 + 1, none⟩) hb).trans (HC.out k hk).2⟩))
    KeepsO.trans (keepsO_b (by omega) (by omega)) (Below.refl _ _) (fun _ => rfl)
    (fun pre W => (((Blk W w.heap.size 38 #[.int .i64 p.1, .int .i64 p.2] ∧ Blk W (w.heap.size + 1) 4 #[.bool false]) ∧ Blk W (w.heap.size + 1 + 1) 22 #[.slice (some ⟨b, off, none⟩) l.length cap]) ∧ hdSt l p pre = true) ∧ Below w.heap.size w W)
    (fun c pre W => ((fun (_ : List Nat) W => Blk W (w.heap.size + 1) 4 #[.bool false]) pre W ∧ (c = .ret ∧ hdSt l p pre = false)) ∧ Below w.heap.size w W)
    (OwnFrom.and (OwnFrom.and (OwnFrom.and (OwnFrom.and (Own.from (blk_own _ _ _) _) (Own.from (blk_own _ _ _) _)) (Own.from (blk_own _ _ _) _)) (fun _ _ _ _ hs _ _ => hs)) (ownFrom_below (Nat.le_refl _) (by omega)))
    (fun c => OwnFrom.and (OwnFrom.and (Own.from (blk_own _ _ _) _) (fun _ _ _ _ hs _ _ => hs)) (ownFrom_below (Nat.le_refl _) (by omega)))
    ⟨⟨⟨⟨bP, bR⟩, bO⟩, rfl⟩, hB0⟩
    (fun x a' W => ∃ Ba, (Blk W Ba 38 (xyA (Geo.X l x)) ∧ Blk W (Ba + 1) 38 (xyA (Geo.X l ((x + 1) % l.length)))) ∧ w.heap.size + 1 + 1 < Ba ∧ a' = { tmps := #[.slice (some ⟨b, off, none⟩) l.length cap, .agg #[.int .i64 p.1, .int .i64 p.2], undef, .pointer (some ⟨w.heap.size, 0, none⟩), .pointer (some ⟨w.heap.size + 1, 0, none⟩), .pointer (some ⟨Ba, 0, none⟩), .pointer (some ⟨Ba + 1, 0, none⟩), .slice (some ⟨b, off, none⟩) l.length cap, .func (.func 102) #[] #[.pointer (some ⟨w.heap.size + 1 + 1, 0, none⟩)], .agg #[.int .i64 (Geo.X l x).1, .int .i64 (Geo.X l x).2], .agg #[.int .i64 (Geo.X l ((x + 1) % l.length)).1, .int .i64 (Geo.X l ((x + 1) % l.length)).2], undef, undef, undef, undef, undef], defers := [] })
    (fun x a' _ X Y row hs hg hr => by obtain ⟨Ba, ⟨h1, h2⟩, h4⟩ := hs; exact ⟨Ba, ⟨blk_own Ba 38 (fun (_ : Unit) => xyA (Geo.X l x)) () X Y row h1 hg (fun r e => (hr r e).2), blk_own (Ba + 1) 38 (fun (_ : Unit) => xyA (Geo.X l ((x + 1) % l.length))) () X Y row h2 hg (fun r e => (hr r e).2)⟩, h4⟩)
    ?assign ?body ?done ?stop
  case assign =>
    rintro lp pre x W K ⟨⟨⟨⟨b1, b2⟩, b0⟩, ht⟩, hB1⟩ hK
    have HT := Lib.hid ht
    clear ht
    have hsW := hB1.size
    have hl1 := b0.lt
    dsimp only [sideEnc]
    gi_wp2
    refine hK _ _ (((KeepsOthers.alloc _ _).trans (KeepsOthers.alloc _ _)).from _) (((KeepsO.refl _ _ W).alloc hsW (by omega) _).alloc (by simp; omega) (by simp; omega) _) ⟨⟨⟨⟨(b1.alloc _).alloc _, (b2.alloc _).alloc _⟩, (b0.alloc _).alloc _⟩, HT.out⟩, (hB1.alloc hsW _).alloc (by simp; omega) _⟩ ⟨W.heap.size, ⟨(Blk.new W 38 _).alloc _, ?_⟩, ?_, rfl⟩
    · have := Blk.new (W.alloc (.cells #[.int .i64 (Geo.X l x).1, .int .i64 (Geo.X l x).2] 38)) 38 (xyA (Geo.X l ((x + 1) % l.length)))
      rwa [World.size_alloc] at this
    · exact hl1
  case body =>
    rintro lp pre x a' W hlp ⟨r, hr⟩ ⟨⟨⟨⟨b1, b2⟩, b0⟩, ht⟩, hB1⟩ ⟨Ba, ⟨b3, b4⟩, hBa, rfl⟩ hlt
    have HT := Lib.hid ht
    clear ht
    obtain ⟨a1, a2, a3, a4⟩ := in_all HIN.out x
    obtain ⟨a5, a6, a7, a8⟩ := in_all HIN.out ((x + 1) % l.length)
    have hsn := hdSt_snoc l p pre x
    have HS := Lib.hid hsn
    clear hsn
    have d1 := b1.cell 0
    have d2 := b1.cell 1
    have d3 := b3.cell 0
    have d4 := b3.cell 1
    have d5 := b4.cell 0
    have d6 := b4.cell 1
    simp only [xyA, List.getElem?_toArray, List.getElem?_cons_zero, List.getElem?_cons_succ] at d1 d2 d3 d4 d5 d6
    have hl1 := b1.lt
    have hl2 := b2.lt
    have hl3 := b3.lt
    have hl4 := b4.lt
    have hl0 := b0.lt
    generalize hX1 : Geo.X l x = x1 at *
    generalize hX2 : Geo.X l ((x + 1) % l.length) = x2 at *
    clear hX1 hX2
    gi_wp2_with (refine ⟨trivial, ?_⟩; gi_at_call 100; refine (CallsIn.inRound lp (callsIn_wide.2 (turn_any _ _ _ _ _ _ (by omega) (by omega) (by omega) (by omega) (by omega) (by omega) (by omega) (by omega) (by omega) (by omega) (by omega) (by omega) _))).mono ?_; rintro e w' ⟨rfl, hb'⟩; have q1 := (b2.below hb' hl2).cell 0; have q2 := (b2.below hb' hl2).frozen 0; simp only [List.getElem?_toArray, List.getElem?_cons_zero] at q1)
    · have hle : (x2.1 - x1.1) * (p.2 - x2.2) - (x2.2 - x1.2) * (p.1 - x2.1) < 0 := by assumption
      refine ⟨(keepsFrom_below hb').trans ((KeepsOthers.setCell _ _ _).from _), ⟨(b2.below hb' hl2).set_ 0 _, rfl, ?_⟩, (hB1.trans (hb'.mono hB1.size)).setCell (p := ⟨w.heap.size + 1, 0, none⟩) (by simp) _⟩
      rw [HS.out, HT.out]
      simp only [Bool.true_and, decide_eq_false_iff_not]
      unfold Geo.turn Geo.cr Geo.sub
      simp only
      omega
    · have hgt : ¬ (x2.1 - x1.1) * (p.2 - x2.2) - (x2.2 - x1.2) * (p.1 - x2.1) < 0 := by omega
      refine ⟨keepsFrom_below hb', ⟨hb'.mono hB1.size, (b0.below hb' hl0).trans b0.symm⟩, ⟨⟨⟨b1.below hb' hl1, b2.below hb' hl2⟩, b0.below hb' hl0⟩, ?_⟩, hB1.trans (hb'.mono hB1.size)⟩
      rw [HS.out, HT.out]
      simp only [Bool.true_and, decide_eq_true_eq]
      unfold Geo.turn Geo.cr Geo.sub
      simp only
      omega
  case done =>
    rintro D ys W hD rfl ⟨⟨⟨⟨b1, b2⟩, b0⟩, ht⟩, hB1⟩ hK
    have HT := Lib.hid ((hdSt_all l p).symm.trans ht)
    clear ht
    have q1 := b2.cell 0
    have q2 := b2.frozen 0
    simp only [List.getElem?_toArray, List.getElem?_cons_zero] at q1
    gi_wp2
    have hK' := (KeepsOthers.setCell W ⟨w.heap.size + 1, 0, none⟩ (.bool true)).same D _ hK rfl
    refine ⟨by simp, .inl ⟨_, _, rfl, run_takeDeferred hK', ?_⟩⟩
    have hc5 := cell_kept (World.cell?_setCell_same' W ⟨w.heap.size + 1, 0, none⟩ (.bool true) (by rw [q1]; rfl)) (grownBy_putObj' _ D (.deferred none)) (fun r e => by cases e; exact ⟨_, hK', rfl⟩)
    refine ⟨.bool true, ?_, by rw [HT.out], (hB1.setCell (p := ⟨w.heap.size + 1, 0, none⟩) (by simp) _).trans (belowK_b (w := w) (Nat.le_refl _) _ D _ _ (by omega) hK' rfl rfl)⟩
    simp [results, Try.f82, go_sem, hc5]
  case stop =>
    rintro D c pre W hD ⟨k, hk, rfl⟩ ⟨⟨b2, rfl, ht⟩, hB1⟩ hK
    have HT := Lib.hid (hdSt_stop l p k hk ht)
    clear ht
    have q1 := b2.cell 0
    simp only [List.getElem?_toArray, List.getElem?_cons_zero] at q1
    gi_wp2
    refine ⟨by simp, .inl ⟨_, _, rfl, run_takeDeferred hK, ?_⟩⟩
    have hc5 := cell_kept q1 (grownBy_putObj' _ D (.deferred none)) (fun r e => by cases e; exact ⟨_, hK, rfl⟩)
    refine ⟨.bool false, ?_, by rw [HT.out], hB1.trans (belowK_b (w := w) (Nat.le_refl _) _ D _ _ (by omega) hK rfl rfl)⟩
    simp [results, Try.f82, go_sem, hc5]
end Go.Proofs.Ytflkhjicgojcbaa
