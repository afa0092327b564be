import Derived.Test.YtflkhjicgojcbaaM4
namespace Go.Proofs.Ytflkhjicgojcbaa
open Go.RowKit Go.Shelf
attribute [local go_sem] Oper.semAt_some

theorem sdSq_val' {l : List Geo.XY} (h : AllIn l) (k : Nat) : ((Geo.X l ((k + 1) % l.length)).1 - (Geo.X l k).1) * ((Geo.X l ((k + 1) % l.length)).1 - (Geo.X l k).1) + ((Geo.X l ((k + 1) % l.length)).2 - (Geo.X l k).2) * ((Geo.X l ((k + 1) % l.length)).2 - (Geo.X l k).2) = (sdSq l k : Int) := by
  rw [← (sdSq_val h k).1]
  generalize Geo.X l k = a
  generalize Geo.X l ((k + 1) % l.length) = b
  have e1 : b.1 - a.1 = -(a.1 - b.1) := by omega
  have e2 : b.2 - a.2 = -(a.2 - b.2) := by omega
  rw [e1, e2, Int.neg_mul_neg, Int.neg_mul_neg]
def loSt (l : List Geo.XY) (pre : List Nat) : Nat := pre.foldl (fun s k => s + Geo.fsq (sdSq l k)) 0
def hiSt (l : List Geo.XY) (pre : List Nat) : Nat := pre.foldl (fun s k => s + Geo.csq (sdSq l k)) 0
theorem loSt_snoc (l : List Geo.XY) (pre : List Nat) (k : Nat) : loSt l (pre ++ [k]) = loSt l pre + Geo.fsq (sdSq l k) := by unfold loSt; rw [List.foldl_append]; rfl
theorem hiSt_snoc (l : List Geo.XY) (pre : List Nat) (k : Nat) : hiSt l (pre ++ [k]) = hiSt l pre + Geo.csq (sdSq l k) := by unfold hiSt; rw [List.foldl_append]; rfl
theorem loSt_range (l : List Geo.XY) (k : Nat) : loSt l (List.range k) = lowK l k ∧ hiSt l (List.range k) = highK l k := by
  induction k with
  | zero => exact ⟨rfl, rfl⟩
  | succ k ih => rw [List.range_succ, loSt_snoc, hiSt_snoc, lowK, highK, ih.1, ih.2]; exact ⟨rfl, rfl⟩
def LhOk (l : List Geo.XY) (pre : List Nat) : Prop := loSt l pre ≤ 20000 * pre.length ∧ hiSt l pre ≤ 20000 * pre.length
theorem LhOk.snoc {l : List Geo.XY} (h : AllIn l) {pre : List Nat} (hp : LhOk l pre) (k : Nat) : LhOk l (pre ++ [k]) := by
  have := root_bd _ (sdSq_val h k).2
  unfold LhOk at *
  rw [loSt_snoc, hiSt_snoc, List.length_append, List.length_singleton]
  omega

set_option maxRecDepth 100000 in
set_option maxHeartbeats 2000000 in
theorem around_in (b off cap : Nat) (l : List Geo.XY) (hval : validB l = true) (w : World) (hb : b < w.heap.size)
    (hc : ∀ k, k < l.length → w.cell? ⟨b, off + k * 2, none⟩ = some (.int .i64 (Geo.X l k).1) ∧ w.cell? ⟨b, off + k * 2 + 1, none⟩ = some (.int .i64 (Geo.X l k).2)) :
    CallsIn Fence.wide 5 Try.prog 47 #[.slice (some ⟨b, off, none⟩) l.length cap] w fun e W' => e = .returned (.tuple #[.int .i64 (lowK l l.length), .int .i64 (highK l l.length), .int .i64 0]) ∧ Below w.heap.size w W' := by
  have HV := Lib.hid hval
  have hva := valid_of hval
  have h3 := hva.1
  have h64 := hva.2.1
  have HIN := Lib.hid hva.allin
  clear hval hva
  have HC := Lib.hid hc
  have HP : Hid (Pts w (some ⟨b, off, none⟩) l) := Lib.hid (.inr ⟨b, off, rfl, hb, hc⟩)
  clear hc
  have hbw : Below w.heap.size w ((w.alloc (.cells #[.int .i64 0] 3)).alloc (.cells #[.int .i64 0] 3)) := ((Below.refl _ w).alloc (Nat.le_refl _) _).alloc (by simp) _
  refine callsIn_of_wp_marks Try.func47 rfl trivial ?_ rfl
  simp only [Try.ntmps47, List.size_toArray, List.length_cons, List.length_nil, Nat.reduceAdd, Nat.reduceSub, Array.replicate_succ, Array.replicate_zero, List.push_toArray, List.append_toArray, List.nil_append, List.cons_append]
  gi_wp2_with (first | (refine ⟨trivial, ?_⟩; gi_at_call 19; refine (callsIn_wide.2 (dvalid_b _ _ _ _ (HP.out.below hbw) true HV.out)).mono ?_; rintro e w1 ⟨rfl, hb1⟩) | (refine ⟨trivial, ?_⟩; gi_at_call 71; refine (sides_any _ _ _ _ _).mono ?_; rintro e w' ⟨rfl, rfl⟩))
  have hs1 := hb1.size
  simp only [World.size_alloc] at hs1
  have bL := (((Blk.new w 3 #[.int .i64 0]).alloc (.cells #[.int .i64 0] 3)).below hb1 (by simp; omega)).alloc (.cells #[.slice (some ⟨b, off, none⟩) l.length cap] 22)
  have bH := ((Blk.new (w.alloc (.cells #[.int .i64 0] 3)) 3 #[.int .i64 0]).below hb1 (by simp)).alloc (.cells #[.slice (some ⟨b, off, none⟩) l.length cap] 22)
  have bO := Blk.new w1 22 #[.slice (some ⟨b, off, none⟩) l.length cap]
  rw [World.size_alloc] at bH
  have hB0 : Below w.heap.size w (w1.alloc (.cells #[.slice (some ⟨b, off, none⟩) l.length cap] 22)) := (hbw.trans (hb1.mono (by simp; omega))).alloc (by omega) _
  have hsz : (w1.alloc (.cells #[.slice (some ⟨b, off, none⟩) l.length cap] 22)).heap.size = w1.heap.size + 1 := by simp
  obtain ⟨W0, hW0⟩ : ∃ W0, w1.alloc (.cells #[.slice (some ⟨b, off, none⟩) l.length cap] 22) = W0 := ⟨_, rfl⟩
  rw [hW0] at bL bH bO hB0 hsz ⊢
  clear hW0
  obtain ⟨S, hSS⟩ : ∃ S, S = w1.heap.size := ⟨_, rfl⟩
  rw [← hSS] at bO hsz hs1 ⊢
  clear hSS hb1 hbw
  refine wpIn_rangeFunc_ownH rfl (by omega) (gf := 102) (lb := #[.pointer (some ⟨S, 0, none⟩)]) rfl trivial (enters_of Try.func102 (by kernel_rfl) rfl)
    (sides_stops (5 - 1) S w.heap.size b off cap l (by omega) h64 W0 (by omega) (by omega) hb (bO.cell 0) (fun k hk => ⟨(hB0.cell (p := ⟨b, off + k * 2, none⟩) hb).trans (HC.out k hk).1, (hB0.cell (p := ⟨b, off + k * 2 + 1, none⟩) hb).trans (HC.out k hk).2⟩))
    KeepsO.trans (keepsO_b (by omega) (by omega)) (Below.refl _ _) (fun _ => rfl)
    (fun pre W => (((Blk W w.heap.size 3 #[.int .i64 (loSt l pre)] ∧ Blk W (w.heap.size + 1) 3 #[.int .i64 (hiSt l pre)]) ∧ Blk W S 22 #[.slice (some ⟨b, off, none⟩) l.length cap]) ∧ LhOk l pre) ∧ Below w.heap.size w W)
    (fun _ _ _ => False)
    (OwnFrom.and (OwnFrom.and (OwnFrom.and (OwnFrom.and (Own.from (blk_own _ _ _) _) (Own.from (blk_own _ _ _) _)) (Own.from (blk_own _ _ _) _)) (fun _ _ _ _ hs _ _ => hs)) (ownFrom_below (Nat.le_refl _) (by omega)))
    (fun _ _ _ _ _ hs _ _ => hs)
    ⟨⟨⟨⟨bL, bH⟩, bO⟩, ⟨by simp [loSt], by simp [hiSt]⟩⟩, hB0⟩
    (fun x a' W => ∃ Ba, (Blk W Ba 38 (xyA (Geo.X l x)) ∧ Blk W (Ba + 1) 38 (xyA (Geo.X l ((x + 1) % l.length)))) ∧ S < Ba ∧ a' = { tmps := #[.slice (some ⟨b, off, none⟩) l.length cap, undef, .pointer (some ⟨w.heap.size, 0, none⟩), .pointer (some ⟨w.heap.size + 1, 0, none⟩), .int .i64 0, .pointer (some ⟨Ba, 0, none⟩), .pointer (some ⟨Ba + 1, 0, none⟩), undef, undef, undef, .slice (some ⟨b, off, none⟩) l.length cap, .bool true, .bool false, .slice (some ⟨b, off, none⟩) l.length cap, .func (.func 102) #[] #[.pointer (some ⟨S, 0, none⟩)], .agg #[.int .i64 (Geo.X l x).1, .int .i64 (Geo.X l x).2], .agg #[.int .i64 (Geo.X l ((x + 1) % l.length)).1, .int .i64 (Geo.X l ((x + 1) % l.length)).2], undef, undef, undef, undef, undef, undef, undef, undef, undef, undef, undef, undef, undef, undef, undef, undef, undef, undef], defers := [] })
    (fun x a' _ X Y row hs hg hr => by obtain ⟨Ba, ⟨h1, h2⟩, h4⟩ := hs; exact ⟨Ba, ⟨blk_own Ba 38 (fun (_ : Unit) => xyA (Geo.X l x)) () X Y row h1 hg (fun r e => (hr r e).2), blk_own (Ba + 1) 38 (fun (_ : Unit) => xyA (Geo.X l ((x + 1) % l.length))) () X Y row h2 hg (fun r e => (hr r e).2)⟩, h4⟩)
    ?assign ?body ?done ?stop
  case assign =>
    rintro lp pre x W K ⟨⟨⟨⟨b1, b2⟩, b0⟩, ht⟩, hB1⟩ hK
    have HT := Lib.hid ht
    clear ht
    have hsW := hB1.size
    have hl1 := b0.lt
    dsimp only [sideEnc]
    gi_wp2
    refine hK _ _ (((KeepsOthers.alloc _ _).trans (KeepsOthers.alloc _ _)).from _) (((KeepsO.refl _ _ W).alloc hsW (by omega) _).alloc (by simp; omega) (by simp; omega) _) ⟨⟨⟨⟨(b1.alloc _).alloc _, (b2.alloc _).alloc _⟩, (b0.alloc _).alloc _⟩, HT.out⟩, (hB1.alloc hsW _).alloc (by simp; omega) _⟩ ⟨W.heap.size, ⟨(Blk.new W 38 _).alloc _, ?_⟩, ?_, rfl⟩
    · have := Blk.new (W.alloc (.cells #[.int .i64 (Geo.X l x).1, .int .i64 (Geo.X l x).2] 38)) 38 (xyA (Geo.X l ((x + 1) % l.length)))
      rwa [World.size_alloc] at this
    · exact hl1
  case body =>
    rintro lp pre x a' W hlp ⟨r, hr⟩ ⟨⟨⟨⟨b1, b2⟩, b0⟩, ht⟩, hB1⟩ ⟨Ba, ⟨b3, b4⟩, hBa, rfl⟩ hlt
    have hok := ht.snoc HIN.out x
    have HOK := Lib.hid hok
    have HS1 := Lib.hid (loSt_snoc l pre x)
    have HS2 := Lib.hid (hiSt_snoc l pre x)
    have hsv := sdSq_val' HIN.out x
    have hsb := (sdSq_val HIN.out x).2
    obtain ⟨hr1, hr2⟩ := root_bd _ hsb
    obtain ⟨t1, t2⟩ := ht
    clear hok
    obtain ⟨a1, a2, a3, a4⟩ := in_all HIN.out x
    obtain ⟨a5, a6, a7, a8⟩ := in_all HIN.out ((x + 1) % l.length)
    have d3 := b3.cell 0
    have d4 := b3.cell 1
    have d5 := b4.cell 0
    have d6 := b4.cell 1
    simp only [xyA, List.getElem?_toArray, List.getElem?_cons_zero, List.getElem?_cons_succ] at d3 d4 d5 d6
    have hl1 := b1.lt
    have hl2 := b2.lt
    have hl0 := b0.lt
    generalize hQ : sdSq l x = q at *
    have HSV := Lib.hid hsv
    clear hsv hQ
    generalize hX1 : Geo.X l x = x1 at *
    generalize hX2 : Geo.X l ((x + 1) % l.length) = x2 at *
    clear hX1 hX2
    gi_wp2_with fail
    refine ⟨trivial, ?_⟩
    refine (CallsIn.inRound lp (callsIn_wide.2 (minus_any _ _ _ _ (by omega) (by omega) (by omega) (by omega) (by omega) (by omega) (by omega) (by omega) _))).mono ?_
    rintro e w2 ⟨rfl, hb2⟩
    have hC2 := hb2.alloc hb2.size (.cells #[.int .i64 (x2.1 - x1.1), .int .i64 (x2.2 - x1.2)] 38)
    gi_wp2_with fail
    refine ⟨trivial, ?_⟩
    refine (CallsIn.inRound lp (callsIn_wide.2 (dot_any _ _ _ _ (by omega) (by omega) (by omega) (by omega) (by omega) (by omega) (by omega) (by omega) _))).mono ?_
    rintro e w3 ⟨rfl, hb3⟩
    rw [HSV.out]
    have hC3 := hC2.trans (hb3.mono hC2.size)
    gi_wp2_with fail
    refine ⟨trivial, ?_⟩
    refine (CallsIn.inRound lp (callsIn_wide.2 (roots_any q (by omega) _))).mono ?_
    rintro e w4 ⟨rfl, hb4⟩
    have hC4 := hC3.trans (hb4.mono hC3.size)
    have p1 := (b1.below hC4 hl1).cell 0
    have p2 := (b1.below hC4 hl1).frozen 0
    have p3 := (b2.below hC4 hl2).cell 0
    have p4 := (b2.below hC4 hl2).frozen 0
    simp only [List.getElem?_toArray, List.getElem?_cons_zero] at p1 p3
    gi_wp2
    have hsB := hB1.size
    refine ⟨((keepsFrom_below hC4).trans ((KeepsOthers.setCell _ _ _).from _)).trans ((KeepsOthers.setCell _ _ _).from _), ⟨((hC4.mono hB1.size).setCell (p := ⟨w.heap.size, 0, none⟩) (by simp) _).setCell (p := ⟨w.heap.size + 1, 0, none⟩) (by simp) _, ?_⟩, ⟨⟨⟨?_, ?_⟩, ?_⟩, HOK.out⟩, ?_⟩
    · exact (((b0.below hC4 hl0).far (p := ⟨w.heap.size, 0, none⟩) (by simp; omega) _).far (p := ⟨w.heap.size + 1, 0, none⟩) (by simp; omega) _).trans b0.symm
    · rw [HS1.out]; have := ((b1.below hC4 hl1).set_ 0 (.int .i64 ((loSt l pre : Int) + (Geo.fsq q : Int)))).far (p := ⟨w.heap.size + 1, 0, none⟩) (by simp) (.int .i64 ((hiSt l pre : Int) + (Geo.csq q : Int))); simpa using this
    · rw [HS2.out]; have := ((b2.below hC4 hl2).far (p := ⟨w.heap.size, 0, none⟩) (by simp) (.int .i64 ((loSt l pre : Int) + (Geo.fsq q : Int)))).set_ 0 (.int .i64 ((hiSt l pre : Int) + (Geo.csq q : Int))); simpa using this
    · exact ((b0.below hC4 hl0).far (p := ⟨w.heap.size, 0, none⟩) (by simp; omega) _).far (p := ⟨w.heap.size + 1, 0, none⟩) (by simp; omega) _
    · exact ((hB1.trans (hC4.mono hB1.size)).setCell (p := ⟨w.heap.size, 0, none⟩) (by simp) _).setCell (p := ⟨w.heap.size + 1, 0, none⟩) (by simp) _
  case done =>
    rintro D ys W hD rfl ⟨⟨⟨⟨b1, b2⟩, b0⟩, ht⟩, hB1⟩ hK
    have HR := Lib.hid (loSt_range l l.length)
    clear ht
    have q1 := b1.cell 0
    have q2 := b1.frozen 0
    have q3 := b2.cell 0
    have q4 := b2.frozen 0
    simp only [List.getElem?_toArray, List.getElem?_cons_zero] at q1 q3
    gi_wp2
    refine wpIn_wide.2 ?_
    go_region
    gi_wp2
    have hK1 := (KeepsOthers.setCell W ⟨w.heap.size, 0, none⟩ (.int .i64 (loSt l (List.range l.length)))).same D _ hK rfl
    have hK2 := (KeepsOthers.setCell (W.setCell ⟨w.heap.size, 0, none⟩ (.int .i64 (loSt l (List.range l.length)))) ⟨w.heap.size + 1, 0, none⟩ (.int .i64 (hiSt l (List.range l.length)))).same D _ hK1 rfl
    have bLo : Blk ((W.setCell ⟨w.heap.size, 0, none⟩ (.int .i64 (loSt l (List.range l.length)))).setCell ⟨w.heap.size + 1, 0, none⟩ (.int .i64 (hiSt l (List.range l.length)))).drew w.heap.size 3 #[.int .i64 (loSt l (List.range l.length))] := by
      have := ((b1.set_ 0 (.int .i64 (loSt l (List.range l.length)))).far (p := ⟨w.heap.size + 1, 0, none⟩) (by simp) (.int .i64 (hiSt l (List.range l.length)))).drew
      simpa using this
    have bHi : Blk ((W.setCell ⟨w.heap.size, 0, none⟩ (.int .i64 (loSt l (List.range l.length)))).setCell ⟨w.heap.size + 1, 0, none⟩ (.int .i64 (hiSt l (List.range l.length)))).drew (w.heap.size + 1) 3 #[.int .i64 (hiSt l (List.range l.length))] := by
      have := ((b2.far (p := ⟨w.heap.size, 0, none⟩) (by simp) (.int .i64 (loSt l (List.range l.length)))).set_ 0 (.int .i64 (hiSt l (List.range l.length)))).drew
      simpa using this
    have hB3 := ((hB1.setCell (p := ⟨w.heap.size, 0, none⟩) (by simp) (.int .i64 (loSt l (List.range l.length)))).setCell (p := ⟨w.heap.size + 1, 0, none⟩) (by simp) (.int .i64 (hiSt l (List.range l.length)))).drew
    have hK3 : ((W.setCell ⟨w.heap.size, 0, none⟩ (.int .i64 (loSt l (List.range l.length)))).setCell ⟨w.heap.size + 1, 0, none⟩ (.int .i64 (hiSt l (List.range l.length)))).drew.heap[D]? = _ := hK2
    generalize ((W.setCell ⟨w.heap.size, 0, none⟩ (.int .i64 (loSt l (List.range l.length)))).setCell ⟨w.heap.size + 1, 0, none⟩ (.int .i64 (hiSt l (List.range l.length)))).drew = W3 at *
    clear hK1 hK2
    refine ⟨by simp, .inl ⟨_, _, rfl, run_takeDeferred hK3, ?_⟩⟩
    have r1 := bLo.cell 0
    have r2 := bHi.cell 0
    simp only [List.getElem?_toArray, List.getElem?_cons_zero] at r1 r2
    have hc5 := cell_kept r1 (grownBy_putObj' _ D (.deferred none)) (fun r e => by cases e; exact ⟨_, hK3, rfl⟩)
    have hc6 := cell_kept r2 (grownBy_putObj' _ D (.deferred none)) (fun r e => by cases e; exact ⟨_, hK3, rfl⟩)
    refine ⟨.tuple #[.int .i64 (loSt l (List.range l.length)), .int .i64 (hiSt l (List.range l.length)), .int .i64 0], ?_, by rw [HR.out.1, HR.out.2], hB3.trans (belowK_b (w := w) (Nat.le_refl _) _ D _ _ (by omega) hK3 rfl rfl)⟩
    simp [results, Try.f47, go_sem, hc5, hc6]
  case stop =>
    rintro D c pre W _ _ h _
    exact h.elim
end Go.Proofs.Ytflkhjicgojcbaa
