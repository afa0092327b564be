import Derived.Test.YtflkhjicgojcbaaS0
import Derived.Test.YtflkhjicgojcbaaA5
namespace Go.Proofs.Ytflkhjicgojcbaa
open Go.RowKit Go.Shelf
attribute [local go_sem] Oper.semAt_some

/-- the boxes that near holds: lens, groove, play, its result, the iterator's groove -/
def NBox (S : Nat) (vl vg : Value) (play : Int) (W : World) : Prop := (((Blk W S 22 #[vl] ∧ Blk W (S + 1) 22 #[vg]) ∧ Blk W (S + 2) 3 #[.int .i64 play]) ∧ Blk W (S + 3) 4 #[.bool false]) ∧ Blk W (S + 4) 22 #[vg]
theorem NBox.below {S : Nat} {vl vg : Value} {play : Int} {W W' : World} (h : NBox S vl vg play W) (hb : Below W.heap.size W W') : NBox S vl vg play W' :=
  ⟨⟨⟨⟨h.1.1.1.1.below hb h.1.1.1.1.lt, h.1.1.1.2.below hb h.1.1.1.2.lt⟩, h.1.1.2.below hb h.1.1.2.lt⟩, h.1.2.below hb h.1.2.lt⟩, h.2.below hb h.2.lt⟩
theorem NBox.alloc {S : Nat} {vl vg : Value} {play : Int} {W : World} (h : NBox S vl vg play W) (o : Obj) : NBox S vl vg play (W.alloc o) := h.below ((Below.refl _ W).alloc (Nat.le_refl _) o)
theorem NBox.own {S : Nat} {vl vg : Value} {play : Int} : Own (fun (_ : List Nat) W => NBox S vl vg play W) := fun s X Y row hs hg hr =>
  ⟨⟨⟨⟨blk_own S 22 (fun (_ : List Nat) => #[vl]) s X Y row hs.1.1.1.1 hg hr, blk_own (S + 1) 22 (fun (_ : List Nat) => #[vg]) s X Y row hs.1.1.1.2 hg hr⟩, blk_own (S + 2) 3 (fun (_ : List Nat) => #[.int .i64 play]) s X Y row hs.1.1.2 hg hr⟩, blk_own (S + 3) 4 (fun (_ : List Nat) => #[.bool false]) s X Y row hs.1.2 hg hr⟩, blk_own (S + 4) 22 (fun (_ : List Nat) => #[vg]) s X Y row hs.2 hg hr⟩

set_option maxRecDepth 100000 in
set_option maxHeartbeats 4000000 in
theorem near_in (A : Option Addr) (b off cl cg : Nat) (l g : List Geo.XY) (play : Int) (hvl : Valid l) (hvg : Valid g) (y1 : 0 ≤ play) (y2 : play ≤ 1000) (w : World) (hP : Pts w A l) (hb : b < w.heap.size)
    (hc : ∀ k, k < g.length → w.cell? ⟨b, off + k * 2, none⟩ = some (.int .i64 (Geo.X g k).1) ∧ w.cell? ⟨b, off + k * 2 + 1, none⟩ = some (.int .i64 (Geo.X g k).2)) :
    CallsIn Fence.wide 5 Try.prog 86 #[.slice A l.length cl, .slice (some ⟨b, off, none⟩) g.length cg, .int .i64 play] w fun e W' => e = .returned (.bool (nearB l g play)) ∧ Below w.heap.size w W' := by
  have HC := Lib.hid hc
  have HL := Lib.hid hvl
  have HG := Lib.hid hvg
  have HP := Lib.hid hP
  have HPG : Hid (Pts w (some ⟨b, off, none⟩) g) := Lib.hid (.inr ⟨b, off, rfl, hb, hc⟩)
  have h3 := hvg.1
  have h64 := hvg.2.1
  clear hc hvl hvg hP
  refine callsIn_of_wp_marks Try.func86 rfl trivial ?_ rfl
  simp only [Try.ntmps86, List.size_toArray, List.length_cons, List.length_nil, Nat.reduceAdd, Nat.reduceSub, Array.replicate_succ, Array.replicate_zero, List.push_toArray, List.append_toArray, List.nil_append, List.cons_append]
  gi_wp2_with (refine ⟨trivial, ?_⟩; gi_at_call 71; refine (sides_any _ _ _ _ _).mono ?_; rintro e w' ⟨rfl, rfl⟩)
  have hP2 := HP.out
  obtain ⟨W0, hW0⟩ : ∃ W0, ((((w.alloc (.cells #[.slice A l.length cl] 22)).alloc (.cells #[.slice (some ⟨b, off, none⟩) g.length cg] 22)).alloc (.cells #[.int .i64 play] 3)).alloc (.cells #[.bool false] 4)).alloc (.cells #[.slice (some ⟨b, off, none⟩) g.length cg] 22) = W0 := ⟨_, rfl⟩
  have hsz : W0.heap.size = w.heap.size + 5 := by rw [← hW0]; simp
  have hB0 : Below w.heap.size w W0 := by rw [← hW0]; exact (((((Below.refl _ w).alloc (Nat.le_refl _) _).alloc (by simp) _).alloc (by simp; omega) _).alloc (by simp; omega) _).alloc (by simp; omega) _
  have hN : NBox w.heap.size (.slice A l.length cl) (.slice (some ⟨b, off, none⟩) g.length cg) play W0 := by
    rw [← hW0]
    refine ⟨⟨⟨⟨?_, ?_⟩, ?_⟩, ?_⟩, ?_⟩
    · exact ((((Blk.new w 22 _).alloc _).alloc _).alloc _).alloc _
    · have := ((((Blk.new (w.alloc (.cells #[.slice A l.length cl] 22)) 22 #[.slice (some ⟨b, off, none⟩) g.length cg]).alloc (.cells #[.int .i64 play] 3)).alloc (.cells #[.bool false] 4)).alloc (.cells #[.slice (some ⟨b, off, none⟩) g.length cg] 22))
      rw [World.size_alloc] at this
      exact this
    · have := (((Blk.new ((w.alloc (.cells #[.slice A l.length cl] 22)).alloc (.cells #[.slice (some ⟨b, off, none⟩) g.length cg] 22)) 3 #[.int .i64 play]).alloc (.cells #[.bool false] 4)).alloc (.cells #[.slice (some ⟨b, off, none⟩) g.length cg] 22))
      simp only [World.size_alloc] at this
      exact this
    · have := ((Blk.new (((w.alloc (.cells #[.slice A l.length cl] 22)).alloc (.cells #[.slice (some ⟨b, off, none⟩) g.length cg] 22)).alloc (.cells #[.int .i64 play] 3)) 4 #[.bool false]).alloc (.cells #[.slice (some ⟨b, off, none⟩) g.length cg] 22))
      simp only [World.size_alloc] at this
      exact this
    · have := Blk.new ((((w.alloc (.cells #[.slice A l.length cl] 22)).alloc (.cells #[.slice (some ⟨b, off, none⟩) g.length cg] 22)).alloc (.cells #[.int .i64 play] 3)).alloc (.cells #[.bool false] 4)) 22 #[.slice (some ⟨b, off, none⟩) g.length cg]
      simp only [World.size_alloc] at this
      exact this
  rw [hW0]
  clear hW0 hP2
  refine wpIn_rangeFunc_ownH rfl (by omega) (gf := 102) (lb := #[.pointer (some ⟨w.heap.size + 1 + 1 + 1 + 1, 0, none⟩)]) rfl trivial (enters_of Try.func102 (by kernel_rfl) rfl)
    (sides_stops (5 - 1) (w.heap.size + 1 + 1 + 1 + 1) w.heap.size b off cg g (by omega) h64 W0 (by omega) (by omega) hb (hN.2.cell 0) (fun k hk => ⟨(hB0.cell (p := ⟨b, off + k * 2, none⟩) hb).trans (HC.out k hk).1, (hB0.cell (p := ⟨b, off + k * 2 + 1, none⟩) hb).trans (HC.out k hk).2⟩))
    KeepsO.trans (keepsO_b (by omega) (by omega)) (Below.refl _ _) (fun _ => rfl)
    (fun pre W => (NBox w.heap.size (.slice A l.length cl) (.slice (some ⟨b, off, none⟩) g.length cg) play W ∧ nrSt l g play pre = true) ∧ Below w.heap.size w W)
    (fun c pre W => ((fun (_ : List Nat) W => Blk W (w.heap.size + 3) 4 #[.bool false]) pre W ∧ (c = .ret ∧ nrSt l g play pre = false)) ∧ Below w.heap.size w W)
    (OwnFrom.and (OwnFrom.and (Own.from NBox.own _) (fun _ _ _ _ hs _ _ => hs)) (ownFrom_below (Nat.le_refl _) (by omega)))
    (fun c => OwnFrom.and (OwnFrom.and (Own.from (blk_own _ _ _) _) (fun _ _ _ _ hs _ _ => hs)) (ownFrom_below (Nat.le_refl _) (by omega)))
    ⟨⟨hN, rfl⟩, hB0⟩
    (fun x a' W => ∃ Ba, (Blk W Ba 38 (xyA (Geo.X g x)) ∧ Blk W (Ba + 1) 38 (xyA (Geo.X g ((x + 1) % g.length)))) ∧ w.heap.size + 4 < Ba ∧ a' = { tmps := #[.slice A l.length cl, .slice (some ⟨b, off, none⟩) g.length cg, .int .i64 play, .pointer (some ⟨w.heap.size, 0, none⟩), .pointer (some ⟨w.heap.size + 1, 0, none⟩), .pointer (some ⟨w.heap.size + 1 + 1, 0, none⟩), .pointer (some ⟨w.heap.size + 1 + 1 + 1, 0, none⟩), .pointer (some ⟨Ba, 0, none⟩), .pointer (some ⟨Ba + 1, 0, none⟩), undef, undef, .slice (some ⟨b, off, none⟩) g.length cg, .func (.func 102) #[] #[.pointer (some ⟨w.heap.size + 1 + 1 + 1 + 1, 0, none⟩)], .agg #[.int .i64 (Geo.X g x).1, .int .i64 (Geo.X g x).2], .agg #[.int .i64 (Geo.X g ((x + 1) % g.length)).1, .int .i64 (Geo.X g ((x + 1) % g.length)).2], undef, undef, undef, undef, undef, undef, undef, undef, undef, undef, undef, undef, undef, undef, undef, undef, undef, undef, undef, undef, undef, undef, undef, undef, undef, undef, undef, undef, undef], defers := [] })
    (fun x a' _ X Y row hs hg hr => by obtain ⟨Ba, ⟨h1, h2⟩, h4⟩ := hs; exact ⟨Ba, ⟨blk_own Ba 38 (fun (_ : Unit) => xyA (Geo.X g x)) () X Y row h1 hg (fun r e => (hr r e).2), blk_own (Ba + 1) 38 (fun (_ : Unit) => xyA (Geo.X g ((x + 1) % g.length))) () X Y row h2 hg (fun r e => (hr r e).2)⟩, h4⟩)
    ?assign ?body ?done ?stop
  case assign =>
    rintro lp pre x W K ⟨⟨hN1, ht⟩, hB1⟩ hK
    have HT := Lib.hid ht
    clear ht
    have hsW := hB1.size
    have hl1 := hN1.2.lt
    dsimp only [sideEnc]
    gi_wp2
    refine hK _ _ (((KeepsOthers.alloc _ _).trans (KeepsOthers.alloc _ _)).from _) (((KeepsO.refl _ _ W).alloc hsW (by omega) _).alloc (by simp; omega) (by simp; omega) _) ⟨⟨(hN1.alloc _).alloc _, HT.out⟩, (hB1.alloc hsW _).alloc (by simp; omega) _⟩ ⟨W.heap.size, ⟨(Blk.new W 38 _).alloc _, ?_⟩, ?_, rfl⟩
    · have := Blk.new (W.alloc (.cells #[.int .i64 (Geo.X g x).1, .int .i64 (Geo.X g x).2] 38)) 38 (xyA (Geo.X g ((x + 1) % g.length)))
      rwa [World.size_alloc] at this
    · exact hl1
  case body =>
    rintro lp pre x a' W hlp ⟨r, hr⟩ ⟨⟨hN1, ht⟩, hB1⟩ ⟨Ba, ⟨b3, b4⟩, hBa, rfl⟩ hlt
    have HT := Lib.hid ht
    have hsn := nrSt_snoc l g play pre x
    have HS := Lib.hid hsn
    clear hsn ht
    obtain ⟨a1, a2, a3, a4⟩ := in_all HG.out.allin x
    obtain ⟨a5, a6, a7, a8⟩ := in_all HG.out.allin ((x + 1) % g.length)
    obtain ⟨⟨u1, u2⟩, v1, v2⟩ := out_bd HG.out.allin x
    obtain ⟨gb1, gb2⟩ := gap_bd HL.out.allin HG.out.allin x
    have HNear : Hid (NearAt l g play x ↔ gapAt l g x * gapAt l g x ≤ play * play * (outU g x * outU g x + outV g x * outV g x)) := Lib.hid Iff.rfl
    have HGap : Hid (gapAt l g x = rchK g (outU g x) (outV g x) g.length - rchK l (outU g x) (outV g x) l.length) := Lib.hid rfl
    have HU : Hid (outU g x = (Geo.X g ((x + 1) % g.length)).2 - (Geo.X g x).2) := Lib.hid rfl
    have HV : Hid (outV g x = (Geo.X g x).1 - (Geo.X g ((x + 1) % g.length)).1) := Lib.hid rfl
    have d3 := b3.cell 0
    have d4 := b3.cell 1
    have d5 := b4.cell 0
    have d6 := b4.cell 1
    simp only [xyA, List.getElem?_toArray, List.getElem?_cons_zero, List.getElem?_cons_succ] at d3 d4 d5 d6
    have hl0 := hN1.2.lt
    gi_wp2
    rw [← HU.out, ← HV.out]
    obtain ⟨W2, hW2⟩ : ∃ W2, W2 = W.alloc (.cells #[.int .i64 (outU g x), .int .i64 (outV g x)] 38) := ⟨_, rfl⟩
    have hbW2 : Below W.heap.size W W2 := by rw [hW2]; exact (Below.refl _ W).alloc (Nat.le_refl _) _
    have hN2 : NBox w.heap.size (.slice A l.length cl) (.slice (some ⟨b, off, none⟩) g.length cg) play W2 := hN1.below hbW2
    have bD : Blk W2 W.heap.size 38 #[.int .i64 (outU g x), .int .i64 (outV g x)] := by rw [hW2]; exact Blk.new _ _ _
    rw [← hW2]
    clear hW2 d3 d4 d5 d6 a1 a2 a3 a4 a5 a6 a7 a8
    generalize Geo.X g x = x1 at *
    generalize Geo.X g ((x + 1) % g.length) = x2 at *
    have HB2 : Hid (Below w.heap.size w W2) := Lib.hid (hB1.trans (hbW2.mono hB1.size))
    obtain ⟨G, hG⟩ : ∃ G, rchK g (outU g x) (outV g x) g.length = G := ⟨_, rfl⟩
    obtain ⟨L, hL⟩ : ∃ L, rchK l (outU g x) (outV g x) l.length = L := ⟨_, rfl⟩
    have hgl := HGap.out
    rw [hG, hL] at hgl
    have HGG := Lib.hid hG
    have HLL := Lib.hid hL
    have e1 : IntKind.i64.wrap (G - L) = gapAt l g x := by rw [hgl]; exact IntWalk.i64_in _ (by omega)
    have HGL := Lib.hid hgl
    clear hG hL hgl
    have q1 := hN2.1.1.1.1.cell 0
    have q2 := hN2.1.1.1.2.cell 0
    have q3 := bD.cell 0
    have q4 := bD.cell 1
    simp only [List.getElem?_toArray, List.getElem?_cons_zero, List.getElem?_cons_succ] at q1 q2 q3 q4
    have z1 : ∀ s : Ext W2, s.w.cell? ⟨w.heap.size, 0, none⟩ = some (.slice A l.length cl) := fun s => s.cell q1
    have z2 : ∀ s : Ext W2, s.w.cell? ⟨w.heap.size + 1, 0, none⟩ = some (.slice (some ⟨b, off, none⟩) g.length cg) := fun s => s.cell q2
    have z3 : ∀ s : Ext W2, s.w.cell? ⟨W.heap.size, 0, none⟩ = some (.int .i64 (outU g x)) := fun s => s.cell q3
    have z4 : ∀ s : Ext W2, s.w.cell? ⟨W.heap.size, 1, none⟩ = some (.int .i64 (outV g x)) := fun s => s.cell q4
    have hPs : ∀ s : Ext W2, Pts s.w A l := fun s => HP.out.below (HB2.out.trans (s.h.mono HB2.out.size))
    have hPGs : ∀ s : Ext W2, Pts s.w (some ⟨b, off, none⟩) g := fun s => HPG.out.below (HB2.out.trans (s.h.mono HB2.out.size))
    refine wpIn_region_ext (by kernel_rfl) (by kernel_rfl) (by kernel_rfl) ?_
    repeat (go_big_quiet_step ((go_at_call 80; first | (with_reducible refine calls_ext (reach_r (some ⟨b, off, none⟩) g cg _ _ _ (hPGs _) HG.out u1 u2 v1 v2 G HGG.out)) | (with_reducible refine calls_ext (reach_r A l cl _ _ _ (hPs _) HL.out u1 u2 v1 v2 L HLL.out)))))
    refine wpQuiet_nil ?_
    rintro _ ⟨s5, rfl⟩
    have hbX := s5.h
    generalize s5.w = w5 at *
    clear z1 z2 z3 z4 hPs hPGs s5
    focus
      clear e1 q1 q2 q3 q4
      have hN5 := hN2.below hbX
      have bD5 := bD.below hbX bD.lt
      have HB5 : Hid (Below W.heap.size W w5) := Lib.hid (hbW2.trans (hbX.mono hbW2.size))
      clear HB2 hN2 bD hbX hbW2 HGG HLL HGL HU HV HGap
      have HGP := Lib.hid (rfl : gapAt l g x = gapAt l g x)
      generalize hgp : gapAt l g x = gp at *
      generalize hUU : outU g x = U at *
      generalize hVV : outV g x = V at *
      clear HGP hgp hUU hVV
      obtain ⟨m1, m2⟩ := mul_bd (a := gp) (b := gp) (A := 200000000) (B := 200000000) (by omega) (by omega) (by omega) (by omega)
      obtain ⟨m3, m4⟩ := mul_bd (a := play) (b := play) (A := 1000) (B := 1000) (by omega) (by omega) (by omega) (by omega)
      obtain ⟨m5, m6⟩ := mul_bd (a := U) (b := U) (A := 10000) (B := 10000) (by omega) (by omega) (by omega) (by omega)
      obtain ⟨m7, m8⟩ := mul_bd (a := V) (b := V) (A := 10000) (B := 10000) (by omega) (by omega) (by omega) (by omega)
      obtain ⟨m9, m10⟩ := mul_bd (a := play * play) (b := U * U + V * V) (A := 1000000) (B := 200000000) (by omega) (by omega) (by omega) (by omega)
      have e1 : IntKind.i64.wrap (gp * gp) = gp * gp := IntWalk.i64_in _ (by omega)
      have e2 : IntKind.i64.wrap (play * play) = play * play := IntWalk.i64_in _ (by clear e1; omega)
      have e3 : IntKind.i64.wrap (play * play * (U * U + V * V)) = play * play * (U * U + V * V) := IntWalk.i64_in _ (by clear e1 e2; omega)
      have q1 := hN5.1.1.2.cell 0
      have q3 := bD5.cell 0
      have q4 := bD5.cell 1
      simp only [List.getElem?_toArray, List.getElem?_cons_zero, List.getElem?_cons_succ] at q1 q3 q4
      gi_wp2
      have z1 : ∀ s : Ext w5, s.w.cell? ⟨w.heap.size + 1 + 1, 0, none⟩ = some (.int .i64 play) := fun s => s.cell q1
      have z3 : ∀ s : Ext w5, s.w.cell? ⟨W.heap.size, 0, none⟩ = some (.int .i64 U) := fun s => s.cell q3
      have z4 : ∀ s : Ext w5, s.w.cell? ⟨W.heap.size, 1, none⟩ = some (.int .i64 V) := fun s => s.cell q4
      refine wpIn_region_ext (by kernel_rfl) (by kernel_rfl) (by kernel_rfl) ?_
      repeat (go_big_quiet_step ((go_at_call 93; refine calls_ext (dot_any U V U V (by clear e1 e2 e3; omega) (by clear e1 e2 e3; omega) (by clear e1 e2 e3; omega) (by clear e1 e2 e3; omega) (by clear e1 e2 e3; omega) (by clear e1 e2 e3; omega) (by clear e1 e2 e3; omega) (by clear e1 e2 e3; omega) _))))
      refine wpQuiet_nil ?_
      rintro _ ⟨s6, rfl⟩
      have hbY := s6.h
      generalize s6.w = w6 at *
      clear z1 z3 z4 s6
      focus
        clear e1 e2 e3 q1 q3 q4 bD5
        have hN6 := hN5.below hbY
        have hbW : Below W.heap.size W w6 := HB5.out.trans (hbY.mono HB5.out.size)
        have r1 := hN6.1.2.cell 0
        have r2 := hN6.1.2.frozen 0
        simp only [List.getElem?_toArray, List.getElem?_cons_zero] at r1
        have hl3 := hN6.1.2.lt
        by_cases hn : play * play * (U * U + V * V) < gp * gp
        · have hnn : ¬ NearAt l g play x := fun h => by have := HNear.out.1 h; omega
          have HNN := Lib.hid hnn
          clear hnn
          gi_wp2
          refine ⟨(keepsFrom_below hbW).trans ((KeepsOthers.setCell _ _ _).from _), ⟨hN6.1.2.set_ 0 _, rfl, ?_⟩, (hB1.trans (hbW.mono hB1.size)).setCell (p := ⟨w.heap.size + 3, 0, none⟩) (by simp) _⟩
          rw [HS.out, HT.out]
          simp [HNN.out]
        · have hnn : NearAt l g play x := HNear.out.2 (by omega)
          have HNN := Lib.hid hnn
          clear hnn
          gi_wp2
          refine ⟨keepsFrom_below hbW, ⟨hbW.mono hB1.size, (hN6.2).trans hN1.2.symm⟩, ⟨hN6, ?_⟩, hB1.trans (hbW.mono hB1.size)⟩
          rw [HS.out, HT.out]
          simp [HNN.out]
  case done =>
    rintro D ys W hD rfl ⟨⟨hN1, ht⟩, hB1⟩ hK
    have HT := Lib.hid ((nrSt_all l g play).symm.trans ht)
    clear ht
    have q1 := hN1.1.2.cell 0
    have q2 := hN1.1.2.frozen 0
    simp only [List.getElem?_toArray, List.getElem?_cons_zero] at q1
    gi_wp2
    have hK' := (KeepsOthers.setCell W ⟨w.heap.size + 3, 0, none⟩ (.bool true)).same D _ hK rfl
    refine ⟨by simp, .inl ⟨_, _, rfl, run_takeDeferred hK', ?_⟩⟩
    have hc5 := cell_kept (World.cell?_setCell_same' W ⟨w.heap.size + 3, 0, none⟩ (.bool true) (by rw [q1]; rfl)) (grownBy_putObj' _ D (.deferred none)) (fun r e => by cases e; exact ⟨_, hK', rfl⟩)
    refine ⟨.bool true, ?_, by rw [HT.out], (hB1.setCell (p := ⟨w.heap.size + 3, 0, none⟩) (by simp) _).trans (belowK_b (w := w) (Nat.le_refl _) _ D _ _ (by omega) hK' rfl rfl)⟩
    simp [results, Try.f86, go_sem, hc5]
  case stop =>
    rintro D c pre W hD ⟨k, hk, rfl⟩ ⟨⟨b2, rfl, ht⟩, hB1⟩ hK
    have HT := Lib.hid (nrSt_stop l g play k hk ht)
    clear ht
    have q1 := b2.cell 0
    simp only [List.getElem?_toArray, List.getElem?_cons_zero] at q1
    gi_wp2
    refine ⟨by simp, .inl ⟨_, _, rfl, run_takeDeferred hK, ?_⟩⟩
    have hc5 := cell_kept q1 (grownBy_putObj' _ D (.deferred none)) (fun r e => by cases e; exact ⟨_, hK, rfl⟩)
    refine ⟨.bool false, ?_, by rw [HT.out], hB1.trans (belowK_b (w := w) (Nat.le_refl _) _ D _ _ (by omega) hK rfl rfl)⟩
    simp [results, Try.f86, go_sem, hc5]
end Go.Proofs.Ytflkhjicgojcbaa
