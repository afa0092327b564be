import Derived.Test.YthabpgclnbmnpaaGreatDoorB3
import Derived.Deep.RegionHeld3
namespace Go.Proofs.YthabpgclnbmnpaaGreatDoor
open Go.RowKit Go.Shelf
attribute [local go_sem] Oper.semAt_some

/-- the state of rounds: how often the way began to rise; whether it rose -/
def rdSt (l : List Geo.XY) (pre : List Nat) : Nat × Bool :=
  pre.foldl (fun s k => (s.1 + (if decide (Geo.low (Geo.X l k) (Geo.X l ((k + 1) % l.length))) && !s.2 then 1 else 0), decide (Geo.low (Geo.X l k) (Geo.X l ((k + 1) % l.length))))) (0, decide (Geo.low (Geo.X l (l.length - 1)) (Geo.X l 0)))

theorem cell_ext {w w' : World} (h : Below w.heap.size w w') {p : Addr} {v : Value} (hp : w.cell? p = some v) : w'.cell? p = some v := Ext.cell ⟨w', h⟩ hp

theorem rdSt_snoc (l : List Geo.XY) (pre : List Nat) (k : Nat) : rdSt l (pre ++ [k]) = ((rdSt l pre).1 + (if decide (Geo.low (Geo.X l k) (Geo.X l ((k + 1) % l.length))) && !(rdSt l pre).2 then 1 else 0), decide (Geo.low (Geo.X l k) (Geo.X l ((k + 1) % l.length)))) := by
  unfold rdSt
  rw [List.foldl_append]
  rfl
theorem rdSt_le (l : List Geo.XY) (pre : List Nat) (k : Nat) (h : (rdSt l pre).1 ≤ pre.length) : (rdSt l (pre ++ [k])).1 ≤ (pre ++ [k]).length := by
  rw [rdSt_snoc]
  simp only [List.length_append, List.length_singleton]
  split <;> omega
theorem rises_b (ax ay bx bY : Int) (bb : Bool) (h : decide (Geo.low (ax, ay) (bx, bY)) = bb) (w : World) : Calls Tryz.prog 50 #[.agg #[.int .i64 ax, .int .i64 ay], .agg #[.int .i64 bx, .int .i64 bY]] w fun e w' =>
    e = .returned (.bool bb) ∧ Below w.heap.size w w' :=
  (rises_any ax ay bx bY w).mono fun e w' ⟨he, hb⟩ => ⟨by rw [he, h], hb⟩

/-- behind 'rose := ..': a new box holds it -/
def Mid (W : World) (g : Nat) (r : Bool) (w' : World) : Prop := Below W.heap.size W w' ∧ Blk w' g 4 #[.bool r] ∧ W.heap.size ≤ g

set_option maxRecDepth 100000 in
set_option maxHeartbeats 2000000 in
theorem rounds_in (b off cap : Nat) (l : List Geo.XY) (h3 : 3 ≤ l.length) (h64 : l.length ≤ 64) (w : World) (hb : b < w.heap.size)
    (hc : ∀ k, k < l.length → w.cell? ⟨b, off + k * 2, none⟩ = some (.int .i64 (Geo.X l k).1) ∧ w.cell? ⟨b, off + k * 2 + 1, none⟩ = some (.int .i64 (Geo.X l k).2)) :
    CallsIn Fence.wide 5 Tryz.prog 28 #[.slice (some ⟨b, off, none⟩) l.length cap] w fun e W' => e = .returned (.int .i64 (rdSt l (List.range l.length)).1) ∧ Below w.heap.size w W' := by
  have HC := Lib.hid hc
  clear hc
  have c1 : w.cell? ⟨b, off + (l.length - 1) * 2, none⟩ = some (.int .i64 (Geo.X l (l.length - 1)).1) := (HC.out _ (by omega)).1
  have c2 : w.cell? ⟨b, off + (l.length - 1) * 2 + 1, none⟩ = some (.int .i64 (Geo.X l (l.length - 1)).2) := (HC.out _ (by omega)).2
  have c3 : w.cell? ⟨b, off, none⟩ = some (.int .i64 (Geo.X l 0).1) := by have := (HC.out 0 (by omega)).1; rwa [Nat.zero_mul, Nat.add_zero] at this
  have c4 : w.cell? ⟨b, off + 1, none⟩ = some (.int .i64 (Geo.X l 0).2) := by have := (HC.out 0 (by omega)).2; rwa [Nat.zero_mul, Nat.add_zero] at this
  refine callsIn_of_wp_marks Tryz.func28 rfl trivial ?_ rfl
  simp only [Tryz.ntmps28, List.size_toArray, List.length_cons, List.length_nil, Nat.reduceAdd, Nat.reduceSub, Array.replicate_succ, Array.replicate_zero, List.push_toArray, List.append_toArray, List.nil_append, List.cons_append]
  gi_wp2
  obtain ⟨W, hW⟩ : ∃ W, w.alloc (.cells #[.int .i64 0] 3) = W := ⟨_, rfl⟩
  have bN : Blk W w.heap.size 3 #[.int .i64 0] := by rw [← hW]; exact Blk.new _ _ _
  have hB : Below w.heap.size w W := by rw [← hW]; exact (Below.refl _ _).alloc (Nat.le_refl _) _
  have hsz : W.heap.size = w.heap.size + 1 := by rw [← hW]; simp
  rw [hW]
  clear hW
  replace c1 := cell_ext hB c1
  replace c2 := cell_ext hB c2
  replace c3 := cell_ext hB c3
  replace c4 := cell_ext hB c4
  have hne : ¬ b = W.heap.size := by omega
  have hne' : ¬ W.heap.size = b := by omega
  have hS := Lib.hid hsz
  clear hsz
  have g1 : (0 : Int) ≤ (l.length : Int) - 1 := by omega
  have g2 : (l.length : Int) - 1 < (l.length : Int) := by omega
  have g3 : IntKind.i64.wrap ((l.length : Int) - 1) = (l.length : Int) - 1 := IntWalk.i64_in _ (by omega)
  have g4 : ((l.length : Int) - 1).toNat = l.length - 1 := by omega
  have g5 : (0 : Int) < (l.length : Int) := by omega
  have g6 : (1 : Int) ≤ (l.length : Int) := by omega
  have g7 : 0 < l.length := by omega
  have g8 : ¬ l = [] := by intro h; rw [h] at g7; simp at g7
  have g9 : 1 ≤ l.length := by omega
  refine wpIn_wide.2 ?_
  refine Code.wp_mono (Q := fun e a' w' => e = .normal ∧ ∃ g, Mid W g (decide (Geo.low (Geo.X l (l.length - 1)) (Geo.X l 0))) w' ∧ a' = { tmps := #[.slice (some ⟨b, off, none⟩) l.length cap, undef, .int .i64 0, .pointer (some ⟨w.heap.size, 0, none⟩), .pointer (some ⟨g, 0, none⟩), undef, undef, undef, .slice (some ⟨b, off, none⟩) l.length cap, .slice (some ⟨b, off, none⟩) l.length cap, .int .i64 l.length, .int .i64 ((l.length : Int) - 1), .pointer (some ⟨b, off + (l.length - 1) * 2, none⟩), .agg #[.int .i64 (Geo.X l (l.length - 1)).1, .int .i64 (Geo.X l (l.length - 1)).2], .slice (some ⟨b, off, none⟩) l.length cap, .pointer (some ⟨b, off, none⟩), .agg #[.int .i64 (Geo.X l 0).1, .int .i64 (Geo.X l 0).2], .bool (decide (Geo.low (Geo.X l (l.length - 1)) (Geo.X l 0))), undef, undef, undef, undef, undef, undef, undef, undef, undef, undef, undef, undef, undef, undef, undef, undef], defers := [] }) ?goon ?region
  case region =>
   go_region_held3 (fun w' => w'.cell? ⟨b, off + (l.length - 1) * 2, none⟩ = some (.int .i64 (Geo.X l (l.length - 1)).1) ∧ w'.cell? ⟨b, off + (l.length - 1) * 2 + 1, none⟩ = some (.int .i64 (Geo.X l (l.length - 1)).2) ∧ w'.cell? ⟨b, off, none⟩ = some (.int .i64 (Geo.X l 0).1) ∧ w'.cell? ⟨b, off + 1, none⟩ = some (.int .i64 (Geo.X l 0).2)) (go_keep)
     (first | (go_at_call 50; refine (rises_any _ _ _ _ _).mono ?_; rintro e w' ⟨rfl, hb'⟩; have z1 : w'.cell? ⟨b, off + (l.length - 1) * 2, none⟩ = some (.int .i64 (Geo.X l (l.length - 1)).1) := cell_ext hb' (by go_keep); have z2 : w'.cell? ⟨b, off + (l.length - 1) * 2 + 1, none⟩ = some (.int .i64 (Geo.X l (l.length - 1)).2) := cell_ext hb' (by go_keep); have z3 : w'.cell? ⟨b, off, none⟩ = some (.int .i64 (Geo.X l 0).1) := cell_ext hb' (by go_keep); have z4 : w'.cell? ⟨b, off + 1, none⟩ = some (.int .i64 (Geo.X l 0).2) := cell_ext hb' (by go_keep); have z5 := fun h => hb'.cell (p := ⟨W.heap.size, 0, none⟩) h; have z6 := fun h => hb'.frozen (p := ⟨W.heap.size, 0, none⟩) h))
   · refine ⟨rfl, w'.heap.size, ⟨?_, ?_, ?_⟩, rfl⟩
     · exact ((Below.refl _ W).drew.trans hb').alloc hb'.size _
     · exact Blk.new _ _ _
     · exact hb'.size
   · refine ⟨rfl, W.heap.size, ⟨?_, ?_, ?_⟩, rfl⟩
     · exact ((((Below.refl _ W).alloc (Nat.le_refl _) _).drew).trans (hb'.mono (by simp))).setCell (p := ⟨W.heap.size, 0, none⟩) (Nat.le_refl _) _
     · exact (((Blk.new W 4 #[.bool false]).drew.below hb' (by simp)).set_ 0 _)
     · exact Nat.le_refl _
  case goon =>
    rintro _ _ w2 ⟨rfl, g, ⟨hBM, bG, hg⟩, rfl⟩
    clear c1 c2 c3 c4 g1 g2 g3 g4 g8
    gi_wp2_with (refine ⟨trivial, ?_⟩; gi_at_call 42; refine (sides_any _ _ _ _ _).mono ?_; rintro e w' ⟨rfl, rfl⟩)
    have hS1 := hS.out
    have bN2 := (bN.below hBM (by omega)).alloc (.cells #[.slice (some ⟨b, off, none⟩) l.length cap] 22)
    have bG2 := bG.alloc (.cells #[.slice (some ⟨b, off, none⟩) l.length cap] 22)
    have bO := Blk.new w2 22 #[.slice (some ⟨b, off, none⟩) l.length cap]
    have hB2 : Below w.heap.size w (w2.alloc (.cells #[.slice (some ⟨b, off, none⟩) l.length cap] 22)) := (hB.trans (hBM.mono (by omega))).alloc (by have := hBM.size; omega) _
    have hg2 := bG.lt
    have hsz : (w2.alloc (.cells #[.slice (some ⟨b, off, none⟩) l.length cap] 22)).heap.size = w2.heap.size + 1 := by simp
    have hgw : w.heap.size < g := by omega
    have hw2 : w.heap.size + 1 ≤ w2.heap.size := by have := hBM.size; omega
    obtain ⟨W0, hW0⟩ : ∃ W0, w2.alloc (.cells #[.slice (some ⟨b, off, none⟩) l.length cap] 22) = W0 := ⟨_, rfl⟩
    rw [hW0] at bN2 bG2 bO hB2 hsz ⊢
    clear hW0 hS1 bN bG
    obtain ⟨S, hSS⟩ : ∃ S, S = w2.heap.size := ⟨_, rfl⟩
    rw [← hSS] at bO hg2 hsz hw2 ⊢
    clear hSS hBM
    refine wpIn_rangeFunc_ownH rfl (by omega) (gf := 61) (lb := #[.pointer (some ⟨S, 0, none⟩)]) rfl trivial (enters_of Tryz.func61 (by kernel_rfl) rfl)
      (sides_stops (5 - 1) S w.heap.size b off cap l (by omega) h64 W0 (by omega) (by omega) hb (bO.cell 0) (fun k hk => ⟨(hB2.cell (p := ⟨b, off + k * 2, none⟩) hb).trans (HC.out k hk).1, (hB2.cell (p := ⟨b, off + k * 2 + 1, none⟩) hb).trans (HC.out k hk).2⟩))
      KeepsO.trans (keepsO_b (by omega) (by omega)) (Below.refl _ _) (fun _ => rfl)
      (fun pre W => (((Blk W w.heap.size 3 #[.int .i64 (rdSt l pre).1] ∧ Blk W g 4 #[.bool (rdSt l pre).2]) ∧ Blk W S 22 #[.slice (some ⟨b, off, none⟩) l.length cap]) ∧ (rdSt l pre).1 ≤ pre.length) ∧ Below w.heap.size w W)
      (fun _ _ _ => False)
      (OwnFrom.and (OwnFrom.and (OwnFrom.and (OwnFrom.and (Own.from (blk_own _ _ _) _) (Own.from (blk_own _ _ _) _)) (Own.from (blk_own _ _ _) _)) (fun _ _ _ _ hs _ _ => hs)) (ownFrom_below (Nat.le_refl _) (by omega)))
      (fun _ _ _ _ _ hs _ _ => hs)
      ⟨⟨⟨⟨bN2, bG2⟩, bO⟩, Nat.zero_le _⟩, hB2⟩
      (fun x a' W => ∃ Ba, (Blk W Ba 42 (xyA (Geo.X l x)) ∧ Blk W (Ba + 1) 42 (xyA (Geo.X l ((x + 1) % l.length)))) ∧ S < Ba ∧ a' = { tmps := #[.slice (some ⟨b, off, none⟩) l.length cap, undef, .int .i64 0, .pointer (some ⟨w.heap.size, 0, none⟩), .pointer (some ⟨g, 0, none⟩), .pointer (some ⟨Ba, 0, none⟩), .pointer (some ⟨Ba + 1, 0, none⟩), undef, .slice (some ⟨b, off, none⟩) l.length cap, .slice (some ⟨b, off, none⟩) l.length cap, .int .i64 l.length, .int .i64 ((l.length : Int) - 1), .pointer (some ⟨b, off + (l.length - 1) * 2, none⟩), .agg #[.int .i64 (Geo.X l (l.length - 1)).1, .int .i64 (Geo.X l (l.length - 1)).2], .slice (some ⟨b, off, none⟩) l.length cap, .pointer (some ⟨b, off, none⟩), .agg #[.int .i64 (Geo.X l 0).1, .int .i64 (Geo.X l 0).2], .bool (decide (Geo.low (Geo.X l (l.length - 1)) (Geo.X l 0))), .slice (some ⟨b, off, none⟩) l.length cap, .func (.func 61) #[] #[.pointer (some ⟨S, 0, none⟩)], .agg #[.int .i64 (Geo.X l x).1, .int .i64 (Geo.X l x).2], .agg #[.int .i64 (Geo.X l ((x + 1) % l.length)).1, .int .i64 (Geo.X l ((x + 1) % l.length)).2], undef, undef, undef, undef, undef, undef, undef, undef, undef, undef, undef, undef], defers := [] })
      (fun x a' _ X Y row hs hg hr => by obtain ⟨Ba, ⟨h1, h2⟩, h4⟩ := hs; exact ⟨Ba, ⟨blk_own Ba 42 (fun (_ : Unit) => xyA (Geo.X l x)) () X Y row h1 hg (fun r e => (hr r e).2), blk_own (Ba + 1) 42 (fun (_ : Unit) => xyA (Geo.X l ((x + 1) % l.length))) () X Y row h2 hg (fun r e => (hr r e).2)⟩, h4⟩)
      ?assign ?body ?done ?stop
    case assign =>
      rintro lp pre x W K ⟨⟨⟨⟨b1, b2⟩, b0⟩, ht⟩, hB1⟩ hK
      have hsW := hB1.size
      have hl1 := b0.lt
      dsimp only [sideEnc]
      gi_wp2
      refine hK _ _ (((KeepsOthers.alloc _ _).trans (KeepsOthers.alloc _ _)).from _) (((KeepsO.refl _ _ W).alloc hsW (by omega) _).alloc (by simp; omega) (by simp; omega) _) ⟨⟨⟨⟨(b1.alloc _).alloc _, (b2.alloc _).alloc _⟩, (b0.alloc _).alloc _⟩, ht⟩, (hB1.alloc hsW _).alloc (by simp; omega) _⟩ ⟨W.heap.size, ⟨(Blk.new W 42 _).alloc _, ?_⟩, ?_, rfl⟩
      · have := Blk.new (W.alloc (.cells #[.int .i64 (Geo.X l x).1, .int .i64 (Geo.X l x).2] 42)) 42 (xyA (Geo.X l ((x + 1) % l.length)))
        rwa [World.size_alloc] at this
      · exact hl1
    case body =>
      rintro lp pre x a' W hlp ⟨r, hr⟩ ⟨⟨⟨⟨b1, b2⟩, b0⟩, ht⟩, hB1⟩ ⟨Ba, ⟨b3, b4⟩, hBa, rfl⟩ hlt
      have hle := rdSt_le l pre x ht
      have hsn := rdSt_snoc l pre x
      have HLE := Lib.hid hle
      have HS := Lib.hid hsn
      clear hsn hle
      have d1 := b1.cell 0
      have d1f := b1.frozen 0
      have d2 := b2.cell 0
      have d3 := b3.cell 0
      have d4 := b3.cell 1
      have d5 := b4.cell 0
      have d6 := b4.cell 1
      simp only [xyA, List.getElem?_toArray, List.getElem?_cons_zero, List.getElem?_cons_succ] at d1 d2 d3 d4 d5 d6
      have hl1 := b1.lt
      have hl2 := b2.lt
      have hl3 := b3.lt
      have hl4 := b4.lt
      have hl0 := b0.lt
      generalize hS1 : (rdSt l pre).1 = cnt at *
      generalize hX1 : Geo.X l x = x1 at *
      generalize hX2 : Geo.X l ((x + 1) % l.length) = x2 at *
      clear hS1 hX1 hX2
      cases hnow : decide (Geo.low x1 x2) with
      | false =>
        have HN := Lib.hid hnow
        clear hnow
        gi_wp2_with (refine ⟨trivial, ?_⟩; gi_at_call 50; refine (CallsIn.inRound lp (callsIn_wide.2 (rises_b _ _ _ _ false HN.out _))).mono ?_; rintro e w' ⟨rfl, hb'⟩; have q1 := (b2.below hb' hl2).cell 0; have q2 := (b2.below hb' hl2).frozen 0; simp only [List.getElem?_toArray, List.getElem?_cons_zero] at q1)
        have hst : rdSt l (pre ++ [x]) = (cnt, false) := by rw [HS.out, HN.out]; rfl
        refine ⟨?_, ?_, ⟨⟨⟨?_, ?_⟩, ?_⟩, HLE.out⟩, ?_⟩
        · exact (keepsFrom_below hb').trans ((KeepsOthers.setCell _ _ _).from _)
        · exact ⟨(hb'.mono hB1.size).setCell (p := ⟨g, 0, none⟩) (by simp; omega) _, ((b0.below hb' hl0).far (p := ⟨g, 0, none⟩) (by simp; omega) _).trans b0.symm⟩
        · rw [hst]; exact (b1.below hb' hl1).far (p := ⟨g, 0, none⟩) (by simp; omega) _
        · rw [hst]; exact (b2.below hb' hl2).set_ 0 _
        · exact (b0.below hb' hl0).far (p := ⟨g, 0, none⟩) (by simp; omega) _
        · exact (hB1.trans (hb'.mono hB1.size)).setCell (p := ⟨g, 0, none⟩) (by simp; omega) _
      | true =>
        have HN := Lib.hid hnow
        clear hnow
        cases hrose : (rdSt l pre).2 with
        | true =>
          rw [hrose] at b2 d2
          have HR := Lib.hid hrose
          clear hrose
          gi_wp2_with (refine ⟨trivial, ?_⟩; gi_at_call 50; refine (CallsIn.inRound lp (callsIn_wide.2 (rises_b _ _ _ _ true HN.out _))).mono ?_; rintro e w' ⟨rfl, hb'⟩; have q1 := (b2.below hb' hl2).cell 0; have q2 := (b2.below hb' hl2).frozen 0; simp only [List.getElem?_toArray, List.getElem?_cons_zero] at q1)
          have hst : rdSt l (pre ++ [x]) = (cnt, true) := by rw [HS.out, HN.out, HR.out]; rfl
          refine ⟨?_, ?_, ⟨⟨⟨?_, ?_⟩, ?_⟩, HLE.out⟩, ?_⟩
          · exact (keepsFrom_below hb').trans ((KeepsOthers.setCell _ _ _).from _)
          · exact ⟨(hb'.mono hB1.size).setCell (p := ⟨g, 0, none⟩) (by simp; omega) _, ((b0.below hb' hl0).far (p := ⟨g, 0, none⟩) (by simp; omega) _).trans b0.symm⟩
          · rw [hst]; exact (b1.below hb' hl1).far (p := ⟨g, 0, none⟩) (by simp; omega) _
          · rw [hst]; exact (b2.below hb' hl2).set_ 0 _
          · exact (b0.below hb' hl0).far (p := ⟨g, 0, none⟩) (by simp; omega) _
          · exact (hB1.trans (hb'.mono hB1.size)).setCell (p := ⟨g, 0, none⟩) (by simp; omega) _
        | false =>
          rw [hrose] at b2 d2
          have HR := Lib.hid hrose
          clear hrose
          have hcnt : cnt ≤ 64 := by omega
          gi_wp2_with fail
          refine ⟨trivial, ?_⟩
          refine (CallsIn.inRound lp (callsIn_wide.2 (rises_b _ _ _ _ true HN.out _))).mono ?_
          rintro e w' ⟨rfl, hb'⟩
          have q1 := (b2.below hb' hl2).cell 0
          have q2 := (b2.below hb' hl2).frozen 0
          have q3 := (b1.below hb' hl1).cell 0
          have q4 := (b1.below hb' hl1).frozen 0
          have q5 : ¬ g = w.heap.size := by omega
          have q6 : ¬ w.heap.size = g := by omega
          simp only [List.getElem?_toArray, List.getElem?_cons_zero] at q1 q3
          gi_wp2
          have hst : rdSt l (pre ++ [x]) = (cnt + 1, true) := by rw [HS.out, HN.out, HR.out]; rfl
          refine ⟨?_, ?_, ⟨⟨⟨?_, ?_⟩, ?_⟩, HLE.out⟩, ?_⟩
          · exact (keepsFrom_below hb').trans (((KeepsOthers.setCell _ _ _).trans (KeepsOthers.setCell _ _ _)).from _)
          · exact ⟨((hb'.mono hB1.size).setCell (p := ⟨w.heap.size, 0, none⟩) (by simp) _).setCell (p := ⟨g, 0, none⟩) (by simp; omega) _, (((b0.below hb' hl0).far (p := ⟨w.heap.size, 0, none⟩) (by simp; omega) _).far (p := ⟨g, 0, none⟩) (by simp; omega) _).trans b0.symm⟩
          · rw [hst]
            have := ((b1.below hb' hl1).set_ 0 (.int .i64 ((cnt : Int) + 1))).far (p := ⟨g, 0, none⟩) (by simp; omega) (.bool true)
            exact this
          · rw [hst]; exact ((b2.below hb' hl2).far (p := ⟨w.heap.size, 0, none⟩) (by simp; omega) _).set_ 0 _
          · exact ((b0.below hb' hl0).far (p := ⟨w.heap.size, 0, none⟩) (by simp; omega) _).far (p := ⟨g, 0, none⟩) (by simp; omega) _
          · exact ((hB1.trans (hb'.mono hB1.size)).setCell (p := ⟨w.heap.size, 0, none⟩) (by simp) _).setCell (p := ⟨g, 0, none⟩) (by simp; omega) _
    case done =>
      rintro D ys W hD rfl ⟨⟨⟨⟨b1, b2⟩, b0⟩, ht⟩, hB1⟩ hK
      have q1 := b1.cell 0
      simp only [List.getElem?_toArray, List.getElem?_cons_zero] at q1
      gi_wp2
      refine ⟨by simp, .inl ⟨_, _, rfl, run_takeDeferred hK, ?_⟩⟩
      exact ⟨_, results_tmp rfl _ _ _, rfl, hB1.trans (belowK_b (w := w) (Nat.le_refl _) _ D _ _ (by omega) hK rfl rfl)⟩
    case stop =>
      rintro D c pre W _ _ h _
      exact h.elim
end Go.Proofs.YthabpgclnbmnpaaGreatDoor
