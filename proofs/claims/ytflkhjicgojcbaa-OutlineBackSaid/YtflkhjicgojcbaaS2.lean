import Derived.Test.YtflkhjicgojcbaaS0
namespace Go.Proofs.Ytflkhjicgojcbaa
open Go.RowKit Go.Shelf

noncomputable def seatV (l g : List Geo.XY) (play : Int) : Bool × Int :=
  if validB l = true ∧ validB g = true then (if 0 ≤ play ∧ play ≤ 1000 then (holdAllB g l && nearB l g play, 0) else (false, 2)) else (false, 10)
theorem seatV_no {l g : List Geo.XY} (h : ¬ (validB l = true ∧ validB g = true)) (play : Int) : tupB (seatV l g play) = .returned (.tuple #[.bool false, .int .i64 10]) := by unfold seatV; rw [if_neg h]; rfl
theorem seatV_arg {l g : List Geo.XY} (h : validB l = true ∧ validB g = true) {play : Int} (hp : ¬ (0 ≤ play ∧ play ≤ 1000)) : tupB (seatV l g play) = .returned (.tuple #[.bool false, .int .i64 2]) := by unfold seatV; rw [if_pos h, if_neg hp]; rfl
theorem seatV_ok {l g : List Geo.XY} (h : validB l = true ∧ validB g = true) {play : Int} (hp : 0 ≤ play ∧ play ≤ 1000) : tupB (seatV l g play) = .returned (.tuple #[.bool (holdAllB g l && nearB l g play), .int .i64 0]) := by unfold seatV; rw [if_pos h, if_pos hp]; rfl
theorem farthest_r (A : Option Addr) (l : List Geo.XY) (c : Nat) (u v : Int) (w : World) (hr : Pts w A l) (hv : Valid l) (u1 : -10000 ≤ u) (u2 : u ≤ 10000) (v1 : -10000 ≤ v) (v2 : v ≤ 10000) (r : Int) (h : rchK l u v l.length = r) :
    Calls Try.prog 81 #[.slice A l.length c, .int .i64 u, .int .i64 v] w fun e w' => e = .returned (.int .i64 r) ∧ Below w.heap.size w w' := by
  subst h; exact farthest_any A l c u v w hr (by have := hv.1; omega) hv.2.1 hv.allin u1 u2 v1 v2

set_option maxRecDepth 100000 in
set_option maxHeartbeats 2000000 in
theorem rseat_main (A : Option Addr) (b off cl cg : Nat) (l g : List Geo.XY) (play : Int) (hvl : validB l = true) (hvg : validB g = true) (y1 : 0 ≤ play) (y2 : play ≤ 1000) (w : World) (hP : Pts w A l) (hb : b < w.heap.size)
    (hc : ∀ k, k < g.length → w.cell? ⟨b, off + k * 2, none⟩ = some (.int .i64 (Geo.X g k).1) ∧ w.cell? ⟨b, off + k * 2 + 1, none⟩ = some (.int .i64 (Geo.X g k).2)) :
    Calls Try.prog 42 #[.slice A l.length cl, .slice (some ⟨b, off, none⟩) g.length cg, .int .i64 play] w fun e w' => e = tupB (seatV l g play) ∧ Below w.heap.size w w' := by
  have HC := Lib.hid hc
  have HL := Lib.hid (valid_of hvl)
  have HG := Lib.hid (valid_of hvg)
  have HVL := Lib.hid hvl
  have HVG := Lib.hid hvg
  have HP := Lib.hid hP
  have HPG : Hid (Pts w (some ⟨b, off, none⟩) g) := Lib.hid (.inr ⟨b, off, rfl, hb, hc⟩)
  have H := Lib.hid (seatV_ok ⟨hvl, hvg⟩ ⟨y1, y2⟩)
  have h3 := HG.out.1
  have h64 := HG.out.2.1
  clear hc hvl hvg hP
  go_enter Try.func42, Try.ntmps42
  go_wp2_with fail
  refine (rvalid_b _ _ _ _ HP.out true HVL.out).mono ?_
  rintro e w1 ⟨rfl, hb1⟩
  go_wp2_with fail
  refine (rvalid_b _ _ _ _ (HPG.out.below hb1) true HVG.out).mono ?_
  rintro e w2 ⟨rfl, hb2⟩
  have hB2 := hb1.trans (hb2.mono hb1.size)
  clear hb1 hb2
  go_wp2
  go_loopw [30] (fun i wr => ∃ k : Nat, k ≤ g.length ∧ i = .int .i64 k ∧ (∀ j, j < k → NearAt l g play j) ∧ Below w.heap.size w wr) (fun i _ => g.length - (intOf i).toNat)
  case atStart => exact ⟨0, Nat.zero_le _, rfl, fun j hj => absurd hj (by omega), hB2⟩
  case round =>
    clear hB2
    obtain ⟨k, hk, rfl, hJ, hB⟩ := hrel
    have HJ := Lib.hid hJ
    clear hJ
    by_cases hlt : k < g.length
    · obtain ⟨m, hm⟩ : ∃ m, m = (k + 1) % g.length := ⟨_, rfl⟩
      have hml : m < g.length := by rw [hm]; exact Nat.mod_lt _ (by omega)
      have HU : Hid (outU g k = (Geo.X g m).2 - (Geo.X g k).2) := by rw [hm]; exact rfl
      have HV : Hid (outV g k = (Geo.X g k).1 - (Geo.X g m).1) := by rw [hm]; exact rfl
      have e3 : ((k : Int) + 1) % (g.length : Int) = (m : Int) := by rw [hm]; simp
      clear hm
      have e4 : ¬ (g.length : Int) = 0 := by omega
      have c1 : wr.cell? ⟨b, off + k * 2, none⟩ = some (.int .i64 (Geo.X g k).1) := (hB.cell (p := ⟨b, off + k * 2, none⟩) hb).trans (HC.out k hlt).1
      have c2 : wr.cell? ⟨b, off + k * 2 + 1, none⟩ = some (.int .i64 (Geo.X g k).2) := (hB.cell (p := ⟨b, off + k * 2 + 1, none⟩) hb).trans (HC.out k hlt).2
      have c3 : wr.cell? ⟨b, off + m * 2, none⟩ = some (.int .i64 (Geo.X g m).1) := (hB.cell (p := ⟨b, off + m * 2, none⟩) hb).trans (HC.out m hml).1
      have c4 : wr.cell? ⟨b, off + m * 2 + 1, none⟩ = some (.int .i64 (Geo.X g m).2) := (hB.cell (p := ⟨b, off + m * 2 + 1, none⟩) hb).trans (HC.out m hml).2
      have hbl : b < wr.heap.size := Nat.lt_of_lt_of_le hb hB.size
      obtain ⟨a1, a2, a3, a4⟩ := in_all HG.out.allin k
      obtain ⟨a5, a6, a7, a8⟩ := in_all HG.out.allin m
      go_wp2
      clear c1 c2 c3 c4
      obtain ⟨W2, hW2⟩ : ∃ W2, W2 = (wr.alloc (.cells #[.int .i64 (Geo.X g k).1, .int .i64 (Geo.X g k).2] 38)).alloc (.cells #[.int .i64 (Geo.X g m).1, .int .i64 (Geo.X g m).2] 38) := ⟨_, rfl⟩
      have hbW2 : Below wr.heap.size wr W2 := by rw [hW2]; exact ((Below.refl _ wr).alloc (Nat.le_refl _) _).alloc (by simp) _
      have f1 : ∀ s : Ext W2, s.w.cell? ⟨wr.heap.size, 0, none⟩ = some (.int .i64 (Geo.X g k).1) := fun s => s.cell (by rw [hW2]; go_simp)
      have f2 : ∀ s : Ext W2, s.w.cell? ⟨wr.heap.size, 1, none⟩ = some (.int .i64 (Geo.X g k).2) := fun s => s.cell (by rw [hW2]; go_simp)
      have f3 : ∀ s : Ext W2, s.w.cell? ⟨wr.heap.size + 1, 0, none⟩ = some (.int .i64 (Geo.X g m).1) := fun s => s.cell (by rw [hW2]; go_simp)
      have f4 : ∀ s : Ext W2, s.w.cell? ⟨wr.heap.size + 1, 1, none⟩ = some (.int .i64 (Geo.X g m).2) := fun s => s.cell (by rw [hW2]; go_simp)
      have e1 : IntKind.i64.wrap ((Geo.X g m).2 - (Geo.X g k).2) = outU g k := by rw [HU.out]; exact IntWalk.i64_in _ (by omega)
      have e2 : IntKind.i64.wrap ((Geo.X g k).1 - (Geo.X g m).1) = outV g k := by rw [HV.out]; exact IntWalk.i64_in _ (by clear e1; omega)
      rw [← hW2]
      clear hW2
      refine wp_region_ext (by kernel_rfl) (by kernel_rfl) ?_
      repeat (go_big_quiet_step (fail))
      refine wpQuiet_nil ?_
      rintro _ ⟨s, rfl⟩
      clear f1 f2 f3 f4 e1 e2 e3
      have hBs : Below w.heap.size w s.w := (hB.trans (hbW2.mono hB.size)).trans (s.h.mono (Nat.le_trans hB.size hbW2.size))
      have HBr : Hid (Below wr.heap.size wr s.w) := Lib.hid (hbW2.trans (s.h.mono hbW2.size))
      generalize s.w = ws at *
      clear hbW2
      obtain ⟨⟨u1, u2⟩, v1, v2⟩ := out_bd HG.out.allin k
      obtain ⟨gb1, gb2⟩ := gap_bd HL.out.allin HG.out.allin k
      have HNear : Hid (NearAt l g play k ↔ gapAt l g k * gapAt l g k ≤ play * play * (outU g k * outU g k + outV g k * outV g k)) := Lib.hid Iff.rfl
      obtain ⟨G, hG⟩ : ∃ G, rchK g (outU g k) (outV g k) g.length = G := ⟨_, rfl⟩
      obtain ⟨L, hL⟩ : ∃ L, rchK l (outU g k) (outV g k) l.length = L := ⟨_, rfl⟩
      have HGap : Hid (gapAt l g k = G - L) := by rw [← hG, ← hL]; exact Lib.hid rfl
      have HGG := Lib.hid hG
      have HLL := Lib.hid hL
      clear hG hL
      have hgg := HGap.out
      rw [hgg] at gb1 gb2
      clear hgg
      go_wp2_with fail
      refine (farthest_r (some ⟨b, off, none⟩) g cg _ _ _ (HPG.out.below hBs) HG.out u1 u2 v1 v2 G HGG.out).mono ?_
      rintro e w3 ⟨rfl, hb3⟩
      have hB3 := hBs.trans (hb3.mono hBs.size)
      go_wp2_with fail
      refine (farthest_r A l cl _ _ _ (HP.out.below hB3) HL.out u1 u2 v1 v2 L HLL.out).mono ?_
      rintro e w4 ⟨rfl, hb4⟩
      have hB4 := hB3.trans (hb4.mono hB3.size)
      generalize outU g k = U at *
      generalize outV g k = V at *
      obtain ⟨m1, m2⟩ := mul_bd (a := G - L) (b := G - L) (A := 200000000) (B := 200000000) (by omega) (by omega) (by omega) (by omega)
      obtain ⟨m3, m4⟩ := mul_bd (a := play) (b := play) (A := 1000) (B := 1000) (by omega) (by omega) (by omega) (by omega)
      obtain ⟨m5, m6⟩ := mul_bd (a := U) (b := U) (A := 10000) (B := 10000) (by omega) (by omega) (by omega) (by omega)
      obtain ⟨m7, m8⟩ := mul_bd (a := V) (b := V) (A := 10000) (B := 10000) (by omega) (by omega) (by omega) (by omega)
      obtain ⟨m9, m10⟩ := mul_bd (a := play * play) (b := U * U + V * V) (A := 1000000) (B := 200000000) (by omega) (by omega) (by omega) (by omega)
      by_cases hn : play * play * (U * U + V * V) < (G - L) * (G - L)
      · have hnn : ¬ NearAt l g play k := fun h => by have := HNear.out.1 h; rw [HGap.out] at this; omega
        have hno : nearB l g play = false := by unfold nearB; exact decide_eq_false (fun h => hnn (h k hlt))
        have HNO := Lib.hid hno
        clear hnn hno
        go_wp2
        go_ret2
        exact ⟨by rw [H.out, HNO.out, Bool.and_false]; rfl, hB4⟩
      · have hnn : NearAt l g play k := HNear.out.2 (by rw [HGap.out]; omega)
        have HNN := Lib.hid hnn
        clear hnn
        go_wp2
        go_roundw
        case rel => exact ⟨k + 1, by omega, by go_num, fun q hq => by
          by_cases e : q = k
          · subst e; exact HNN.out
          · exact HJ.out q (by omega), hB4⟩
        case measure => simp [intOf]; omega
    · obtain rfl : k = g.length := by omega
      have hno : nearB l g play = true := by unfold nearB; exact decide_eq_true HJ.out
      have HNO := Lib.hid hno
      clear hno
      obtain ⟨r, hr⟩ : ∃ r, holdAllB g l = r := ⟨_, rfl⟩
      have HRR := Lib.hid hr
      clear hr
      go_wp2_with fail
      refine (within_any A (some ⟨b, off, none⟩) l g cl cg _ (HP.out.below hB) (HPG.out.below hB) HL.out.2.1 h64 HL.out.allin HG.out.allin).mono ?_
      rintro e w5 ⟨rfl, hb5⟩
      rw [HRR.out]
      go_wp2
      go_ret2
      exact ⟨by rw [H.out, HNO.out, Bool.and_true, HRR.out]; rfl, hB.trans (hb5.mono hB.size)⟩

set_option maxHeartbeats 1000000 in
theorem rseat_any (A A' : Option Addr) (l g : List Geo.XY) (cl cg : Nat) (play : Int) (w : World) (hP : Pts w A l) (hG : Pts w A' g) :
    Calls Try.prog 42 #[.slice A l.length cl, .slice A' g.length cg, .int .i64 play] w fun e w' => e = tupB (seatV l g play) ∧ Below w.heap.size w w' := by
  have HP := Lib.hid hP
  have HPG := Lib.hid hG
  cases hv : validB l with
  | false =>
    have HV := Lib.hid hv
    have H := Lib.hid (seatV_no (l := l) (g := g) (by rw [hv]; simp) play)
    clear hv hP hG
    go_enter Try.func42, Try.ntmps42
    go_wp2_with (go_at_call 20; refine (rvalid_b _ _ _ _ HP.out false HV.out).mono ?_; rintro e w' ⟨rfl, hb'⟩)
    go_ret2
    exact ⟨by rw [H.out]; rfl, hb'⟩
  | true =>
    have HV := Lib.hid hv
    cases hv2 : validB g with
    | false =>
      have HV2 := Lib.hid hv2
      have H := Lib.hid (seatV_no (l := l) (g := g) (by rw [hv2]; simp) play)
      clear hv hv2 hP hG
      go_enter Try.func42, Try.ntmps42
      go_wp2_with fail
      refine (rvalid_b _ _ _ _ HP.out true HV.out).mono ?_
      rintro e w1 ⟨rfl, hb1⟩
      go_wp2_with fail
      refine (rvalid_b _ _ _ _ (HPG.out.below hb1) false HV2.out).mono ?_
      rintro e w2 ⟨rfl, hb2⟩
      go_wp2
      go_ret2
      exact ⟨by rw [H.out]; rfl, hb1.trans (hb2.mono hb1.size)⟩
    | true =>
      by_cases hp : 0 ≤ play ∧ play ≤ 1000
      · rcases hG with h | ⟨b, off, rfl, hb, hc⟩
        · have := (valid_of hv2).1
          rw [h] at this
          simp at this
        · exact rseat_main A b off cl cg l g play hv hv2 hp.1 hp.2 w hP hb hc
      · have HV2 := Lib.hid hv2
        have H := Lib.hid (seatV_arg ⟨hv, hv2⟩ hp)
        have HX := Lib.hid hp
        clear hv hv2 hP hG hp
        go_enter Try.func42, Try.ntmps42
        go_wp2_with fail
        refine (rvalid_b _ _ _ _ HP.out true HV.out).mono ?_
        rintro e w1 ⟨rfl, hb1⟩
        go_wp2_with fail
        refine (rvalid_b _ _ _ _ (HPG.out.below hb1) true HV2.out).mono ?_
        rintro e w2 ⟨rfl, hb2⟩
        by_cases h0 : play < 0
        · go_wp2
          go_ret2
          exact ⟨by rw [H.out]; rfl, hb1.trans (hb2.mono hb1.size)⟩
        · have h1 : 1000 < play := by have := HX.out; omega
          go_wp2
          go_ret2
          exact ⟨by rw [H.out]; rfl, hb1.trans (hb2.mono hb1.size)⟩
end Go.Proofs.Ytflkhjicgojcbaa
