import Derived.Test.YthabpgclnbmnpaaGreatDoorL2
import Derived.Deep.Onto
namespace Go.Proofs.YthabpgclnbmnpaaGreatDoor
open Go.RowKit Go.Shelf

theorem concat_r (S b1 o1 c1 b2 o2 c2 n1 n2 : Nat) (ps qs : List Geo.XY) (e1 : ps.length = n1) (e2 : qs.length = n2) (h0 : 0 < n1 + n2) (h64 : n1 + n2 ≤ 128) (w : World) (hS : Blk w S 22 #[.slice (some ⟨b1, o1, none⟩) n1 c1, .slice (some ⟨b2, o2, none⟩) n2 c2])
    (hp : Pts w (some ⟨b1, o1, none⟩) ps) (hq : Pts w (some ⟨b2, o2, none⟩) qs) :
    Calls Tryz.prog 32 #[.slice (some ⟨S, 0, none⟩) 2 2] w fun e w' => ∃ v, e = .returned v ∧ w'.ownsRow w.heap.size 42 2 v (n1 + n2) (flat (ps ++ qs)) ∧ Below w.heap.size w w' := by
  subst e1 e2; exact concat_any S b1 o1 c1 b2 o2 c2 ps qs h0 h64 w hS hp hq

theorem fb_r (ax ay bx bY : Int) (w : World) (r : Int) (h : fbI (ax, ay) (bx, bY) = r) : Calls Tryz.prog 31 #[.agg #[.int .i64 ax, .int .i64 ay], .agg #[.int .i64 bx, .int .i64 bY]] w fun e w' =>
    e = .returned (.int .i64 r) ∧ Below w.heap.size w w' := by
  subst h; exact fb_any ax ay bx bY w

theorem pts_drop {W : World} {b off : Nat} {l : List Geo.XY} (hb : b < W.heap.size) (h : ∀ k, k < l.length → W.cell? ⟨b, off + k * 2, none⟩ = some (.int .i64 (Geo.X l k).1) ∧ W.cell? ⟨b, off + k * 2 + 1, none⟩ = some (.int .i64 (Geo.X l k).2)) (a : Nat) :
    Pts W (some ⟨b, off + a * 2, none⟩) (l.drop a) := by
  refine .inr ⟨b, off + a * 2, rfl, hb, fun k hk => ?_⟩
  rw [List.length_drop] at hk
  have := h (a + k) (by omega)
  have e : Geo.X (l.drop a) k = Geo.X l (a + k) := by unfold Geo.X; rw [List.getElem?_drop]
  rw [e, show off + a * 2 + k * 2 = off + (a + k) * 2 by omega]
  exact this
theorem pts_take {W : World} {b off : Nat} {l : List Geo.XY} (hb : b < W.heap.size) (h : ∀ k, k < l.length → W.cell? ⟨b, off + k * 2, none⟩ = some (.int .i64 (Geo.X l k).1) ∧ W.cell? ⟨b, off + k * 2 + 1, none⟩ = some (.int .i64 (Geo.X l k).2)) (a : Nat) :
    Pts W (some ⟨b, off, none⟩) (l.take a) := by
  refine .inr ⟨b, off, rfl, hb, fun k hk => ?_⟩
  rw [List.length_take] at hk
  have := h k (by omega)
  have e : Geo.X (l.take a) k = Geo.X l k := by unfold Geo.X; rw [List.getElem?_take, if_pos (by omega)]
  rw [e]
  exact this

set_option maxRecDepth 100000 in
set_option maxHeartbeats 4000000 in
theorem canonical_any (b off c : Nat) (l : List Geo.XY) (h0 : 0 < l.length) (h64 : l.length ≤ 64) (hcap : l.length ≤ c) (w : World) (hb : b < w.heap.size)
    (hc : ∀ k, k < l.length → w.cell? ⟨b, off + k * 2, none⟩ = some (.int .i64 (Geo.X l k).1) ∧ w.cell? ⟨b, off + k * 2 + 1, none⟩ = some (.int .i64 (Geo.X l k).2)) :
    Calls Tryz.prog 14 #[.slice (some ⟨b, off, none⟩) l.length c] w fun e w' => ∃ v, e = .returned v ∧ w'.ownsRow w.heap.size 42 2 v (Geo.canon l).length (flat (Geo.canon l)) ∧ Below w.heap.size w w' := by
  have HC := Lib.hid hc
  clear hc
  go_enter Tryz.func14, Tryz.ntmps14
  go_wp2
  go_loopw [3, 8] (fun at_ i wr => ∃ k : Nat, k ≤ l.length ∧ i = .int .i64 k ∧ at_ = .int .i64 (Geo.lowIdx l k) ∧ Below w.heap.size w wr) (fun _ i _ => l.length - (intOf i).toNat)
  case atStart => exact ⟨0, Nat.zero_le _, rfl, rfl, Below.refl _ _⟩
  case round =>
    obtain ⟨k, hk, rfl, rfl, hB⟩ := hrel
    by_cases hlt : k < l.length
    · obtain ⟨m, hm⟩ : ∃ m, m = Geo.lowIdx l k := ⟨_, rfl⟩
      have hml : m < l.length := by
        rw [hm]
        by_cases e : k = 0
        · subst e; exact h0
        · have := Geo.lowIdx_lt l k (by omega); omega
      have HS : Hid (Geo.lowIdx l (k + 1) = if Geo.low (Geo.X l k) (Geo.X l m) then k else m) := Lib.hid (by rw [hm]; rfl)
      rw [← hm]
      clear hm
      have c1 : wr.cell? ⟨b, off + k * 2, none⟩ = some (.int .i64 (Geo.X l k).1) := (hB.cell (p := ⟨b, off + k * 2, none⟩) hb).trans (HC.out k hlt).1
      have c2 : wr.cell? ⟨b, off + k * 2 + 1, none⟩ = some (.int .i64 (Geo.X l k).2) := (hB.cell (p := ⟨b, off + k * 2 + 1, none⟩) hb).trans (HC.out k hlt).2
      have c3 : wr.cell? ⟨b, off + m * 2, none⟩ = some (.int .i64 (Geo.X l m).1) := (hB.cell (p := ⟨b, off + m * 2, none⟩) hb).trans (HC.out m hml).1
      have c4 : wr.cell? ⟨b, off + m * 2 + 1, none⟩ = some (.int .i64 (Geo.X l m).2) := (hB.cell (p := ⟨b, off + m * 2 + 1, none⟩) hb).trans (HC.out m hml).2
      have hbl : b < wr.heap.size := Nat.lt_of_lt_of_le hb hB.size
      go_wp2
      have hBa := hB.alloc hB.size (.cells #[.int .i64 (Geo.X l k).1, .int .i64 (Geo.X l k).2] 42)
      have bX := Blk.new wr 42 #[.int .i64 (Geo.X l k).1, .int .i64 (Geo.X l k).2]
      have d3 : (wr.alloc (.cells #[.int .i64 (Geo.X l k).1, .int .i64 (Geo.X l k).2] 42)).cell? ⟨b, off + m * 2, none⟩ = some (.int .i64 (Geo.X l m).1) := (hBa.cell (p := ⟨b, off + m * 2, none⟩) hb).trans (HC.out m hml).1
      have d4 : (wr.alloc (.cells #[.int .i64 (Geo.X l k).1, .int .i64 (Geo.X l k).2] 42)).cell? ⟨b, off + m * 2 + 1, none⟩ = some (.int .i64 (Geo.X l m).2) := (hBa.cell (p := ⟨b, off + m * 2 + 1, none⟩) hb).trans (HC.out m hml).2
      generalize wr.alloc (.cells #[.int .i64 (Geo.X l k).1, .int .i64 (Geo.X l k).2] 42) = W1 at *
      have q1 := bX.cell 0
      have q2 := bX.cell 1
      simp only [List.getElem?_toArray, List.getElem?_cons_zero, List.getElem?_cons_succ] at q1 q2
      have z1 := fun s : Ext W1 => s.cell q1
      have z2 := fun s : Ext W1 => s.cell q2
      have z3 := fun s : Ext W1 => s.cell d3
      have z4 := fun s : Ext W1 => s.cell d4
      obtain ⟨r, hr⟩ : ∃ r, fbI ((Geo.X l k).1, (Geo.X l k).2) ((Geo.X l m).1, (Geo.X l m).2) = r := ⟨_, rfl⟩
      refine wp_region_ext (by kernel_rfl) (by kernel_rfl) ?_
      repeat (go_big_quiet_step ((go_at_call 31; refine calls_ext (fb_r _ _ _ _ _ r hr))))
      refine wpQuiet_nil ?_
      rintro _ ⟨s, rfl⟩
      have hBs := hBa.trans (s.h.mono hBa.size)
      generalize s.w = W2 at *
      clear z1 z2 z3 z4 s
      have HR := Lib.hid (show r < 0 ↔ Geo.low (Geo.X l k) (Geo.X l m) by rw [← hr]; exact fbI_low _ _)
      clear hr
      by_cases hneg : r < 0
      · go_wp2
        go_roundw
        case rel => exact ⟨k + 1, by omega, by go_num, by rw [HS.out, if_pos (HR.out.1 hneg)], hBs⟩
        case measure => simp [intOf]; omega
      · go_wp2
        go_roundw
        case rel => exact ⟨k + 1, by omega, by go_num, by rw [HS.out, if_neg (fun h => hneg (HR.out.2 h))], hBs⟩
        case measure => simp [intOf]; omega
    · obtain rfl : k = l.length := by omega
      have hat := Geo.lowIdx_lt l l.length h0
      obtain ⟨at_, hat_⟩ : ∃ m, m = Geo.lowIdx l l.length := ⟨_, rfl⟩
      have HAT := Lib.hid hat_
      rw [← hat_] at hat ⊢
      clear hat_
      go_wp2
      have g1 : at_ ≤ l.length := by omega
      have g2 : at_ ≤ c := by omega
      have g3 : ¬ c = at_ := by omega
      refine wp_region_tail 6 (by kernel_rfl) (by kernel_rfl) fun W hW => ?_
      simp only [List.take_succ_cons, List.take_zero, List.drop_succ_cons, List.drop_zero]
      iterate 6 still_step
      refine wpStill_nil ?_
      have hBW : Below w.heap.size w W := by rw [hW]; exact hB.drew
      have hBX := hBW.alloc hBW.size (.cells #[.slice (some ⟨b, off + at_ * 2, none⟩) (l.length - at_) (c - at_), .slice (some ⟨b, off, none⟩) at_ c] 22)
      have hcX : ∀ k, k < l.length → (W.alloc (.cells #[.slice (some ⟨b, off + at_ * 2, none⟩) (l.length - at_) (c - at_), .slice (some ⟨b, off, none⟩) at_ c] 22)).cell? ⟨b, off + k * 2, none⟩ = some (.int .i64 (Geo.X l k).1) ∧ (W.alloc (.cells #[.slice (some ⟨b, off + at_ * 2, none⟩) (l.length - at_) (c - at_), .slice (some ⟨b, off, none⟩) at_ c] 22)).cell? ⟨b, off + k * 2 + 1, none⟩ = some (.int .i64 (Geo.X l k).2) :=
        fun k hk => ⟨(hBX.cell (p := ⟨b, off + k * 2, none⟩) hb).trans (HC.out k hk).1, (hBX.cell (p := ⟨b, off + k * 2 + 1, none⟩) hb).trans (HC.out k hk).2⟩
      have HCX := Lib.hid hcX
      clear hcX hW
      have hbX : b < (W.alloc (.cells #[.slice (some ⟨b, off + at_ * 2, none⟩) (l.length - at_) (c - at_), .slice (some ⟨b, off, none⟩) at_ c] 22)).heap.size := Nat.lt_of_lt_of_le hb hBX.size
      go_wp2_with (go_at_call 32; refine (concat_r W.heap.size b (off + at_ * 2) (c - at_) b off c (l.length - at_) at_ (l.drop at_) (l.take at_) (by simp) (by simp; omega) (by omega) (by omega) _ (Blk.new W 22 _) (pts_drop hbX HCX.out at_) (pts_take hbX HCX.out at_)).mono ?_; rintro e w' ⟨v, rfl, hown, hb'⟩)
      go_ret
      refine ⟨_, rfl, ?_, hBX.trans (hb'.mono hBX.size)⟩
      have e : l.drop at_ ++ l.take at_ = Geo.canon l := by unfold Geo.canon; rw [← HAT.out]
      rw [e, show l.length - at_ + at_ = (Geo.canon l).length by rw [Geo.canon_length]; omega] at hown
      exact hown.mono hBX.size
end Go.Proofs.YthabpgclnbmnpaaGreatDoor
