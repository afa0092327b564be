import Derived.Test.YtflkhjicgojcbaaQ2
namespace Go.Proofs.Ytflkhjicgojcbaa
open Go.RowKit Go.Shelf

/-- a step of a sum -/
def Stp2 (p : Geo.XY) : Prop := (-40000 ≤ p.1 ∧ p.1 ≤ 40000) ∧ -40000 ≤ p.2 ∧ p.2 ≤ 40000
def posK (at_ : Geo.XY) (zs : List Geo.XY) (k : Nat) : Geo.XY := Geo.add at_ (Geo.tot (zs.take k))
theorem tot_bd {zs : List Geo.XY} (h : ∀ p, p ∈ zs → Stp2 p) (k : Nat) (hk : k ≤ zs.length) : (-(40000 * (k : Int)) ≤ (Geo.tot (zs.take k)).1 ∧ (Geo.tot (zs.take k)).1 ≤ 40000 * (k : Int)) ∧ -(40000 * (k : Int)) ≤ (Geo.tot (zs.take k)).2 ∧ (Geo.tot (zs.take k)).2 ≤ 40000 * (k : Int) := by
  induction k with
  | zero => simp [Geo.tot]
  | succ k ih =>
    have ih := ih (by omega)
    have hx := h _ (Geo.X_mem (show k < zs.length by omega))
    rw [Geo.take_X zs (by omega), Geo.tot_append, Geo.tot, Geo.tot, Geo.add_zero]
    obtain ⟨⟨a1, a2⟩, a3, a4⟩ := hx
    unfold Geo.add
    dsimp only
    omega
theorem posK_bd {at_ : Geo.XY} {zs : List Geo.XY} (ha : (-20000 ≤ at_.1 ∧ at_.1 ≤ 20000) ∧ -20000 ≤ at_.2 ∧ at_.2 ≤ 20000) (h : ∀ p, p ∈ zs → Stp2 p) (hl : zs.length ≤ 128) (k : Nat) (hk : k ≤ zs.length) : (-8000000 ≤ (posK at_ zs k).1 ∧ (posK at_ zs k).1 ≤ 8000000) ∧ -8000000 ≤ (posK at_ zs k).2 ∧ (posK at_ zs k).2 ≤ 8000000 := by
  have := tot_bd h k hk
  unfold posK Geo.add
  dsimp only
  omega
theorem posK_succ (at_ : Geo.XY) (zs : List Geo.XY) (k : Nat) (hk : k < zs.length) : posK at_ zs (k + 1) = ((posK at_ zs k).1 + (Geo.X zs k).1, (posK at_ zs k).2 + (Geo.X zs k).2) := by
  unfold posK
  rw [Geo.take_X zs hk, Geo.tot_append, Geo.tot, Geo.tot, Geo.add_zero]
  unfold Geo.add
  ext <;> dsimp only <;> omega
def WSt (w : World) (at_ : Geo.XY) (zs : List Geo.XY) (v i : Value) (wr : World) : Prop := ∃ k : Nat, k ≤ zs.length ∧ i = .int .i64 k ∧ wr.ownsRow (w.heap.size + 1) 38 2 v k (flat ((Geo.walkL at_ zs).take k)) ∧
  Blk wr w.heap.size 38 #[.int .i64 (posK at_ zs k).1, .int .i64 (posK at_ zs k).2] ∧ Below w.heap.size w wr

set_option maxRecDepth 100000 in
set_option maxHeartbeats 4000000 in
theorem walk_any (b off c : Nat) (at_ : Geo.XY) (zs : List Geo.XY) (hl : zs.length ≤ 128) (ha : (-20000 ≤ at_.1 ∧ at_.1 ≤ 20000) ∧ -20000 ≤ at_.2 ∧ at_.2 ≤ 20000) (hz : ∀ p, p ∈ zs → Stp2 p) (w : World) (hb : b < w.heap.size)
    (hc : ∀ k, k < zs.length → w.cell? ⟨b, off + k * 2, none⟩ = some (.int .i64 (Geo.X zs k).1) ∧ w.cell? ⟨b, off + k * 2 + 1, none⟩ = some (.int .i64 (Geo.X zs k).2)) :
    Calls Try.prog 87 #[.agg #[.int .i64 at_.1, .int .i64 at_.2], .slice (some ⟨b, off, none⟩) zs.length c] w fun e w' => ∃ v, e = .returned v ∧ w'.ownsRow w.heap.size 38 2 v (Geo.walkL at_ zs).length (flat (Geo.walkL at_ zs)) ∧ Below w.heap.size w w' := by
  have HC := Lib.hid hc
  have HZ := Lib.hid hz
  have HA := Lib.hid ha
  have HP0 : Hid (posK at_ zs 0 = at_) := Lib.hid (by unfold posK; rw [List.take_zero, Geo.tot, Geo.add_zero])
  clear hc hz ha
  obtain ⟨i0, hi, hz0, hz1, hz2⟩ := info_parts info38'
  have hBa := (Below.refl _ w).alloc (Nat.le_refl _) (.cells #[.int .i64 at_.1, .int .i64 at_.2] 38)
  have bP := Blk.new w 38 #[.int .i64 at_.1, .int .i64 at_.2]
  go_enter Try.func87, Try.ntmps87
  go_wp2_with (at_make; refine wpList_make_own _ rfl _ _ 22 rfl (w.heap.size + 1) 38 i0 _ 2 Try.underlying22 hi hz0 hz1 .i64 .i64 _ zs.length rfl rfl rfl (by rw [hz2]; omega) (by unfold maxLen; omega) (by simp) ?_; intro w0 hown0 hgrow0)
  have hB0 : Below w.heap.size w w0 := hBa.grown hgrow0 hBa.size (fun k e => by cases e)
  have bP0 : Blk w0 w.heap.size 38 #[.int .i64 at_.1, .int .i64 at_.2] := (hgrow0.block _ bP.lt (by simp)).trans bP
  rw [World.size_alloc] at hown0
  clear hgrow0 bP hBa
  go_loopw [5, 13] (fun v i wr => WSt w at_ zs v i wr) (fun _ i _ => zs.length - (intOf i).toNat)
  case atStart => exact ⟨0, Nat.zero_le _, rfl, hown0, by rw [HP0.out]; exact bP0, hB0⟩
  case round =>
    clear hown0 bP0 hB0
    obtain ⟨k, hk, rfl, hown, bP, hB⟩ := hrel
    by_cases hlt : k < zs.length
    · have c1 : wr.cell? ⟨b, off + k * 2, none⟩ = some (.int .i64 (Geo.X zs k).1) := (hB.cell (p := ⟨b, off + k * 2, none⟩) hb).trans (HC.out k hlt).1
      have c2 : wr.cell? ⟨b, off + k * 2 + 1, none⟩ = some (.int .i64 (Geo.X zs k).2) := (hB.cell (p := ⟨b, off + k * 2 + 1, none⟩) hb).trans (HC.out k hlt).2
      have HW : Hid ((Geo.walkL at_ zs).take (k + 1) = (Geo.walkL at_ zs).take k ++ [posK at_ zs k]) := Lib.hid (by rw [Geo.take_X _ (by rw [Geo.walkL_len]; exact hlt), Geo.X_walkL _ _ hlt]; rfl)
      have HPS := Lib.hid (posK_succ at_ zs k hlt)
      obtain ⟨⟨p1, p2⟩, p3, p4⟩ := posK_bd HA.out HZ.out hl k hk
      obtain ⟨⟨x1, x2⟩, x3, x4⟩ := HZ.out _ (Geo.X_mem hlt)
      generalize hp : posK at_ zs k = ps at *
      generalize hx : Geo.X zs k = x at *
      clear hp hx
      have hlP := bP.lt
      have hG : u5.ownBlock ≠ some w.heap.size := fun e => by have := (hown.lt _ e).1; omega
      have hT : u5.ownBlock ≠ some wr.heap.size := fun e => by have := (hown.lt _ e).2; omega
      have q1 := bP.cell 0
      have q2 := bP.cell 1
      simp only [List.getElem?_toArray, List.getElem?_cons_zero, List.getElem?_cons_succ] at q1 q2
      have hsz := hB.size
      have bT := Blk.new wr 38 #[.int .i64 x.1, .int .i64 x.2]
      have bPa := bP.alloc (.cells #[.int .i64 x.1, .int .i64 x.2] 38)
      have d1 := bPa.cell 0
      have d2 := bPa.cell 1
      simp only [List.getElem?_toArray, List.getElem?_cons_zero, List.getElem?_cons_succ] at d1 d2
      go_wp2_with (first
        | (at_builtin; refine wpList_append_own _ rfl _ _ 22 rfl (w.heap.size + 1) 38 i0 _ 2 16 Try.underlying22 hi hz0 hz1 hz2 rfl (by decide) _ _ _ rfl ((hown.alloc _).alloc _) ⟨wr.heap.size + 1, 0, none⟩ 1 1 [.int .i64 ps.1, .int .i64 ps.2] rfl rfl (new_cells2 _ _ _ _) (one_two _ _) (by unfold maxLen; omega) (by omega) (by simp; omega) ?_; intro v2 w2 hown2 hgrow2 _; have bT2 : Blk w2 wr.heap.size 38 #[.int .i64 x.1, .int .i64 x.2] := (hgrow2.block _ (by simp; omega) hT.symm).trans (bT.alloc _); have bP2 : Blk w2 w.heap.size 38 #[.int .i64 ps.1, .int .i64 ps.2] := (hgrow2.block _ (by simp; omega) hG.symm).trans (bPa.alloc _); have e1 := bT2.cell 0; have e2 := bT2.cell 1; have e3 := bP2.cell 0; have e4 := bP2.cell 1; simp only [List.getElem?_toArray, List.getElem?_cons_zero, List.getElem?_cons_succ] at e1 e2 e3 e4; have hB2 : Below w.heap.size w w2 := ((hB.alloc hsz _).alloc (by simp; omega) _).grown hgrow2 (by simp; omega) (fun j e => by have := (hown.lt j e).1; omega))
        | (go_at_call 79; refine (plus_any _ _ _ _ (by omega) (by omega) (by omega) (by omega) (by omega) (by omega) (by omega) (by omega) _).mono ?_; rintro e w3 ⟨rfl, hb3⟩; have bP3 := bP2.below hb3 bP2.lt; have r1 := bP3.cell 0; have r2 := bP3.cell 1; have r3 := bP3.frozen 0; have r4 := bP3.frozen 1; simp only [List.getElem?_toArray, List.getElem?_cons_zero, List.getElem?_cons_succ] at r1 r2))
      have hB3 := hB2.trans (hb3.mono hB2.size)
      have bP4 : Blk ((w3.setCell ⟨w.heap.size, 0, none⟩ (.int .i64 (ps.1 + x.1))).setCell ⟨w.heap.size, 1, none⟩ (.int .i64 (ps.2 + x.2))) w.heap.size 38 #[.int .i64 (ps.1 + x.1), .int .i64 (ps.2 + x.2)] := (bP3.set_ 0 (.int .i64 (ps.1 + x.1))).set_ 1 (.int .i64 (ps.2 + x.2))
      have hG2 : v2.ownBlock ≠ some w.heap.size := fun e => by have := (hown2.lt _ e).1; omega
      go_roundw
      case rel => exact ⟨k + 1, by omega, by go_num, by rw [HW.out, flat_append]; exact own_set (own_set (own_keep hown2 hb3) hG2 0 _) hG2 1 _, by rw [HPS.out]; exact bP4, (hB3.setCell (p := ⟨w.heap.size, 0, none⟩) (Nat.le_refl _) _).setCell (p := ⟨w.heap.size, 1, none⟩) (Nat.le_refl _) _⟩
      case measure => simp [intOf]; omega
    · obtain rfl : k = zs.length := by omega
      go_wp2
      go_ret
      refine ⟨_, rfl, ?_, hB⟩
      have e : (Geo.walkL at_ zs).take zs.length = Geo.walkL at_ zs := by rw [← Geo.walkL_len at_ zs, List.take_length]
      rw [e] at hown
      rw [Geo.walkL_len]
      exact hown.mono (by omega)
end Go.Proofs.Ytflkhjicgojcbaa
