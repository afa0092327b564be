import Derived.Test.YtflkhjicgojcbaaL5
import Derived.Laws.MakeOwn
namespace Go.Proofs.Ytflkhjicgojcbaa
open Go.RowKit Go.Shelf

theorem take_x (l : List Geo.XY) (k : Nat) (h : k < l.length) : l.take (k + 1) = l.take k ++ [Geo.X l k] := by
  rw [List.take_add_one, List.getElem?_eq_getElem h]
  simp [Geo.X, h]
def negXY (p : Geo.XY) : Geo.XY := (-p.1, -p.2)
def mirXY (p : Geo.XY) : Geo.XY := (-p.1, p.2)
def addXY (q p : Geo.XY) : Geo.XY := (p.1 + q.1, p.2 + q.2)
def subXY (q p : Geo.XY) : Geo.XY := (p.1 - q.1, p.2 - q.2)

set_option maxHeartbeats 400000 in
theorem clo76 (p : Geo.XY) (h : Geo.In p) (w : World) : Calls Try.prog 76 #[.agg #[.int .i64 p.1, .int .i64 p.2]] w fun e w' =>
    e = .returned (.agg #[.int .i64 (negXY p).1, .int .i64 (negXY p).2]) ∧ Below w.heap.size w w' := by
  obtain ⟨h1, h2, h3, h4⟩ := h
  go_enter Try.func76, Try.ntmps76
  go_wp2
  refine bodyPost_ret (v := .agg #[.int .i64 (-p.1), .int .i64 (-p.2)]) (by simp [results, Try.results76, go_sem]) rfl ⟨rfl, ?_⟩
  exact ((Below.refl _ _).alloc (Nat.le_refl _) _).alloc (by simp) _
set_option maxHeartbeats 400000 in
theorem clo74 (p : Geo.XY) (h : Geo.In p) (w : World) : Calls Try.prog 74 #[.agg #[.int .i64 p.1, .int .i64 p.2]] w fun e w' =>
    e = .returned (.agg #[.int .i64 (mirXY p).1, .int .i64 (mirXY p).2]) ∧ Below w.heap.size w w' := by
  obtain ⟨h1, h2, h3, h4⟩ := h
  go_enter Try.func74, Try.ntmps74
  go_wp2
  refine bodyPost_ret (v := .agg #[.int .i64 (-p.1), .int .i64 p.2]) (by simp [results, Try.results74, go_sem]) rfl ⟨rfl, ?_⟩
  exact ((Below.refl _ _).alloc (Nat.le_refl _) _).alloc (by simp) _
set_option maxHeartbeats 400000 in
theorem plus_any (ax ay bx bY : Int) (h1 : -10000000 ≤ ax) (h2 : ax ≤ 10000000) (h3 : -10000000 ≤ ay) (h4 : ay ≤ 10000000) (h5 : -10000000 ≤ bx) (h6 : bx ≤ 10000000) (h7 : -10000000 ≤ bY) (h8 : bY ≤ 10000000) (w : World) :
    Calls Try.prog 79 #[.agg #[.int .i64 ax, .int .i64 ay], .agg #[.int .i64 bx, .int .i64 bY]] w fun e w' =>
      e = .returned (.agg #[.int .i64 (ax + bx), .int .i64 (ay + bY)]) ∧ Below w.heap.size w w' := by
  go_enter Try.func79, Try.ntmps79
  go_wp2
  refine bodyPost_ret (v := .agg #[.int .i64 (ax + bx), .int .i64 (ay + bY)]) (by simp [results, Try.results79, go_sem]) rfl ⟨rfl, ?_⟩
  exact (((Below.refl _ _).alloc (Nat.le_refl _) _).alloc (by simp) _).alloc (by simp; omega) _
set_option maxHeartbeats 1000000 in
theorem clo78 (g : Nat) (q p : Geo.XY) (h : Geo.In p) (hq : (-20000 ≤ q.1 ∧ q.1 ≤ 20000) ∧ -20000 ≤ q.2 ∧ q.2 ≤ 20000) (w : World) (hg : Blk w g 38 #[.int .i64 q.1, .int .i64 q.2]) : Calls Try.prog 78 #[.agg #[.int .i64 p.1, .int .i64 p.2], .pointer (some ⟨g, 0, none⟩)] w fun e w' =>
    e = .returned (.agg #[.int .i64 (addXY q p).1, .int .i64 (addXY q p).2]) ∧ Below w.heap.size w w' := by
  obtain ⟨h1, h2, h3, h4⟩ := h
  obtain ⟨⟨k1, k2⟩, k3, k4⟩ := hq
  have q1 := hg.cell 0
  have q2 := hg.cell 1
  have hlt := hg.lt
  simp only [List.getElem?_toArray, List.getElem?_cons_zero, List.getElem?_cons_succ] at q1 q2
  have hB0 : Below w.heap.size w ((w.alloc (.cells #[.int .i64 p.1, .int .i64 p.2] 38)).alloc (.cells #[.int .i64 0, .int .i64 0] 38)) := ((Below.refl _ _).alloc (Nat.le_refl _) _).alloc (by simp) _
  have bO := Blk.new (w.alloc (.cells #[.int .i64 p.1, .int .i64 p.2] 38)) 38 #[.int .i64 0, .int .i64 0]
  rw [World.size_alloc] at bO
  clear hg
  go_enter Try.func78, Try.ntmps78
  go_wp2_with fail
  refine (plus_any p.1 p.2 q.1 q.2 (by omega) (by omega) (by omega) (by omega) (by omega) (by omega) (by omega) (by omega) _).mono ?_
  rintro e w2 ⟨rfl, hb2⟩
  have b2 := bO.below hb2 (by simp)
  have r1 := b2.cell 0
  have r2 := b2.cell 1
  have r3 := b2.frozen 0
  have r4 := b2.frozen 1
  simp only [List.getElem?_toArray, List.getElem?_cons_zero, List.getElem?_cons_succ] at r1 r2
  have hB2 := hB0.trans (hb2.mono hB0.size)
  go_wp2
  refine bodyPost_ret (v := .agg #[.int .i64 (p.1 + q.1), .int .i64 (p.2 + q.2)]) (by simp [results, Try.results78, go_sem, r1, r2]) rfl ⟨rfl, ?_⟩
  exact (hB2.setCell (p := ⟨w.heap.size + 1, 0, none⟩) (by simp) _).setCell (p := ⟨w.heap.size + 1, 1, none⟩) (by simp) _
set_option maxHeartbeats 1000000 in
theorem clo67 (g : Nat) (q p : Geo.XY) (h : Geo.In p) (hq : (-20000 ≤ q.1 ∧ q.1 ≤ 20000) ∧ -20000 ≤ q.2 ∧ q.2 ≤ 20000) (w : World) (hg : Blk w g 38 #[.int .i64 q.1, .int .i64 q.2]) : Calls Try.prog 67 #[.agg #[.int .i64 p.1, .int .i64 p.2], .pointer (some ⟨g, 0, none⟩)] w fun e w' =>
    e = .returned (.agg #[.int .i64 (subXY q p).1, .int .i64 (subXY q p).2]) ∧ Below w.heap.size w w' := by
  obtain ⟨h1, h2, h3, h4⟩ := h
  obtain ⟨⟨k1, k2⟩, k3, k4⟩ := hq
  have q1 := hg.cell 0
  have q2 := hg.cell 1
  have hlt := hg.lt
  simp only [List.getElem?_toArray, List.getElem?_cons_zero, List.getElem?_cons_succ] at q1 q2
  have hB0 : Below w.heap.size w ((w.alloc (.cells #[.int .i64 p.1, .int .i64 p.2] 38)).alloc (.cells #[.int .i64 0, .int .i64 0] 38)) := ((Below.refl _ _).alloc (Nat.le_refl _) _).alloc (by simp) _
  have bO := Blk.new (w.alloc (.cells #[.int .i64 p.1, .int .i64 p.2] 38)) 38 #[.int .i64 0, .int .i64 0]
  rw [World.size_alloc] at bO
  clear hg
  go_enter Try.func67, Try.ntmps67
  go_wp2_with fail
  refine (minus_any p.1 p.2 q.1 q.2 (by omega) (by omega) (by omega) (by omega) (by omega) (by omega) (by omega) (by omega) _).mono ?_
  rintro e w2 ⟨rfl, hb2⟩
  have b2 := bO.below hb2 (by simp)
  have r1 := b2.cell 0
  have r2 := b2.cell 1
  have r3 := b2.frozen 0
  have r4 := b2.frozen 1
  simp only [List.getElem?_toArray, List.getElem?_cons_zero, List.getElem?_cons_succ] at r1 r2
  have hB2 := hB0.trans (hb2.mono hB0.size)
  go_wp2
  refine bodyPost_ret (v := .agg #[.int .i64 (p.1 - q.1), .int .i64 (p.2 - q.2)]) (by simp [results, Try.results67, go_sem, r1, r2]) rfl ⟨rfl, ?_⟩
  exact (hB2.setCell (p := ⟨w.heap.size + 1, 0, none⟩) (by simp) _).setCell (p := ⟨w.heap.size + 1, 1, none⟩) (by simp) _

theorem own_keep {w w' : World} {B : Nat} {v : Value} {n : Nat} {xs : List Value} (h : w.ownsRow B 38 2 v n xs) (hb : Below w.heap.size w w') : w'.ownsRow B 38 2 v n xs := by
  refine h.kept (row := none) ⟨hb.os, hb.tape, hb.output, hb.size, fun k hk _ => hb.block k hk⟩ ?_
  rcases hv : v.ownBlock with _ | g
  · exact .inl rfl
  · exact .inr (by simp)

set_option maxRecDepth 100000 in
set_option maxHeartbeats 2000000 in
theorem changed76 (b off c : Nat) (l : List Geo.XY) (h64 : l.length ≤ 64) (hin : AllIn l) (w : World) (hb : b < w.heap.size)
    (hc : ∀ k, k < l.length → w.cell? ⟨b, off + k * 2, none⟩ = some (.int .i64 (Geo.X l k).1) ∧ w.cell? ⟨b, off + k * 2 + 1, none⟩ = some (.int .i64 (Geo.X l k).2)) :
    Calls Try.prog 66 #[.slice (some ⟨b, off, none⟩) l.length c, .func (.func 76) #[] #[]] w fun e w' => ∃ v, e = .returned v ∧ w'.ownsRow w.heap.size 38 2 v (l.map (negXY)).length (flat (l.map (negXY))) ∧ Below w.heap.size w w' := by
  have HC := Lib.hid hc
  have HIN := Lib.hid hin
  clear hc hin
  obtain ⟨i0, hi, hz0, hz1, hz2⟩ := info_parts info38'
  go_enter Try.func66, Try.ntmps66
  go_wp2_with (at_make; refine wpList_make_own _ rfl _ _ 22 rfl w.heap.size 38 i0 _ 2 Try.underlying22 hi hz0 hz1 .i64 .i64 _ l.length rfl rfl rfl (by rw [hz2]; omega) (by unfold maxLen; omega) (Nat.le_refl _) ?_; intro w0 hown0 hgrow0)
  have hB0 : Below w.heap.size w w0 := (Below.refl _ w).grown hgrow0 (Nat.le_refl _) (fun k e => by cases e)
  clear hgrow0
  go_loopw [5, 13] (fun v i wr => ∃ k : Nat, k ≤ l.length ∧ i = .int .i64 k ∧ wr.ownsRow w.heap.size 38 2 v k (flat ((l.take k).map (negXY))) ∧ Below w.heap.size w wr) (fun _ i _ => l.length - (intOf i).toNat)
  case atStart => exact ⟨0, Nat.zero_le _, rfl, hown0, hB0⟩
  case round =>
    clear hown0 hB0
    obtain ⟨k, hk, rfl, hown, hB⟩ := hrel
    by_cases hlt : k < l.length
    · have c1 : wr.cell? ⟨b, off + k * 2, none⟩ = some (.int .i64 (Geo.X l k).1) := (hB.cell (p := ⟨b, off + k * 2, none⟩) hb).trans (HC.out k hlt).1
      have c2 : wr.cell? ⟨b, off + k * 2 + 1, none⟩ = some (.int .i64 (Geo.X l k).2) := (hB.cell (p := ⟨b, off + k * 2 + 1, none⟩) hb).trans (HC.out k hlt).2
      have HM : Hid ((l.take (k + 1)).map (negXY) = (l.take k).map (negXY) ++ [(negXY) (Geo.X l k)]) := Lib.hid (by rw [take_x l k hlt, List.map_append]; rfl)
      have hBa := hB.alloc hB.size (.cells #[.int .i64 (Geo.X l k).1, .int .i64 (Geo.X l k).2] 38)
      go_wp2_with fail
      refine (clo76 (Geo.X l k) (in_all HIN.out k) _).mono ?_
      rintro e w1 ⟨rfl, hb1⟩
      have hB1 := hBa.trans (hb1.mono hBa.size)
      have hown1 := own_keep hown (Below.trans ((Below.refl wr.heap.size wr).alloc (Nat.le_refl _) (.cells #[.int .i64 (Geo.X l k).1, .int .i64 (Geo.X l k).2] 38)) (hb1.mono (by simp)))
      generalize (negXY) (Geo.X l k) = fp at *
      clear hown hb1 hBa
      go_wp2_with (at_builtin; refine wpList_append_own _ rfl _ _ 22 rfl w.heap.size 38 i0 _ 2 16 Try.underlying22 hi hz0 hz1 hz2 rfl (by decide) _ _ _ rfl (hown1.alloc _) ⟨w1.heap.size, 0, none⟩ 1 1 [.int .i64 fp.1, .int .i64 fp.2] rfl rfl ?c1 ?c2 ?c3 ?c4 ?c5 ?_)
      case c1 => exact new_cells _ _ _
      case c2 => exact one_two _ _
      case c3 => unfold maxLen; omega
      case c4 => omega
      case c5 => have := hB1.size; simp; omega
      intro v' w2 hown' hgrow _
      have hB' : Below w.heap.size w w2 := (hB1.alloc hB1.size _).grown hgrow (by have := hB1.size; simp; omega) (fun k e => (hown1.lt k e).1)
      clear hown1 hgrow
      go_wp2
      go_roundw
      case rel => exact ⟨k + 1, by omega, by go_num, by rw [HM.out, flat_append, List.map_take]; exact hown', hB'⟩
      case measure => simp [intOf]; omega
    · obtain rfl : k = l.length := by omega
      rw [List.take_length] at hown
      go_wp2
      go_ret
      exact ⟨_, rfl, by rw [List.length_map]; exact hown, hB⟩

set_option maxRecDepth 100000 in
set_option maxHeartbeats 2000000 in
theorem changed74 (b off c : Nat) (l : List Geo.XY) (h64 : l.length ≤ 64) (hin : AllIn l) (w : World) (hb : b < w.heap.size)
    (hc : ∀ k, k < l.length → w.cell? ⟨b, off + k * 2, none⟩ = some (.int .i64 (Geo.X l k).1) ∧ w.cell? ⟨b, off + k * 2 + 1, none⟩ = some (.int .i64 (Geo.X l k).2)) :
    Calls Try.prog 66 #[.slice (some ⟨b, off, none⟩) l.length c, .func (.func 74) #[] #[]] w fun e w' => ∃ v, e = .returned v ∧ w'.ownsRow w.heap.size 38 2 v (l.map (mirXY)).length (flat (l.map (mirXY))) ∧ Below w.heap.size w w' := by
  have HC := Lib.hid hc
  have HIN := Lib.hid hin
  clear hc hin
  obtain ⟨i0, hi, hz0, hz1, hz2⟩ := info_parts info38'
  go_enter Try.func66, Try.ntmps66
  go_wp2_with (at_make; refine wpList_make_own _ rfl _ _ 22 rfl w.heap.size 38 i0 _ 2 Try.underlying22 hi hz0 hz1 .i64 .i64 _ l.length rfl rfl rfl (by rw [hz2]; omega) (by unfold maxLen; omega) (Nat.le_refl _) ?_; intro w0 hown0 hgrow0)
  have hB0 : Below w.heap.size w w0 := (Below.refl _ w).grown hgrow0 (Nat.le_refl _) (fun k e => by cases e)
  clear hgrow0
  go_loopw [5, 13] (fun v i wr => ∃ k : Nat, k ≤ l.length ∧ i = .int .i64 k ∧ wr.ownsRow w.heap.size 38 2 v k (flat ((l.take k).map (mirXY))) ∧ Below w.heap.size w wr) (fun _ i _ => l.length - (intOf i).toNat)
  case atStart => exact ⟨0, Nat.zero_le _, rfl, hown0, hB0⟩
  case round =>
    clear hown0 hB0
    obtain ⟨k, hk, rfl, hown, hB⟩ := hrel
    by_cases hlt : k < l.length
    · have c1 : wr.cell? ⟨b, off + k * 2, none⟩ = some (.int .i64 (Geo.X l k).1) := (hB.cell (p := ⟨b, off + k * 2, none⟩) hb).trans (HC.out k hlt).1
      have c2 : wr.cell? ⟨b, off + k * 2 + 1, none⟩ = some (.int .i64 (Geo.X l k).2) := (hB.cell (p := ⟨b, off + k * 2 + 1, none⟩) hb).trans (HC.out k hlt).2
      have HM : Hid ((l.take (k + 1)).map (mirXY) = (l.take k).map (mirXY) ++ [(mirXY) (Geo.X l k)]) := Lib.hid (by rw [take_x l k hlt, List.map_append]; rfl)
      have hBa := hB.alloc hB.size (.cells #[.int .i64 (Geo.X l k).1, .int .i64 (Geo.X l k).2] 38)
      go_wp2_with fail
      refine (clo74 (Geo.X l k) (in_all HIN.out k) _).mono ?_
      rintro e w1 ⟨rfl, hb1⟩
      have hB1 := hBa.trans (hb1.mono hBa.size)
      have hown1 := own_keep hown (Below.trans ((Below.refl wr.heap.size wr).alloc (Nat.le_refl _) (.cells #[.int .i64 (Geo.X l k).1, .int .i64 (Geo.X l k).2] 38)) (hb1.mono (by simp)))
      generalize (mirXY) (Geo.X l k) = fp at *
      clear hown hb1 hBa
      go_wp2_with (at_builtin; refine wpList_append_own _ rfl _ _ 22 rfl w.heap.size 38 i0 _ 2 16 Try.underlying22 hi hz0 hz1 hz2 rfl (by decide) _ _ _ rfl (hown1.alloc _) ⟨w1.heap.size, 0, none⟩ 1 1 [.int .i64 fp.1, .int .i64 fp.2] rfl rfl ?c1 ?c2 ?c3 ?c4 ?c5 ?_)
      case c1 => exact new_cells _ _ _
      case c2 => exact one_two _ _
      case c3 => unfold maxLen; omega
      case c4 => omega
      case c5 => have := hB1.size; simp; omega
      intro v' w2 hown' hgrow _
      have hB' : Below w.heap.size w w2 := (hB1.alloc hB1.size _).grown hgrow (by have := hB1.size; simp; omega) (fun k e => (hown1.lt k e).1)
      clear hown1 hgrow
      go_wp2
      go_roundw
      case rel => exact ⟨k + 1, by omega, by go_num, by rw [HM.out, flat_append, List.map_take]; exact hown', hB'⟩
      case measure => simp [intOf]; omega
    · obtain rfl : k = l.length := by omega
      rw [List.take_length] at hown
      go_wp2
      go_ret
      exact ⟨_, rfl, by rw [List.length_map]; exact hown, hB⟩

set_option maxRecDepth 100000 in
set_option maxHeartbeats 2000000 in
theorem changed78 (b off c : Nat) (l : List Geo.XY) (g : Nat) (q : Geo.XY) (hq : (-20000 ≤ q.1 ∧ q.1 ≤ 20000) ∧ -20000 ≤ q.2 ∧ q.2 ≤ 20000) (h64 : l.length ≤ 64) (hin : AllIn l) (w : World) (hb : b < w.heap.size)
    (hc : ∀ k, k < l.length → w.cell? ⟨b, off + k * 2, none⟩ = some (.int .i64 (Geo.X l k).1) ∧ w.cell? ⟨b, off + k * 2 + 1, none⟩ = some (.int .i64 (Geo.X l k).2)) (hg : Blk w g 38 #[.int .i64 q.1, .int .i64 q.2]) :
    Calls Try.prog 66 #[.slice (some ⟨b, off, none⟩) l.length c, .func (.func 78) #[] #[.pointer (some ⟨g, 0, none⟩)]] w fun e w' => ∃ v, e = .returned v ∧ w'.ownsRow w.heap.size 38 2 v (l.map (addXY q)).length (flat (l.map (addXY q))) ∧ Below w.heap.size w w' := by
  have HC := Lib.hid hc
  have HIN := Lib.hid hin
  clear hc hin
  obtain ⟨i0, hi, hz0, hz1, hz2⟩ := info_parts info38'
  go_enter Try.func66, Try.ntmps66
  go_wp2_with (at_make; refine wpList_make_own _ rfl _ _ 22 rfl w.heap.size 38 i0 _ 2 Try.underlying22 hi hz0 hz1 .i64 .i64 _ l.length rfl rfl rfl (by rw [hz2]; omega) (by unfold maxLen; omega) (Nat.le_refl _) ?_; intro w0 hown0 hgrow0)
  have hB0 : Below w.heap.size w w0 := (Below.refl _ w).grown hgrow0 (Nat.le_refl _) (fun k e => by cases e)
  clear hgrow0
  go_loopw [5, 13] (fun v i wr => ∃ k : Nat, k ≤ l.length ∧ i = .int .i64 k ∧ wr.ownsRow w.heap.size 38 2 v k (flat ((l.take k).map (addXY q))) ∧ Below w.heap.size w wr) (fun _ i _ => l.length - (intOf i).toNat)
  case atStart => exact ⟨0, Nat.zero_le _, rfl, hown0, hB0⟩
  case round =>
    clear hown0 hB0
    obtain ⟨k, hk, rfl, hown, hB⟩ := hrel
    by_cases hlt : k < l.length
    · have c1 : wr.cell? ⟨b, off + k * 2, none⟩ = some (.int .i64 (Geo.X l k).1) := (hB.cell (p := ⟨b, off + k * 2, none⟩) hb).trans (HC.out k hlt).1
      have c2 : wr.cell? ⟨b, off + k * 2 + 1, none⟩ = some (.int .i64 (Geo.X l k).2) := (hB.cell (p := ⟨b, off + k * 2 + 1, none⟩) hb).trans (HC.out k hlt).2
      have HM : Hid ((l.take (k + 1)).map (addXY q) = (l.take k).map (addXY q) ++ [(addXY q) (Geo.X l k)]) := Lib.hid (by rw [take_x l k hlt, List.map_append]; rfl)
      have hBa := hB.alloc hB.size (.cells #[.int .i64 (Geo.X l k).1, .int .i64 (Geo.X l k).2] 38)
      go_wp2_with fail
      refine (clo78 g q (Geo.X l k) (in_all HIN.out k) hq _ (hg.below hBa hg.lt)).mono ?_
      rintro e w1 ⟨rfl, hb1⟩
      have hB1 := hBa.trans (hb1.mono hBa.size)
      have hown1 := own_keep hown (Below.trans ((Below.refl wr.heap.size wr).alloc (Nat.le_refl _) (.cells #[.int .i64 (Geo.X l k).1, .int .i64 (Geo.X l k).2] 38)) (hb1.mono (by simp)))
      generalize (addXY q) (Geo.X l k) = fp at *
      clear hown hb1 hBa
      go_wp2_with (at_builtin; refine wpList_append_own _ rfl _ _ 22 rfl w.heap.size 38 i0 _ 2 16 Try.underlying22 hi hz0 hz1 hz2 rfl (by decide) _ _ _ rfl (hown1.alloc _) ⟨w1.heap.size, 0, none⟩ 1 1 [.int .i64 fp.1, .int .i64 fp.2] rfl rfl ?c1 ?c2 ?c3 ?c4 ?c5 ?_)
      case c1 => exact new_cells _ _ _
      case c2 => exact one_two _ _
      case c3 => unfold maxLen; omega
      case c4 => omega
      case c5 => have := hB1.size; simp; omega
      intro v' w2 hown' hgrow _
      have hB' : Below w.heap.size w w2 := (hB1.alloc hB1.size _).grown hgrow (by have := hB1.size; simp; omega) (fun k e => (hown1.lt k e).1)
      clear hown1 hgrow
      go_wp2
      go_roundw
      case rel => exact ⟨k + 1, by omega, by go_num, by rw [HM.out, flat_append, List.map_take]; exact hown', hB'⟩
      case measure => simp [intOf]; omega
    · obtain rfl : k = l.length := by omega
      rw [List.take_length] at hown
      go_wp2
      go_ret
      exact ⟨_, rfl, by rw [List.length_map]; exact hown, hB⟩

set_option maxRecDepth 100000 in
set_option maxHeartbeats 2000000 in
theorem changed67 (b off c : Nat) (l : List Geo.XY) (g : Nat) (q : Geo.XY) (hq : (-20000 ≤ q.1 ∧ q.1 ≤ 20000) ∧ -20000 ≤ q.2 ∧ q.2 ≤ 20000) (h64 : l.length ≤ 64) (hin : AllIn l) (w : World) (hb : b < w.heap.size)
    (hc : ∀ k, k < l.length → w.cell? ⟨b, off + k * 2, none⟩ = some (.int .i64 (Geo.X l k).1) ∧ w.cell? ⟨b, off + k * 2 + 1, none⟩ = some (.int .i64 (Geo.X l k).2)) (hg : Blk w g 38 #[.int .i64 q.1, .int .i64 q.2]) :
    Calls Try.prog 66 #[.slice (some ⟨b, off, none⟩) l.length c, .func (.func 67) #[] #[.pointer (some ⟨g, 0, none⟩)]] w fun e w' => ∃ v, e = .returned v ∧ w'.ownsRow w.heap.size 38 2 v (l.map (subXY q)).length (flat (l.map (subXY q))) ∧ Below w.heap.size w w' := by
  have HC := Lib.hid hc
  have HIN := Lib.hid hin
  clear hc hin
  obtain ⟨i0, hi, hz0, hz1, hz2⟩ := info_parts info38'
  go_enter Try.func66, Try.ntmps66
  go_wp2_with (at_make; refine wpList_make_own _ rfl _ _ 22 rfl w.heap.size 38 i0 _ 2 Try.underlying22 hi hz0 hz1 .i64 .i64 _ l.length rfl rfl rfl (by rw [hz2]; omega) (by unfold maxLen; omega) (Nat.le_refl _) ?_; intro w0 hown0 hgrow0)
  have hB0 : Below w.heap.size w w0 := (Below.refl _ w).grown hgrow0 (Nat.le_refl _) (fun k e => by cases e)
  clear hgrow0
  go_loopw [5, 13] (fun v i wr => ∃ k : Nat, k ≤ l.length ∧ i = .int .i64 k ∧ wr.ownsRow w.heap.size 38 2 v k (flat ((l.take k).map (subXY q))) ∧ Below w.heap.size w wr) (fun _ i _ => l.length - (intOf i).toNat)
  case atStart => exact ⟨0, Nat.zero_le _, rfl, hown0, hB0⟩
  case round =>
    clear hown0 hB0
    obtain ⟨k, hk, rfl, hown, hB⟩ := hrel
    by_cases hlt : k < l.length
    · have c1 : wr.cell? ⟨b, off + k * 2, none⟩ = some (.int .i64 (Geo.X l k).1) := (hB.cell (p := ⟨b, off + k * 2, none⟩) hb).trans (HC.out k hlt).1
      have c2 : wr.cell? ⟨b, off + k * 2 + 1, none⟩ = some (.int .i64 (Geo.X l k).2) := (hB.cell (p := ⟨b, off + k * 2 + 1, none⟩) hb).trans (HC.out k hlt).2
      have HM : Hid ((l.take (k + 1)).map (subXY q) = (l.take k).map (subXY q) ++ [(subXY q) (Geo.X l k)]) := Lib.hid (by rw [take_x l k hlt, List.map_append]; rfl)
      have hBa := hB.alloc hB.size (.cells #[.int .i64 (Geo.X l k).1, .int .i64 (Geo.X l k).2] 38)
      go_wp2_with fail
      refine (clo67 g q (Geo.X l k) (in_all HIN.out k) hq _ (hg.below hBa hg.lt)).mono ?_
      rintro e w1 ⟨rfl, hb1⟩
      have hB1 := hBa.trans (hb1.mono hBa.size)
      have hown1 := own_keep hown (Below.trans ((Below.refl wr.heap.size wr).alloc (Nat.le_refl _) (.cells #[.int .i64 (Geo.X l k).1, .int .i64 (Geo.X l k).2] 38)) (hb1.mono (by simp)))
      generalize (subXY q) (Geo.X l k) = fp at *
      clear hown hb1 hBa
      go_wp2_with (at_builtin; refine wpList_append_own _ rfl _ _ 22 rfl w.heap.size 38 i0 _ 2 16 Try.underlying22 hi hz0 hz1 hz2 rfl (by decide) _ _ _ rfl (hown1.alloc _) ⟨w1.heap.size, 0, none⟩ 1 1 [.int .i64 fp.1, .int .i64 fp.2] rfl rfl ?c1 ?c2 ?c3 ?c4 ?c5 ?_)
      case c1 => exact new_cells _ _ _
      case c2 => exact one_two _ _
      case c3 => unfold maxLen; omega
      case c4 => omega
      case c5 => have := hB1.size; simp; omega
      intro v' w2 hown' hgrow _
      have hB' : Below w.heap.size w w2 := (hB1.alloc hB1.size _).grown hgrow (by have := hB1.size; simp; omega) (fun k e => (hown1.lt k e).1)
      clear hown1 hgrow
      go_wp2
      go_roundw
      case rel => exact ⟨k + 1, by omega, by go_num, by rw [HM.out, flat_append, List.map_take]; exact hown', hB'⟩
      case measure => simp [intOf]; omega
    · obtain rfl : k = l.length := by omega
      rw [List.take_length] at hown
      go_wp2
      go_ret
      exact ⟨_, rfl, by rw [List.length_map]; exact hown, hB⟩
end Go.Proofs.Ytflkhjicgojcbaa
