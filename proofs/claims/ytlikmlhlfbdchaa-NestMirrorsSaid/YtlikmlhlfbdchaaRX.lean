/- Merged: R1 R2. -/
import Derived.Test.YtlikmlhlfbdchaaQ2
import Derived.Test.YtlikmlhlfbdchaaBZ
/- nest: the document's lying, valid parts, places; places of the program. -/
namespace Go.Proofs.Ytlikmlhlfbdchaa
open Go.RowKit Go.Shelf

set_option maxRecDepth 100000 in
set_option maxHeartbeats 2000000 in
theorem rshift_w (b off c : Nat) (l : List Geo.XY) (dx dy : Int) (hq : (-200000 ≤ dx ∧ dx ≤ 200000) ∧ -200000 ≤ dy ∧ dy ≤ 200000) (h64 : l.length ≤ 64) (hin : Ne.AllBd l) (w : World) (hb : b < w.heap.size)
    (hc : ∀ k, k < l.length → w.cell? ⟨b, off + k * 2, none⟩ = some (.int .i64 (Geo.X l k).1) ∧ w.cell? ⟨b, off + k * 2 + 1, none⟩ = some (.int .i64 (Geo.X l k).2)) :
    Calls Try.prog 54 #[.slice (some ⟨b, off, none⟩) l.length c, .int .i64 dx, .int .i64 dy] w fun e w' => ∃ v, e = .returned v ∧ w'.ownsRow w.heap.size 76 2 v (l.map (addXY (dx, dy))).length (flat (l.map (addXY (dx, dy)))) ∧ Below w.heap.size w w' := by
  have HC := Lib.hid hc
  have HIN := Lib.hid hin
  clear hc hin
  obtain ⟨⟨k1, k2⟩, k3, k4⟩ := hq
  obtain ⟨i0, hi, hz0, hz1, hz2⟩ := info_parts info38'
  go_enter Try.func54, Try.ntmps54
  go_wp2
  go_loopw [7, 12] (fun v i wr => ∃ k : Nat, k ≤ l.length ∧ i = .int .i64 k ∧ wr.ownsRow w.heap.size 76 2 v k (flat ((l.take k).map (addXY (dx, dy)))) ∧ Below w.heap.size w wr) (fun _ i _ => l.length - (intOf i).toNat)
  case atStart => exact ⟨0, Nat.zero_le _, rfl, World.ownsRow_nil _ _ _ _, Below.refl _ _⟩
  case round =>
    obtain ⟨k, hk, rfl, hown, hB⟩ := hrel
    by_cases hlt : k < l.length
    · have c1 : wr.cell? ⟨b, off + k * 2, none⟩ = some (.int .i64 (Geo.X l k).1) := (hB.cell (p := ⟨b, off + k * 2, none⟩) hb).trans (HC.out k hlt).1
      have c2 : wr.cell? ⟨b, off + k * 2 + 1, none⟩ = some (.int .i64 (Geo.X l k).2) := (hB.cell (p := ⟨b, off + k * 2 + 1, none⟩) hb).trans (HC.out k hlt).2
      have HM : Hid ((l.take (k + 1)).map (addXY (dx, dy)) = (l.take k).map (addXY (dx, dy)) ++ [addXY (dx, dy) (Geo.X l k)]) := Lib.hid (by rw [take_x l k hlt, List.map_append]; rfl)
      obtain ⟨a1, a2, a3, a4⟩ := HIN.out k hlt
      go_wp2_with (at_builtin; refine wpList_append_own _ rfl _ _ 22 rfl w.heap.size 76 i0 _ 2 16 Try.underlying22 hi hz0 hz1 hz2 rfl (by decide) _ _ _ rfl ((hown.alloc _).alloc _) ⟨wr.heap.size + 1, 0, none⟩ 1 1 [.int .i64 ((Geo.X l k).1 + dx), .int .i64 ((Geo.X l k).2 + dy)] rfl rfl ?c1 ?c2 ?c3 ?c4 ?c5 ?_)
      case c1 => exact new_cells2 _ _ _ _
      case c2 => exact one_two _ _
      case c3 => unfold maxLen; omega
      case c4 => omega
      case c5 => have := hB.size; simp; omega
      intro v' w2 hown' hgrow _
      have hB' : Below w.heap.size w w2 := ((hB.alloc hB.size _).alloc (by have := hB.size; simp; omega) _).grown hgrow (by have := hB.size; simp; omega) (fun k e => (hown.lt k e).1)
      clear hown hgrow
      go_wp2
      go_roundw
      case rel => exact ⟨k + 1, by omega, by go_num, by rw [HM.out, flat_append, List.map_take]; exact hown', hB'⟩
      case measure => simp [intOf]; omega
    · obtain rfl : k = l.length := by omega
      rw [List.take_length] at hown
      go_wp2
      go_ret
      exact ⟨_, rfl, by rw [List.length_map]; exact hown, hB⟩

set_option maxRecDepth 100000 in
set_option maxHeartbeats 2000000 in
theorem ends_w (b off cap : Nat) (l : List Geo.XY) (h0 : 0 < l.length) (h64 : l.length ≤ 100000) (w : World) (hb : b < w.heap.size)
    (hc : ∀ k, k < l.length → w.cell? ⟨b, off + k * 2, none⟩ = some (.int .i64 (Geo.X l k).1) ∧ w.cell? ⟨b, off + k * 2 + 1, none⟩ = some (.int .i64 (Geo.X l k).2)) :
    Calls Try.prog 63 #[.slice (some ⟨b, off, none⟩) l.length cap] w fun e w' =>
      e = .returned (.tuple #[.agg #[.int .i64 (lowP l l.length).1, .int .i64 (lowP l l.length).2], .agg #[.int .i64 (highP l l.length).1, .int .i64 (highP l l.length).2]]) ∧ Below w.heap.size w w' := by
  have HC := Lib.hid hc
  have c1 := (hc 0 h0).1
  have c2 := (hc 0 h0).2
  simp only [Nat.zero_mul, Nat.add_zero] at c1 c2
  clear hc
  go_enter Try.func63, Try.ntmps63
  go_wp2
  go_region
  have bL := ((Blk.new w 76 (xyA (Geo.X l 0))).alloc (.cells (xyA (Geo.X l 0)) 76)).drew
  have bH := (Blk.new (w.alloc (.cells (xyA (Geo.X l 0)) 76)) 76 (xyA (Geo.X l 0))).drew
  rw [World.size_alloc] at bH
  have hB0 : Below w.heap.size w ((w.alloc (.cells (xyA (Geo.X l 0)) 76)).alloc (.cells (xyA (Geo.X l 0)) 76)).drew := (((Below.refl _ w).alloc (Nat.le_refl _) _).alloc (by simp) _).drew
  unfold xyA at bL bH hB0
  generalize ((w.alloc (.cells #[.int .i64 (Geo.X l 0).1, .int .i64 (Geo.X l 0).2] 76)).alloc (.cells #[.int .i64 (Geo.X l 0).1, .int .i64 (Geo.X l 0).2] 76)).drew = W0 at *
  clear c1 c2
  go_wp2
  go_loopw [14] (fun i wr => ∃ k : Nat, k ≤ l.length ∧ i = .int .i64 k ∧ (Blk wr w.heap.size 76 #[.int .i64 (lowP l k).1, .int .i64 (lowP l k).2] ∧ Blk wr (w.heap.size + 1) 76 #[.int .i64 (highP l k).1, .int .i64 (highP l k).2]) ∧ Below w.heap.size w wr) (fun i _ => l.length - (intOf i).toNat)
  case atStart => exact ⟨0, Nat.zero_le _, rfl, ⟨bL, bH⟩, hB0⟩
  case round =>
    clear bL bH hB0
    obtain ⟨k, hk, rfl, ⟨bL, bH⟩, hB⟩ := hrel
    by_cases hlt : k < l.length
    · have c1 : wr.cell? ⟨b, off + k * 2, none⟩ = some (.int .i64 (Geo.X l k).1) := (hB.cell (p := ⟨b, off + k * 2, none⟩) hb).trans (HC.out k hlt).1
      have c2 : wr.cell? ⟨b, off + k * 2 + 1, none⟩ = some (.int .i64 (Geo.X l k).2) := (hB.cell (p := ⟨b, off + k * 2 + 1, none⟩) hb).trans (HC.out k hlt).2
      have q1 := bL.cell 0
      have q2 := bL.cell 1
      have q3 := bL.frozen 0
      have q4 := bL.frozen 1
      have r1 := bH.cell 0
      have r2 := bH.cell 1
      have r3 := bH.frozen 0
      have r4 := bH.frozen 1
      have hl1 := bL.lt
      have hl2 := bH.lt
      simp only [List.getElem?_toArray, List.getElem?_cons_zero, List.getElem?_cons_succ] at q1 q2 r1 r2
      have hbl : b < wr.heap.size := Nat.lt_of_lt_of_le hb hB.size
      go_wp2
      go_roundw
      case rel =>
        refine ⟨k + 1, by omega, by go_num, ⟨?_, ?_⟩, ?_⟩
        · exact ((((bL.set_ 0 _).set_ 1 _).far (p := ⟨w.heap.size + 1, 0, none⟩) (by simp) _).far (p := ⟨w.heap.size + 1, 1, none⟩) (by simp) _).alloc _
        · exact ((((bH.far (p := ⟨w.heap.size, 0, none⟩) (by simp) _).far (p := ⟨w.heap.size, 1, none⟩) (by simp) _).set_ 0 _).set_ 1 _).alloc _
        · exact ((((hB.setCell (p := ⟨w.heap.size, 0, none⟩) (by simp) _).setCell (p := ⟨w.heap.size, 1, none⟩) (by simp) _).setCell (p := ⟨w.heap.size + 1, 0, none⟩) (by simp) _).setCell (p := ⟨w.heap.size + 1, 1, none⟩) (by simp) _).alloc (by simp; exact hB.size) _
      case measure => simp [intOf]; omega
    · obtain rfl : k = l.length := by omega
      have q1 := bL.cell 0
      have q2 := bL.cell 1
      have q3 := bL.frozen 0
      have q4 := bL.frozen 1
      have r1 := bH.cell 0
      have r2 := bH.cell 1
      have r3 := bH.frozen 0
      have r4 := bH.frozen 1
      have hl1 := bL.lt
      have hl2 := bH.lt
      simp only [List.getElem?_toArray, List.getElem?_cons_zero, List.getElem?_cons_succ] at q1 q2 r1 r2
      go_wp2
      go_region
      go_wp2
      refine ⟨rfl, .tuple #[.agg #[.int .i64 (lowP l l.length).1, .int .i64 (lowP l l.length).2], .agg #[.int .i64 (highP l l.length).1, .int .i64 (highP l l.length).2]], ?_, ?_⟩
      · simp [results, Try.f63, go_sem, q1, q2, r1, r2]
      · exact ⟨rfl, ((((hB.setCell (p := ⟨w.heap.size, 0, none⟩) (by simp) _).setCell (p := ⟨w.heap.size, 1, none⟩) (by simp) _).setCell (p := ⟨w.heap.size + 1, 0, none⟩) (by simp) _).setCell (p := ⟨w.heap.size + 1, 1, none⟩) (by simp) _).drew⟩


namespace Ne
theorem canon_neg_canon {o : List Geo.XY} (h : Valid o) : Geo.canon ((Geo.canon o).map negXY) = Geo.canon (o.map negXY) := by
  rw [Geo.canon_is o, Geo.Rot_map]
  exact canon_rot h.neg (by rw [List.length_map]; exact Geo.lowIdx_le o)
end Ne
set_option maxRecDepth 100000 in
set_option maxHeartbeats 4000000 in
theorem rlying_b (B : Option Addr) (l : List Ne.Pa) (c' m i : Nat) (hm : l.length = m) (hi : i < m) (x y : Int) (t : Bool) (hx : -120000 ≤ x ∧ x ≤ 120000) (hy : -120000 ≤ y ∧ y ≤ 120000) (hv : validB (l.getD i Ne.za).o = true)
    (n : Nat) (hn : (l.getD i Ne.za).o.length = n) (L : List Geo.XY) (hL : Ne.lyg l ⟨i, x, y, t⟩ = L) (w : World) (hP : Ne.PaM w B l) :
    Calls Try.prog 61 #[.slice B m c', .agg #[.int .i64 i, .int .i64 x, .int .i64 y, .bool t]] w fun e w' => ∃ v, e = .returned v ∧ w'.ownsRow w.heap.size 76 2 v n (flat L) ∧ Below w.heap.size w w' := by
  obtain ⟨b, off, rfl, hb, hc⟩ := hP.open (by omega)
  obtain ⟨A1, c1, d1, d2, d3, d4⟩ := hc i (by omega)
  obtain ⟨o, ho⟩ : ∃ o, (l.getD i Ne.za).o = o := ⟨_, rfl⟩
  rw [ho] at d1 d3 d4 hv hn
  obtain ⟨F, hF⟩ : ∃ F, Ne.frm o t = F := ⟨_, rfl⟩
  have hL' : F.map (addXY (x, y)) = L := by rw [← hL, ← hF, ← ho]; unfold Ne.lyg; simp
  have hFl : F.length = n := by rw [← hF, Ne.frm_len, hn]
  have hval := valid_of hv
  have hFv : Valid F := by rw [← hF]; exact Ne.frm_valid hval t
  have h3 := hFv.1
  have h64 := hFv.2.1
  have hB := (Below.refl w.heap.size w).alloc (Nat.le_refl _) (.cells #[.int .i64 i, .int .i64 x, .int .i64 y, .bool t] 40)
  have bP := Blk.new w 40 #[.int .i64 i, .int .i64 x, .int .i64 y, .bool t]
  have q0 := bP.cell 0
  have q3 := bP.cell 3
  simp only [List.getElem?_toArray, List.getElem?_cons_zero, List.getElem?_cons_succ] at q0 q3
  have e1 : (w.alloc (.cells #[.int .i64 i, .int .i64 x, .int .i64 y, .bool t] 40)).cell? ⟨b, off + i * 2, none⟩ = some (.slice A1 n c1) := by rw [← hn]; exact (hB.cell (p := ⟨b, off + i * 2, none⟩) hb).trans d1
  have HC : Hid (∀ W, Below w.heap.size w W → Calls Try.prog 46 #[.slice A1 n c1] W fun e w' => ∃ A2 c2, e = .returned (.tuple #[.slice A2 n c2, .int .i64 0]) ∧ Pts w' A2 (Geo.canon o) ∧ n ≤ c2 ∧ w'.ownsRow W.heap.size 76 2 (.slice A2 n c2) n (flat (Geo.canon o)) ∧ Below W.heap.size W w') := Lib.hid (fun W hW => by
    have H := rcanonical A1 o c1 W (d3.below hW) d4
    rw [hn] at H
    refine H.mono ?_
    rintro e w' ⟨v, h1, h2, h3'⟩
    rw [canonV_ok hv] at h1 h2
    dsimp only at h1 h2
    obtain ⟨A2, c2, rfl, k1, k2⟩ := pts_of_owns' h2
    rw [Geo.canon_length, hn] at h1 h2 k2
    exact ⟨A2, c2, h1, k1, k2, h2, h3'⟩)
  have HT : Hid (t = true → ∀ A2 c2 W, Pts W A2 (Geo.canon o) → Calls Try.prog 16 #[.slice A2 n c2] W fun e w' => ∃ A3 c3, e = .returned (.tuple #[.slice A3 n c3, .int .i64 0]) ∧ Pts w' A3 F ∧ n ≤ c3 ∧ Below W.heap.size W w') := Lib.hid (fun ht A2 c2 W hW => by
    have H := rturned_any A2 (Geo.canon o) c2 W hW
    rw [Geo.canon_length, hn] at H
    refine H.mono ?_
    rintro e w' ⟨v, h1, h2, h3'⟩
    have e0 : lstV (Geo.canon o) ((Geo.canon o).map negXY) = (F, 0) := by
      unfold lstV; rw [if_pos (validB_true hval.canon), Ne.canon_neg_canon hval, ← hF]; unfold Ne.frm; rw [if_pos ht]
    rw [e0] at h1 h2
    dsimp only at h1 h2
    obtain ⟨A3, c3, rfl, k1, k2⟩ := pts_of_owns' h2
    rw [hFl] at h1 k2
    exact ⟨A3, c3, h1, k1, k2, h3'⟩)
  have HS : Hid (∀ A3 c3 W, Pts W A3 F → Calls Try.prog 54 #[.slice A3 n c3, .int .i64 x, .int .i64 y] W fun e w' => ∃ v, e = .returned v ∧ w'.ownsRow W.heap.size 76 2 v n (flat L) ∧ Below W.heap.size W w') := Lib.hid (fun A3 c3 W hW => by
    obtain ⟨b3, off3, rfl, hb3, hc3⟩ := pts_open hW (by omega)
    have H := rshift_w b3 off3 c3 F x y (by omega) h64 (Ne.allBd_in hFv.allin) W hb3 hc3
    rw [hL', hFl] at H
    refine H.mono ?_
    rintro e w' ⟨v, h1, h2, h3'⟩
    have hLl : L.length = n := by rw [← hL', List.length_map, hFl]
    rw [hLl] at h2
    exact ⟨v, h1, h2, h3'⟩)
  have HFC : Hid (t = false → F = Geo.canon o) := Lib.hid (fun ht => by rw [← hF]; unfold Ne.frm; rw [if_neg (by rw [ht]; simp)])
  have hlm : (i : Int) < (m : Int) := by omega
  clear hL hF hL' hval hFv hv ho d1 d2 d3 d4 hc hP hn hm hFl
  cases t with
  | false =>
    have HF2 := Lib.hid (HFC.out rfl)
    go_enter Try.func61, Try.ntmps61
    go_wp2_with fail
    refine (HC.out _ hB).mono ?_
    rintro e w1 ⟨A2, c2, rfl, hP2, _, _, hb1⟩
    have hp := Lib.hid hP2
    have bP1 := bP.below hb1 bP.lt
    have s1 := bP1.cell 1
    have s2 := bP1.cell 2
    have s3 := bP1.cell 3
    simp only [List.getElem?_toArray, List.getElem?_cons_zero, List.getElem?_cons_succ] at s1 s2 s3
    have hB1 := hB.trans (hb1.mono hB.size)
    clear q0 q3 e1 HC hP2
    go_wp2_with fail
    refine (HS.out A2 c2 _ (by rw [HF2.out]; exact hp.out)).mono ?_
    rintro e w2 ⟨v, rfl, hO, hb2⟩
    have hB2 := hB1.trans (hb2.mono hB1.size)
    go_wp2
    go_ret
    exact ⟨_, rfl, hO.mono hB1.size, hB2⟩
  | true =>
    have HT2 := Lib.hid (HT.out rfl)
    go_enter Try.func61, Try.ntmps61
    go_wp2_with fail
    refine (HC.out _ hB).mono ?_
    rintro e w1 ⟨A2, c2, rfl, hP2, _, _, hb1⟩
    have hp := Lib.hid hP2
    have bP1 := bP.below hb1 bP.lt
    have s3 := bP1.cell 3
    simp only [List.getElem?_toArray, List.getElem?_cons_zero, List.getElem?_cons_succ] at s3
    have hB1 := hB.trans (hb1.mono hB.size)
    clear q0 q3 e1 HC hP2
    go_wp2_with fail
    refine (HT2.out A2 c2 _ hp.out).mono ?_
    rintro e w2 ⟨A3, c3, rfl, hP3, _, hb2⟩
    have hp3 := Lib.hid hP3
    have bP2 := bP1.below hb2 bP1.lt
    have t1 := bP2.cell 1
    have t2 := bP2.cell 2
    simp only [List.getElem?_toArray, List.getElem?_cons_zero, List.getElem?_cons_succ] at t1 t2
    have hB2 := hB1.trans (hb2.mono hB1.size)
    clear s3 hP3
    go_wp2_with fail
    refine (HS.out A3 c3 _ hp3.out).mono ?_
    rintro e w3 ⟨v, rfl, hO, hb3⟩
    have hB3 := hB2.trans (hb3.mono hB2.size)
    go_wp2
    go_ret
    exact ⟨_, rfl, hO.mono hB2.size, hB3⟩

set_option maxRecDepth 100000 in
set_option maxHeartbeats 4000000 in
theorem rvparts_b (A : Option Addr) (l : List Ne.Pa) (c n : Nat) (hn : l.length = n) (hnM : n ≤ maxLen) (r : Bool) (hr : Ne.vPa l = r) (w : World) (hP : Ne.PaM w A l) :
    Calls Try.prog 59 #[.slice A n c] w fun e w' => e = .returned (.bool r) ∧ Below w.heap.size w w' := by
  unfold Ne.vPa at hr
  rw [hn] at hr
  have HN := Lib.hid hn
  have HP := Lib.hid hP
  unfold maxLen at hnM
  clear hn hP
  have HNO : Hid (∀ k, k < n → Ne.vPs l (k + 1) = false → r = false) := Lib.hid (fun k hk h => by
    rw [← hr]
    cases e : Ne.vPs l n with
    | false => simp
    | true => rw [Ne.vPs_mono (show k + 1 ≤ n by omega) e] at h; cases h)
  have HV : Hid (Ne.vPs l n = true → r = decide (n ≤ 60)) := Lib.hid (fun h => by rw [← hr, h]; simp)
  clear hr
  have hnM' : n ≤ 9223372036854775807 := hnM
  go_enter Try.func59, Try.ntmps59
  go_wp2
  go_loopw [7] (fun i wr => ∃ k : Nat, k ≤ n ∧ i = .int .i64 k ∧ Ne.vPs l k = true ∧ Below w.heap.size w wr) (fun i _ => n - (intOf i).toNat)
  case atStart => exact ⟨0, Nat.zero_le _, rfl, rfl, Below.refl _ _⟩
  case round =>
    obtain ⟨k, hk, rfl, hv, hb⟩ := hrel
    have HVK := Lib.hid hv
    clear hv
    by_cases hlt : k < n
    · obtain ⟨g, off, rfl, hg, hc⟩ := (HP.out.below hb).open (by rw [HN.out]; omega)
      obtain ⟨A', c', c1, c2, c3, c4⟩ := hc k (by rw [HN.out]; omega)
      have HS : Hid (Ne.vPs l (k + 1) = validB (l.getD k Ne.za).o) := Lib.hid (by rw [Ne.vPs, HVK.out]; rfl)
      obtain ⟨q, hq⟩ : ∃ q, l.getD k Ne.za = q := ⟨_, rfl⟩
      rw [hq] at c1 c2 c3 HS
      obtain ⟨y, hy⟩ : ∃ y, validB q.o = y := ⟨_, rfl⟩
      have HY := Lib.hid hy
      rw [hy] at HS
      obtain ⟨m, hm⟩ : ∃ m, q.o.length = m := ⟨_, rfl⟩
      have HM := Lib.hid hm
      rw [hm] at c1
      have HC3 := Lib.hid c3
      clear hc hq hy hm c3 c4
      have bN := Blk.new wr 68 #[.slice A' m c', .bool q.t]
      have f0 := bN.cell 0
      simp only [List.getElem?_toArray, List.getElem?_cons_zero] at f0
      have hb2 := hb.alloc hb.size (.cells #[.slice A' m c', .bool q.t] 68)
      have hba := (Below.refl wr.heap.size wr).alloc (Nat.le_refl _) (.cells #[.slice A' m c', .bool q.t] 68)
      clear bN
      go_wp2_with fail
      have hv := rvalid_b A' q.o c' _ (HC3.out.below hba) y HY.out
      rw [HM.out] at hv
      refine hv.mono ?_
      clear hv
      rintro e w2 ⟨rfl, hb3⟩
      have hb4 := hb2.trans (hb3.mono hb2.size)
      have hk1 : k + 1 ≤ 9223372036854775807 := by omega
      cases y
      · go_wp2
        go_ret
        exact ⟨by rw [HNO.out k hlt HS.out]; rfl, hb4⟩
      · go_wp2
        go_roundw
        case rel => exact ⟨k + 1, by omega, by go_num, by rw [HS.out], hb4⟩
        case measure => simp [intOf]; omega
    · obtain rfl : k = n := by omega
      go_wp2
      go_ret
      exact ⟨by rw [HV.out HVK.out]; first | rfl | (refine congrArg Ending.returned ?_; refine congrArg Value.bool ?_; apply decide_eq_decide.2; omega), hb⟩
end Go.Proofs.Ytlikmlhlfbdchaa
/- nest: places that name a part, of both sides; Lying of both. -/
namespace Go.Proofs.Ytlikmlhlfbdchaa
open Go.RowKit Go.Shelf
namespace Ne
/-- whether a place names a part and is in range -/
def lsB (ps : List Pa) (p : Pc) : Bool := (ix ps p.p && decide (-120000 ≤ p.x ∧ p.x ≤ 120000)) && decide (-120000 ≤ p.y ∧ p.y ≤ 120000)
theorem lsB_ok {ps : List Pa} {p : Pc} (h : lsB ps p = true) : (-120000 ≤ p.x ∧ p.x ≤ 120000) ∧ (-120000 ≤ p.y ∧ p.y ≤ 120000) ∧ ∃ i : Nat, p.p = i ∧ i < ps.length := by
  unfold lsB ix at h
  simp only [Bool.and_eq_true, decide_eq_true_eq] at h
  exact ⟨h.1.2, h.2, p.p.toNat, by omega, by omega⟩
noncomputable def lyE (ps : List Pa) (p : Pc) : Int := if vPa ps = true then (if lsB ps p = true then 0 else 2) else 70
noncomputable def lyV (ps : List Pa) (p : Pc) : List Geo.XY := if lyE ps p = 0 then lyg ps p else []
theorem vPa_len {ps : List Pa} (h : vPa ps = true) : ps.length ≤ 60 := by unfold vPa at h; simp only [Bool.and_eq_true, decide_eq_true_eq] at h; exact h.1
theorem lyE_ok {ps : List Pa} {p : Pc} (h : lyE ps p = 0) : vPa ps = true ∧ lsB ps p = true := by
  unfold lyE at h
  split at h
  · split at h
    · exact ⟨by assumption, by assumption⟩
    · cases h
  · cases h
theorem lyV_len (ps : List Pa) (p : Pc) : (lyV ps p).length ≤ 64 := by
  unfold lyV
  split
  · rename_i h
    obtain ⟨h1, h2⟩ := lyE_ok h
    obtain ⟨_, _, i, e, hi⟩ := lsB_ok h2
    rw [lyg_len, e]
    exact (valid_of (vPa_at h1 (q := i) (by simpa using hi))).2.1
  · simp
end Ne
theorem far_b (w : World) : Calls Try.prog 96 #[] w fun e w' => e = .returned (.int .i64 120000) ∧ Below w.heap.size w w' := by
  go_enter Try.func96, Try.ntmps96
  go_wp2
  go_ret
  exact ⟨rfl, Below.refl _ _⟩

set_option maxRecDepth 100000 in
set_option maxHeartbeats 2000000 in
theorem vplace_b (B : Option Addr) (ps : List Ne.Pa) (c' m : Nat) (hm : ps.length = m) (h60 : m ≤ 60) (p : Ne.Pc) (r : Bool) (hr : Ne.lsB ps p = r) (w : World) :
    Calls Try.prog 57 #[.slice B m c', .agg (Ne.pcL p).toArray] w fun e w' => e = .returned (.bool r) ∧ Below w.heap.size w w' := by
  have hB := (Below.refl w.heap.size w).alloc (Nat.le_refl _) (.cells (Ne.pcL p).toArray 40)
  have bP := Blk.new w 40 (Ne.pcL p).toArray
  have q0 := bP.cell 0
  have q1 := bP.cell 1
  have q2 := bP.cell 2
  simp only [List.getElem?_toArray, List.getElem?_cons_zero, List.getElem?_cons_succ] at q0 q1 q2
  obtain ⟨x, hx⟩ : ∃ x, decide (0 ≤ p.p ∧ p.p ≤ (m : Int) - 1) = x := ⟨_, rfl⟩
  obtain ⟨y, hy⟩ : ∃ x, decide (-120000 ≤ p.x ∧ p.x ≤ 120000) = x := ⟨_, rfl⟩
  obtain ⟨z, hz⟩ : ∃ x, decide (-120000 ≤ p.y ∧ p.y ≤ 120000) = x := ⟨_, rfl⟩
  have HR : Hid (r = ((x && y) && z)) := Lib.hid (by rw [← hr, ← hx, ← hy, ← hz, ← hm]; rfl)
  have HX := Lib.hid hx
  have HY := Lib.hid hy
  have HZ := Lib.hid hz
  clear hr hx hy hz hm bP
  cases x
  · go_enter Try.func57, Try.ntmps57
    go_wp2_with fail
    refine (isindex_b B c' m (by omega) _ _ HX.out _).mono ?_
    rintro e w1 ⟨rfl, rfl⟩
    go_wp2
    go_ret
    exact ⟨by rw [HR.out]; rfl, hB⟩
  cases y
  · go_enter Try.func57, Try.ntmps57
    go_wp2_with fail
    refine (isindex_b B c' m (by omega) _ _ HX.out _).mono ?_
    rintro e w1 ⟨rfl, rfl⟩
    go_wp2_with fail
    refine (within_e _ _ _ _).mono ?_
    rintro e w1 ⟨rfl, rfl⟩
    rw [HY.out]
    go_wp2
    go_ret
    exact ⟨by rw [HR.out]; rfl, hB⟩
  · go_enter Try.func57, Try.ntmps57
    go_wp2_with fail
    refine (isindex_b B c' m (by omega) _ _ HX.out _).mono ?_
    rintro e w1 ⟨rfl, rfl⟩
    go_wp2_with fail
    refine (within_e _ _ _ _).mono ?_
    rintro e w1 ⟨rfl, rfl⟩
    rw [HY.out]
    go_wp2_with fail
    refine (within_e _ _ _ _).mono ?_
    rintro e w1 ⟨rfl, rfl⟩
    rw [HZ.out]
    go_wp2
    go_ret
    exact ⟨by rw [HR.out]; simp, hB⟩

set_option maxRecDepth 100000 in
set_option maxHeartbeats 4000000 in
theorem rlies_b (B : Option Addr) (ps : List Ne.Pa) (c' m : Nat) (hm : ps.length = m) (_h60 : m ≤ 60) (p : Ne.Pc) (r : Bool) (hr : Ne.lsB ps p = r) (w : World) :
    Calls Try.prog 60 #[.slice B m c', .agg (Ne.pcL p).toArray] w fun e w' => e = .returned (.bool r) ∧ Below w.heap.size w w' := by
  have hB := (Below.refl w.heap.size w).alloc (Nat.le_refl _) (.cells (Ne.pcL p).toArray 40)
  have bP := Blk.new w 40 (Ne.pcL p).toArray
  obtain ⟨W, hW⟩ : ∃ W, W = w.alloc (.cells (Ne.pcL p).toArray 40) := ⟨_, rfl⟩
  have f0 : ∀ s : Ext W, s.w.cell? ⟨w.heap.size, 0, none⟩ = some (.int .i64 p.p) := fun s => s.cell (by rw [hW]; exact bP.cell 0)
  have f1 : ∀ s : Ext W, s.w.cell? ⟨w.heap.size, 1, none⟩ = some (.int .i64 p.x) := fun s => s.cell (by rw [hW]; exact bP.cell 1)
  have f2 : ∀ s : Ext W, s.w.cell? ⟨w.heap.size, 2, none⟩ = some (.int .i64 p.y) := fun s => s.cell (by rw [hW]; exact bP.cell 2)
  rw [← hW] at hB
  have HR : Hid (r = decide ((0 ≤ p.p ∧ p.p < (m : Int)) ∧ (-120000 ≤ p.x ∧ p.x ≤ 120000) ∧ (-120000 ≤ p.y ∧ p.y ≤ 120000))) := Lib.hid (by
    rw [← hr]; unfold Ne.lsB Ne.ix; rw [hm, ← Bool.decide_and, ← Bool.decide_and]; apply decide_eq_decide.2; omega)
  clear hr hm bP
  by_cases h0 : 0 ≤ p.p
  case neg =>
    have e0 : decide (0 ≤ p.p) = false := by simp; omega
    have HV : Hid (r = false) := Lib.hid (by rw [HR.out]; simp; omega)
    go_enter Try.func60, Try.ntmps60
    go_wp2
    rw [← hW]
    refine wp_region_ext (by kernel_rfl) (by kernel_rfl) ?_
    repeat (go_big_quiet_step ((go_at_call 96; refine calls_ext (far_b _))))
    refine wpQuiet_nil ?_
    rintro _ ⟨s, rfl⟩
    go_wp2
    go_ret
    exact ⟨by rw [HV.out]; rfl, hB.trans (s.h.mono hB.size)⟩
  by_cases h1 : p.p < (m : Int)
  case neg =>
    have e0 : decide (0 ≤ p.p) = true := by simp; omega
    have e1 : decide (p.p < (m : Int)) = false := by simp; omega
    have HV : Hid (r = false) := Lib.hid (by rw [HR.out]; simp; omega)
    go_enter Try.func60, Try.ntmps60
    go_wp2
    rw [← hW]
    refine wp_region_ext (by kernel_rfl) (by kernel_rfl) ?_
    repeat (go_big_quiet_step ((go_at_call 96; refine calls_ext (far_b _))))
    refine wpQuiet_nil ?_
    rintro _ ⟨s, rfl⟩
    go_wp2
    go_ret
    exact ⟨by rw [HV.out]; rfl, hB.trans (s.h.mono hB.size)⟩
  by_cases h2 : -120000 ≤ p.x
  case neg =>
    have e0 : decide (0 ≤ p.p) = true := by simp; omega
    have e1 : decide (p.p < (m : Int)) = true := by simp; omega
    have e2 : decide (-120000 ≤ p.x) = false := by simp; omega
    have HV : Hid (r = false) := Lib.hid (by rw [HR.out]; simp; omega)
    go_enter Try.func60, Try.ntmps60
    go_wp2
    rw [← hW]
    refine wp_region_ext (by kernel_rfl) (by kernel_rfl) ?_
    repeat (go_big_quiet_step ((go_at_call 96; refine calls_ext (far_b _))))
    refine wpQuiet_nil ?_
    rintro _ ⟨s, rfl⟩
    go_wp2
    go_ret
    exact ⟨by rw [HV.out]; rfl, hB.trans (s.h.mono hB.size)⟩
  by_cases h3 : p.x ≤ 120000
  case neg =>
    have e0 : decide (0 ≤ p.p) = true := by simp; omega
    have e1 : decide (p.p < (m : Int)) = true := by simp; omega
    have e2 : decide (-120000 ≤ p.x) = true := by simp; omega
    have e3 : decide (p.x ≤ 120000) = false := by simp; omega
    have HV : Hid (r = false) := Lib.hid (by rw [HR.out]; simp; omega)
    go_enter Try.func60, Try.ntmps60
    go_wp2
    rw [← hW]
    refine wp_region_ext (by kernel_rfl) (by kernel_rfl) ?_
    repeat (go_big_quiet_step ((go_at_call 96; refine calls_ext (far_b _))))
    refine wpQuiet_nil ?_
    rintro _ ⟨s, rfl⟩
    go_wp2
    go_ret
    exact ⟨by rw [HV.out]; rfl, hB.trans (s.h.mono hB.size)⟩
  by_cases h4 : -120000 ≤ p.y
  case neg =>
    have e0 : decide (0 ≤ p.p) = true := by simp; omega
    have e1 : decide (p.p < (m : Int)) = true := by simp; omega
    have e2 : decide (-120000 ≤ p.x) = true := by simp; omega
    have e3 : decide (p.x ≤ 120000) = true := by simp; omega
    have e4 : decide (-120000 ≤ p.y) = false := by simp; omega
    have HV : Hid (r = false) := Lib.hid (by rw [HR.out]; simp; omega)
    go_enter Try.func60, Try.ntmps60
    go_wp2
    rw [← hW]
    refine wp_region_ext (by kernel_rfl) (by kernel_rfl) ?_
    repeat (go_big_quiet_step ((go_at_call 96; refine calls_ext (far_b _))))
    refine wpQuiet_nil ?_
    rintro _ ⟨s, rfl⟩
    go_wp2
    go_ret
    exact ⟨by rw [HV.out]; rfl, hB.trans (s.h.mono hB.size)⟩
  by_cases h5 : p.y ≤ 120000
  case neg =>
    have e0 : decide (0 ≤ p.p) = true := by simp; omega
    have e1 : decide (p.p < (m : Int)) = true := by simp; omega
    have e2 : decide (-120000 ≤ p.x) = true := by simp; omega
    have e3 : decide (p.x ≤ 120000) = true := by simp; omega
    have e4 : decide (-120000 ≤ p.y) = true := by simp; omega
    have e5 : decide (p.y ≤ 120000) = false := by simp; omega
    have HV : Hid (r = false) := Lib.hid (by rw [HR.out]; simp; omega)
    go_enter Try.func60, Try.ntmps60
    go_wp2
    rw [← hW]
    refine wp_region_ext (by kernel_rfl) (by kernel_rfl) ?_
    repeat (go_big_quiet_step ((go_at_call 96; refine calls_ext (far_b _))))
    refine wpQuiet_nil ?_
    rintro _ ⟨s, rfl⟩
    go_wp2
    go_ret
    exact ⟨by rw [HV.out]; rfl, hB.trans (s.h.mono hB.size)⟩
  have e0 : decide (0 ≤ p.p) = true := by simp; omega
  have e1 : decide (p.p < (m : Int)) = true := by simp; omega
  have e2 : decide (-120000 ≤ p.x) = true := by simp; omega
  have e3 : decide (p.x ≤ 120000) = true := by simp; omega
  have e4 : decide (-120000 ≤ p.y) = true := by simp; omega
  have e5 : decide (p.y ≤ 120000) = true := by simp; omega
  have HV : Hid (r = true) := Lib.hid (by rw [HR.out]; simp; omega)
  go_enter Try.func60, Try.ntmps60
  go_wp2
  rw [← hW]
  refine wp_region_ext (by kernel_rfl) (by kernel_rfl) ?_
  repeat (go_big_quiet_step ((go_at_call 96; refine calls_ext (far_b _))))
  refine wpQuiet_nil ?_
  rintro _ ⟨s, rfl⟩
  go_wp2
  go_ret
  exact ⟨by rw [HV.out]; rfl, hB.trans (s.h.mono hB.size)⟩

set_option maxRecDepth 100000 in
set_option maxHeartbeats 2000000 in
theorem Lying_b (B : Option Addr) (ps : List Ne.Pa) (c' m : Nat) (hm : ps.length = m) (p : Ne.Pc) (E : Int) (hE : Ne.lyE ps p = E) (L : List Geo.XY) (hL : Ne.lyV ps p = L) (w : World) (hP : Ne.PaM w B ps) :
    Calls Try.prog 19 #[.slice B m c', .agg (Ne.pcL p).toArray] w fun e w' => ListErr w L E e w' := by
  have hB := (Below.refl w.heap.size w).alloc (Nat.le_refl _) (.cells (Ne.pcL p).toArray 40)
  have bP := Blk.new w 40 (Ne.pcL p).toArray
  obtain ⟨x, hx⟩ : ∃ x, Ne.vPa ps = x := ⟨_, rfl⟩
  obtain ⟨y, hy⟩ : ∃ y, Ne.lsB ps p = y := ⟨_, rfl⟩
  have HV := Lib.hid (fun W h => vparts_b B ps c' m hm x hx W h)
  have HEE : Hid (E = if x = true then (if y = true then 0 else 2) else 70) := Lib.hid (by rw [← hE, ← hx, ← hy]; rfl)
  have HLL : Hid (L = if E = 0 then Ne.lyg ps p else []) := Lib.hid (by rw [← hL, ← hE]; rfl)
  have HP := Lib.hid (hP.below hB)
  have hrg := bP.range
  cases x
  · have h1 := HEE.out
    rw [if_neg (by simp)] at h1
    subst h1
    have h2 := HLL.out
    rw [if_neg (by decide)] at h2
    subst h2
    clear hE hL hx hy
    go_enter Try.func19, Try.ntmps19
    go_wp2_with fail
    refine (HV.out _ HP.out).mono ?_
    rintro e w1 ⟨rfl, b1⟩
    go_wp2
    go_ret2
    exact ⟨.slice none 0 0, rfl, own_nil' _ _, hB.trans (b1.mono hB.size)⟩
  have h60 := Ne.vPa_len hx
  rw [hm] at h60
  have HPL := Lib.hid (fun W => vplace_b B ps c' m hm h60 p y hy W)
  cases y
  · have h1 := HEE.out
    rw [if_pos rfl, if_neg (by simp)] at h1
    subst h1
    have h2 := HLL.out
    rw [if_neg (by decide)] at h2
    subst h2
    clear hE hL hx hy
    go_enter Try.func19, Try.ntmps19
    go_wp2_with fail
    refine (HV.out _ HP.out).mono ?_
    rintro e w1 ⟨rfl, b1⟩
    have hB1 := hB.trans (b1.mono hB.size)
    have hrg1 := (bP.below b1 bP.lt).range
    go_wp2_with (refine ldm_pc hrg1 rfl _ rfl rfl ?_)
    refine (HPL.out _).mono ?_
    rintro e w2 ⟨rfl, b2⟩
    go_wp2
    go_ret2
    exact ⟨.slice none 0 0, rfl, own_nil' _ _, hB1.trans (b2.mono hB1.size)⟩
  · have h1 := HEE.out
    rw [if_pos rfl, if_pos rfl] at h1
    subst h1
    have h2 := HLL.out
    rw [if_pos rfl] at h2
    obtain ⟨x1, y1, i, ei, hi⟩ := Ne.lsB_ok hy
    rw [hm] at hi
    obtain ⟨pp, px, py, pt⟩ := p
    dsimp only at x1 y1 ei
    subst ei
    obtain ⟨n, hn⟩ : ∃ n, (ps.getD i Ne.za).o.length = n := ⟨_, rfl⟩
    have HLN : Hid (L.length = n) := Lib.hid (by rw [h2, Ne.lyg_len]; simpa using hn)
    have HLY := Lib.hid (fun W h => lying_b B ps c' m i hm hi px py pt x1 y1 (Ne.vPa_at hx (by omega)) n hn L h2.symm W h)
    clear hE hL hx hy h2 hn
    go_enter Try.func19, Try.ntmps19
    go_wp2_with fail
    refine (HV.out _ HP.out).mono ?_
    rintro e w1 ⟨rfl, b1⟩
    have hB1 := hB.trans (b1.mono hB.size)
    have bP1 := bP.below b1 bP.lt
    have hrg1 := bP1.range
    have HP1 := Lib.hid (HP.out.below b1)
    clear bP hrg
    go_wp2_with (refine ldm_pc hrg1 rfl _ rfl rfl ?_)
    refine (HPL.out _).mono ?_
    rintro e w2 ⟨rfl, b2⟩
    have hB2 := hB1.trans (b2.mono hB1.size)
    have hrg2 := (bP1.below b2 bP1.lt).range
    clear hrg1
    go_wp2_with (refine ldm_pc hrg2 rfl _ rfl rfl ?_)
    refine (HLY.out _ (HP1.out.below b2)).mono ?_
    rintro e w3 ⟨v, rfl, hO, b3⟩
    go_wp2
    go_ret2
    exact ⟨v, rfl, by rw [HLN.out]; exact hO.mono hB2.size, hB2.trans (b3.mono hB2.size)⟩

set_option maxRecDepth 100000 in
set_option maxHeartbeats 2000000 in
theorem rLying_b (B : Option Addr) (ps : List Ne.Pa) (c' m : Nat) (hm : ps.length = m) (hmM : m ≤ maxLen) (p : Ne.Pc) (E : Int) (hE : Ne.lyE ps p = E) (L : List Geo.XY) (hL : Ne.lyV ps p = L) (w : World) (hP : Ne.PaM w B ps) :
    Calls Try.prog 20 #[.slice B m c', .agg (Ne.pcL p).toArray] w fun e w' => ListErr w L E e w' := by
  have hB := (Below.refl w.heap.size w).alloc (Nat.le_refl _) (.cells (Ne.pcL p).toArray 40)
  have bP := Blk.new w 40 (Ne.pcL p).toArray
  obtain ⟨x, hx⟩ : ∃ x, Ne.vPa ps = x := ⟨_, rfl⟩
  obtain ⟨y, hy⟩ : ∃ y, Ne.lsB ps p = y := ⟨_, rfl⟩
  have HV := Lib.hid (fun W h => rvparts_b B ps c' m hm hmM x hx W h)
  have HEE : Hid (E = if x = true then (if y = true then 0 else 2) else 70) := Lib.hid (by rw [← hE, ← hx, ← hy]; rfl)
  have HLL : Hid (L = if E = 0 then Ne.lyg ps p else []) := Lib.hid (by rw [← hL, ← hE]; rfl)
  have HP := Lib.hid (hP.below hB)
  have hrg := bP.range
  cases x
  · have h1 := HEE.out
    rw [if_neg (by simp)] at h1
    subst h1
    have h2 := HLL.out
    rw [if_neg (by decide)] at h2
    subst h2
    clear hE hL hx hy
    go_enter Try.func20, Try.ntmps20
    go_wp2_with fail
    refine (HV.out _ HP.out).mono ?_
    rintro e w1 ⟨rfl, b1⟩
    go_wp2
    go_ret2
    exact ⟨.slice none 0 0, rfl, own_nil' _ _, hB.trans (b1.mono hB.size)⟩
  have h60 := Ne.vPa_len hx
  rw [hm] at h60
  have HPL := Lib.hid (fun W => rlies_b B ps c' m hm h60 p y hy W)
  cases y
  · have h1 := HEE.out
    rw [if_pos rfl, if_neg (by simp)] at h1
    subst h1
    have h2 := HLL.out
    rw [if_neg (by decide)] at h2
    subst h2
    clear hE hL hx hy
    go_enter Try.func20, Try.ntmps20
    go_wp2_with fail
    refine (HV.out _ HP.out).mono ?_
    rintro e w1 ⟨rfl, b1⟩
    have hB1 := hB.trans (b1.mono hB.size)
    have hrg1 := (bP.below b1 bP.lt).range
    go_wp2_with (refine ldm_pc hrg1 rfl _ rfl rfl ?_)
    refine (HPL.out _).mono ?_
    rintro e w2 ⟨rfl, b2⟩
    go_wp2
    go_ret2
    exact ⟨.slice none 0 0, rfl, own_nil' _ _, hB1.trans (b2.mono hB1.size)⟩
  · have h1 := HEE.out
    rw [if_pos rfl, if_pos rfl] at h1
    subst h1
    have h2 := HLL.out
    rw [if_pos rfl] at h2
    obtain ⟨x1, y1, i, ei, hi⟩ := Ne.lsB_ok hy
    rw [hm] at hi
    obtain ⟨pp, px, py, pt⟩ := p
    dsimp only at x1 y1 ei
    subst ei
    obtain ⟨n, hn⟩ : ∃ n, (ps.getD i Ne.za).o.length = n := ⟨_, rfl⟩
    have HLN : Hid (L.length = n) := Lib.hid (by rw [h2, Ne.lyg_len]; simpa using hn)
    have HLY := Lib.hid (fun W h => rlying_b B ps c' m i hm hi px py pt x1 y1 (Ne.vPa_at hx (by omega)) n hn L h2.symm W h)
    clear hE hL hx hy h2 hn
    go_enter Try.func20, Try.ntmps20
    go_wp2_with fail
    refine (HV.out _ HP.out).mono ?_
    rintro e w1 ⟨rfl, b1⟩
    have hB1 := hB.trans (b1.mono hB.size)
    have bP1 := bP.below b1 bP.lt
    have hrg1 := bP1.range
    have HP1 := Lib.hid (HP.out.below b1)
    clear bP hrg
    go_wp2_with (refine ldm_pc hrg1 rfl _ rfl rfl ?_)
    refine (HPL.out _).mono ?_
    rintro e w2 ⟨rfl, b2⟩
    have hB2 := hB1.trans (b2.mono hB1.size)
    have hrg2 := (bP1.below b2 bP1.lt).range
    clear hrg1
    go_wp2_with (refine ldm_pc hrg2 rfl _ rfl rfl ?_)
    refine (HLY.out _ (HP1.out.below b2)).mono ?_
    rintro e w3 ⟨v, rfl, hO, b3⟩
    go_wp2
    go_ret2
    exact ⟨v, rfl, by rw [HLN.out]; exact hO.mono hB2.size, hB2.trans (b3.mono hB2.size)⟩
end Go.Proofs.Ytlikmlhlfbdchaa
