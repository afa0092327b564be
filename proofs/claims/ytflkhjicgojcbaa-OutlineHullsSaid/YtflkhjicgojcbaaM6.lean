import Derived.Test.YtflkhjicgojcbaaM5
namespace Go.Proofs.Ytflkhjicgojcbaa
open Go.RowKit Go.Shelf

set_option maxHeartbeats 1000000 in
theorem around_any (A : Option Addr) (l : List Geo.XY) (c : Nat) (w : World) (hr : Pts w A l) :
    Calls Try.prog 47 #[.slice A l.length c] w fun e w' => e = okOr3 l (.int .i64 (lowK l l.length)) (.int .i64 (highK l l.length)) ∧ Below w.heap.size w w' := by
  cases hv : validB l with
  | false =>
    have hbw : Below w.heap.size w ((w.alloc (.cells #[.int .i64 0] 3)).alloc (.cells #[.int .i64 0] 3)) := ((Below.refl _ w).alloc (Nat.le_refl _) _).alloc (by simp) _
    have HR := Lib.hid (hr.below hbw)
    have HV := Lib.hid hv
    have H := Lib.hid (okOr3_no hv (.int .i64 (lowK l l.length)) (.int .i64 (highK l l.length)))
    have b1 := ((Blk.new w 3 #[.int .i64 0]).alloc (.cells #[.int .i64 0] 3))
    have b2 := (Blk.new (w.alloc (.cells #[.int .i64 0] 3)) 3 #[.int .i64 0])
    rw [World.size_alloc] at b2
    clear hv hr
    go_enter Try.func47, Try.ntmps47
    go_wp2_with fail
    refine (dvalid_b _ _ _ _ HR.out false HV.out).mono ?_
    rintro e w' ⟨rfl, hb'⟩
    have hB := hbw.trans (hb'.mono (by simp; omega))
    have c1 := b1.below hb' (by simp; omega)
    have c2 := b2.below hb' (by simp)
    have q1 := c1.cell 0
    have q2 := c1.frozen 0
    have q3 := c2.cell 0
    have q4 := c2.frozen 0
    simp only [List.getElem?_toArray, List.getElem?_cons_zero] at q1 q3
    go_wp2
    refine ⟨rfl, .tuple #[.int .i64 0, .int .i64 0, .int .i64 10], ?_, ?_⟩
    · simp [results, Try.f47, go_sem, q1, q3]
    exact ⟨by rw [H.out], (hB.setCell (p := ⟨w.heap.size, 0, none⟩) (by simp) _).setCell (p := ⟨w.heap.size + 1, 0, none⟩) (by simp) _⟩
  | true =>
    rw [okOr3_yes hv]
    rcases hr with h | ⟨b, off, rfl, hb, hc⟩
    · have := (valid_of hv).1
      rw [h] at this
      simp at this
    · exact callsIn_wide.1 (around_in b off c l hv w hb hc)

def mnP (a b : Geo.XY) : Geo.XY := (if b.1 < a.1 then b.1 else a.1, if b.2 < a.2 then b.2 else a.2)
def mxP (a b : Geo.XY) : Geo.XY := (if a.1 < b.1 then b.1 else a.1, if a.2 < b.2 then b.2 else a.2)
def lowP (l : List Geo.XY) : Nat → Geo.XY
  | 0 => Geo.X l 0
  | k + 1 => mnP (lowP l k) (Geo.X l k)
def highP (l : List Geo.XY) : Nat → Geo.XY
  | 0 => Geo.X l 0
  | k + 1 => mxP (highP l k) (Geo.X l k)

set_option maxRecDepth 100000 in
set_option maxHeartbeats 2000000 in
theorem bounds_any (b off cap : Nat) (l : List Geo.XY) (h0 : 0 < l.length) (h64 : l.length ≤ 64) (w : World) (hb : b < w.heap.size)
    (hc : ∀ k, k < l.length → w.cell? ⟨b, off + k * 2, none⟩ = some (.int .i64 (Geo.X l k).1) ∧ w.cell? ⟨b, off + k * 2 + 1, none⟩ = some (.int .i64 (Geo.X l k).2)) :
    Calls Try.prog 63 #[.slice (some ⟨b, off, none⟩) l.length cap] w fun e w' =>
      e = .returned (.tuple #[.agg #[.int .i64 (lowP l l.length).1, .int .i64 (lowP l l.length).2], .agg #[.int .i64 (highP l l.length).1, .int .i64 (highP l l.length).2]]) ∧ Below w.heap.size w w' := by
  have HC := Lib.hid hc
  have c1 := (hc 0 h0).1
  have c2 := (hc 0 h0).2
  simp only [Nat.zero_mul, Nat.add_zero] at c1 c2
  clear hc
  go_enter Try.func63, Try.ntmps63
  go_wp2
  go_region
  have bL := ((Blk.new w 38 (xyA (Geo.X l 0))).alloc (.cells (xyA (Geo.X l 0)) 38)).drew
  have bH := (Blk.new (w.alloc (.cells (xyA (Geo.X l 0)) 38)) 38 (xyA (Geo.X l 0))).drew
  rw [World.size_alloc] at bH
  have hB0 : Below w.heap.size w ((w.alloc (.cells (xyA (Geo.X l 0)) 38)).alloc (.cells (xyA (Geo.X l 0)) 38)).drew := (((Below.refl _ w).alloc (Nat.le_refl _) _).alloc (by simp) _).drew
  unfold xyA at bL bH hB0
  generalize ((w.alloc (.cells #[.int .i64 (Geo.X l 0).1, .int .i64 (Geo.X l 0).2] 38)).alloc (.cells #[.int .i64 (Geo.X l 0).1, .int .i64 (Geo.X l 0).2] 38)).drew = W0 at *
  clear c1 c2
  go_wp2
  go_loopw [14] (fun i wr => ∃ k : Nat, k ≤ l.length ∧ i = .int .i64 k ∧ (Blk wr w.heap.size 38 #[.int .i64 (lowP l k).1, .int .i64 (lowP l k).2] ∧ Blk wr (w.heap.size + 1) 38 #[.int .i64 (highP l k).1, .int .i64 (highP l k).2]) ∧ Below w.heap.size w wr) (fun i _ => l.length - (intOf i).toNat)
  case atStart => exact ⟨0, Nat.zero_le _, rfl, ⟨bL, bH⟩, hB0⟩
  case round =>
    clear bL bH hB0
    obtain ⟨k, hk, rfl, ⟨bL, bH⟩, hB⟩ := hrel
    by_cases hlt : k < l.length
    · have c1 : wr.cell? ⟨b, off + k * 2, none⟩ = some (.int .i64 (Geo.X l k).1) := (hB.cell (p := ⟨b, off + k * 2, none⟩) hb).trans (HC.out k hlt).1
      have c2 : wr.cell? ⟨b, off + k * 2 + 1, none⟩ = some (.int .i64 (Geo.X l k).2) := (hB.cell (p := ⟨b, off + k * 2 + 1, none⟩) hb).trans (HC.out k hlt).2
      have q1 := bL.cell 0
      have q2 := bL.cell 1
      have q3 := bL.frozen 0
      have q4 := bL.frozen 1
      have r1 := bH.cell 0
      have r2 := bH.cell 1
      have r3 := bH.frozen 0
      have r4 := bH.frozen 1
      have hl1 := bL.lt
      have hl2 := bH.lt
      simp only [List.getElem?_toArray, List.getElem?_cons_zero, List.getElem?_cons_succ] at q1 q2 r1 r2
      have hbl : b < wr.heap.size := Nat.lt_of_lt_of_le hb hB.size
      go_wp2
      go_roundw
      case rel =>
        refine ⟨k + 1, by omega, by go_num, ⟨?_, ?_⟩, ?_⟩
        · exact ((((bL.set_ 0 _).set_ 1 _).far (p := ⟨w.heap.size + 1, 0, none⟩) (by simp) _).far (p := ⟨w.heap.size + 1, 1, none⟩) (by simp) _).alloc _
        · exact ((((bH.far (p := ⟨w.heap.size, 0, none⟩) (by simp) _).far (p := ⟨w.heap.size, 1, none⟩) (by simp) _).set_ 0 _).set_ 1 _).alloc _
        · exact ((((hB.setCell (p := ⟨w.heap.size, 0, none⟩) (by simp) _).setCell (p := ⟨w.heap.size, 1, none⟩) (by simp) _).setCell (p := ⟨w.heap.size + 1, 0, none⟩) (by simp) _).setCell (p := ⟨w.heap.size + 1, 1, none⟩) (by simp) _).alloc (by simp; exact hB.size) _
      case measure => simp [intOf]; omega
    · obtain rfl : k = l.length := by omega
      have q1 := bL.cell 0
      have q2 := bL.cell 1
      have q3 := bL.frozen 0
      have q4 := bL.frozen 1
      have r1 := bH.cell 0
      have r2 := bH.cell 1
      have r3 := bH.frozen 0
      have r4 := bH.frozen 1
      have hl1 := bL.lt
      have hl2 := bH.lt
      simp only [List.getElem?_toArray, List.getElem?_cons_zero, List.getElem?_cons_succ] at q1 q2 r1 r2
      go_wp2
      go_region
      go_wp2
      refine ⟨rfl, .tuple #[.agg #[.int .i64 (lowP l l.length).1, .int .i64 (lowP l l.length).2], .agg #[.int .i64 (highP l l.length).1, .int .i64 (highP l l.length).2]], ?_, ?_⟩
      · simp [results, Try.f63, go_sem, q1, q2, r1, r2]
      · exact ⟨rfl, ((((hB.setCell (p := ⟨w.heap.size, 0, none⟩) (by simp) _).setCell (p := ⟨w.heap.size, 1, none⟩) (by simp) _).setCell (p := ⟨w.heap.size + 1, 0, none⟩) (by simp) _).setCell (p := ⟨w.heap.size + 1, 1, none⟩) (by simp) _).drew⟩
end Go.Proofs.Ytflkhjicgojcbaa
