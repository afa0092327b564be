/- Reading: read, which recovers; Parse. -/
import Derived.Test.YthabpgclnbmnpaaGreatDoorT12
import Derived.Defers
import Derived.Recover
import Derived.Laws.Pointers
namespace Go.Proofs.YthabpgclnbmnpaaGreatDoor
open Go.RowKit Go.Shelf

theorem catch_idle (p q : Addr) (w : World) :
    CallsD Tryz.prog 45 #[.pointer (some p), .pointer (some q)] .returning w fun e u' w' => e = .returned (.tuple #[]) ∧ u' = .returning ∧ w' = w := by
  refine callsD_of_wpS Tryz.func45 rfl fun c₀ cs hu => ?_
  apply wpS_seq
  apply wpS_region
  simp [wpOpsS, go_sem, recoverD, hu, Tryz.ntmps45, Exit.thenS]
  refine wpS_of_wp ?_
  go_wp2
  cases c₀
  simp_all [bodyPostS, results, Tryz.results45]
set_option maxRecDepth 100000 in
set_option maxHeartbeats 4000000 in
theorem read_any (T j : ByteArray) (b : UInt8) (cl : List Geo.XY) (hv : validB cl = true) (hc : Geo.canon cl = cl) (hjv : Tx.jobB (Tx.byt j) = true) (hsv : Tx.sideB b = true) (hT : Tx.byt T = Tx.txt (Tx.byt j) b cl) (w : World) (hE : EnvT w) :
    Calls Tryz.prog 24 #[.string T] w fun e w' => ∃ v, e = .returned (.tuple #[.agg #[.string j, .int .u8 b.toNat, v], .int .i64 0]) ∧ w'.ownsRow w.heap.size 42 2 v cl.length (flat cl) ∧ Below w.heap.size w w' := by
  have hmf : ∀ (fn : Fn) (first cap : Array Value) (w : World), (Instr.makeFunc fn first cap).run Tryz.prog w = .ok (.func fn first cap) w := fun _ _ _ _ => rfl
  have hB3 : Below w.heap.size w (((w.alloc (.cells #[.string ⟨#[]⟩, .int .u8 0, .slice none 0 0] 24)).alloc (.cells #[.int .i64 0] 25)).alloc (.cells #[.string T, .int .i64 0] 71)) := (((Below.refl w.heap.size w).alloc (Nat.le_refl _) _).alloc (by simp) _).alloc (by simp; omega) _
  have b0 : Blk (((w.alloc (.cells #[.string ⟨#[]⟩, .int .u8 0, .slice none 0 0] 24)).alloc (.cells #[.int .i64 0] 25)).alloc (.cells #[.string T, .int .i64 0] 71)) w.heap.size 24 #[.string ⟨#[]⟩, .int .u8 0, .slice none 0 0] := ((Blk.new w _ _).alloc _).alloc _
  have b1 : Blk (((w.alloc (.cells #[.string ⟨#[]⟩, .int .u8 0, .slice none 0 0] 24)).alloc (.cells #[.int .i64 0] 25)).alloc (.cells #[.string T, .int .i64 0] 71)) (w.heap.size + 1) 25 #[.int .i64 0] := by
    have h := (Blk.new (w.alloc (.cells #[.string ⟨#[]⟩, .int .u8 0, .slice none 0 0] 24)) 25 #[.int .i64 0]).alloc (.cells #[.string T, .int .i64 0] 71)
    simpa using h
  have b2 : Blk (((w.alloc (.cells #[.string ⟨#[]⟩, .int .u8 0, .slice none 0 0] 24)).alloc (.cells #[.int .i64 0] 25)).alloc (.cells #[.string T, .int .i64 0] 71)) (w.heap.size + 1 + 1) 71 #[.string T, .int .i64 0] := by
    have h := Blk.new ((w.alloc (.cells #[.string ⟨#[]⟩, .int .u8 0, .slice none 0 0] 24)).alloc (.cells #[.int .i64 0] 25)) 71 #[.string T, .int .i64 0]
    simpa using h
  have HTR := Lib.hid (trace_any (w.heap.size + 1 + 1) T j b cl hv hc hjv hsv hT _ w hE hB3 (by omega) b2)
  have H3 := Lib.hid (And.intro hB3 (And.intro b0 b1))
  clear hv hc hjv hsv hT hE hB3 b0 b1 b2
  go_enter_defers Tryz.func24, Tryz.ntmps24
  go_wp2_with fail
  generalize (((w.alloc (.cells #[.string ⟨#[]⟩, .int .u8 0, .slice none 0 0] 24)).alloc (.cells #[.int .i64 0] 25)).alloc (.cells #[.string T, .int .i64 0] 71)) = W at *
  refine HTR.out.mono ?_
  rintro e w1 ⟨v, rfl, ho, hf⟩
  obtain ⟨hB3, b0, b1⟩ := H3.out
  have c0 := hf.blk b0 (by omega)
  have c1 := hf.blk b1 (by omega)
  have HO := Lib.hid (ho.mono hB3.size)
  have HW := Lib.hid (hB3.trans (hf.below (B := w.heap.size) (by omega) hB3.size))
  obtain ⟨A, c, rfl, _, _⟩ := pts_cap ho
  have y0 := c0.cell 0
  have y1 := c0.cell 1
  have y2 := c0.cell 2
  have y3 := c1.cell 0
  have z0 := c0.frozen 0
  have z1 := c0.frozen 1
  have z2 := c0.frozen 2
  have z3 := c1.frozen 0
  have HC := Lib.hid (And.intro c0 c1)
  clear hB3 b0 b1 ho hf c0 c1 H3 HTR
  go_wp2_with fail
  have hx3 := ((HC.out.1.set_ 0 (.string j)).set_ 1 (.int .u8 b.toNat)).set_ 2 (.slice A cl.length c)
  have hx4 := hx3.far (p := ⟨w.heap.size + 1, 0, none⟩) (by simp) (.int .i64 0)
  have hy3 := ((HC.out.2.far (p := ⟨w.heap.size, 0, none⟩) (by simp) (.string j)).far (p := ⟨w.heap.size, 1, none⟩) (by simp) (.int .u8 b.toNat)).far (p := ⟨w.heap.size, 2, none⟩) (by simp) (.slice A cl.length c)
  have hy4 := hy3.set_ 0 (.int .i64 0)
  have hx1 := HC.out.1.set_ 0 (.string j)
  have hx2 := hx1.set_ 1 (.int .u8 b.toNat)
  have ho1 := ownsRow_setCell_other HO.out (a := ⟨w.heap.size, 0, none⟩) (own_ne_blk HO.out HC.out.1 (by decide)) (.string j)
  have ho2 := ownsRow_setCell_other ho1 (a := ⟨w.heap.size, 1, none⟩) (own_ne_blk ho1 hx1 (by decide)) (.int .u8 b.toNat)
  have ho3 := ownsRow_setCell_other ho2 (a := ⟨w.heap.size, 2, none⟩) (own_ne_blk ho2 hx2 (by decide)) (.slice A cl.length c)
  have ho4 := ownsRow_setCell_other ho3 (a := ⟨w.heap.size + 1, 0, none⟩) (own_ne_blk ho3 hy3 (by decide)) (.int .i64 0)
  have hw4 := (((HW.out.setCell (p := ⟨w.heap.size, 0, none⟩) (Nat.le_refl _) (.string j)).setCell (p := ⟨w.heap.size, 1, none⟩) (Nat.le_refl _) (.int .u8 b.toNat)).setCell (p := ⟨w.heap.size, 2, none⟩) (Nat.le_refl _) (.slice A cl.length c)).setCell (p := ⟨w.heap.size + 1, 0, none⟩) (by simp) (.int .i64 0)
  have r0 := hx4.cell 0
  have r1 := hx4.cell 1
  have r2 := hx4.cell 2
  have r3 := hy4.cell 0
  have HOW := Lib.hid (And.intro ho4 hw4)
  clear hx1 hx2 hx3 hx4 hy3 hy4 ho1 ho2 ho3 ho4 hw4 y0 y1 y2 y3 z0 z1 z2 z3 HC HO HW
  generalize ((((w1.setCell ⟨w.heap.size, 0, none⟩ (.string j)).setCell ⟨w.heap.size, 1, none⟩ (.int .u8 b.toNat)).setCell ⟨w.heap.size, 2, none⟩ (.slice A cl.length c)).setCell ⟨w.heap.size + 1, 0, none⟩ (.int .i64 0)) = WF at *
  refine leaves_cons (f := 45) (args := #[.pointer (some ⟨w.heap.size, 0, none⟩), .pointer (some ⟨w.heap.size + 1, 0, none⟩)]) (by simp) (by simp [go_sem]) ?_
  refine (catch_idle ⟨w.heap.size, 0, none⟩ ⟨w.heap.size + 1, 0, none⟩ _).mono ?_
  rintro e u' w'' ⟨rfl, rfl, rfl⟩
  simp [Leaves, settle, results, Tryz.results24, go_sem, r0, r1, r2, r3]
  exact HOW.out
set_option maxRecDepth 100000 in
set_option maxHeartbeats 4000000 in
theorem parse_any (T j : ByteArray) (b : UInt8) (cl : List Geo.XY) (hv : validB cl = true) (hc : Geo.canon cl = cl) (hjv : Tx.jobB (Tx.byt j) = true) (hsv : Tx.sideB b = true) (hT : Tx.byt T = Tx.txt (Tx.byt j) b cl) (hTz : T.size ≤ 2000) (w : World) (hE : EnvT w) :
    Calls Tryz.prog 7 #[.string T] w fun e w' => ∃ v, e = .returned (.tuple #[.agg #[.string j, .int .u8 b.toNat, v], .int .i64 0]) ∧ w'.ownsRow w.heap.size 42 2 v cl.length (flat cl) ∧ Below w.heap.size w w' := by
  have hB := (Below.refl w.heap.size w).alloc (Nat.le_refl _) (.cells #[.string ⟨#[]⟩, .int .u8 0, .slice none 0 0] 24)
  have b0 := Blk.new w 24 #[.string ⟨#[]⟩, .int .u8 0, .slice none 0 0]
  have HR := Lib.hid (read_any T j b cl hv hc hjv hsv hT _ (hE.below hB))
  have HB := Lib.hid (And.intro hB b0)
  have hI : decide ((2000 : Int) < (T.size : Int)) = false := by simp; omega
  clear hv hc hjv hsv hT hE hB b0
  go_enter Tryz.func7, Tryz.ntmps7
  go_wp2_with fail
  generalize w.alloc (.cells #[.string ⟨#[]⟩, .int .u8 0, .slice none 0 0] 24) = W at *
  refine HR.out.mono ?_
  rintro e w1 ⟨v, rfl, ho, hb⟩
  obtain ⟨hB, b0⟩ := HB.out
  obtain ⟨A, c, rfl, _, _⟩ := pts_cap ho
  have c0 := b0.below hb b0.lt
  have y0 := c0.cell 0
  have y1 := c0.cell 1
  have y2 := c0.cell 2
  have z0 := c0.frozen 0
  have z1 := c0.frozen 1
  have z2 := c0.frozen 2
  have HC := Lib.hid c0
  have HO := Lib.hid (ho.mono hB.size)
  have HW := Lib.hid (hB.trans (hb.mono hB.size))
  clear hB b0 ho hb c0 HB HR
  go_wp2_with fail
  have hx1 := HC.out.set_ 0 (.string j)
  have hx2 := hx1.set_ 1 (.int .u8 b.toNat)
  have hx3 := hx2.set_ 2 (.slice A cl.length c)
  have ho1 := ownsRow_setCell_other HO.out (a := ⟨w.heap.size, 0, none⟩) (own_ne_blk HO.out HC.out (by decide)) (.string j)
  have ho2 := ownsRow_setCell_other ho1 (a := ⟨w.heap.size, 1, none⟩) (own_ne_blk ho1 hx1 (by decide)) (.int .u8 b.toNat)
  have ho3 := ownsRow_setCell_other ho2 (a := ⟨w.heap.size, 2, none⟩) (own_ne_blk ho2 hx2 (by decide)) (.slice A cl.length c)
  have hw3 := ((HW.out.setCell (p := ⟨w.heap.size, 0, none⟩) (Nat.le_refl _) (.string j)).setCell (p := ⟨w.heap.size, 1, none⟩) (Nat.le_refl _) (.int .u8 b.toNat)).setCell (p := ⟨w.heap.size, 2, none⟩) (Nat.le_refl _) (.slice A cl.length c)
  have r0 := hx3.cell 0
  have r1 := hx3.cell 1
  have r2 := hx3.cell 2
  refine bodyPost_ret (v := .tuple #[.agg #[.string j, .int .u8 b.toNat, .slice A cl.length c], .int .i64 0]) (by simp [results, Tryz.results7, go_sem, r0, r1, r2]) rfl ⟨_, rfl, ho3, hw3⟩
end Go.Proofs.YthabpgclnbmnpaaGreatDoor
