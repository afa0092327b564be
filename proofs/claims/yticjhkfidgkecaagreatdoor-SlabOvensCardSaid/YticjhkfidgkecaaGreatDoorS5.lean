/- What every law of the layer asks first: it is right. -/
import Derived.Test.YticjhkfidgkecaaGreatDoorS3
import Derived.Test.YticjhkfidgkecaaGreatDoorS4
namespace Go.Proofs.YticjhkfidgkecaaGreatDoor
open Go.RowKit Pl

set_option maxRecDepth 100000 in
set_option maxHeartbeats 4000000 in
theorem Layer_sane (A : Option Addr) (c : Nat) (w : World) (hR : RdLP (Cl w) w saneT.ps A) (hO : Own w) :
    Calls Tryz.prog 30 #[bv saneT.hd A saneT.ps.length c, .int .i64 2, .int .i64 0] w fun e' w' => ∃ g d, e' = .returned (.tuple #[.slice (some ⟨g, 0, none⟩) 1 d, .int .i64 0]) ∧ w'.cell? ⟨g, 0, none⟩ = some (str [97, 97, 98]) ∧ Below w.heap.size w w' := by
  have hb := (Below.refl w.heap.size w).alloc (Nat.le_refl _) (hdo saneT.hd A saneT.ps.length c)
  have HC := Lib.hid (made_ok saneT saneV sane_build sane_sound sane_deep sane_len A c _ (rdlp_below hb hR) (hO.below hb))
  have HB := Lib.hid hb
  have HO := Lib.hid hO
  have HA := Lib.hid (fun w => isAxis_r 2 true (by simp) w)
  have HL := Lib.hid (fun w hO => layer_sane w hO)
  have HX := Lib.hid (fun w => extents_shape ⟨3, 1, 1⟩ w)
  have hm := fun w => me172 3 1 1 0 158 158 (.agg #[.int .i64 2, .int .i64 1, .int .i64 1, .int .i64 0]) (.agg #[.int .i64 1, .int .i64 1, .int .i64 1, .int .i64 1]) w
  have hcall := call201
  have hix := idx3_2 3 1 1
  clear hb hR hO
  generalize saneT.hd = h at *
  generalize saneT.ps.length = n at *
  unfold saneV stackV at *
  unfold solidV at *
  generalize (Value.agg #[.int .i64 3, .int .i64 1, .int .i64 1, .int .i64 0, .iface 158 (.agg #[.int .i64 2, .int .i64 1, .int .i64 1, .int .i64 0]), .iface 158 (.agg #[.int .i64 1, .int .i64 1, .int .i64 1, .int .i64 1])]) = p at *
  unfold bv hdc at *
  go_enter Tryz.func30, Tryz.ntmps30
  go_wp2_with fail
  refine HC.out.mono ?_
  rintro e' w2 ⟨rfl, hb2⟩
  have HB2 := Lib.hid (below_trans HB.out hb2)
  clear hb2 HC HB
  go_wp2_with fail
  refine (HA.out _).mono ?_
  rintro e' w3 ⟨rfl, rfl⟩
  go_wp2_with fail
  refine (HX.out _).mono ?_
  rintro e' w4 ⟨rfl, hb4⟩
  have HB4 := Lib.hid (below_trans HB2.out hb4)
  clear hb4 HB2
  dsimp only [e3V]
  go_wp2_with fail
  refine (HL.out _ (HO.out.below HB4.out)).mono ?_
  rintro e' w5 ⟨g, d, rfl, hcell, hb5⟩
  have HB5 := Lib.hid (below_trans HB4.out hb5)
  have HCC := Lib.hid hcell
  clear hb5 hcell HB4
  go_wp2_with fail
  go_ret2
  exact ⟨g, d, ret2 rfl rfl, HCC.out, HB5.out⟩
theorem rd_own {w w' : World} {ps : List Tree} {A : Option Addr} {B : Nat} (hb : Below w.heap.size w w') (h : RdLP (fun b => B ≤ b ∧ Cl w b) w ps A) : RdLP (Cl w') w' ps A :=
  (rdp_map fun b hp hl => have e := hb.block b hl; ⟨hp.2.of e, e⟩).2 ps A h
set_option maxRecDepth 100000 in
set_option maxHeartbeats 4000000 in
theorem sane_any (w : World) (hE : Env w) (h8 : 8 ≤ w.heap.size) : Calls Tryz.prog 17 #[] w fun e' w' => e' = .returned (.bool true) ∧ Below w.heap.size w w' := by
  have HP := Lib.hid (parse_ok saneS saneT saneV sane_reads (by decide) sane_build sane_sound sane_deep sane_len w hE h8)
  have HL := Lib.hid (fun A c w hR hO => Layer_sane A c w hR hO)
  have HE := Lib.hid hE
  clear hE h8
  have hh : saneT.hd = hdS := rfl
  have hl : saneT.ps.length = 2 := rfl
  rw [hh, hl] at HP HL
  generalize saneT.ps = ps at *
  generalize hdS = h at *
  unfold bv hdc saneS at *
  go_enter Tryz.func17, Tryz.ntmps17
  go_wp2_with fail
  refine HP.out.mono ?_
  rintro e' w1 ⟨A, c, rfl, hb1, hrd⟩
  have HB1 := Lib.hid hb1
  have hb2 := (Below.refl w1.heap.size w1).alloc (Nat.le_refl _) (hdo h A 2 c)
  have HB2 := Lib.hid (below_trans hb1 hb2)
  have HLL := Lib.hid (HL.out A c _ (rd_own hb2 hrd) ((HE.out.below HB2.out).own))
  clear hb1 hb2 hrd HP HL
  go_wp2_with fail
  refine HLL.out.mono ?_
  rintro e' w2 ⟨g, d, rfl, hcell, hb3⟩
  have HB3 := Lib.hid (below_trans HB2.out hb3)
  have hc2 : w2.cell? ⟨g, 0, none⟩ = some (.string ⟨#[97, 97, 98]⟩) := hcell
  clear hb3 hcell HB2 HLL HB1
  go_wp2_with fail
  go_ret
  exact ⟨rfl, HB3.out⟩
end Go.Proofs.YticjhkfidgkecaaGreatDoor
