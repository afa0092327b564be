/- Write of the program: the write that fails; the whole. -/
import Derived.Test.YtalfffkcmddakabZ4
namespace Go.Proofs.Ytalfffkcmddakab
open Go.RowKit Go.Shelf

theorem IsDk.rekp {w : World} {b : Nat} {D : Pl.Dk} {v0 v1 : Value} {kp : Int} (h : IsDk w b D v0 v1 kp) (x : Int) (h0 : D.fl = 0) : IsDk w b { D with kp := x } v0 v1 kp :=
  ⟨h.blk, fun hp => absurd hp (by show ¬ 0 < D.fl; omega), h.o0, h.o1, h.st, h.fb⟩

set_option maxRecDepth 100000 in
set_option maxHeartbeats 4000000 in
theorem wr_fail0 {w : World} {b : Nat} {D : Pl.Dk} {v0 v1 : Value} {kp : Int} (h : IsDk w b D v0 v1 kp) (hu : D.up = true) (hf : D.fl = 1) (A : Option Addr) (l : Pl.Bs) (n c : Nat) (hn : l.length = n) (hm : n ≤ 100000) (hnc : n ≤ c) (hI : Rows u8L 1 w A l) :
    Calls Try.prog 30 #[ptr b, .int .i64 0, .slice A n c] w fun e w' => e = .returned (.int .i64 91) ∧ Dsk w' b { D.put 0 (l.take (Pl.kpN D.kp n)) with up := false, fl := 0 } ∧ Fr [b] w w' := by
  have HK := Lib.hid (check_b h 0 0 (by unfold Pl.rdE; rw [hu]; simp))
  have p4 : w.cell? ⟨b, 4, none⟩ = some (.int .i64 1) := by rw [h.blk.cell 4]; show some (Value.int .i64 (D.fl : Nat)) = _; rw [hf]; rfl
  obtain rfl : kp = D.kp := h.kp (by omega)
  have HH := Lib.hid h
  have hmn := Pl.kpN_le D.kp n
  have hsl : ∀ W : World, (Instr.slice 29 (.slice A n c) none (some (.int .i64 (min (max D.kp 0) (n : Int)))) none).run Try.prog W = .ok (.slice A (Pl.kpN D.kp n) c) W := fun W => slice_h A n c _ _ (by unfold Pl.kpN; omega) (by omega) W
  have HI := Lib.hid (hI.take (Pl.kpN D.kp n))
  have HL : Hid ((l.take (Pl.kpN D.kp n)).length = Pl.kpN D.kp n) := Lib.hid (by rw [List.length_take]; omega)
  have HU := Lib.hid hu
  clear h hI hu hf hn
  generalize l.take (Pl.kpN D.kp n) = l2 at *
  generalize Pl.kpN D.kp n = m at *
  go_enter Try.func30, Try.ntmps30
  go_wp2_with fail
  refine HK.out.mono ?_
  rintro e w1 ⟨rfl, rfl⟩
  go_wp2
  refine wp_region_held (S := fun W => W.cell? ⟨b, 5, none⟩ = some (.int .i64 D.kp)) (by kernel_rfl) ?_
  change wpAnyH _ _ _ _ _ _ _ _ (World.drew _)
  have HD2 := Lib.hid HH.out.drew
  have HC := Lib.hid (copied_any A l2 c m HL.out (by omega) _ (show Rows u8L 1 (World.drew _) A l2 from HI.out))
  have HS : Hid ((World.drew w1).cell? ⟨b, 5, none⟩ = some (.int .i64 D.kp)) := Lib.hid (HD2.out.blk.cell 5)
  clear HH HI HK p4
  refine wpAnyH_take (i := 0) (v := ?_) rfl (by kernel_rfl) (by decide +kernel) (by decide +kernel) (fun _ _ _ h => h) (Or.inl ⟨by rfl, ?_⟩) HS.out ?_
  rotate_left
  · intro w' hS; first | (go_simp; done) | (go_simp; with_reducible rfl)
  refine wpAnyH_take (i := 1) (v := ?_) rfl (by kernel_rfl) (by decide +kernel) (by decide +kernel) (fun _ _ _ h => h) (Or.inl ⟨by rfl, ?_⟩) HS.out ?_
  rotate_left
  · intro w' hS; first | (go_simp; done) | (go_simp; with_reducible rfl)
  refine wpAnyH_take (i := 2) (v := ?_) rfl (by kernel_rfl) (by decide +kernel) (by decide +kernel) (fun _ _ _ h => h) (Or.inl ⟨by rfl, ?_⟩) HS.out ?_
  rotate_left
  · intro w' hS; first | (go_simp; done) | (go_simp; with_reducible rfl)
  refine wpAnyH_take (i := 3) (v := ?_) rfl (by kernel_rfl) (by decide +kernel) (by decide +kernel) (fun _ _ _ h => h) (Or.inl ⟨by rfl, ?_⟩) HS.out ?_
  rotate_left
  · intro w' hS; first | (go_simp; done) | (go_simp; with_reducible rfl)
  refine wpAnyH_take (i := 4) (v := ?_) rfl (by kernel_rfl) (by decide +kernel) (by decide +kernel) (fun _ _ _ h => h) (Or.inl ⟨by rfl, ?_⟩) HS.out ?_
  rotate_left
  · intro w' hS; first | (go_simp; done) | (go_simp; with_reducible rfl)
  refine wpAnyH_take (i := 5) (v := ?_) rfl (by kernel_rfl) (by decide +kernel) (by decide +kernel) (fun _ _ _ h => h) (Or.inl ⟨by rfl, ?_⟩) HS.out ?_
  rotate_left
  · intro w' hS; first | (go_simp; done) | (go_simp; with_reducible rfl)
  refine wpAnyH_take (i := 6) (v := ?_) rfl (by kernel_rfl) (by decide +kernel) (by decide +kernel) (fun _ _ _ h => h) (Or.inl ⟨by rfl, ?_⟩) HS.out ?_
  rotate_left
  · intro w' hS; have k5 : w'.cell? ⟨b, 5, none⟩ = some (.int .i64 D.kp) := hS; first | (go_simp; done) | (go_simp; with_reducible rfl)
  refine wpAnyH_take (i := 7) (v := ?_) rfl (by kernel_rfl) (by decide +kernel) (by decide +kernel) (fun _ _ _ h => h) (Or.inl ⟨by rfl, ?_⟩) HS.out ?_
  rotate_left
  · intro w' hS; first | (go_simp; done) | (go_simp; with_reducible rfl)
  refine wpAnyH_take (i := 8) (v := ?_) rfl (by kernel_rfl) (by decide +kernel) (by decide +kernel) (fun _ _ _ h => h) (Or.inl ⟨by rfl, ?_⟩) HS.out ?_
  rotate_left
  · intro w' hS; first | (go_simp; done) | (go_simp; with_reducible rfl)
  refine wpAnyH_take (i := 9) (v := ?_) rfl (by kernel_rfl) (by decide +kernel) (by decide +kernel) (fun _ _ _ h => h) (Or.inl ⟨by rfl, ?_⟩) HS.out ?_
  rotate_left
  · intro w' hS; first | (go_simp; done) | (go_simp; with_reducible rfl)
  refine wpAnyH_take (i := 10) (v := ?_) rfl (by kernel_rfl) (by decide +kernel) (by decide +kernel) (fun _ _ _ h => h) (Or.inl ⟨by rfl, ?_⟩) HS.out ?_
  rotate_left
  · intro w' hS; first | (go_simp; done) | (go_simp; with_reducible rfl)
  refine wpAnyH_take (i := 11) (v := ?_) rfl (by kernel_rfl) (by decide +kernel) (by decide +kernel) (fun _ _ _ h => h) (Or.inl ⟨by rfl, ?_⟩) HS.out ?_
  rotate_left
  · intro w' hS; first | (go_simp; done) | (go_simp; with_reducible rfl)
  refine wpAnyH_take (i := 13) (v := ?_) rfl (by kernel_rfl) (by decide +kernel) (by decide +kernel) (fun _ _ _ h => h) (Or.inl ⟨by rfl, ?_⟩) HS.out ?_
  rotate_left
  · intro w' hS; first | (go_simp; done) | (go_simp; with_reducible rfl)
  refine wpAnyH_take (i := 14) (v := ?_) rfl (by kernel_rfl) (by decide +kernel) (by decide +kernel) (fun _ _ _ h => h) (Or.inl ⟨by rfl, ?_⟩) HS.out ?_
  rotate_left
  · intro w' hS; first | (go_simp; done) | (go_simp; with_reducible rfl)
  refine wpAnyH_all (rs := [12]) (by decide +kernel) (by simp) ?_
  intro i0 hi0
  obtain rfl := List.mem_singleton.1 hi0
  refine wpOp_go rfl rfl (fun K hK => ?_)
  go_simp
  refine HC.out.mono ?_
  rintro e w3 ⟨v, rfl, hO3, hb3⟩
  obtain ⟨A3, c3, rfl, _, _, _⟩ := rows_of_owns encU8 (show World.ownsRow _ _ _ _ _ (List.length l2) _ by rw [HL.out]; exact hO3)
  have hD3 := HD2.out.below hb3
  have HF3 : Hid (Fr [b] w1 w3) := Lib.hid ((Fr.refl [b] w1).drew.trans (Fr.of_below [b] hb3))
  have HO3 := Lib.hid (own_mono hO3 (Nat.zero_le _))
  have HD3 := Lib.hid hD3
  have q2 := hD3.blk.cell (2 + 0)
  have f2 := hD3.blk.frozen (2 + 0)
  have k5 : w3.cell? ⟨b, 5, none⟩ = some (.int .i64 D.kp) := hD3.blk.cell 5
  clear hD3 hO3 hb3 HC HD2 HS
  refine hK _ _ ⟨k5, ?_⟩
  clear hK K
  refine wpAnyH_take (i := 15) (v := ?_) rfl (by kernel_rfl) (by decide +kernel) (by decide +kernel) (fun _ _ _ h => h) (Or.inl ⟨by rfl, ?_⟩) k5 ?_
  rotate_left
  · intro w' hS; first | (go_simp; done) | (go_simp; with_reducible rfl)
  refine wpAnyH_all (rs := [16]) (by decide +kernel) (by simp) ?_
  intro i0 hi0
  obtain rfl := List.mem_singleton.1 hi0
  refine wpOp_go rfl rfl (fun K hK => ?_)
  go_simp
  have hf4 : Fr [b] w3 (w3.setCell ⟨b, 2 + 0, none⟩ (.slice A3 (List.length l2) c3)) := Fr.setCell w3 b (2 + 0) _
  have hO4 : Own8 (w3.setCell ⟨b, 2 + 0, none⟩ (.slice A3 (List.length l2) c3)) (.slice A3 (List.length l2) c3) l2 := Own8.fr (by have := HO3.out; rw [← HL.out] at this; exact this) hf4 HD3.out.at_
  have hD4 : IsDk (w3.setCell ⟨b, 2 + 0, none⟩ (.slice A3 (List.length l2) c3)) b (D.put 0 l2) _ _ D.kp := HD3.out.turn hf4 (HD3.out.blk.set_ (2 + 0) _) (fun _ => rfl) HD3.out.st HD3.out.fb (.inr hO4) (.inl ⟨rfl, rfl⟩)
  have k6 := hD4.blk.cell 5
  refine hK _ _ ⟨k6, ?_⟩
  clear hK K
  refine wpAnyH_done (by decide +kernel) ?_ _
  have HF4 := Lib.hid (HF3.out.trans hf4)
  have HD4 := Lib.hid hD4
  clear hf4 hO4 hD4 HF3 HO3 HD3 q2 f2 k5 k6 hsl
  have e9 : (w3.setCell ⟨b, 2 + 0, none⟩ (.slice A3 (List.length l2) c3)) = (w3.setCell ⟨b, 2 + 0, none⟩ (.slice A3 (List.length l2) c3)) := rfl
  generalize (w3.setCell ⟨b, 2 + 0, none⟩ (.slice A3 (List.length l2) c3)) = w4 at HF4 HD4 e9 ⊢
  clear e9
  have q1 : w4.cell? ⟨b, 1, none⟩ = some (.bool D.up) := HD4.out.blk.cell 1
  have f1 := HD4.out.blk.frozen 1
  have hf5 : Fr [b] w4 (w4.setCell ⟨b, 1, none⟩ (.bool false)) := Fr.setCell w4 b 1 _
  have hD5 := HD4.out.turn (D' := { D.put 0 l2 with up := false }) (kp' := D.kp) hf5 (HD4.out.blk.set_ 1 _) (fun _ => rfl) HD4.out.st HD4.out.fb (.inl ⟨rfl, rfl⟩) (.inl ⟨rfl, rfl⟩)
  have HA := Lib.hid (arm_any hD5 0 0 (Nat.zero_le _))
  have HF5 := Lib.hid (HF4.out.trans hf5)
  clear HF4 hf5 hD5 HD4
  go_wp2_with fail
  refine HA.out.mono ?_
  rintro e w6 ⟨rfl, hD6, hF6⟩
  have HD6 := Lib.hid hD6
  have HF6 := Lib.hid (HF5.out.trans hF6)
  clear hD6 hF6
  go_wp2
  go_ret
  exact ⟨rfl, ⟨_, _, _, HD6.out.rekp D.kp rfl⟩, HF6.out⟩

set_option maxRecDepth 100000 in
set_option maxHeartbeats 4000000 in
theorem wr_fail1 {w : World} {b : Nat} {D : Pl.Dk} {v0 v1 : Value} {kp : Int} (h : IsDk w b D v0 v1 kp) (hu : D.up = true) (hf : D.fl = 1) (A : Option Addr) (l : Pl.Bs) (n c : Nat) (hn : l.length = n) (hm : n ≤ 100000) (hnc : n ≤ c) (hI : Rows u8L 1 w A l) :
    Calls Try.prog 30 #[ptr b, .int .i64 1, .slice A n c] w fun e w' => e = .returned (.int .i64 91) ∧ Dsk w' b { D.put 1 (l.take (Pl.kpN D.kp n)) with up := false, fl := 0 } ∧ Fr [b] w w' := by
  have HK := Lib.hid (check_b h 1 0 (by unfold Pl.rdE; rw [hu]; simp))
  have p4 : w.cell? ⟨b, 4, none⟩ = some (.int .i64 1) := by rw [h.blk.cell 4]; show some (Value.int .i64 (D.fl : Nat)) = _; rw [hf]; rfl
  obtain rfl : kp = D.kp := h.kp (by omega)
  have HH := Lib.hid h
  have hmn := Pl.kpN_le D.kp n
  have hsl : ∀ W : World, (Instr.slice 29 (.slice A n c) none (some (.int .i64 (min (max D.kp 0) (n : Int)))) none).run Try.prog W = .ok (.slice A (Pl.kpN D.kp n) c) W := fun W => slice_h A n c _ _ (by unfold Pl.kpN; omega) (by omega) W
  have HI := Lib.hid (hI.take (Pl.kpN D.kp n))
  have HL : Hid ((l.take (Pl.kpN D.kp n)).length = Pl.kpN D.kp n) := Lib.hid (by rw [List.length_take]; omega)
  have HU := Lib.hid hu
  clear h hI hu hf hn
  generalize l.take (Pl.kpN D.kp n) = l2 at *
  generalize Pl.kpN D.kp n = m at *
  go_enter Try.func30, Try.ntmps30
  go_wp2_with fail
  refine HK.out.mono ?_
  rintro e w1 ⟨rfl, rfl⟩
  go_wp2
  refine wp_region_held (S := fun W => W.cell? ⟨b, 5, none⟩ = some (.int .i64 D.kp)) (by kernel_rfl) ?_
  change wpAnyH _ _ _ _ _ _ _ _ (World.drew _)
  have HD2 := Lib.hid HH.out.drew
  have HC := Lib.hid (copied_any A l2 c m HL.out (by omega) _ (show Rows u8L 1 (World.drew _) A l2 from HI.out))
  have HS : Hid ((World.drew w1).cell? ⟨b, 5, none⟩ = some (.int .i64 D.kp)) := Lib.hid (HD2.out.blk.cell 5)
  clear HH HI HK p4
  refine wpAnyH_take (i := 0) (v := ?_) rfl (by kernel_rfl) (by decide +kernel) (by decide +kernel) (fun _ _ _ h => h) (Or.inl ⟨by rfl, ?_⟩) HS.out ?_
  rotate_left
  · intro w' hS; first | (go_simp; done) | (go_simp; with_reducible rfl)
  refine wpAnyH_take (i := 1) (v := ?_) rfl (by kernel_rfl) (by decide +kernel) (by decide +kernel) (fun _ _ _ h => h) (Or.inl ⟨by rfl, ?_⟩) HS.out ?_
  rotate_left
  · intro w' hS; first | (go_simp; done) | (go_simp; with_reducible rfl)
  refine wpAnyH_take (i := 2) (v := ?_) rfl (by kernel_rfl) (by decide +kernel) (by decide +kernel) (fun _ _ _ h => h) (Or.inl ⟨by rfl, ?_⟩) HS.out ?_
  rotate_left
  · intro w' hS; first | (go_simp; done) | (go_simp; with_reducible rfl)
  refine wpAnyH_take (i := 3) (v := ?_) rfl (by kernel_rfl) (by decide +kernel) (by decide +kernel) (fun _ _ _ h => h) (Or.inl ⟨by rfl, ?_⟩) HS.out ?_
  rotate_left
  · intro w' hS; first | (go_simp; done) | (go_simp; with_reducible rfl)
  refine wpAnyH_take (i := 4) (v := ?_) rfl (by kernel_rfl) (by decide +kernel) (by decide +kernel) (fun _ _ _ h => h) (Or.inl ⟨by rfl, ?_⟩) HS.out ?_
  rotate_left
  · intro w' hS; first | (go_simp; done) | (go_simp; with_reducible rfl)
  refine wpAnyH_take (i := 5) (v := ?_) rfl (by kernel_rfl) (by decide +kernel) (by decide +kernel) (fun _ _ _ h => h) (Or.inl ⟨by rfl, ?_⟩) HS.out ?_
  rotate_left
  · intro w' hS; first | (go_simp; done) | (go_simp; with_reducible rfl)
  refine wpAnyH_take (i := 6) (v := ?_) rfl (by kernel_rfl) (by decide +kernel) (by decide +kernel) (fun _ _ _ h => h) (Or.inl ⟨by rfl, ?_⟩) HS.out ?_
  rotate_left
  · intro w' hS; have k5 : w'.cell? ⟨b, 5, none⟩ = some (.int .i64 D.kp) := hS; first | (go_simp; done) | (go_simp; with_reducible rfl)
  refine wpAnyH_take (i := 7) (v := ?_) rfl (by kernel_rfl) (by decide +kernel) (by decide +kernel) (fun _ _ _ h => h) (Or.inl ⟨by rfl, ?_⟩) HS.out ?_
  rotate_left
  · intro w' hS; first | (go_simp; done) | (go_simp; with_reducible rfl)
  refine wpAnyH_take (i := 8) (v := ?_) rfl (by kernel_rfl) (by decide +kernel) (by decide +kernel) (fun _ _ _ h => h) (Or.inl ⟨by rfl, ?_⟩) HS.out ?_
  rotate_left
  · intro w' hS; first | (go_simp; done) | (go_simp; with_reducible rfl)
  refine wpAnyH_take (i := 9) (v := ?_) rfl (by kernel_rfl) (by decide +kernel) (by decide +kernel) (fun _ _ _ h => h) (Or.inl ⟨by rfl, ?_⟩) HS.out ?_
  rotate_left
  · intro w' hS; first | (go_simp; done) | (go_simp; with_reducible rfl)
  refine wpAnyH_take (i := 10) (v := ?_) rfl (by kernel_rfl) (by decide +kernel) (by decide +kernel) (fun _ _ _ h => h) (Or.inl ⟨by rfl, ?_⟩) HS.out ?_
  rotate_left
  · intro w' hS; first | (go_simp; done) | (go_simp; with_reducible rfl)
  refine wpAnyH_take (i := 11) (v := ?_) rfl (by kernel_rfl) (by decide +kernel) (by decide +kernel) (fun _ _ _ h => h) (Or.inl ⟨by rfl, ?_⟩) HS.out ?_
  rotate_left
  · intro w' hS; first | (go_simp; done) | (go_simp; with_reducible rfl)
  refine wpAnyH_take (i := 13) (v := ?_) rfl (by kernel_rfl) (by decide +kernel) (by decide +kernel) (fun _ _ _ h => h) (Or.inl ⟨by rfl, ?_⟩) HS.out ?_
  rotate_left
  · intro w' hS; first | (go_simp; done) | (go_simp; with_reducible rfl)
  refine wpAnyH_take (i := 14) (v := ?_) rfl (by kernel_rfl) (by decide +kernel) (by decide +kernel) (fun _ _ _ h => h) (Or.inl ⟨by rfl, ?_⟩) HS.out ?_
  rotate_left
  · intro w' hS; first | (go_simp; done) | (go_simp; with_reducible rfl)
  refine wpAnyH_all (rs := [12]) (by decide +kernel) (by simp) ?_
  intro i0 hi0
  obtain rfl := List.mem_singleton.1 hi0
  refine wpOp_go rfl rfl (fun K hK => ?_)
  go_simp
  refine HC.out.mono ?_
  rintro e w3 ⟨v, rfl, hO3, hb3⟩
  obtain ⟨A3, c3, rfl, _, _, _⟩ := rows_of_owns encU8 (show World.ownsRow _ _ _ _ _ (List.length l2) _ by rw [HL.out]; exact hO3)
  have hD3 := HD2.out.below hb3
  have HF3 : Hid (Fr [b] w1 w3) := Lib.hid ((Fr.refl [b] w1).drew.trans (Fr.of_below [b] hb3))
  have HO3 := Lib.hid (own_mono hO3 (Nat.zero_le _))
  have HD3 := Lib.hid hD3
  have q2 := hD3.blk.cell (2 + 1)
  have f2 := hD3.blk.frozen (2 + 1)
  have k5 : w3.cell? ⟨b, 5, none⟩ = some (.int .i64 D.kp) := hD3.blk.cell 5
  clear hD3 hO3 hb3 HC HD2 HS
  refine hK _ _ ⟨k5, ?_⟩
  clear hK K
  refine wpAnyH_take (i := 15) (v := ?_) rfl (by kernel_rfl) (by decide +kernel) (by decide +kernel) (fun _ _ _ h => h) (Or.inl ⟨by rfl, ?_⟩) k5 ?_
  rotate_left
  · intro w' hS; first | (go_simp; done) | (go_simp; with_reducible rfl)
  refine wpAnyH_all (rs := [16]) (by decide +kernel) (by simp) ?_
  intro i0 hi0
  obtain rfl := List.mem_singleton.1 hi0
  refine wpOp_go rfl rfl (fun K hK => ?_)
  go_simp
  have hf4 : Fr [b] w3 (w3.setCell ⟨b, 2 + 1, none⟩ (.slice A3 (List.length l2) c3)) := Fr.setCell w3 b (2 + 1) _
  have hO4 : Own8 (w3.setCell ⟨b, 2 + 1, none⟩ (.slice A3 (List.length l2) c3)) (.slice A3 (List.length l2) c3) l2 := Own8.fr (by have := HO3.out; rw [← HL.out] at this; exact this) hf4 HD3.out.at_
  have hD4 : IsDk (w3.setCell ⟨b, 2 + 1, none⟩ (.slice A3 (List.length l2) c3)) b (D.put 1 l2) _ _ D.kp := HD3.out.turn hf4 (HD3.out.blk.set_ (2 + 1) _) (fun _ => rfl) HD3.out.st HD3.out.fb (.inl ⟨rfl, rfl⟩) (.inr hO4)
  have k6 := hD4.blk.cell 5
  refine hK _ _ ⟨k6, ?_⟩
  clear hK K
  refine wpAnyH_done (by decide +kernel) ?_ _
  have HF4 := Lib.hid (HF3.out.trans hf4)
  have HD4 := Lib.hid hD4
  clear hf4 hO4 hD4 HF3 HO3 HD3 q2 f2 k5 k6 hsl
  have e9 : (w3.setCell ⟨b, 2 + 1, none⟩ (.slice A3 (List.length l2) c3)) = (w3.setCell ⟨b, 2 + 1, none⟩ (.slice A3 (List.length l2) c3)) := rfl
  generalize (w3.setCell ⟨b, 2 + 1, none⟩ (.slice A3 (List.length l2) c3)) = w4 at HF4 HD4 e9 ⊢
  clear e9
  have q1 : w4.cell? ⟨b, 1, none⟩ = some (.bool D.up) := HD4.out.blk.cell 1
  have f1 := HD4.out.blk.frozen 1
  have hf5 : Fr [b] w4 (w4.setCell ⟨b, 1, none⟩ (.bool false)) := Fr.setCell w4 b 1 _
  have hD5 := HD4.out.turn (D' := { D.put 1 l2 with up := false }) (kp' := D.kp) hf5 (HD4.out.blk.set_ 1 _) (fun _ => rfl) HD4.out.st HD4.out.fb (.inl ⟨rfl, rfl⟩) (.inl ⟨rfl, rfl⟩)
  have HA := Lib.hid (arm_any hD5 0 0 (Nat.zero_le _))
  have HF5 := Lib.hid (HF4.out.trans hf5)
  clear HF4 hf5 hD5 HD4
  go_wp2_with fail
  refine HA.out.mono ?_
  rintro e w6 ⟨rfl, hD6, hF6⟩
  have HD6 := Lib.hid hD6
  have HF6 := Lib.hid (HF5.out.trans hF6)
  clear hD6 hF6
  go_wp2
  go_ret
  exact ⟨rfl, ⟨_, _, _, HD6.out.rekp D.kp rfl⟩, HF6.out⟩

set_option maxRecDepth 100000 in
set_option maxHeartbeats 2000000 in
theorem wr_no {w : World} {b : Nat} {D : Pl.Dk} {v0 v1 : Value} {kp : Int} (h : IsDk w b D v0 v1 kp) (i : Int) (hr : Pl.rdE D i ≠ 0) (A : Option Addr) (n c : Nat) :
    Calls Try.prog 30 #[ptr b, .int .i64 i, .slice A n c] w fun e w' => e = .returned (.int .i64 (Pl.rdE D i)) ∧ w' = w := by
  have HK := Lib.hid (check_b h i _ rfl)
  have hne : (Pl.rdE D i != 0) = true := by simpa using hr
  generalize Pl.rdE D i = v at *
  clear h hr
  go_enter Try.func30, Try.ntmps30
  go_wp2_with fail
  refine HK.out.mono ?_
  rintro e w1 ⟨rfl, rfl⟩
  go_wp2
  go_ret
  exact ⟨rfl, rfl⟩
theorem write_any {w : World} {b : Nat} {D : Pl.Dk} (h : Dsk w b D) (i : Int) (A : Option Addr) (l : Pl.Bs) (n c : Nat) (hn : l.length = n) (hm : n ≤ 100000) (hnc : n ≤ c) (hI : Rows u8L 1 w A l) :
    Calls Try.prog 30 #[ptr b, .int .i64 i, .slice A n c] w fun e w' => e = .returned (.int .i64 (Pl.wrE D i)) ∧ Dsk w' b (Pl.wrD D i l) ∧ Fr [b] w w' := by
  obtain ⟨v0, v1, kp, h⟩ := h
  by_cases hr : Pl.rdE D i = 0
  · have hu : D.up = true := by
      unfold Pl.rdE at hr
      cases hu : D.up with
      | true => rfl
      | false => rw [hu] at hr; simp at hr
    have hi : i = 0 ∨ i = 1 := by
      unfold Pl.rdE at hr
      rw [hu, if_neg (by decide)] at hr
      by_cases h' : i ≠ 0 ∧ i ≠ 1
      · rw [if_pos h'] at hr; cases hr
      · omega
    have e1 : Pl.wrE D i = if D.fl = 1 then 91 else 0 := by
      unfold Pl.wrE
      rw [hu, if_neg (by decide), if_neg (by omega)]
    have e2 : Pl.wrD D i l = if D.fl = 1 then { D.put i.toNat (l.take (Pl.kpN D.kp n)) with up := false, fl := 0 } else { D.put i.toNat l with fl := D.fl - 1 } := by
      unfold Pl.wrD
      rw [hu, if_neg (by decide), if_neg (by omega), hn]
    rw [e1, e2]
    by_cases hf : D.fl = 1
    · rw [if_pos hf, if_pos hf]
      rcases hi with rfl | rfl
      · exact wr_fail0 h hu hf A l n c hn hm hnc hI
      · exact wr_fail1 h hu hf A l n c hn hm hnc hI
    · rw [if_neg hf, if_neg hf]
      rcases hi with rfl | rfl
      · exact wr_go0 h hu hf A l n c hn hm hI
      · exact wr_go1 h hu hf A l n c hn hm hI
  · have e1 : Pl.wrE D i = Pl.rdE D i ∧ Pl.wrD D i l = D := by
      unfold Pl.rdE at hr
      unfold Pl.wrE Pl.rdE Pl.wrD
      cases hu : D.up with
      | false => exact ⟨rfl, rfl⟩
      | true =>
        rw [hu, if_neg (by decide)] at hr
        by_cases h' : i ≠ 0 ∧ i ≠ 1
        · simp [h'.1, h'.2]
        · rw [if_neg h'] at hr; exact absurd rfl hr
    rw [e1.1, e1.2]
    exact (wr_no h i hr A n c).mono fun e w' ⟨he, hw⟩ => ⟨he, by rw [hw]; exact ⟨v0, v1, kp, h⟩, by rw [hw]; exact Fr.refl _ _⟩
end Go.Proofs.Ytalfffkcmddakab
