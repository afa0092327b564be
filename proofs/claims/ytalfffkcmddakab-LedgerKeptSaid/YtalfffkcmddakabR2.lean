/- The document's disk: Write. -/
import Derived.Test.YtalfffkcmddakabR1
namespace Go.Proofs.Ytalfffkcmddakab
open Go.RowKit Go.Shelf

theorem IsRk.rekp {w : World} {b : Nat} {D : Pl.Dk} {v0 v1 : Value} {kp : Int} (h : IsRk w b D v0 v1 kp) (x : Int) (h0 : D.fl = 0) : IsRk w b { D with kp := x } v0 v1 kp :=
  ⟨h.blk, fun hp => absurd hp (by show ¬ 0 < D.fl; omega), h.o0, h.o1, h.st, h.fb⟩

set_option maxRecDepth 100000 in
set_option maxHeartbeats 8000000 in
theorem rw_go0 {w : World} {b : Nat} {D : Pl.Dk} {v0 v1 : Value} {kp : Int} (h : IsRk w b D v0 v1 kp) (hu : D.up = true) (hf : D.fl ≠ 1) (A : Option Addr) (l : Pl.Bs) (n c : Nat) (hn : l.length = n) (hm : n ≤ 100000) (hnil : A = none → c = 0) (hI : Rows u8L 1 w A l) :
    Calls Try.prog 37 #[ptr b, .int .i64 0, .slice A n c] w fun e w' => e = .returned (.int .i64 0) ∧ Rsk w' b { D.put 0 l with fl := D.fl - 1 } ∧ Fr [b] w w' := by
  have p2 : w.cell? ⟨b, 2, none⟩ = some (.bool false) := by rw [h.blk.cell 2]; show some (Value.bool (!D.up)) = _; rw [hu]; rfl
  have p3 : w.cell? ⟨b, 3, none⟩ = some (.int .i64 (D.fl : Nat)) := h.blk.cell 3
  have f3 := h.blk.frozen 3
  have HH := Lib.hid h
  have HI := Lib.hid hI
  have HU := Lib.hid hu
  obtain ⟨l2, hl2⟩ : ∃ l2, l2 = l := ⟨_, rfl⟩
  obtain ⟨n2, hn2⟩ : ∃ n2, n2 = n := ⟨_, rfl⟩
  have HL2 : Hid (l2.length = n2) := Lib.hid (by rw [hl2, hn2]; exact hn)
  have HN2 := Lib.hid hnil
  have HKP := Lib.hid h.kp
  have HFB : Hid (D.fl - 1 ≤ maxLen) := Lib.hid (Nat.le_trans (Nat.sub_le _ _) h.fb)
  have hfb : (D.fl : Int) ≤ 9223372036854775807 := by have := h.fb; unfold maxLen at this; omega
  obtain ⟨D1, hD1⟩ : ∃ D1 : Pl.Dk, D1 = { D with fl := D.fl - 1 } := ⟨_, rfl⟩
  have HD1 := Lib.hid hD1
  have HRS : Hid (({ D.put 0 l with fl := D.fl - 1 } : Pl.Dk) = D1.put 0 l2) := Lib.hid (by rw [hD1, hl2]; rfl)
  have HUP : Hid ((!D1.up) = false) := Lib.hid (by rw [hD1]; show (!D.up) = false; rw [hu]; rfl)
  have HI2 : Hid (Rows u8L 1 w A l2) := Lib.hid (by rw [hl2]; exact hI)
  rw [← hn2]
  rw [← hn2] at hm
  rw [HRS.out]
  clear h hI hn hu hl2 hn2 hD1 hnil HI HRS
  by_cases h0 : D.fl = 0
  case' pos =>
    have p3' : w.cell? ⟨b, 3, none⟩ = some (.int .i64 0) := by rw [p3, h0]; rfl
    have hD : IsRk w b D1 v0 v1 kp := by rw [HD1.out, show D.fl - 1 = D.fl by omega]; exact HH.out
    have HD := Lib.hid hD
    have HR := Lib.hid HI2.out
    clear hD h0 f3 HI2 p3 HH HKP HFB hfb
    go_enter Try.func37, Try.ntmps37
    go_wp2
    obtain ⟨WX, hWX⟩ : ∃ WX, WX = w := ⟨_, rfl⟩
    have HF : Hid (Fr [b] w WX) := Lib.hid (by rw [hWX]; exact Fr.refl _ _)
    rw [← hWX] at HD HR ⊢
  case' neg =>
    have hpos : 0 < D.fl := by omega
    have hposI : (0 : Int) < (D.fl : Nat) := by omega
    have hbd : Hid ((D.fl : Int) - 1 = ((D.fl - 1 : Nat) : Int)) := Lib.hid (by omega)
    have hne : ((D.fl : Int) - 1 == 0) = false := by rw [beq_eq_false_iff_ne]; omega
    have hF : Fr [b] w (w.setCell ⟨b, 3, none⟩ (.int .i64 ((D.fl : Int) - 1))) := Fr.setCell w b 3 _
    have hD : IsRk (w.setCell ⟨b, 3, none⟩ (.int .i64 ((D.fl : Int) - 1))) b D1 v0 v1 kp := by
      rw [hbd.out, HD1.out] at *
      exact HH.out.turn hF (HH.out.blk.set_ 3 _) (fun _ => HKP.out hpos) HH.out.st HFB.out (.inl ⟨rfl, rfl⟩) (.inl ⟨rfl, rfl⟩)
    have HR : Hid (Rows u8L 1 (w.setCell ⟨b, 3, none⟩ (.int .i64 ((D.fl : Int) - 1))) A l2) := Lib.hid (HI2.out.apart hF (Rsk.no ⟨_, _, _, HH.out⟩))
    have HF := Lib.hid hF
    have HD := Lib.hid hD
    clear hF hD h0 hbd HI2 HKP HFB HH
    go_enter Try.func37, Try.ntmps37
    go_wp2
    obtain ⟨WX, hWX⟩ : ∃ WX, WX = w.setCell ⟨b, 3, none⟩ (.int .i64 ((D.fl : Int) - 1)) := ⟨_, rfl⟩
    rw [← hWX] at HD HF HR ⊢
  all_goals
    clear hWX
    refine wp_region_held (S := fun _ => True) (by kernel_rfl) ?_
    change wpAnyH _ _ _ _ _ _ _ _ (World.drew _)
    have HD2 := Lib.hid HD.out.drew
    have HF2 := Lib.hid HF.out.drew
    have HR2 : Hid (Rows u8L 1 (World.drew _) A l2) := Lib.hid (show Rows u8L 1 (World.drew _) A l2 from HR.out)
    clear HD HF HR
    refine wpAnyH_take (i := 0) (v := ?_) rfl (by kernel_rfl) (by decide +kernel) (by decide +kernel) (fun _ _ _ h => h) (Or.inl ⟨by rfl, ?_⟩) trivial ?_
    rotate_left
    · intro w' hS; first | (go_simp; done) | (go_simp; with_reducible rfl)
    refine wpAnyH_take (i := 1) (v := ?_) rfl (by kernel_rfl) (by decide +kernel) (by decide +kernel) (fun _ _ _ h => h) (Or.inl ⟨by rfl, ?_⟩) trivial ?_
    rotate_left
    · intro w' hS; first | (go_simp; done) | (go_simp; with_reducible rfl)
    refine wpAnyH_take (i := 3) (v := ?_) rfl (by kernel_rfl) (by decide +kernel) (by decide +kernel) (fun _ _ _ h => h) (Or.inl ⟨by rfl, ?_⟩) trivial ?_
    rotate_left
    · intro w' hS; first | (go_simp; done) | (go_simp; with_reducible rfl)
    refine wpAnyH_take (i := 5) (v := ?_) rfl (by kernel_rfl) (by decide +kernel) (by decide +kernel) (fun _ _ _ h => h) (Or.inl ⟨by rfl, ?_⟩) trivial ?_
    rotate_left
    · intro w' hS; first | (go_simp; done) | (go_simp; with_reducible rfl)
    refine wpAnyH_take (i := 6) (v := ?_) rfl (by kernel_rfl) (by decide +kernel) (by decide +kernel) (fun _ _ _ h => h) (Or.inl ⟨by rfl, ?_⟩) trivial ?_
    rotate_left
    · intro w' hS; first | (go_simp; done) | (go_simp; with_reducible rfl)
    refine wpAnyH_all (rs := [2]) (by decide +kernel) (by simp) ?_
    intro i0 hi0
    obtain rfl := List.mem_singleton.1 hi0
    refine wpOp_go rfl rfl (fun K hK => ?_)
    go_simp
    refine hK _ _ ⟨trivial, ?_⟩
    clear hK K
    refine wpAnyH_all (rs := [4]) (by decide +kernel) (by simp) ?_
    intro i0 hi0
    obtain rfl := List.mem_singleton.1 hi0
    refine wpOp_go rfl rfl (fun K hK => ?_)
    have hA9 := (Below.refl _ _).alloc (Nat.le_refl _) (.cells #[] 5) (w := World.drew WX)
    have hB9 := hA9.size
    refine wp_app8 _ _ rfl (World.drew WX).heap.size _ 0 [] rfl (own0 _) hB9 A l2 n2 c HL2.out rfl (HR2.out.below hA9) HN2.out (by omega) ?_
    intro v3 w3 hO3 hb3
    obtain ⟨A3, c3, rfl, _, _, _⟩ := rows_of_owns encU8 (show World.ownsRow _ _ _ _ _ (List.length l2) _ by rw [HL2.out]; rw [Nat.zero_add, List.nil_append] at hO3; exact hO3)
    have hb4 := hA9.trans hb3
    have hD3 := HD2.out.below hb4
    have HF3 := Lib.hid (HF2.out.trans (Fr.of_below [b] hb4))
    have HO3 := Lib.hid (own_mono hO3 (Nat.zero_le _))
    have HD3 := Lib.hid hD3
    have q2 := hD3.blk.cell 0
    have f2 := hD3.blk.frozen 0
    clear hD3 hO3 hb3 hb4 HD2 HF2 HR2 hA9 hB9
    refine hK _ _ ⟨trivial, ?_⟩
    clear hK K
    refine wpAnyH_take (i := 7) (v := ?_) rfl (by kernel_rfl) (by decide +kernel) (by decide +kernel) (fun _ _ _ h => h) (Or.inl ⟨by rfl, ?_⟩) trivial ?_
    rotate_left
    · intro w' hS; first | (go_simp; done) | (go_simp; with_reducible rfl)
    refine wpAnyH_all (rs := [8]) (by decide +kernel) (by simp) ?_
    intro i0 hi0
    obtain rfl := List.mem_singleton.1 hi0
    refine wpOp_go rfl rfl (fun K hK => ?_)
    go_simp
    refine hK _ _ ⟨trivial, ?_⟩
    clear hK K
    refine wpAnyH_done (by decide +kernel) ?_ _
    have hf4 : Fr [b] w3 (w3.setCell ⟨b, 0, none⟩ (.slice A3 (List.length l2) c3)) := Fr.setCell w3 b 0 _
    have hO4 : Own8 (w3.setCell ⟨b, 0, none⟩ (.slice A3 (List.length l2) c3)) (.slice A3 (List.length l2) c3) l2 := Own8.fr (by have := HO3.out; rw [← HL2.out, Nat.zero_add, List.nil_append] at this; exact this) hf4 HD3.out.at_
    have hD4 := HD3.out.turn (D' := D1.put 0 l2) hf4 (HD3.out.blk.set_ 0 _) HD3.out.kp HD3.out.st HD3.out.fb (.inr hO4) (.inl ⟨rfl, rfl⟩)
    have HD4 := Lib.hid hD4
    have HF4 := Lib.hid (HF3.out.trans hf4)
    have q9 : (w3.setCell ⟨b, 0, none⟩ (.slice A3 (List.length l2) c3)).cell? ⟨b, 2, none⟩ = some (.bool (!D1.up)) := hD4.blk.cell 2
    generalize w3.setCell ⟨b, 0, none⟩ (.slice A3 (List.length l2) c3) = w4 at *
    clear hf4 hO4 hD4 q2 f2 HD3 HF3 HO3
    rw [HUP.out] at q9
    go_wp2
    go_ret
    exact ⟨rfl, ⟨_, _, _, HD4.out⟩, HF4.out⟩

set_option maxRecDepth 100000 in
set_option maxHeartbeats 8000000 in
theorem rw_go1 {w : World} {b : Nat} {D : Pl.Dk} {v0 v1 : Value} {kp : Int} (h : IsRk w b D v0 v1 kp) (hu : D.up = true) (hf : D.fl ≠ 1) (A : Option Addr) (l : Pl.Bs) (n c : Nat) (hn : l.length = n) (hm : n ≤ 100000) (hnil : A = none → c = 0) (hI : Rows u8L 1 w A l) :
    Calls Try.prog 37 #[ptr b, .int .i64 1, .slice A n c] w fun e w' => e = .returned (.int .i64 0) ∧ Rsk w' b { D.put 1 l with fl := D.fl - 1 } ∧ Fr [b] w w' := by
  have p2 : w.cell? ⟨b, 2, none⟩ = some (.bool false) := by rw [h.blk.cell 2]; show some (Value.bool (!D.up)) = _; rw [hu]; rfl
  have p3 : w.cell? ⟨b, 3, none⟩ = some (.int .i64 (D.fl : Nat)) := h.blk.cell 3
  have f3 := h.blk.frozen 3
  have HH := Lib.hid h
  have HI := Lib.hid hI
  have HU := Lib.hid hu
  obtain ⟨l2, hl2⟩ : ∃ l2, l2 = l := ⟨_, rfl⟩
  obtain ⟨n2, hn2⟩ : ∃ n2, n2 = n := ⟨_, rfl⟩
  have HL2 : Hid (l2.length = n2) := Lib.hid (by rw [hl2, hn2]; exact hn)
  have HN2 := Lib.hid hnil
  have HKP := Lib.hid h.kp
  have HFB : Hid (D.fl - 1 ≤ maxLen) := Lib.hid (Nat.le_trans (Nat.sub_le _ _) h.fb)
  have hfb : (D.fl : Int) ≤ 9223372036854775807 := by have := h.fb; unfold maxLen at this; omega
  obtain ⟨D1, hD1⟩ : ∃ D1 : Pl.Dk, D1 = { D with fl := D.fl - 1 } := ⟨_, rfl⟩
  have HD1 := Lib.hid hD1
  have HRS : Hid (({ D.put 1 l with fl := D.fl - 1 } : Pl.Dk) = D1.put 1 l2) := Lib.hid (by rw [hD1, hl2]; rfl)
  have HUP : Hid ((!D1.up) = false) := Lib.hid (by rw [hD1]; show (!D.up) = false; rw [hu]; rfl)
  have HI2 : Hid (Rows u8L 1 w A l2) := Lib.hid (by rw [hl2]; exact hI)
  rw [← hn2]
  rw [← hn2] at hm
  rw [HRS.out]
  clear h hI hn hu hl2 hn2 hD1 hnil HI HRS
  by_cases h0 : D.fl = 0
  case' pos =>
    have p3' : w.cell? ⟨b, 3, none⟩ = some (.int .i64 0) := by rw [p3, h0]; rfl
    have hD : IsRk w b D1 v0 v1 kp := by rw [HD1.out, show D.fl - 1 = D.fl by omega]; exact HH.out
    have HD := Lib.hid hD
    have HR := Lib.hid HI2.out
    clear hD h0 f3 HI2 p3 HH HKP HFB hfb
    go_enter Try.func37, Try.ntmps37
    go_wp2
    obtain ⟨WX, hWX⟩ : ∃ WX, WX = w := ⟨_, rfl⟩
    have HF : Hid (Fr [b] w WX) := Lib.hid (by rw [hWX]; exact Fr.refl _ _)
    rw [← hWX] at HD HR ⊢
  case' neg =>
    have hpos : 0 < D.fl := by omega
    have hposI : (0 : Int) < (D.fl : Nat) := by omega
    have hbd : Hid ((D.fl : Int) - 1 = ((D.fl - 1 : Nat) : Int)) := Lib.hid (by omega)
    have hne : ((D.fl : Int) - 1 == 0) = false := by rw [beq_eq_false_iff_ne]; omega
    have hF : Fr [b] w (w.setCell ⟨b, 3, none⟩ (.int .i64 ((D.fl : Int) - 1))) := Fr.setCell w b 3 _
    have hD : IsRk (w.setCell ⟨b, 3, none⟩ (.int .i64 ((D.fl : Int) - 1))) b D1 v0 v1 kp := by
      rw [hbd.out, HD1.out] at *
      exact HH.out.turn hF (HH.out.blk.set_ 3 _) (fun _ => HKP.out hpos) HH.out.st HFB.out (.inl ⟨rfl, rfl⟩) (.inl ⟨rfl, rfl⟩)
    have HR : Hid (Rows u8L 1 (w.setCell ⟨b, 3, none⟩ (.int .i64 ((D.fl : Int) - 1))) A l2) := Lib.hid (HI2.out.apart hF (Rsk.no ⟨_, _, _, HH.out⟩))
    have HF := Lib.hid hF
    have HD := Lib.hid hD
    clear hF hD h0 hbd HI2 HKP HFB HH
    go_enter Try.func37, Try.ntmps37
    go_wp2
    obtain ⟨WX, hWX⟩ : ∃ WX, WX = w.setCell ⟨b, 3, none⟩ (.int .i64 ((D.fl : Int) - 1)) := ⟨_, rfl⟩
    rw [← hWX] at HD HF HR ⊢
  all_goals
    clear hWX
    refine wp_region_held (S := fun _ => True) (by kernel_rfl) ?_
    change wpAnyH _ _ _ _ _ _ _ _ (World.drew _)
    have HD2 := Lib.hid HD.out.drew
    have HF2 := Lib.hid HF.out.drew
    have HR2 : Hid (Rows u8L 1 (World.drew _) A l2) := Lib.hid (show Rows u8L 1 (World.drew _) A l2 from HR.out)
    clear HD HF HR
    refine wpAnyH_take (i := 0) (v := ?_) rfl (by kernel_rfl) (by decide +kernel) (by decide +kernel) (fun _ _ _ h => h) (Or.inl ⟨by rfl, ?_⟩) trivial ?_
    rotate_left
    · intro w' hS; first | (go_simp; done) | (go_simp; with_reducible rfl)
    refine wpAnyH_take (i := 1) (v := ?_) rfl (by kernel_rfl) (by decide +kernel) (by decide +kernel) (fun _ _ _ h => h) (Or.inl ⟨by rfl, ?_⟩) trivial ?_
    rotate_left
    · intro w' hS; first | (go_simp; done) | (go_simp; with_reducible rfl)
    refine wpAnyH_take (i := 3) (v := ?_) rfl (by kernel_rfl) (by decide +kernel) (by decide +kernel) (fun _ _ _ h => h) (Or.inl ⟨by rfl, ?_⟩) trivial ?_
    rotate_left
    · intro w' hS; first | (go_simp; done) | (go_simp; with_reducible rfl)
    refine wpAnyH_take (i := 5) (v := ?_) rfl (by kernel_rfl) (by decide +kernel) (by decide +kernel) (fun _ _ _ h => h) (Or.inl ⟨by rfl, ?_⟩) trivial ?_
    rotate_left
    · intro w' hS; first | (go_simp; done) | (go_simp; with_reducible rfl)
    refine wpAnyH_take (i := 6) (v := ?_) rfl (by kernel_rfl) (by decide +kernel) (by decide +kernel) (fun _ _ _ h => h) (Or.inl ⟨by rfl, ?_⟩) trivial ?_
    rotate_left
    · intro w' hS; first | (go_simp; done) | (go_simp; with_reducible rfl)
    refine wpAnyH_all (rs := [2]) (by decide +kernel) (by simp) ?_
    intro i0 hi0
    obtain rfl := List.mem_singleton.1 hi0
    refine wpOp_go rfl rfl (fun K hK => ?_)
    go_simp
    refine hK _ _ ⟨trivial, ?_⟩
    clear hK K
    refine wpAnyH_all (rs := [4]) (by decide +kernel) (by simp) ?_
    intro i0 hi0
    obtain rfl := List.mem_singleton.1 hi0
    refine wpOp_go rfl rfl (fun K hK => ?_)
    have hA9 := (Below.refl _ _).alloc (Nat.le_refl _) (.cells #[] 5) (w := World.drew WX)
    have hB9 := hA9.size
    refine wp_app8 _ _ rfl (World.drew WX).heap.size _ 0 [] rfl (own0 _) hB9 A l2 n2 c HL2.out rfl (HR2.out.below hA9) HN2.out (by omega) ?_
    intro v3 w3 hO3 hb3
    obtain ⟨A3, c3, rfl, _, _, _⟩ := rows_of_owns encU8 (show World.ownsRow _ _ _ _ _ (List.length l2) _ by rw [HL2.out]; rw [Nat.zero_add, List.nil_append] at hO3; exact hO3)
    have hb4 := hA9.trans hb3
    have hD3 := HD2.out.below hb4
    have HF3 := Lib.hid (HF2.out.trans (Fr.of_below [b] hb4))
    have HO3 := Lib.hid (own_mono hO3 (Nat.zero_le _))
    have HD3 := Lib.hid hD3
    have q2 := hD3.blk.cell 1
    have f2 := hD3.blk.frozen 1
    clear hD3 hO3 hb3 hb4 HD2 HF2 HR2 hA9 hB9
    refine hK _ _ ⟨trivial, ?_⟩
    clear hK K
    refine wpAnyH_take (i := 7) (v := ?_) rfl (by kernel_rfl) (by decide +kernel) (by decide +kernel) (fun _ _ _ h => h) (Or.inl ⟨by rfl, ?_⟩) trivial ?_
    rotate_left
    · intro w' hS; first | (go_simp; done) | (go_simp; with_reducible rfl)
    refine wpAnyH_all (rs := [8]) (by decide +kernel) (by simp) ?_
    intro i0 hi0
    obtain rfl := List.mem_singleton.1 hi0
    refine wpOp_go rfl rfl (fun K hK => ?_)
    go_simp
    refine hK _ _ ⟨trivial, ?_⟩
    clear hK K
    refine wpAnyH_done (by decide +kernel) ?_ _
    have hf4 : Fr [b] w3 (w3.setCell ⟨b, 1, none⟩ (.slice A3 (List.length l2) c3)) := Fr.setCell w3 b 1 _
    have hO4 : Own8 (w3.setCell ⟨b, 1, none⟩ (.slice A3 (List.length l2) c3)) (.slice A3 (List.length l2) c3) l2 := Own8.fr (by have := HO3.out; rw [← HL2.out, Nat.zero_add, List.nil_append] at this; exact this) hf4 HD3.out.at_
    have hD4 := HD3.out.turn (D' := D1.put 1 l2) hf4 (HD3.out.blk.set_ 1 _) HD3.out.kp HD3.out.st HD3.out.fb (.inl ⟨rfl, rfl⟩) (.inr hO4)
    have HD4 := Lib.hid hD4
    have HF4 := Lib.hid (HF3.out.trans hf4)
    have q9 : (w3.setCell ⟨b, 1, none⟩ (.slice A3 (List.length l2) c3)).cell? ⟨b, 2, none⟩ = some (.bool (!D1.up)) := hD4.blk.cell 2
    generalize w3.setCell ⟨b, 1, none⟩ (.slice A3 (List.length l2) c3) = w4 at *
    clear hf4 hO4 hD4 q2 f2 HD3 HF3 HO3
    rw [HUP.out] at q9
    go_wp2
    go_ret
    exact ⟨rfl, ⟨_, _, _, HD4.out⟩, HF4.out⟩

set_option maxRecDepth 100000 in
set_option maxHeartbeats 8000000 in
theorem rw_fail0 {w : World} {b : Nat} {D : Pl.Dk} {v0 v1 : Value} {kp : Int} (h : IsRk w b D v0 v1 kp) (hu : D.up = true) (hf : D.fl = 1) (A : Option Addr) (l : Pl.Bs) (n c : Nat) (hn : l.length = n) (hm : n ≤ 100000) (hnc : n ≤ c) (hnil : A = none → c = 0) (hI : Rows u8L 1 w A l) :
    Calls Try.prog 37 #[ptr b, .int .i64 0, .slice A n c] w fun e w' => e = .returned (.int .i64 91) ∧ Rsk w' b { D.put 0 (l.take (Pl.kpN D.kp n)) with up := false, fl := 0 } ∧ Fr [b] w w' := by
  obtain rfl : kp = D.kp := h.kp (by omega)
  have p2 : w.cell? ⟨b, 2, none⟩ = some (.bool false) := by rw [h.blk.cell 2]; show some (Value.bool (!D.up)) = _; rw [hu]; rfl
  have p3 : w.cell? ⟨b, 3, none⟩ = some (.int .i64 1) := by rw [h.blk.cell 3]; show some (Value.int .i64 (D.fl : Nat)) = _; rw [hf]; rfl
  have p4 : w.cell? ⟨b, 4, none⟩ = some (.int .i64 D.kp) := h.blk.cell 4
  have f2 := h.blk.frozen 2
  have f3 := h.blk.frozen 3
  have hmn := Pl.kpN_le D.kp n
  have hsl : ∀ W : World, (Instr.slice 29 (.slice A n c) none (some (.int .i64 (max (min D.kp (n : Int)) 0))) none).run Try.prog W = .ok (.slice A (Pl.kpN D.kp n) c) W := fun W => slice_h A n c _ _ (by unfold Pl.kpN; omega) (by omega) W
  have hFr : Fr [b] w ((w.setCell ⟨b, 3, none⟩ (.int .i64 0)).setCell ⟨b, 2, none⟩ (.bool true)) := (Fr.setCell w b 3 _).trans (Fr.setCell _ b 2 _)
  obtain ⟨D1, hD1⟩ : ∃ D1 : Pl.Dk, D1 = { D with up := false, fl := 0 } := ⟨_, rfl⟩
  have hDD : IsRk ((w.setCell ⟨b, 3, none⟩ (.int .i64 0)).setCell ⟨b, 2, none⟩ (.bool true)) b D1 v0 v1 D.kp := by
    rw [hD1]
    exact h.turn hFr ((h.blk.set_ 3 _).set_ 2 _) (fun h => absurd h (Nat.lt_irrefl 0)) h.st (Nat.zero_le _) (.inl ⟨rfl, rfl⟩) (.inl ⟨rfl, rfl⟩)
  have HR : Hid (Rows u8L 1 ((w.setCell ⟨b, 3, none⟩ (.int .i64 0)).setCell ⟨b, 2, none⟩ (.bool true)) A (l.take (Pl.kpN D.kp n))) := Lib.hid ((hI.apart hFr (Rsk.no ⟨_, _, _, h⟩)).take _)
  have HL2 : Hid ((l.take (Pl.kpN D.kp n)).length = Pl.kpN D.kp n) := Lib.hid (by rw [List.length_take]; omega)
  have HN2 := Lib.hid hnil
  have HF := Lib.hid hFr
  have HD := Lib.hid hDD
  have HRS : Hid (({ D.put 0 (l.take (Pl.kpN D.kp n)) with up := false, fl := 0 } : Pl.Dk) = D1.put 0 (l.take (Pl.kpN D.kp n))) := Lib.hid (by rw [hD1]; rfl)
  have HUP : Hid ((!D1.up) = true) := Lib.hid (by rw [hD1]; rfl)
  rw [HRS.out]
  clear h hI hu hf hn hFr hDD hnil hD1 HRS
  generalize l.take (Pl.kpN D.kp n) = l2 at *
  generalize Pl.kpN D.kp n = n2 at *
  go_enter Try.func37, Try.ntmps37
  go_wp2
  obtain ⟨WX, hWX⟩ : ∃ WX, WX = (w.setCell ⟨b, 3, none⟩ (.int .i64 0)).setCell ⟨b, 2, none⟩ (.bool true) := ⟨_, rfl⟩
  rw [← hWX] at HD HF HR ⊢
  clear hWX hsl p2 p3 p4 f2 f3
  refine wp_region_held (S := fun _ => True) (by kernel_rfl) ?_
  change wpAnyH _ _ _ _ _ _ _ _ (World.drew _)
  have HD2 := Lib.hid HD.out.drew
  have HF2 := Lib.hid HF.out.drew
  have HR2 : Hid (Rows u8L 1 (World.drew _) A l2) := Lib.hid (show Rows u8L 1 (World.drew _) A l2 from HR.out)
  clear HD HF HR
  refine wpAnyH_take (i := 0) (v := ?_) rfl (by kernel_rfl) (by decide +kernel) (by decide +kernel) (fun _ _ _ h => h) (Or.inl ⟨by rfl, ?_⟩) trivial ?_
  rotate_left
  · intro w' hS; first | (go_simp; done) | (go_simp; with_reducible rfl)
  refine wpAnyH_take (i := 1) (v := ?_) rfl (by kernel_rfl) (by decide +kernel) (by decide +kernel) (fun _ _ _ h => h) (Or.inl ⟨by rfl, ?_⟩) trivial ?_
  rotate_left
  · intro w' hS; first | (go_simp; done) | (go_simp; with_reducible rfl)
  refine wpAnyH_take (i := 3) (v := ?_) rfl (by kernel_rfl) (by decide +kernel) (by decide +kernel) (fun _ _ _ h => h) (Or.inl ⟨by rfl, ?_⟩) trivial ?_
  rotate_left
  · intro w' hS; first | (go_simp; done) | (go_simp; with_reducible rfl)
  refine wpAnyH_take (i := 5) (v := ?_) rfl (by kernel_rfl) (by decide +kernel) (by decide +kernel) (fun _ _ _ h => h) (Or.inl ⟨by rfl, ?_⟩) trivial ?_
  rotate_left
  · intro w' hS; first | (go_simp; done) | (go_simp; with_reducible rfl)
  refine wpAnyH_take (i := 6) (v := ?_) rfl (by kernel_rfl) (by decide +kernel) (by decide +kernel) (fun _ _ _ h => h) (Or.inl ⟨by rfl, ?_⟩) trivial ?_
  rotate_left
  · intro w' hS; first | (go_simp; done) | (go_simp; with_reducible rfl)
  refine wpAnyH_all (rs := [2]) (by decide +kernel) (by simp) ?_
  intro i0 hi0
  obtain rfl := List.mem_singleton.1 hi0
  refine wpOp_go rfl rfl (fun K hK => ?_)
  go_simp
  refine hK _ _ ⟨trivial, ?_⟩
  clear hK K
  refine wpAnyH_all (rs := [4]) (by decide +kernel) (by simp) ?_
  intro i0 hi0
  obtain rfl := List.mem_singleton.1 hi0
  refine wpOp_go rfl rfl (fun K hK => ?_)
  have hA9 := (Below.refl _ _).alloc (Nat.le_refl _) (.cells #[] 5) (w := World.drew WX)
  have hB9 := hA9.size
  refine wp_app8 _ _ rfl (World.drew WX).heap.size _ 0 [] rfl (own0 _) hB9 A l2 n2 c HL2.out rfl (HR2.out.below hA9) HN2.out (by omega) ?_
  intro v3 w3 hO3 hb3
  obtain ⟨A3, c3, rfl, _, _, _⟩ := rows_of_owns encU8 (show World.ownsRow _ _ _ _ _ (List.length l2) _ by rw [HL2.out]; rw [Nat.zero_add, List.nil_append] at hO3; exact hO3)
  have hb4 := hA9.trans hb3
  have hD3 := HD2.out.below hb4
  have HF3 := Lib.hid (HF2.out.trans (Fr.of_below [b] hb4))
  have HO3 := Lib.hid (own_mono hO3 (Nat.zero_le _))
  have HD3 := Lib.hid hD3
  have q2 := hD3.blk.cell 0
  have f2 := hD3.blk.frozen 0
  clear hD3 hO3 hb3 hb4 HD2 HF2 HR2 hA9 hB9
  refine hK _ _ ⟨trivial, ?_⟩
  clear hK K
  refine wpAnyH_take (i := 7) (v := ?_) rfl (by kernel_rfl) (by decide +kernel) (by decide +kernel) (fun _ _ _ h => h) (Or.inl ⟨by rfl, ?_⟩) trivial ?_
  rotate_left
  · intro w' hS; first | (go_simp; done) | (go_simp; with_reducible rfl)
  refine wpAnyH_all (rs := [8]) (by decide +kernel) (by simp) ?_
  intro i0 hi0
  obtain rfl := List.mem_singleton.1 hi0
  refine wpOp_go rfl rfl (fun K hK => ?_)
  go_simp
  refine hK _ _ ⟨trivial, ?_⟩
  clear hK K
  refine wpAnyH_done (by decide +kernel) ?_ _
  have hf4 : Fr [b] w3 (w3.setCell ⟨b, 0, none⟩ (.slice A3 (List.length l2) c3)) := Fr.setCell w3 b 0 _
  have hO4 : Own8 (w3.setCell ⟨b, 0, none⟩ (.slice A3 (List.length l2) c3)) (.slice A3 (List.length l2) c3) l2 := Own8.fr (by have := HO3.out; rw [← HL2.out, Nat.zero_add, List.nil_append] at this; exact this) hf4 HD3.out.at_
  have hD4 := HD3.out.turn (D' := D1.put 0 l2) hf4 (HD3.out.blk.set_ 0 _) HD3.out.kp HD3.out.st HD3.out.fb (.inr hO4) (.inl ⟨rfl, rfl⟩)
  have HD4 := Lib.hid hD4
  have HF4 := Lib.hid (HF3.out.trans hf4)
  have q9 : (w3.setCell ⟨b, 0, none⟩ (.slice A3 (List.length l2) c3)).cell? ⟨b, 2, none⟩ = some (.bool (!D1.up)) := hD4.blk.cell 2
  generalize w3.setCell ⟨b, 0, none⟩ (.slice A3 (List.length l2) c3) = w4 at *
  clear hf4 hO4 hD4 q2 f2 HD3 HF3 HO3
  rw [HUP.out] at q9
  go_wp2
  go_ret
  exact ⟨rfl, ⟨_, _, _, HD4.out⟩, HF4.out⟩

set_option maxRecDepth 100000 in
set_option maxHeartbeats 8000000 in
theorem rw_fail1 {w : World} {b : Nat} {D : Pl.Dk} {v0 v1 : Value} {kp : Int} (h : IsRk w b D v0 v1 kp) (hu : D.up = true) (hf : D.fl = 1) (A : Option Addr) (l : Pl.Bs) (n c : Nat) (hn : l.length = n) (hm : n ≤ 100000) (hnc : n ≤ c) (hnil : A = none → c = 0) (hI : Rows u8L 1 w A l) :
    Calls Try.prog 37 #[ptr b, .int .i64 1, .slice A n c] w fun e w' => e = .returned (.int .i64 91) ∧ Rsk w' b { D.put 1 (l.take (Pl.kpN D.kp n)) with up := false, fl := 0 } ∧ Fr [b] w w' := by
  obtain rfl : kp = D.kp := h.kp (by omega)
  have p2 : w.cell? ⟨b, 2, none⟩ = some (.bool false) := by rw [h.blk.cell 2]; show some (Value.bool (!D.up)) = _; rw [hu]; rfl
  have p3 : w.cell? ⟨b, 3, none⟩ = some (.int .i64 1) := by rw [h.blk.cell 3]; show some (Value.int .i64 (D.fl : Nat)) = _; rw [hf]; rfl
  have p4 : w.cell? ⟨b, 4, none⟩ = some (.int .i64 D.kp) := h.blk.cell 4
  have f2 := h.blk.frozen 2
  have f3 := h.blk.frozen 3
  have hmn := Pl.kpN_le D.kp n
  have hsl : ∀ W : World, (Instr.slice 29 (.slice A n c) none (some (.int .i64 (max (min D.kp (n : Int)) 0))) none).run Try.prog W = .ok (.slice A (Pl.kpN D.kp n) c) W := fun W => slice_h A n c _ _ (by unfold Pl.kpN; omega) (by omega) W
  have hFr : Fr [b] w ((w.setCell ⟨b, 3, none⟩ (.int .i64 0)).setCell ⟨b, 2, none⟩ (.bool true)) := (Fr.setCell w b 3 _).trans (Fr.setCell _ b 2 _)
  obtain ⟨D1, hD1⟩ : ∃ D1 : Pl.Dk, D1 = { D with up := false, fl := 0 } := ⟨_, rfl⟩
  have hDD : IsRk ((w.setCell ⟨b, 3, none⟩ (.int .i64 0)).setCell ⟨b, 2, none⟩ (.bool true)) b D1 v0 v1 D.kp := by
    rw [hD1]
    exact h.turn hFr ((h.blk.set_ 3 _).set_ 2 _) (fun h => absurd h (Nat.lt_irrefl 0)) h.st (Nat.zero_le _) (.inl ⟨rfl, rfl⟩) (.inl ⟨rfl, rfl⟩)
  have HR : Hid (Rows u8L 1 ((w.setCell ⟨b, 3, none⟩ (.int .i64 0)).setCell ⟨b, 2, none⟩ (.bool true)) A (l.take (Pl.kpN D.kp n))) := Lib.hid ((hI.apart hFr (Rsk.no ⟨_, _, _, h⟩)).take _)
  have HL2 : Hid ((l.take (Pl.kpN D.kp n)).length = Pl.kpN D.kp n) := Lib.hid (by rw [List.length_take]; omega)
  have HN2 := Lib.hid hnil
  have HF := Lib.hid hFr
  have HD := Lib.hid hDD
  have HRS : Hid (({ D.put 1 (l.take (Pl.kpN D.kp n)) with up := false, fl := 0 } : Pl.Dk) = D1.put 1 (l.take (Pl.kpN D.kp n))) := Lib.hid (by rw [hD1]; rfl)
  have HUP : Hid ((!D1.up) = true) := Lib.hid (by rw [hD1]; rfl)
  rw [HRS.out]
  clear h hI hu hf hn hFr hDD hnil hD1 HRS
  generalize l.take (Pl.kpN D.kp n) = l2 at *
  generalize Pl.kpN D.kp n = n2 at *
  go_enter Try.func37, Try.ntmps37
  go_wp2
  obtain ⟨WX, hWX⟩ : ∃ WX, WX = (w.setCell ⟨b, 3, none⟩ (.int .i64 0)).setCell ⟨b, 2, none⟩ (.bool true) := ⟨_, rfl⟩
  rw [← hWX] at HD HF HR ⊢
  clear hWX hsl p2 p3 p4 f2 f3
  refine wp_region_held (S := fun _ => True) (by kernel_rfl) ?_
  change wpAnyH _ _ _ _ _ _ _ _ (World.drew _)
  have HD2 := Lib.hid HD.out.drew
  have HF2 := Lib.hid HF.out.drew
  have HR2 : Hid (Rows u8L 1 (World.drew _) A l2) := Lib.hid (show Rows u8L 1 (World.drew _) A l2 from HR.out)
  clear HD HF HR
  refine wpAnyH_take (i := 0) (v := ?_) rfl (by kernel_rfl) (by decide +kernel) (by decide +kernel) (fun _ _ _ h => h) (Or.inl ⟨by rfl, ?_⟩) trivial ?_
  rotate_left
  · intro w' hS; first | (go_simp; done) | (go_simp; with_reducible rfl)
  refine wpAnyH_take (i := 1) (v := ?_) rfl (by kernel_rfl) (by decide +kernel) (by decide +kernel) (fun _ _ _ h => h) (Or.inl ⟨by rfl, ?_⟩) trivial ?_
  rotate_left
  · intro w' hS; first | (go_simp; done) | (go_simp; with_reducible rfl)
  refine wpAnyH_take (i := 3) (v := ?_) rfl (by kernel_rfl) (by decide +kernel) (by decide +kernel) (fun _ _ _ h => h) (Or.inl ⟨by rfl, ?_⟩) trivial ?_
  rotate_left
  · intro w' hS; first | (go_simp; done) | (go_simp; with_reducible rfl)
  refine wpAnyH_take (i := 5) (v := ?_) rfl (by kernel_rfl) (by decide +kernel) (by decide +kernel) (fun _ _ _ h => h) (Or.inl ⟨by rfl, ?_⟩) trivial ?_
  rotate_left
  · intro w' hS; first | (go_simp; done) | (go_simp; with_reducible rfl)
  refine wpAnyH_take (i := 6) (v := ?_) rfl (by kernel_rfl) (by decide +kernel) (by decide +kernel) (fun _ _ _ h => h) (Or.inl ⟨by rfl, ?_⟩) trivial ?_
  rotate_left
  · intro w' hS; first | (go_simp; done) | (go_simp; with_reducible rfl)
  refine wpAnyH_all (rs := [2]) (by decide +kernel) (by simp) ?_
  intro i0 hi0
  obtain rfl := List.mem_singleton.1 hi0
  refine wpOp_go rfl rfl (fun K hK => ?_)
  go_simp
  refine hK _ _ ⟨trivial, ?_⟩
  clear hK K
  refine wpAnyH_all (rs := [4]) (by decide +kernel) (by simp) ?_
  intro i0 hi0
  obtain rfl := List.mem_singleton.1 hi0
  refine wpOp_go rfl rfl (fun K hK => ?_)
  have hA9 := (Below.refl _ _).alloc (Nat.le_refl _) (.cells #[] 5) (w := World.drew WX)
  have hB9 := hA9.size
  refine wp_app8 _ _ rfl (World.drew WX).heap.size _ 0 [] rfl (own0 _) hB9 A l2 n2 c HL2.out rfl (HR2.out.below hA9) HN2.out (by omega) ?_
  intro v3 w3 hO3 hb3
  obtain ⟨A3, c3, rfl, _, _, _⟩ := rows_of_owns encU8 (show World.ownsRow _ _ _ _ _ (List.length l2) _ by rw [HL2.out]; rw [Nat.zero_add, List.nil_append] at hO3; exact hO3)
  have hb4 := hA9.trans hb3
  have hD3 := HD2.out.below hb4
  have HF3 := Lib.hid (HF2.out.trans (Fr.of_below [b] hb4))
  have HO3 := Lib.hid (own_mono hO3 (Nat.zero_le _))
  have HD3 := Lib.hid hD3
  have q2 := hD3.blk.cell 1
  have f2 := hD3.blk.frozen 1
  clear hD3 hO3 hb3 hb4 HD2 HF2 HR2 hA9 hB9
  refine hK _ _ ⟨trivial, ?_⟩
  clear hK K
  refine wpAnyH_take (i := 7) (v := ?_) rfl (by kernel_rfl) (by decide +kernel) (by decide +kernel) (fun _ _ _ h => h) (Or.inl ⟨by rfl, ?_⟩) trivial ?_
  rotate_left
  · intro w' hS; first | (go_simp; done) | (go_simp; with_reducible rfl)
  refine wpAnyH_all (rs := [8]) (by decide +kernel) (by simp) ?_
  intro i0 hi0
  obtain rfl := List.mem_singleton.1 hi0
  refine wpOp_go rfl rfl (fun K hK => ?_)
  go_simp
  refine hK _ _ ⟨trivial, ?_⟩
  clear hK K
  refine wpAnyH_done (by decide +kernel) ?_ _
  have hf4 : Fr [b] w3 (w3.setCell ⟨b, 1, none⟩ (.slice A3 (List.length l2) c3)) := Fr.setCell w3 b 1 _
  have hO4 : Own8 (w3.setCell ⟨b, 1, none⟩ (.slice A3 (List.length l2) c3)) (.slice A3 (List.length l2) c3) l2 := Own8.fr (by have := HO3.out; rw [← HL2.out, Nat.zero_add, List.nil_append] at this; exact this) hf4 HD3.out.at_
  have hD4 := HD3.out.turn (D' := D1.put 1 l2) hf4 (HD3.out.blk.set_ 1 _) HD3.out.kp HD3.out.st HD3.out.fb (.inl ⟨rfl, rfl⟩) (.inr hO4)
  have HD4 := Lib.hid hD4
  have HF4 := Lib.hid (HF3.out.trans hf4)
  have q9 : (w3.setCell ⟨b, 1, none⟩ (.slice A3 (List.length l2) c3)).cell? ⟨b, 2, none⟩ = some (.bool (!D1.up)) := hD4.blk.cell 2
  generalize w3.setCell ⟨b, 1, none⟩ (.slice A3 (List.length l2) c3) = w4 at *
  clear hf4 hO4 hD4 q2 f2 HD3 HF3 HO3
  rw [HUP.out] at q9
  go_wp2
  go_ret
  exact ⟨rfl, ⟨_, _, _, HD4.out⟩, HF4.out⟩

set_option maxRecDepth 100000 in
set_option maxHeartbeats 2000000 in
theorem rw_no {w : World} {b : Nat} {D : Pl.Dk} {v0 v1 : Value} {kp : Int} (h : IsRk w b D v0 v1 kp) (i : Int) (hr : Pl.rdE D i ≠ 0) (v : Value) :
    Calls Try.prog 37 #[ptr b, .int .i64 i, v] w fun e w' => e = .returned (.int .i64 (Pl.rdE D i)) ∧ w' = w := by
  have q2 : w.cell? ⟨b, 2, none⟩ = some (.bool (!D.up)) := h.blk.cell 2
  clear h
  cases hu : D.up with
  | false =>
    have e1 : Pl.rdE D i = 91 := by unfold Pl.rdE; rw [hu]; rfl
    rw [hu] at q2
    rw [e1]
    clear hr e1
    go_enter Try.func37, Try.ntmps37
    go_wp2
    go_ret
    exact ⟨rfl, rfl⟩
  | true =>
    have hi : i ≠ 0 ∧ i ≠ 1 := by
      unfold Pl.rdE at hr
      rw [hu, if_neg (by decide)] at hr
      by_cases h' : i ≠ 0 ∧ i ≠ 1
      · exact h'
      · rw [if_neg h'] at hr; exact absurd rfl hr
    have e1 : Pl.rdE D i = 2 := by unfold Pl.rdE; rw [hu, if_neg (by decide), if_pos hi]
    rw [hu] at q2
    rw [e1]
    have h0 : (i != 0) = true := by simpa using hi.1
    have h1 : (i != 1) = true := by simpa using hi.2
    clear hr e1 hi
    go_enter Try.func37, Try.ntmps37
    go_wp2
    go_ret
    exact ⟨rfl, rfl⟩
theorem rwrite_any {w : World} {b : Nat} {D : Pl.Dk} (h : Rsk w b D) (i : Int) (A : Option Addr) (l : Pl.Bs) (n c : Nat) (hn : l.length = n) (hm : n ≤ 100000) (hnc : n ≤ c) (hnil : A = none → c = 0) (hI : Rows u8L 1 w A l) :
    Calls Try.prog 37 #[ptr b, .int .i64 i, .slice A n c] w fun e w' => e = .returned (.int .i64 (Pl.wrE D i)) ∧ Rsk w' b (Pl.wrD D i l) ∧ Fr [b] w w' := by
  obtain ⟨v0, v1, kp, h⟩ := h
  by_cases hr : Pl.rdE D i = 0
  · obtain ⟨hu, hi⟩ := rd_ok hr
    have e1 : Pl.wrE D i = if D.fl = 1 then 91 else 0 := by
      unfold Pl.wrE
      rw [hu, if_neg (by decide), if_neg (by omega)]
    have e2 : Pl.wrD D i l = if D.fl = 1 then { D.put i.toNat (l.take (Pl.kpN D.kp n)) with up := false, fl := 0 } else { D.put i.toNat l with fl := D.fl - 1 } := by
      unfold Pl.wrD
      rw [hu, if_neg (by decide), if_neg (by omega), hn]
    rw [e1, e2]
    by_cases hf : D.fl = 1
    · rw [if_pos hf, if_pos hf]
      rcases hi with rfl | rfl
      · exact rw_fail0 h hu hf A l n c hn hm hnc hnil hI
      · exact rw_fail1 h hu hf A l n c hn hm hnc hnil hI
    · rw [if_neg hf, if_neg hf]
      rcases hi with rfl | rfl
      · exact rw_go0 h hu hf A l n c hn hm hnil hI
      · exact rw_go1 h hu hf A l n c hn hm hnil hI
  · have e1 : Pl.wrE D i = Pl.rdE D i ∧ Pl.wrD D i l = D := by
      unfold Pl.rdE at hr
      unfold Pl.wrE Pl.rdE Pl.wrD
      cases hu : D.up with
      | false => exact ⟨rfl, rfl⟩
      | true =>
        rw [hu, if_neg (by decide)] at hr
        by_cases h' : i ≠ 0 ∧ i ≠ 1
        · simp [h'.1, h'.2]
        · rw [if_neg h'] at hr; exact absurd rfl hr
    rw [e1.1, e1.2]
    exact (rw_no h i hr _).mono fun e w' ⟨he, hw⟩ => ⟨he, by rw [hw]; exact ⟨v0, v1, kp, h⟩, by rw [hw]; exact Fr.refl _ _⟩
end Go.Proofs.Ytalfffkcmddakab
