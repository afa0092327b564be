/- Write of the program. -/
import Derived.Test.YtalfffkcmddakabZ3
import Derived.Deep.RegionHeld
import Derived.Deep.LoopGhost
namespace Go.Proofs.Ytalfffkcmddakab
open Go.RowKit Go.Shelf

theorem wpOp_go {P : Program} {ops : Array Oper} {Q : Exit → Act → World → Prop} {i : Nat} {o : Oper} {K : Act → World → Prop} {a : Act} {w : World} (ho : ops[i]? = some o) (hw : Region.wanted o (yielded ops a.tmps) = true)
    (h : ∀ K' : Act → World → Prop, (∀ a w, K a w → K' a w) → Oper.wp P o a w K' Q) : wpOp P ops Q i K a w :=
  wpOp_step ho fun K' hK' => by rw [if_pos hw]; exact h K' hK'
theorem IsDk.drew {w : World} {b : Nat} {D : Pl.Dk} {v0 v1 : Value} {kp : Int} (h : IsDk w b D v0 v1 kp) : IsDk w.drew b D v0 v1 kp := ⟨h.blk.drew, h.kp, h.o0, h.o1, h.st, h.fb⟩
theorem IsJn.drew {w : World} {j b : Nat} {J : Pl.Jn} {v : Value} (h : IsJn w j b J v) : IsJn w.drew j b J v := ⟨h.blk.drew, h.o, h.t⟩
theorem Fr.drew {S : List Nat} {w w' : World} (h : Fr S w w') : Fr S w w'.drew := ⟨h.os, h.tape, h.output, h.size, h.block⟩
theorem slice_h (A : Option Addr) (n c m : Nat) (z : Int) (hz : z = (m : Int)) (hm : m ≤ c) (W : World) : (Instr.slice 29 (.slice A n c) none (some (.int .i64 z)) none).run Try.prog W = .ok (.slice A m c) W := by
  subst hz
  have ht : Try.prog.underlying 29 = some (.slice (Try.prog.elem 29)) := by simp [Program.elem, Try.underlying29]
  rw [run_slice_h W 29 _ _ _ ht .i64 _ (by omega) (by omega)]
  have he : Try.prog.elem 29 = 5 := by simp [Program.elem, Try.underlying29]
  rw [he]
  have hz : (Go.sizeOf 5).run Try.prog W = .ok 1 W := by kernel_rfl
  rw [hz]
  cases A with
  | none => simp [Result.andThen, sliced]
  | some a => by_cases h : c = 0 <;> simp [Result.andThen, sliced, Addr.add, h]
theorem Rows.take {W : World} {A : Option Addr} {l : Pl.Bs} (m : Nat) (h : Rows u8L 1 W A l) : Rows u8L 1 W A (l.take m) := by
  rcases h with rfl | ⟨b, off, e, hb, hc⟩
  · left; simp
  · refine .inr ⟨b, off, e, hb, fun i hi => ?_⟩
    have hi' : i < l.length := by rw [List.length_take] at hi; omega
    have := hc i hi'
    rwa [show (l.take m)[i] = l[i] from by simp]
theorem own_no {w : World} {b : Nat} {D : Pl.Dk} {v0 v1 : Value} {kp : Int} (h : IsDk w b D v0 v1 kp) {g : Nat} (e : g = b) (o : Nat) (x : Int) : ¬ w.cell? ⟨g, o, none⟩ = some (.int .u8 x) := by
  subst e
  intro hc
  rw [h.blk.cell o] at hc
  match o with
  | 0 => simp at hc
  | 1 => simp at hc
  | 2 => obtain ⟨A, c, e, _⟩ := h.o0.rows; subst e; simp at hc
  | 3 => obtain ⟨A, c, e, _⟩ := h.o1.rows; subst e; simp at hc
  | 4 => simp at hc
  | 5 => simp at hc
  | n + 6 => simp at hc

set_option maxRecDepth 100000 in
set_option maxHeartbeats 4000000 in
theorem wr_go0 {w : World} {b : Nat} {D : Pl.Dk} {v0 v1 : Value} {kp : Int} (h : IsDk w b D v0 v1 kp) (hu : D.up = true) (hf : D.fl ≠ 1) (A : Option Addr) (l : Pl.Bs) (n c : Nat) (hn : l.length = n) (hm : n ≤ 100000) (hI : Rows u8L 1 w A l) :
    Calls Try.prog 30 #[ptr b, .int .i64 0, .slice A n c] w fun e w' => e = .returned (.int .i64 0) ∧ Dsk w' b { D.put 0 l with fl := D.fl - 1 } ∧ Fr [b] w w' := by
  have HK := Lib.hid (check_b h 0 0 (by unfold Pl.rdE; rw [hu]; simp))
  have p4 : w.cell? ⟨b, 4, none⟩ = some (.int .i64 (D.fl : Nat)) := h.blk.cell 4
  have f4 := h.blk.frozen 4
  have hne : ((D.fl : Int) == 1) = false := by rw [beq_eq_false_iff_ne]; omega
  have HH := Lib.hid h
  have HI := Lib.hid hI
  have HN := Lib.hid hn
  have HKP := Lib.hid h.kp
  have HFB : Hid (D.fl - 1 ≤ maxLen) := Lib.hid (Nat.le_trans (Nat.sub_le _ _) h.fb)
  have hfb : (D.fl : Int) ≤ 9223372036854775807 := by have := h.fb; unfold maxLen at this; omega
  clear h hI hn hu
  have H1 : Hid (∀ W1 : World, Fr [b] w W1 → IsDk W1 b { D with fl := D.fl - 1 } v0 v1 kp → Rows u8L 1 W1 A l) := Lib.hid (fun W1 hF1 _ => by
    rcases HI.out with rfl | ⟨g, off, e, hg, hc⟩
    · exact .inl rfl
    · by_cases hl : l = []
      · exact .inl hl
      · refine .inr ⟨g, off, e, Nat.lt_of_lt_of_le hg hF1.size, fun i hi j u hu => ?_⟩
        have hgb : g ∉ [b] := fun hm => by
          have e1 : g = b := by simpa using hm
          have hpos : 0 < l.length := List.length_pos_iff.2 hl
          have c0 := hc 0 hpos 0 _ rfl
          exact absurd c0 (own_no HH.out e1 _ _)
        exact (hF1.cell hg hgb).trans (hc i hi j u hu))
  go_enter Try.func30, Try.ntmps30
  go_wp2_with fail
  refine HK.out.mono ?_
  rintro e w1 ⟨rfl, rfl⟩
  by_cases h0 : D.fl = 0
  case' pos =>
    have hz : D.fl - 1 = D.fl := by omega
    have p4' : w1.cell? ⟨b, 4, none⟩ = some (.int .i64 0) := by rw [p4, h0]; rfl
    clear p4 hne
    have hD : IsDk w1 b { D with fl := D.fl - 1 } v0 v1 kp := by rw [hz]; exact HH.out
    have hF : Fr [b] w1 w1 := Fr.refl _ _
    have HF := Lib.hid hF
    have HD := Lib.hid hD
    have HR := Lib.hid (H1.out w1 hF hD)
    clear hF hD hz h0 f4 H1 HI
    go_wp2
  case' neg =>
    have hpos : 0 < D.fl := by omega
    have hposI : (0 : Int) < (D.fl : Nat) := by omega
    have hbd : Hid ((D.fl : Int) - 1 = ((D.fl - 1 : Nat) : Int)) := Lib.hid (by omega)
    have hF : Fr [b] w1 (w1.setCell ⟨b, 4, none⟩ (.int .i64 ((D.fl : Int) - 1))) := Fr.setCell w1 b 4 _
    have hD : IsDk (w1.setCell ⟨b, 4, none⟩ (.int .i64 ((D.fl : Int) - 1))) b { D with fl := D.fl - 1 } v0 v1 kp := by
      rw [hbd.out] at hF ⊢
      exact HH.out.turn hF (HH.out.blk.set_ 4 _) (fun _ => HKP.out hpos) HH.out.st HFB.out (.inl ⟨rfl, rfl⟩) (.inl ⟨rfl, rfl⟩)
    have HF := Lib.hid hF
    have HD := Lib.hid hD
    have HR := Lib.hid (H1.out _ hF hD)
    clear hF hD h0 hbd H1 HI
    go_wp2
    generalize w1.setCell ⟨b, 4, none⟩ (.int .i64 ((D.fl : Int) - 1)) = W1 at *
  all_goals
    refine wp_region_held (S := fun _ => True) (by kernel_rfl) ?_
    change wpAnyH _ _ _ _ _ _ _ _ (World.drew _)
    have HD2 := Lib.hid HD.out.drew
    have HF2 := Lib.hid HF.out.drew
    have HC := Lib.hid (copied_any A l c n HN.out hm _ (show Rows u8L 1 (World.drew _) A l from HR.out))
    clear HD HF HR HH HKP
    refine wpAnyH_take (i := 0) (v := ?_) rfl (by kernel_rfl) (by decide +kernel) (by decide +kernel) (fun _ _ _ h => h) (Or.inl ⟨by rfl, ?_⟩) trivial ?_
    rotate_left
    · intro w' hS; first | (go_simp; done) | (go_simp; with_reducible rfl)
    refine wpAnyH_take (i := 1) (v := ?_) rfl (by kernel_rfl) (by decide +kernel) (by decide +kernel) (fun _ _ _ h => h) (Or.inl ⟨by rfl, ?_⟩) trivial ?_
    rotate_left
    · intro w' hS; first | (go_simp; done) | (go_simp; with_reducible rfl)
    refine wpAnyH_take (i := 2) (v := ?_) rfl (by kernel_rfl) (by decide +kernel) (by decide +kernel) (fun _ _ _ h => h) (Or.inl ⟨by rfl, ?_⟩) trivial ?_
    rotate_left
    · intro w' hS; first | (go_simp; done) | (go_simp; with_reducible rfl)
    refine wpAnyH_take (i := 4) (v := ?_) rfl (by kernel_rfl) (by decide +kernel) (by decide +kernel) (fun _ _ _ h => h) (Or.inl ⟨by rfl, ?_⟩) trivial ?_
    rotate_left
    · intro w' hS; first | (go_simp; done) | (go_simp; with_reducible rfl)
    refine wpAnyH_take (i := 5) (v := ?_) rfl (by kernel_rfl) (by decide +kernel) (by decide +kernel) (fun _ _ _ h => h) (Or.inl ⟨by rfl, ?_⟩) trivial ?_
    rotate_left
    · intro w' hS; first | (go_simp; done) | (go_simp; with_reducible rfl)
    refine wpAnyH_all (rs := [3]) (by decide +kernel) (by simp) ?_
    intro i0 hi0
    obtain rfl := List.mem_singleton.1 hi0
    refine wpOp_go rfl rfl (fun K hK => ?_)
    go_simp
    refine HC.out.mono ?_
    rintro e w3 ⟨v, rfl, hO3, hb3⟩
    obtain ⟨A3, c3, rfl, _, _, _⟩ := rows_of_owns encU8 (show World.ownsRow _ _ _ _ _ (List.length l) _ by rw [HN.out]; exact hO3)
    have hD3 := HD2.out.below hb3
    have HF3 := Lib.hid (HF2.out.trans (Fr.of_below [b] hb3))
    have HO3 := Lib.hid (own_mono hO3 (Nat.zero_le _))
    have HD3 := Lib.hid hD3
    have q2 := hD3.blk.cell (2 + 0)
    have f2 := hD3.blk.frozen (2 + 0)
    clear hD3 hO3 hb3 HC HD2 HF2
    refine hK _ _ ⟨trivial, ?_⟩
    clear hK K
    refine wpAnyH_take (i := 6) (v := ?_) rfl (by kernel_rfl) (by decide +kernel) (by decide +kernel) (fun _ _ _ h => h) (Or.inl ⟨by rfl, ?_⟩) trivial ?_
    rotate_left
    · intro w' hS; first | (go_simp; done) | (go_simp; with_reducible rfl)
    refine wpAnyH_all (rs := [7]) (by decide +kernel) (by simp) ?_
    intro i0 hi0
    obtain rfl := List.mem_singleton.1 hi0
    refine wpOp_go rfl rfl (fun K hK => ?_)
    go_simp
    refine hK _ _ ⟨trivial, ?_⟩
    clear hK K
    refine wpAnyH_done (by decide +kernel) ?_ _
    go_wp2
    go_ret
    have hf4 : Fr [b] w3 (w3.setCell ⟨b, 2 + 0, none⟩ (.slice A3 (List.length l) c3)) := Fr.setCell w3 b (2 + 0) _
    have hO4 : Own8 (w3.setCell ⟨b, 2 + 0, none⟩ (.slice A3 (List.length l) c3)) (.slice A3 (List.length l) c3) l := Own8.fr (by have := HO3.out; rw [← HN.out] at this; exact this) hf4 HD3.out.at_
    exact ⟨rfl, ⟨_, _, _, HD3.out.turn hf4 (HD3.out.blk.set_ (2 + 0) _) HD3.out.kp HD3.out.st HD3.out.fb (.inr hO4) (.inl ⟨rfl, rfl⟩)⟩, HF3.out.trans hf4⟩

set_option maxRecDepth 100000 in
set_option maxHeartbeats 4000000 in
theorem wr_go1 {w : World} {b : Nat} {D : Pl.Dk} {v0 v1 : Value} {kp : Int} (h : IsDk w b D v0 v1 kp) (hu : D.up = true) (hf : D.fl ≠ 1) (A : Option Addr) (l : Pl.Bs) (n c : Nat) (hn : l.length = n) (hm : n ≤ 100000) (hI : Rows u8L 1 w A l) :
    Calls Try.prog 30 #[ptr b, .int .i64 1, .slice A n c] w fun e w' => e = .returned (.int .i64 0) ∧ Dsk w' b { D.put 1 l with fl := D.fl - 1 } ∧ Fr [b] w w' := by
  have HK := Lib.hid (check_b h 1 0 (by unfold Pl.rdE; rw [hu]; simp))
  have p4 : w.cell? ⟨b, 4, none⟩ = some (.int .i64 (D.fl : Nat)) := h.blk.cell 4
  have f4 := h.blk.frozen 4
  have hne : ((D.fl : Int) == 1) = false := by rw [beq_eq_false_iff_ne]; omega
  have HH := Lib.hid h
  have HI := Lib.hid hI
  have HN := Lib.hid hn
  have HKP := Lib.hid h.kp
  have HFB : Hid (D.fl - 1 ≤ maxLen) := Lib.hid (Nat.le_trans (Nat.sub_le _ _) h.fb)
  have hfb : (D.fl : Int) ≤ 9223372036854775807 := by have := h.fb; unfold maxLen at this; omega
  clear h hI hn hu
  have H1 : Hid (∀ W1 : World, Fr [b] w W1 → IsDk W1 b { D with fl := D.fl - 1 } v0 v1 kp → Rows u8L 1 W1 A l) := Lib.hid (fun W1 hF1 _ => by
    rcases HI.out with rfl | ⟨g, off, e, hg, hc⟩
    · exact .inl rfl
    · by_cases hl : l = []
      · exact .inl hl
      · refine .inr ⟨g, off, e, Nat.lt_of_lt_of_le hg hF1.size, fun i hi j u hu => ?_⟩
        have hgb : g ∉ [b] := fun hm => by
          have e1 : g = b := by simpa using hm
          have hpos : 0 < l.length := List.length_pos_iff.2 hl
          have c0 := hc 0 hpos 0 _ rfl
          exact absurd c0 (own_no HH.out e1 _ _)
        exact (hF1.cell hg hgb).trans (hc i hi j u hu))
  go_enter Try.func30, Try.ntmps30
  go_wp2_with fail
  refine HK.out.mono ?_
  rintro e w1 ⟨rfl, rfl⟩
  by_cases h0 : D.fl = 0
  case' pos =>
    have hz : D.fl - 1 = D.fl := by omega
    have p4' : w1.cell? ⟨b, 4, none⟩ = some (.int .i64 0) := by rw [p4, h0]; rfl
    clear p4 hne
    have hD : IsDk w1 b { D with fl := D.fl - 1 } v0 v1 kp := by rw [hz]; exact HH.out
    have hF : Fr [b] w1 w1 := Fr.refl _ _
    have HF := Lib.hid hF
    have HD := Lib.hid hD
    have HR := Lib.hid (H1.out w1 hF hD)
    clear hF hD hz h0 f4 H1 HI
    go_wp2
  case' neg =>
    have hpos : 0 < D.fl := by omega
    have hposI : (0 : Int) < (D.fl : Nat) := by omega
    have hbd : Hid ((D.fl : Int) - 1 = ((D.fl - 1 : Nat) : Int)) := Lib.hid (by omega)
    have hF : Fr [b] w1 (w1.setCell ⟨b, 4, none⟩ (.int .i64 ((D.fl : Int) - 1))) := Fr.setCell w1 b 4 _
    have hD : IsDk (w1.setCell ⟨b, 4, none⟩ (.int .i64 ((D.fl : Int) - 1))) b { D with fl := D.fl - 1 } v0 v1 kp := by
      rw [hbd.out] at hF ⊢
      exact HH.out.turn hF (HH.out.blk.set_ 4 _) (fun _ => HKP.out hpos) HH.out.st HFB.out (.inl ⟨rfl, rfl⟩) (.inl ⟨rfl, rfl⟩)
    have HF := Lib.hid hF
    have HD := Lib.hid hD
    have HR := Lib.hid (H1.out _ hF hD)
    clear hF hD h0 hbd H1 HI
    go_wp2
    generalize w1.setCell ⟨b, 4, none⟩ (.int .i64 ((D.fl : Int) - 1)) = W1 at *
  all_goals
    refine wp_region_held (S := fun _ => True) (by kernel_rfl) ?_
    change wpAnyH _ _ _ _ _ _ _ _ (World.drew _)
    have HD2 := Lib.hid HD.out.drew
    have HF2 := Lib.hid HF.out.drew
    have HC := Lib.hid (copied_any A l c n HN.out hm _ (show Rows u8L 1 (World.drew _) A l from HR.out))
    clear HD HF HR HH HKP
    refine wpAnyH_take (i := 0) (v := ?_) rfl (by kernel_rfl) (by decide +kernel) (by decide +kernel) (fun _ _ _ h => h) (Or.inl ⟨by rfl, ?_⟩) trivial ?_
    rotate_left
    · intro w' hS; first | (go_simp; done) | (go_simp; with_reducible rfl)
    refine wpAnyH_take (i := 1) (v := ?_) rfl (by kernel_rfl) (by decide +kernel) (by decide +kernel) (fun _ _ _ h => h) (Or.inl ⟨by rfl, ?_⟩) trivial ?_
    rotate_left
    · intro w' hS; first | (go_simp; done) | (go_simp; with_reducible rfl)
    refine wpAnyH_take (i := 2) (v := ?_) rfl (by kernel_rfl) (by decide +kernel) (by decide +kernel) (fun _ _ _ h => h) (Or.inl ⟨by rfl, ?_⟩) trivial ?_
    rotate_left
    · intro w' hS; first | (go_simp; done) | (go_simp; with_reducible rfl)
    refine wpAnyH_take (i := 4) (v := ?_) rfl (by kernel_rfl) (by decide +kernel) (by decide +kernel) (fun _ _ _ h => h) (Or.inl ⟨by rfl, ?_⟩) trivial ?_
    rotate_left
    · intro w' hS; first | (go_simp; done) | (go_simp; with_reducible rfl)
    refine wpAnyH_take (i := 5) (v := ?_) rfl (by kernel_rfl) (by decide +kernel) (by decide +kernel) (fun _ _ _ h => h) (Or.inl ⟨by rfl, ?_⟩) trivial ?_
    rotate_left
    · intro w' hS; first | (go_simp; done) | (go_simp; with_reducible rfl)
    refine wpAnyH_all (rs := [3]) (by decide +kernel) (by simp) ?_
    intro i0 hi0
    obtain rfl := List.mem_singleton.1 hi0
    refine wpOp_go rfl rfl (fun K hK => ?_)
    go_simp
    refine HC.out.mono ?_
    rintro e w3 ⟨v, rfl, hO3, hb3⟩
    obtain ⟨A3, c3, rfl, _, _, _⟩ := rows_of_owns encU8 (show World.ownsRow _ _ _ _ _ (List.length l) _ by rw [HN.out]; exact hO3)
    have hD3 := HD2.out.below hb3
    have HF3 := Lib.hid (HF2.out.trans (Fr.of_below [b] hb3))
    have HO3 := Lib.hid (own_mono hO3 (Nat.zero_le _))
    have HD3 := Lib.hid hD3
    have q2 := hD3.blk.cell (2 + 1)
    have f2 := hD3.blk.frozen (2 + 1)
    clear hD3 hO3 hb3 HC HD2 HF2
    refine hK _ _ ⟨trivial, ?_⟩
    clear hK K
    refine wpAnyH_take (i := 6) (v := ?_) rfl (by kernel_rfl) (by decide +kernel) (by decide +kernel) (fun _ _ _ h => h) (Or.inl ⟨by rfl, ?_⟩) trivial ?_
    rotate_left
    · intro w' hS; first | (go_simp; done) | (go_simp; with_reducible rfl)
    refine wpAnyH_all (rs := [7]) (by decide +kernel) (by simp) ?_
    intro i0 hi0
    obtain rfl := List.mem_singleton.1 hi0
    refine wpOp_go rfl rfl (fun K hK => ?_)
    go_simp
    refine hK _ _ ⟨trivial, ?_⟩
    clear hK K
    refine wpAnyH_done (by decide +kernel) ?_ _
    go_wp2
    go_ret
    have hf4 : Fr [b] w3 (w3.setCell ⟨b, 2 + 1, none⟩ (.slice A3 (List.length l) c3)) := Fr.setCell w3 b (2 + 1) _
    have hO4 : Own8 (w3.setCell ⟨b, 2 + 1, none⟩ (.slice A3 (List.length l) c3)) (.slice A3 (List.length l) c3) l := Own8.fr (by have := HO3.out; rw [← HN.out] at this; exact this) hf4 HD3.out.at_
    exact ⟨rfl, ⟨_, _, _, HD3.out.turn hf4 (HD3.out.blk.set_ (2 + 1) _) HD3.out.kp HD3.out.st HD3.out.fb (.inl ⟨rfl, rfl⟩) (.inr hO4)⟩, HF3.out.trans hf4⟩
end Go.Proofs.Ytalfffkcmddakab
