/- Write, Save and Read that say in which memory their new rows lie. -/
import Derived.Test.YtalfffkcmddakabZ6
import Derived.Test.YtalfffkcmddakabA1
namespace Go.Proofs.Ytalfffkcmddakab
open Go.RowKit Go.Shelf

set_option maxRecDepth 100000 in
set_option maxHeartbeats 8000000 in
theorem wr_kept0 {w : World} {b : Nat} {D : Pl.Dk} {v0 v1 : Value} {kp : Int} (h : IsDk w b D v0 v1 kp) (hu : D.up = true) (hf : D.fl ≠ 1) (A : Option Addr) (l : Pl.Bs) (n c : Nat) (hn : l.length = n) (hm : n ≤ 100000) (hI : Rows u8L 1 w A l) :
    Calls Try.prog 30 #[ptr b, .int .i64 0, .slice A n c] w fun e w' => e = .returned (.int .i64 0) ∧ (∃ u kp', IsDk w' b { D.put 0 l with fl := D.fl - 1 } u v1 kp' ∧ w'.ownsRow w.heap.size 5 1 u n (flt u8L l)) ∧ Fr [b] w w' := by
  have hbw := h.blk.lt
  have HK := Lib.hid (check_b h 0 0 (by unfold Pl.rdE; rw [hu]; simp))
  have p4 : w.cell? ⟨b, 4, none⟩ = some (.int .i64 (D.fl : Nat)) := h.blk.cell 4
  have f4 := h.blk.frozen 4
  have hne : ((D.fl : Int) == 1) = false := by rw [beq_eq_false_iff_ne]; omega
  have HH := Lib.hid h
  have HI := Lib.hid hI
  have HN := Lib.hid hn
  have HKP := Lib.hid h.kp
  have HFB : Hid (D.fl - 1 ≤ maxLen) := Lib.hid (Nat.le_trans (Nat.sub_le _ _) h.fb)
  have hfb : (D.fl : Int) ≤ 9223372036854775807 := by have := h.fb; unfold maxLen at this; omega
  clear h hI hn hu
  have H1 : Hid (∀ W1 : World, Fr [b] w W1 → IsDk W1 b { D with fl := D.fl - 1 } v0 v1 kp → Rows u8L 1 W1 A l) := Lib.hid (fun W1 hF1 _ => by
    rcases HI.out with rfl | ⟨g, off, e, hg, hc⟩
    · exact .inl rfl
    · by_cases hl : l = []
      · exact .inl hl
      · refine .inr ⟨g, off, e, Nat.lt_of_lt_of_le hg hF1.size, fun i hi j u hu => ?_⟩
        have hgb : g ∉ [b] := fun hm => by
          have e1 : g = b := by simpa using hm
          have hpos : 0 < l.length := List.length_pos_iff.2 hl
          have c0 := hc 0 hpos 0 _ rfl
          exact absurd c0 (own_no HH.out e1 _ _)
        exact (hF1.cell hg hgb).trans (hc i hi j u hu))
  go_enter Try.func30, Try.ntmps30
  go_wp2_with fail
  refine HK.out.mono ?_
  rintro e w1 ⟨rfl, rfl⟩
  by_cases h0 : D.fl = 0
  case' pos =>
    have hz : D.fl - 1 = D.fl := by omega
    have p4' : w1.cell? ⟨b, 4, none⟩ = some (.int .i64 0) := by rw [p4, h0]; rfl
    clear p4 hne
    have hD : IsDk w1 b { D with fl := D.fl - 1 } v0 v1 kp := by rw [hz]; exact HH.out
    have hF : Fr [b] w1 w1 := Fr.refl _ _
    have HF := Lib.hid hF
    have HD := Lib.hid hD
    have HR := Lib.hid (H1.out w1 hF hD)
    clear hF hD hz h0 f4 H1 HI
    go_wp2
  case' neg =>
    have hpos : 0 < D.fl := by omega
    have hposI : (0 : Int) < (D.fl : Nat) := by omega
    have hbd : Hid ((D.fl : Int) - 1 = ((D.fl - 1 : Nat) : Int)) := Lib.hid (by omega)
    have hF : Fr [b] w1 (w1.setCell ⟨b, 4, none⟩ (.int .i64 ((D.fl : Int) - 1))) := Fr.setCell w1 b 4 _
    have hD : IsDk (w1.setCell ⟨b, 4, none⟩ (.int .i64 ((D.fl : Int) - 1))) b { D with fl := D.fl - 1 } v0 v1 kp := by
      rw [hbd.out] at hF ⊢
      exact HH.out.turn hF (HH.out.blk.set_ 4 _) (fun _ => HKP.out hpos) HH.out.st HFB.out (.inl ⟨rfl, rfl⟩) (.inl ⟨rfl, rfl⟩)
    have HF := Lib.hid hF
    have HD := Lib.hid hD
    have HR := Lib.hid (H1.out _ hF hD)
    clear hF hD h0 hbd H1 HI
    go_wp2
    generalize w1.setCell ⟨b, 4, none⟩ (.int .i64 ((D.fl : Int) - 1)) = W1 at *
  all_goals
    refine wp_region_held (S := fun _ => True) (by kernel_rfl) ?_
    change wpAnyH _ _ _ _ _ _ _ _ (World.drew _)
    have HD2 := Lib.hid HD.out.drew
    have HF2 := Lib.hid HF.out.drew
    have HC := Lib.hid (copied_any A l c n HN.out hm _ (show Rows u8L 1 (World.drew _) A l from HR.out))
    clear HD HF HR HH HKP
    refine wpAnyH_take (i := 0) (v := ?_) rfl (by kernel_rfl) (by decide +kernel) (by decide +kernel) (fun _ _ _ h => h) (Or.inl ⟨by rfl, ?_⟩) trivial ?_
    rotate_left
    · intro w' hS; first | (go_simp; done) | (go_simp; with_reducible rfl)
    refine wpAnyH_take (i := 1) (v := ?_) rfl (by kernel_rfl) (by decide +kernel) (by decide +kernel) (fun _ _ _ h => h) (Or.inl ⟨by rfl, ?_⟩) trivial ?_
    rotate_left
    · intro w' hS; first | (go_simp; done) | (go_simp; with_reducible rfl)
    refine wpAnyH_take (i := 2) (v := ?_) rfl (by kernel_rfl) (by decide +kernel) (by decide +kernel) (fun _ _ _ h => h) (Or.inl ⟨by rfl, ?_⟩) trivial ?_
    rotate_left
    · intro w' hS; first | (go_simp; done) | (go_simp; with_reducible rfl)
    refine wpAnyH_take (i := 4) (v := ?_) rfl (by kernel_rfl) (by decide +kernel) (by decide +kernel) (fun _ _ _ h => h) (Or.inl ⟨by rfl, ?_⟩) trivial ?_
    rotate_left
    · intro w' hS; first | (go_simp; done) | (go_simp; with_reducible rfl)
    refine wpAnyH_take (i := 5) (v := ?_) rfl (by kernel_rfl) (by decide +kernel) (by decide +kernel) (fun _ _ _ h => h) (Or.inl ⟨by rfl, ?_⟩) trivial ?_
    rotate_left
    · intro w' hS; first | (go_simp; done) | (go_simp; with_reducible rfl)
    refine wpAnyH_all (rs := [3]) (by decide +kernel) (by simp) ?_
    intro i0 hi0
    obtain rfl := List.mem_singleton.1 hi0
    refine wpOp_go rfl rfl (fun K hK => ?_)
    go_simp
    refine HC.out.mono ?_
    rintro e w3 ⟨v, rfl, hO3, hb3⟩
    obtain ⟨A3, c3, rfl, _, _, _⟩ := rows_of_owns encU8 (show World.ownsRow _ _ _ _ _ (List.length l) _ by rw [HN.out]; exact hO3)
    have hD3 := HD2.out.below hb3
    have HF3 := Lib.hid (HF2.out.trans (Fr.of_below [b] hb3))
    have HO5 := Lib.hid (own_mono hO3 HF2.out.size)
    have HO3 := Lib.hid (own_mono hO3 (Nat.zero_le _))
    have HD3 := Lib.hid hD3
    have q2 := hD3.blk.cell (2 + 0)
    have f2 := hD3.blk.frozen (2 + 0)
    clear hD3 hO3 hb3 HC HD2 HF2
    refine hK _ _ ⟨trivial, ?_⟩
    clear hK K
    refine wpAnyH_take (i := 6) (v := ?_) rfl (by kernel_rfl) (by decide +kernel) (by decide +kernel) (fun _ _ _ h => h) (Or.inl ⟨by rfl, ?_⟩) trivial ?_
    rotate_left
    · intro w' hS; first | (go_simp; done) | (go_simp; with_reducible rfl)
    refine wpAnyH_all (rs := [7]) (by decide +kernel) (by simp) ?_
    intro i0 hi0
    obtain rfl := List.mem_singleton.1 hi0
    refine wpOp_go rfl rfl (fun K hK => ?_)
    go_simp
    refine hK _ _ ⟨trivial, ?_⟩
    clear hK K
    refine wpAnyH_done (by decide +kernel) ?_ _
    go_wp2
    go_ret
    have hf4 : Fr [b] w3 (w3.setCell ⟨b, 2 + 0, none⟩ (.slice A3 (List.length l) c3)) := Fr.setCell w3 b (2 + 0) _
    have hO4 : Own8 (w3.setCell ⟨b, 2 + 0, none⟩ (.slice A3 (List.length l) c3)) (.slice A3 (List.length l) c3) l := Own8.fr (by have := HO3.out; rw [← HN.out] at this; exact this) hf4 HD3.out.at_
    exact ⟨rfl, ⟨_, _, HD3.out.turn hf4 (HD3.out.blk.set_ (2 + 0) _) HD3.out.kp HD3.out.st HD3.out.fb (.inr hO4) (.inl ⟨rfl, rfl⟩), ownsRow_setCell_below (by rw [← HN.out]; have := HO5.out; rw [← HN.out] at this; exact this) (a := ⟨b, 2 + 0, none⟩) hbw _⟩, HF3.out.trans hf4⟩
set_option maxRecDepth 100000 in
set_option maxHeartbeats 8000000 in
theorem wr_kept1 {w : World} {b : Nat} {D : Pl.Dk} {v0 v1 : Value} {kp : Int} (h : IsDk w b D v0 v1 kp) (hu : D.up = true) (hf : D.fl ≠ 1) (A : Option Addr) (l : Pl.Bs) (n c : Nat) (hn : l.length = n) (hm : n ≤ 100000) (hI : Rows u8L 1 w A l) :
    Calls Try.prog 30 #[ptr b, .int .i64 1, .slice A n c] w fun e w' => e = .returned (.int .i64 0) ∧ (∃ u kp', IsDk w' b { D.put 1 l with fl := D.fl - 1 } v0 u kp' ∧ w'.ownsRow w.heap.size 5 1 u n (flt u8L l)) ∧ Fr [b] w w' := by
  have hbw := h.blk.lt
  have HK := Lib.hid (check_b h 1 0 (by unfold Pl.rdE; rw [hu]; simp))
  have p4 : w.cell? ⟨b, 4, none⟩ = some (.int .i64 (D.fl : Nat)) := h.blk.cell 4
  have f4 := h.blk.frozen 4
  have hne : ((D.fl : Int) == 1) = false := by rw [beq_eq_false_iff_ne]; omega
  have HH := Lib.hid h
  have HI := Lib.hid hI
  have HN := Lib.hid hn
  have HKP := Lib.hid h.kp
  have HFB : Hid (D.fl - 1 ≤ maxLen) := Lib.hid (Nat.le_trans (Nat.sub_le _ _) h.fb)
  have hfb : (D.fl : Int) ≤ 9223372036854775807 := by have := h.fb; unfold maxLen at this; omega
  clear h hI hn hu
  have H1 : Hid (∀ W1 : World, Fr [b] w W1 → IsDk W1 b { D with fl := D.fl - 1 } v0 v1 kp → Rows u8L 1 W1 A l) := Lib.hid (fun W1 hF1 _ => by
    rcases HI.out with rfl | ⟨g, off, e, hg, hc⟩
    · exact .inl rfl
    · by_cases hl : l = []
      · exact .inl hl
      · refine .inr ⟨g, off, e, Nat.lt_of_lt_of_le hg hF1.size, fun i hi j u hu => ?_⟩
        have hgb : g ∉ [b] := fun hm => by
          have e1 : g = b := by simpa using hm
          have hpos : 0 < l.length := List.length_pos_iff.2 hl
          have c0 := hc 0 hpos 0 _ rfl
          exact absurd c0 (own_no HH.out e1 _ _)
        exact (hF1.cell hg hgb).trans (hc i hi j u hu))
  go_enter Try.func30, Try.ntmps30
  go_wp2_with fail
  refine HK.out.mono ?_
  rintro e w1 ⟨rfl, rfl⟩
  by_cases h0 : D.fl = 0
  case' pos =>
    have hz : D.fl - 1 = D.fl := by omega
    have p4' : w1.cell? ⟨b, 4, none⟩ = some (.int .i64 0) := by rw [p4, h0]; rfl
    clear p4 hne
    have hD : IsDk w1 b { D with fl := D.fl - 1 } v0 v1 kp := by rw [hz]; exact HH.out
    have hF : Fr [b] w1 w1 := Fr.refl _ _
    have HF := Lib.hid hF
    have HD := Lib.hid hD
    have HR := Lib.hid (H1.out w1 hF hD)
    clear hF hD hz h0 f4 H1 HI
    go_wp2
  case' neg =>
    have hpos : 0 < D.fl := by omega
    have hposI : (0 : Int) < (D.fl : Nat) := by omega
    have hbd : Hid ((D.fl : Int) - 1 = ((D.fl - 1 : Nat) : Int)) := Lib.hid (by omega)
    have hF : Fr [b] w1 (w1.setCell ⟨b, 4, none⟩ (.int .i64 ((D.fl : Int) - 1))) := Fr.setCell w1 b 4 _
    have hD : IsDk (w1.setCell ⟨b, 4, none⟩ (.int .i64 ((D.fl : Int) - 1))) b { D with fl := D.fl - 1 } v0 v1 kp := by
      rw [hbd.out] at hF ⊢
      exact HH.out.turn hF (HH.out.blk.set_ 4 _) (fun _ => HKP.out hpos) HH.out.st HFB.out (.inl ⟨rfl, rfl⟩) (.inl ⟨rfl, rfl⟩)
    have HF := Lib.hid hF
    have HD := Lib.hid hD
    have HR := Lib.hid (H1.out _ hF hD)
    clear hF hD h0 hbd H1 HI
    go_wp2
    generalize w1.setCell ⟨b, 4, none⟩ (.int .i64 ((D.fl : Int) - 1)) = W1 at *
  all_goals
    refine wp_region_held (S := fun _ => True) (by kernel_rfl) ?_
    change wpAnyH _ _ _ _ _ _ _ _ (World.drew _)
    have HD2 := Lib.hid HD.out.drew
    have HF2 := Lib.hid HF.out.drew
    have HC := Lib.hid (copied_any A l c n HN.out hm _ (show Rows u8L 1 (World.drew _) A l from HR.out))
    clear HD HF HR HH HKP
    refine wpAnyH_take (i := 0) (v := ?_) rfl (by kernel_rfl) (by decide +kernel) (by decide +kernel) (fun _ _ _ h => h) (Or.inl ⟨by rfl, ?_⟩) trivial ?_
    rotate_left
    · intro w' hS; first | (go_simp; done) | (go_simp; with_reducible rfl)
    refine wpAnyH_take (i := 1) (v := ?_) rfl (by kernel_rfl) (by decide +kernel) (by decide +kernel) (fun _ _ _ h => h) (Or.inl ⟨by rfl, ?_⟩) trivial ?_
    rotate_left
    · intro w' hS; first | (go_simp; done) | (go_simp; with_reducible rfl)
    refine wpAnyH_take (i := 2) (v := ?_) rfl (by kernel_rfl) (by decide +kernel) (by decide +kernel) (fun _ _ _ h => h) (Or.inl ⟨by rfl, ?_⟩) trivial ?_
    rotate_left
    · intro w' hS; first | (go_simp; done) | (go_simp; with_reducible rfl)
    refine wpAnyH_take (i := 4) (v := ?_) rfl (by kernel_rfl) (by decide +kernel) (by decide +kernel) (fun _ _ _ h => h) (Or.inl ⟨by rfl, ?_⟩) trivial ?_
    rotate_left
    · intro w' hS; first | (go_simp; done) | (go_simp; with_reducible rfl)
    refine wpAnyH_take (i := 5) (v := ?_) rfl (by kernel_rfl) (by decide +kernel) (by decide +kernel) (fun _ _ _ h => h) (Or.inl ⟨by rfl, ?_⟩) trivial ?_
    rotate_left
    · intro w' hS; first | (go_simp; done) | (go_simp; with_reducible rfl)
    refine wpAnyH_all (rs := [3]) (by decide +kernel) (by simp) ?_
    intro i0 hi0
    obtain rfl := List.mem_singleton.1 hi0
    refine wpOp_go rfl rfl (fun K hK => ?_)
    go_simp
    refine HC.out.mono ?_
    rintro e w3 ⟨v, rfl, hO3, hb3⟩
    obtain ⟨A3, c3, rfl, _, _, _⟩ := rows_of_owns encU8 (show World.ownsRow _ _ _ _ _ (List.length l) _ by rw [HN.out]; exact hO3)
    have hD3 := HD2.out.below hb3
    have HF3 := Lib.hid (HF2.out.trans (Fr.of_below [b] hb3))
    have HO5 := Lib.hid (own_mono hO3 HF2.out.size)
    have HO3 := Lib.hid (own_mono hO3 (Nat.zero_le _))
    have HD3 := Lib.hid hD3
    have q2 := hD3.blk.cell (2 + 1)
    have f2 := hD3.blk.frozen (2 + 1)
    clear hD3 hO3 hb3 HC HD2 HF2
    refine hK _ _ ⟨trivial, ?_⟩
    clear hK K
    refine wpAnyH_take (i := 6) (v := ?_) rfl (by kernel_rfl) (by decide +kernel) (by decide +kernel) (fun _ _ _ h => h) (Or.inl ⟨by rfl, ?_⟩) trivial ?_
    rotate_left
    · intro w' hS; first | (go_simp; done) | (go_simp; with_reducible rfl)
    refine wpAnyH_all (rs := [7]) (by decide +kernel) (by simp) ?_
    intro i0 hi0
    obtain rfl := List.mem_singleton.1 hi0
    refine wpOp_go rfl rfl (fun K hK => ?_)
    go_simp
    refine hK _ _ ⟨trivial, ?_⟩
    clear hK K
    refine wpAnyH_done (by decide +kernel) ?_ _
    go_wp2
    go_ret
    have hf4 : Fr [b] w3 (w3.setCell ⟨b, 2 + 1, none⟩ (.slice A3 (List.length l) c3)) := Fr.setCell w3 b (2 + 1) _
    have hO4 : Own8 (w3.setCell ⟨b, 2 + 1, none⟩ (.slice A3 (List.length l) c3)) (.slice A3 (List.length l) c3) l := Own8.fr (by have := HO3.out; rw [← HN.out] at this; exact this) hf4 HD3.out.at_
    exact ⟨rfl, ⟨_, _, HD3.out.turn hf4 (HD3.out.blk.set_ (2 + 1) _) HD3.out.kp HD3.out.st HD3.out.fb (.inl ⟨rfl, rfl⟩) (.inr hO4), ownsRow_setCell_below (by rw [← HN.out]; have := HO5.out; rw [← HN.out] at this; exact this) (a := ⟨b, 2 + 1, none⟩) hbw _⟩, HF3.out.trans hf4⟩
set_option maxRecDepth 100000 in
set_option maxHeartbeats 8000000 in
theorem save_kept {w : World} {j b : Nat} {J : Pl.Jn} {D : Pl.Dk} {v v0 v1 : Value} {kp : Int} (h : IsJn w j b J v) (k : IsDk w b D v0 v1 kp) (hu : D.up = true) (hf1 : D.fl ≠ 1) (hnx : Pl.nxI J = 1) (A : Option Addr) (l : Pl.Bs) (n c : Nat) (hn : l.length = n) (hnc : n ≤ c) (hnil : A = none → c = 0) (hI : Rows u8L 1 w A l) (hd : Pl.ded D J = false) (hL : Pl.lim J l = false) :
    Calls Try.prog 24 #[ptr j, .slice A n c] w fun e w' => e = .returned (.int .i64 0) ∧ (∃ u1 kp' u, IsDk w' b (Pl.svD D J l) v0 u1 kp' ∧ IsJn w' j b (Pl.svJ D J l) u ∧ w'.ownsRow w.heap.size 5 1 u1 (l.length + 8) (flt u8L (Pl.cod l (J.t + 1))) ∧ w'.ownsRow w.heap.size 5 1 u l.length (flt u8L l)) ∧ Fr [b, j] w w' := by
  have e1 : Pl.svE D J l = Pl.wrE D (Pl.nxI J) := by unfold Pl.svE; rw [hd, hL]; rfl
  have e2 : Pl.svD D J l = Pl.wrD D (Pl.nxI J) (Pl.cod l (J.t + 1)) := by unfold Pl.svD; rw [hd, hL]; rfl
  have e3 : Pl.svJ D J l = if Pl.wrE D (Pl.nxI J) = 0 then { J with t := J.t + 1, im := l } else { J with fd := true } := by unfold Pl.svJ; rw [hd, hL]; rfl
  have her : Pl.wrE D (Pl.nxI J) = 0 := by
    rw [hnx]; unfold Pl.wrE
    rw [if_neg (by rw [hu]; decide), if_neg (by decide), if_neg hf1]
  rw [her, if_pos rfl] at e3
  have e4 : Pl.svD D J l = { D.put 1 (Pl.cod l (J.t + 1)) with fl := D.fl - 1 } := by
    rw [e2, hnx]; unfold Pl.wrD
    rw [if_neg (by rw [hu]; decide), if_neg (by decide), if_neg hf1]; rfl
  have E3 := Lib.hid e3
  have E4 := Lib.hid e4
  have HNX := Lib.hid hnx
  have hjw := h.blk.lt
  have hbw := k.blk.lt
  have hjb := h.ne k
  clear e1 e2 e3 e4 her hnx
  unfold Pl.lim at hL
  rw [Bool.or_eq_false_iff, decide_eq_false_iff_not, decide_eq_false_iff_not] at hL
  obtain ⟨hl6, hl7⟩ := hL
  subst hn
  have hl6' : l.length ≤ 65536 := by omega
  have ht := h.t
  have HJ := Lib.hid h
  have HK := Lib.hid k
  have HC := Lib.hid (opened_any h)
  have HD : Hid (Calls Try.prog 26 #[ptr j] w fun e w' => e = .returned (.bool false) ∧ Below w.heap.size w w') := Lib.hid (dead_b h k false hd)
  have HI := Lib.hid hI
  have HN := Lib.hid hnil
  have hlI : ¬ (65536 : Int) < (l.length : Nat) := by omega
  have htI : (((J.t : Nat) : Int) == 2147483647) = false := by rw [beq_eq_false_iff_ne]; omega
  have htm : J.t ≤ 2147483646 := by omega
  clear h k hd hI hl6 hl7 hnil ht
  go_enter Try.func24, Try.ntmps24
  go_wp2_with fail
  refine HC.out.mono ?_
  rintro e w1 ⟨rfl, rfl⟩
  go_wp2_with fail
  refine HD.out.mono ?_
  rintro e w2 ⟨rfl, hb2⟩
  have HJ2 := Lib.hid (HJ.out.below hb2)
  have HK2 := Lib.hid (HK.out.below hb2)
  have HI2 := Lib.hid (HI.out.below hb2)
  have HF2 := Lib.hid (Fr.of_below [b, j] hb2)
  have q3 : w2.cell? ⟨j, 3, none⟩ = some (.int .i64 (J.t : Nat)) := HJ2.out.blk.cell 3
  clear HJ HK HI hb2 HC HD
  go_wp2
  clear q3
  refine wp_region_held (S := fun W => W.cell? ⟨j, 0, none⟩ = some (ptr b)) (by kernel_rfl) ?_
  change wpAnyH _ _ _ _ _ _ _ _ (World.drew _)
  have HJ3 := Lib.hid HJ2.out.drew
  have HK3 := Lib.hid HK2.out.drew
  have HI3 : Hid (Rows u8L 1 w2.drew A l) := Lib.hid HI2.out
  have HF3 := Lib.hid HF2.out.drew
  clear HJ2 HK2 HI2 HF2
  generalize w2.drew = W3 at *
  have hS : W3.cell? ⟨j, 0, none⟩ = some (ptr b) := HJ3.out.blk.cell 0
  have HO := Lib.hid (fun W => slotof_z (J.t + 1) ((J.t : Int) + 1) (by omega) W)
  have HH := Lib.hid (holding_z A l l.length c (J.t + 1) ((J.t : Int) + 1) (by omega) rfl (by omega) HN.out W3 HI3.out)
  refine wpAnyH_take (i := 0) (v := ?_) rfl (by kernel_rfl) (by decide +kernel) (by decide +kernel) (fun _ _ _ h => h) (Or.inl ⟨by rfl, ?_⟩) hS ?_
  rotate_left
  · intro w' hS; first | (go_simp; done) | (go_simp; with_reducible rfl)
  refine wpAnyH_take (i := 1) (v := ?_) rfl (by kernel_rfl) (by decide +kernel) (by decide +kernel) (fun _ _ _ h => h) (Or.inl ⟨by rfl, ?_⟩) hS ?_
  rotate_left
  · intro w' hS; first | (go_simp; done) | (go_simp; with_reducible rfl)
  refine wpAnyH_take (i := 2) (v := ?_) rfl (by kernel_rfl) (by decide +kernel) (by decide +kernel) (fun _ _ _ h => h) (Or.inl ⟨by rfl, ?_⟩) hS ?_
  rotate_left
  · intro w' hS; first | (go_simp; done) | (go_simp; with_reducible rfl)
  refine wpAnyH_take (i := 3) (v := ?_) rfl (by kernel_rfl) (by decide +kernel) (by decide +kernel) (fun _ _ _ h => h) (Or.inl ⟨by rfl, ?_⟩) hS ?_
  rotate_left
  · intro w' hS; have k0 : w'.cell? ⟨j, 0, none⟩ = some (ptr b) := hS; first | (go_simp; done) | (go_simp; with_reducible rfl)
  refine wpAnyH_take (i := 4) (v := ?_) rfl (by kernel_rfl) (by decide +kernel) (by decide +kernel) (fun _ _ _ h => h) (Or.inl ⟨by rfl, ?_⟩) hS ?_
  rotate_left
  · intro w' hS; first | (go_simp; done) | (go_simp; with_reducible rfl)
  refine wpAnyH_take (i := 6) (v := ?_) rfl (by kernel_rfl) (by decide +kernel) (by decide +kernel) (fun _ _ _ h => h) (Or.inl ⟨by rfl, ?_⟩) hS ?_
  rotate_left
  · intro w' hS; first | (go_simp; done) | (go_simp; with_reducible rfl)
  refine wpAnyH_take (i := 7) (v := ?_) rfl (by kernel_rfl) (by decide +kernel) (by decide +kernel) (fun _ _ _ h => h) (Or.inl ⟨by rfl, ?_⟩) hS ?_
  rotate_left
  · intro w' hS; first | (go_simp; done) | (go_simp; with_reducible rfl)
  refine wpAnyH_all (rs := [5]) (by decide +kernel) (by simp) ?_
  intro i0 hi0
  obtain rfl := List.mem_singleton.1 hi0
  refine wpOp_go rfl rfl (fun K hK => ?_)
  go_simp
  refine (HO.out _).mono ?_
  rintro e w4 ⟨rfl, rfl⟩
  refine hK _ _ ⟨hS, ?_⟩
  clear hK K
  refine wpAnyH_all (rs := [8]) (by decide +kernel) (by simp) ?_
  intro i0 hi0
  obtain rfl := List.mem_singleton.1 hi0
  refine wpOp_go rfl rfl (fun K hK => ?_)
  go_simp
  refine HH.out.mono ?_
  rintro e w5 ⟨A2, c2, rfl, hR5, hc5, hm5, hb5⟩
  have hS5 : w5.cell? ⟨j, 0, none⟩ = some (ptr b) := (HJ3.out.below hb5).blk.cell 0
  refine hK _ _ ⟨hS5, ?_⟩
  clear hK K
  all_goals
    have HJ5 := Lib.hid (HJ3.out.below hb5)
    have HK5 := Lib.hid (HK3.out.below hb5)
    have HI5 := Lib.hid (HI3.out.below hb5)
    have HF5 := Lib.hid (HF3.out.trans (Fr.of_below [b, j] hb5))
    have HW := Lib.hid (wr_kept1 HK5.out hu hf1 A2 (Pl.cod l (J.t + 1)) (l.length + 8) c2 (by rw [Pl.cod_len]) (by omega) hR5)
    rw [← HNX.out] at HW
    clear HH HO HJ3 HK3 HI3 HF3 hR5 hb5 hS
    refine wpAnyH_all (rs := [9]) (by decide +kernel) (by simp) ?_
    intro i0 hi0
    obtain rfl := List.mem_singleton.1 hi0
    refine wpOp_go rfl rfl (fun K hK => ?_)
    go_simp
    refine (show Calls Try.prog 30 _ _ _ from HW.out).mono ?_
    rintro e w6 ⟨rfl, ⟨u6, kp6, hD6, hO6⟩, hF6⟩
    have HO6 := Lib.hid (own_mono hO6 HF5.out.size)
    have HJ6 := Lib.hid (Jnl.frb ⟨v, HJ5.out⟩ ⟨v0, v1, kp, HK5.out⟩ hF6)
    have HI6 := Lib.hid (HI5.out.apart hF6 (Dsk.no ⟨v0, v1, kp, HK5.out⟩))
    have HF6 := Lib.hid (HF5.out.trans (hF6.mono (T := [b, j]) (fun k hk _ => by simp at hk; subst hk; simp)))
    have HD6 := Lib.hid hD6
    have hS6 : w6.cell? ⟨j, 0, none⟩ = some (ptr b) := by obtain ⟨v', h'⟩ := HJ6.out; exact h'.blk.cell 0
    clear HW HJ5 HK5 HI5 HF5 hD6 hF6 hS5 hO6
    refine hK _ _ ⟨hS6, ?_⟩
    clear hK K
    refine wpAnyH_take (i := 10) (v := ?_) rfl (by kernel_rfl) (by decide +kernel) (by decide +kernel) (fun _ _ _ h => h) (Or.inl ⟨by rfl, ?_⟩) hS6 ?_
    rotate_left
    · intro w' hS; first | (go_simp; done) | (go_simp; with_reducible rfl)
    refine wpAnyH_done (by decide +kernel) ?_ _
    obtain ⟨v6, hJ6⟩ := HJ6.out
    have HJ7 := Lib.hid hJ6
    have q2 := hJ6.blk.cell 2
    have q3 := hJ6.blk.cell 3
    have q4 := hJ6.blk.cell 4
    have f2 := hJ6.blk.frozen 2
    have f3 := hJ6.blk.frozen 3
    have f4 := hJ6.blk.frozen 4
    clear hJ6 HJ6
    change w6.cell? ⟨j, 2, none⟩ = some (.bool J.fd) at q2
    change w6.cell? ⟨j, 3, none⟩ = some (.int .i64 (J.t : Nat)) at q3
    change w6.cell? ⟨j, 4, none⟩ = some v6 at q4
    have HP := Lib.hid (copied_any A l c l.length rfl (by omega) w6 HI6.out)
    go_wp2_with fail
    refine HP.out.mono ?_
    rintro e w8 ⟨u, rfl, hO8, hb8⟩
    obtain ⟨A8, c8, rfl, _, _, _⟩ := rows_of_owns encU8 hO8
    have HJ8 := Lib.hid (HJ7.out.below hb8)
    have HD8 := Lib.hid (HD6.out.below hb8)
    have HQ8 := Lib.hid (own_keep HO6.out hb8)
    have HO9 := Lib.hid (own_mono hO8 HF6.out.size)
    have HO8 := Lib.hid (own_mono hO8 (Nat.zero_le _))
    have HF8 := Lib.hid (HF6.out.trans (Fr.of_below [b, j] hb8))
    have p3 : w8.cell? ⟨j, 3, none⟩ = some (.int .i64 (J.t : Nat)) := HJ8.out.blk.cell 3
    have p4 : w8.cell? ⟨j, 4, none⟩ = some v6 := HJ8.out.blk.cell 4
    have g3 := HJ8.out.blk.frozen 3
    have g4 := HJ8.out.blk.frozen 4
    clear q2 q3 q4 f2 f3 f4 HP hO8 hb8 HJ7 HI6 HF6 HD6
    go_wp2
    go_ret
    rw [E3.out]
    have hf : Fr [j] w8 ((w8.setCell ⟨j, 3, none⟩ (.int .i64 ((J.t + 1 : Nat) : Int))).setCell ⟨j, 4, none⟩ (.slice A8 l.length c8)) := (Fr.setCell w8 j 3 _).trans (Fr.setCell _ j 4 _)
    rw [E4.out] at *
    refine ⟨rfl, ⟨u6, kp6, _, HD8.out.fr hf (by simpa using hjb.symm) HJ8.out.at_, ⟨(HJ8.out.blk.set_ 3 _).set_ 4 _, Own8.fr (l := l) HO8.out hf HJ8.out.at_, ?_⟩, ownsRow_setCell_below (ownsRow_setCell_below HQ8.out (a := ⟨j, 3, none⟩) hjw _) (a := ⟨j, 4, none⟩) hjw _, ownsRow_setCell_below (ownsRow_setCell_below HO9.out (a := ⟨j, 3, none⟩) hjw _) (a := ⟨j, 4, none⟩) hjw _⟩, HF8.out.trans (hf.mono (T := [b, j]) (fun k hk _ => by simp at hk; subst hk; simp))⟩
    show J.t + 1 ≤ 2147483647
    omega
set_option maxRecDepth 100000 in
set_option maxHeartbeats 8000000 in
theorem dread_kept {w : World} {b : Nat} {D : Pl.Dk} {v0 v1 : Value} {kp : Int} (h : IsDk w b D v0 v1 kp) (hu : D.up = true) (hl : D.s0.length ≤ 100000) : Calls Try.prog 31 #[ptr b, .int .i64 0] w fun e w' => ∃ u, e = .returned (.tuple #[u, .int .i64 0]) ∧ w'.ownsRow w.heap.size 5 1 u D.s0.length (flt u8L D.s0) ∧ Below w.heap.size w w' := by
  have HK := Lib.hid (check_b h 0 0 (by unfold Pl.rdE; rw [hu]; simp))
  obtain ⟨A, c, rfl, hR, hnc, hcm⟩ := h.o0.rows
  have qv : w.cell? ⟨b, 2 + 0, none⟩ = some (.slice A D.s0.length c) := h.blk.cell (2 + 0)
  have HC := Lib.hid (copied_any A D.s0 c _ rfl hl w hR)
  clear h hu hR hnc hcm
  generalize D.s0 = l at *
  generalize hn : l.length = n at *
  have HN2 := Lib.hid hn
  clear hn
  go_enter Try.func31, Try.ntmps31
  go_wp2_with fail
  refine HK.out.mono ?_
  rintro e w1 ⟨rfl, rfl⟩
  go_wp2_with fail
  refine HC.out.mono ?_
  rintro e w2 ⟨u, rfl, hO2, hb2⟩
  have HO2 := Lib.hid hO2
  clear hO2
  go_wp2
  go_ret2
  exact ⟨u, rfl, HO2.out, hb2⟩
end Go.Proofs.Ytalfffkcmddakab
