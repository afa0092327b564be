/- Open of the program. -/
import Derived.Test.YtalfffkcmddakabZ6
namespace Go.Proofs.Ytalfffkcmddakab
open Go.RowKit Go.Shelf

theorem infoAr : (Try.prog.info? 37).map (·.size) = some 2 := by kernel_rfl
theorem ldm_ar {ops : Array Oper} {rest : List Oper} {o : Oper} {a : Act} {w : World} {Q : Exit → Act → World → Prop} {b off : Nat} {v0 v1 : Value} (hr : w.rangeAt b off [v0, v1]) (hw : Region.wanted o (yielded ops a.tmps) = true) (x : Operand) (ho : o.op = .load 37 x)
    (hx : a.eval x = .pointer (some ⟨b, off, none⟩)) (h : wpList Try.prog ops Q rest (a.put o.dst (.agg #[v0, v1])) w) : wpList Try.prog ops Q (o :: rest) a w :=
  wpList_wanted hw fun _ hK => wp_load_mid 37 x ho b off hx [v0, v1] _ hr Try.underlying37 rfl infoAr (hK _ _ h)
theorem ix_ar (v0 v1 : Value) : (∀ w, (Instr.index 37 (.agg #[v0, v1]) (.int .i64 0)).run Try.prog w = .ok v0 w) ∧ (∀ w, (Instr.index 37 (.agg #[v0, v1]) (.int .i64 1)).run Try.prog w = .ok v1 w) :=
  ⟨fun _ => by kernel_rfl, fun _ => by kernel_rfl⟩
theorem tO_yes {i : Nat} {l : Pl.Bs} (h : Pl.isH i l = true) : Pl.tO i l = Pl.hT l := by unfold Pl.tO; rw [h]; rfl
theorem tO_no {i : Nat} {l : Pl.Bs} (h : Pl.isH i l = false) : Pl.tO i l = 0 := by unfold Pl.tO; rw [h]; rfl

set_option maxHeartbeats 1000000 in
theorem open_down {w : World} {b : Nat} {D : Pl.Dk} (k : Dsk w b D) (hu : D.up = false) :
    Calls Try.prog 22 #[ptr b] w fun e w' => e = .returned (.tuple #[.pointer none, .int .i64 91]) ∧ w' = w := by
  obtain ⟨v0, v1, kp, k⟩ := k
  have HC := Lib.hid (down_any k true (by rw [hu]; rfl))
  clear k hu
  go_enter Try.func22, Try.ntmps22
  go_wp2_with fail
  refine HC.out.mono ?_
  rintro e w1 ⟨rfl, rfl⟩
  go_wp2
  go_ret2
  exact ⟨rfl, rfl⟩
/-- the journal behind the first k slots -/
def stK (D : Pl.Dk) : Nat → Pl.Jn
  | 0 => ⟨0, [], D.st, false⟩
  | 1 => Pl.stp D 0 ⟨0, [], D.st, false⟩
  | _ => Pl.opn D

set_option maxRecDepth 100000 in
set_option maxHeartbeats 8000000 in
theorem open_any {w : World} {b : Nat} {D : Pl.Dk} (k : Dsk w b D) (hu : D.up = true) :
    Calls Try.prog 22 #[ptr b] w fun e w' => e = .returned (.tuple #[ptr w.heap.size, .int .i64 0]) ∧ Jnl w' w.heap.size b (Pl.opn D) ∧ Below w.heap.size w w' := by
  obtain ⟨v0, v1, kp, k⟩ := k
  have HC := Lib.hid (down_any k false (by rw [hu]; rfl))
  have HK := Lib.hid k
  have q0 : w.cell? ⟨b, 0, none⟩ = some (.int .i64 (D.st : Nat)) := k.blk.cell 0
  have hlt := k.blk.lt
  have hB0 := (Below.refl w.heap.size w).alloc (Nat.le_refl _) (.cells (jnA b ⟨0, [], D.st, false⟩ (.slice none 0 0)) 42)
  have hJ0 : IsJn (w.alloc (.cells (jnA b ⟨0, [], D.st, false⟩ (.slice none 0 0)) 42)) w.heap.size b (stK D 0) (.slice none 0 0) := ⟨Blk.new w _ _, Own8.nil _, Nat.zero_le _⟩
  have hr : (w.alloc (.cells (jnA b ⟨0, [], D.st, false⟩ (.slice none 0 0)) 42)).rangeAt b 2 [v0, v1] := by
    have hD := k.below hB0
    intro i v hv
    match i, hv with
    | 0, hv => simp at hv; subst hv; exact hD.blk.cell 2
    | 1, hv => simp at hv; subst hv; exact hD.blk.cell 3
    | i + 2, hv => simp at hv
  obtain ⟨i0, i1⟩ := ix_ar v0 v1
  clear k hu
  have HB0 := Lib.hid hB0
  have HJ0 := Lib.hid hJ0
  clear hB0 hJ0
  go_enter Try.func22, Try.ntmps22
  go_wp2_with fail
  refine HC.out.mono ?_
  rintro e w1 ⟨rfl, rfl⟩
  go_wp2_with (refine ldm_ar hr rfl _ rfl rfl ?_)
  generalize w1.alloc (.cells (jnA b ⟨0, [], D.st, false⟩ (.slice none 0 0)) 42) = W at *
  clear hr q0
  go_loopw [22] (fun i wr => ∃ q : Nat, q ≤ 2 ∧ i = .int .i64 q ∧ Jnl wr w1.heap.size b (stK D q) ∧ Below w1.heap.size w1 wr) (fun i _ => 2 - (intOf i).toNat)
  case atStart => exact ⟨0, by omega, rfl, ⟨_, HJ0.out⟩, HB0.out⟩
  case round =>
    clear HJ0 HB0 HC
    obtain ⟨q, hq, rfl, hJ, hB⟩ := hrel
    obtain ⟨wo, rfl⟩ : ∃ wo, wo = wr := ⟨_, rfl⟩
    have hq3 : q = 0 ∨ q = 1 ∨ q = 2 := by omega
    rcases hq3 with rfl | rfl | rfl
    · have HD := Lib.hid (HK.out.below (hB.mono (Nat.le_refl _)))
      obtain ⟨vj, hJ⟩ := hJ
      obtain ⟨A, c, rfl, hR, hnc, hcm⟩ := HD.out.o0.rows
      have HN : Hid (stK D 1 = Pl.stp D 0 (stK D 0)) := Lib.hid rfl
      have HSL : Hid (D.sl 0 = D.s0) := Lib.hid rfl
      generalize stK D 0 = J at *
      have HJ := Lib.hid hJ
      have q3 : wo.cell? ⟨w1.heap.size, 3, none⟩ = some (.int .i64 (J.t : Nat)) := hJ.blk.cell 3
      cases hH : Pl.isH 0 D.s0 with
      | false =>
        have HE := Lib.hid (held_no A D.s0 _ c 0 rfl hnc hcm wo hR hH)
        have HS : Hid (Pl.stp D 0 J = J) := Lib.hid (by unfold Pl.stp; rw [HSL.out, tO_no hH, if_neg (by omega)])
        clear hJ hR hnc hcm hH
        change Hid (Calls Try.prog 47 #[.int .i64 0, .slice A D.s0.length c] wo _) at HE
        go_wp2_with fail
        refine HE.out.mono ?_
        rintro e w2 ⟨rfl, rfl⟩
        go_wp2
        go_roundw
        case rel => exact ⟨1, by omega, by simp, by rw [HN.out, HS.out]; exact ⟨_, HJ.out⟩, hB⟩
        case measure => simp [intOf]
      | true =>
        have HE := Lib.hid (held_yes A D.s0 _ c 0 rfl hnc hcm wo hR hH)
        have hTH := Lib.hid (tO_yes hH)
        have hI := Pl.isH_iff.1 hH
        have h1 : Hid (1 ≤ Pl.hT D.s0 ∧ Pl.hT D.s0 ≤ 2147483647) := Lib.hid ⟨hI.2.2.2.1, hI.2.2.2.2.1⟩
        have hlen : Hid ((Pl.hI D.s0).length = D.s0.length - 8 ∧ D.s0.length ≤ 65544) := Lib.hid ⟨by unfold Pl.hI; rw [List.length_take, List.length_drop]; omega, hI.2.1⟩
        have HT : Hid (J.t < Pl.hT D.s0 → Pl.stp D 0 J = { J with t := Pl.hT D.s0, im := Pl.hI D.s0 }) := Lib.hid (fun hlt => by unfold Pl.stp; rw [HSL.out, hTH.out, if_pos hlt])
        have HU : Hid (¬ J.t < Pl.hT D.s0 → Pl.stp D 0 J = J) := Lib.hid (fun hlt => by unfold Pl.stp; rw [HSL.out, hTH.out, if_neg hlt])
        change Hid (Calls Try.prog 47 #[.int .i64 0, .slice A D.s0.length c] wo _) at HE
        clear hR hnc hcm hH hI hTH
        generalize Pl.hT D.s0 = t at *
        generalize Pl.hI D.s0 = im at *
        generalize D.s0.length = n at *
        go_wp2_with fail
        refine HE.out.mono ?_
        rintro e w2 ⟨A', rfl, hR2, rfl⟩
        by_cases hlt : J.t < t
        · have hltI : (J.t : Int) < (t : Nat) := by omega
          have HC := Lib.hid (copied_any (some A') im (c - 4) (n - 8) hlen.out.1 (by have := hlen.out.2; omega) w2 hR2)
          have HV := Lib.hid (HT.out hlt)
          clear HT HU hlt hR2 hJ
          go_wp2_with fail
          refine HC.out.mono ?_
          rintro e w8 ⟨u, rfl, hO8, hb8⟩
          obtain ⟨A8, c8, rfl, _, _, _⟩ := rows_of_owns encU8 (show World.ownsRow _ _ _ _ _ (List.length im) _ by rw [hlen.out.1]; exact hO8)
          have HJ8 := Lib.hid (HJ.out.below hb8)
          have HO8 := Lib.hid (own_mono hO8 (Nat.zero_le _))
          have hB8 := hB.trans (hb8.mono hB.size)
          have p3 : w8.cell? ⟨w1.heap.size, 3, none⟩ = some (.int .i64 (J.t : Nat)) := HJ8.out.blk.cell 3
          have p4 : w8.cell? ⟨w1.heap.size, 4, none⟩ = some vj := HJ8.out.blk.cell 4
          have g3 := HJ8.out.blk.frozen 3
          have g4 := HJ8.out.blk.frozen 4
          clear q3 HC hO8 hb8 HJ hB
          go_wp2
          have hf : Fr [w1.heap.size] w8 ((w8.setCell ⟨w1.heap.size, 3, none⟩ (.int .i64 (t : Nat))).setCell ⟨w1.heap.size, 4, none⟩ (.slice A8 im.length c8)) := (Fr.setCell w8 w1.heap.size 3 _).trans (Fr.setCell _ w1.heap.size 4 _)
          have hO9 : Own8 ((w8.setCell ⟨w1.heap.size, 3, none⟩ (.int .i64 (t : Nat))).setCell ⟨w1.heap.size, 4, none⟩ (.slice A8 im.length c8)) (.slice A8 im.length c8) im := Own8.fr (by have := HO8.out; rw [← hlen.out.1] at this; exact this) hf HJ8.out.at_
          have hJ9 : Jnl ((w8.setCell ⟨w1.heap.size, 3, none⟩ (.int .i64 (t : Nat))).setCell ⟨w1.heap.size, 4, none⟩ (.slice A8 im.length c8)) w1.heap.size b { J with t := t, im := im } := ⟨_, (HJ8.out.blk.set_ 3 _).set_ 4 _, hO9, h1.out.2⟩
          have hB9 := hB8.trans (hf.below (B := w1.heap.size) (by simp) hB8.size)
          generalize (w8.setCell ⟨w1.heap.size, 3, none⟩ (.int .i64 (t : Nat))).setCell ⟨w1.heap.size, 4, none⟩ (.slice A8 im.length c8) = w9 at *
          go_roundw
          case rel => exact ⟨1, by omega, by simp, by rw [HN.out, HV.out]; exact hJ9, hB9⟩
          case measure => simp [intOf]
        · have hltI : ¬ (J.t : Int) < (t : Nat) := by omega
          have HV := Lib.hid (HU.out hlt)
          clear HT HU hlt hR2 hJ
          go_wp2
          go_roundw
          case rel => exact ⟨1, by omega, by simp, by rw [HN.out, HV.out]; exact ⟨_, HJ.out⟩, hB⟩
          case measure => simp [intOf]
    · have HD := Lib.hid (HK.out.below (hB.mono (Nat.le_refl _)))
      obtain ⟨vj, hJ⟩ := hJ
      obtain ⟨A, c, rfl, hR, hnc, hcm⟩ := HD.out.o1.rows
      have HN : Hid (stK D 2 = Pl.stp D 1 (stK D 1)) := Lib.hid rfl
      have HSL : Hid (D.sl 1 = D.s1) := Lib.hid rfl
      generalize stK D 1 = J at *
      have HJ := Lib.hid hJ
      have q3 : wo.cell? ⟨w1.heap.size, 3, none⟩ = some (.int .i64 (J.t : Nat)) := hJ.blk.cell 3
      cases hH : Pl.isH 1 D.s1 with
      | false =>
        have HE := Lib.hid (held_no A D.s1 _ c 1 rfl hnc hcm wo hR hH)
        have HS : Hid (Pl.stp D 1 J = J) := Lib.hid (by unfold Pl.stp; rw [HSL.out, tO_no hH, if_neg (by omega)])
        clear hJ hR hnc hcm hH
        change Hid (Calls Try.prog 47 #[.int .i64 1, .slice A D.s1.length c] wo _) at HE
        go_wp2_with fail
        refine HE.out.mono ?_
        rintro e w2 ⟨rfl, rfl⟩
        go_wp2
        go_roundw
        case rel => exact ⟨2, by omega, by simp, by rw [HN.out, HS.out]; exact ⟨_, HJ.out⟩, hB⟩
        case measure => simp [intOf]
      | true =>
        have HE := Lib.hid (held_yes A D.s1 _ c 1 rfl hnc hcm wo hR hH)
        have hTH := Lib.hid (tO_yes hH)
        have hI := Pl.isH_iff.1 hH
        have h1 : Hid (1 ≤ Pl.hT D.s1 ∧ Pl.hT D.s1 ≤ 2147483647) := Lib.hid ⟨hI.2.2.2.1, hI.2.2.2.2.1⟩
        have hlen : Hid ((Pl.hI D.s1).length = D.s1.length - 8 ∧ D.s1.length ≤ 65544) := Lib.hid ⟨by unfold Pl.hI; rw [List.length_take, List.length_drop]; omega, hI.2.1⟩
        have HT : Hid (J.t < Pl.hT D.s1 → Pl.stp D 1 J = { J with t := Pl.hT D.s1, im := Pl.hI D.s1 }) := Lib.hid (fun hlt => by unfold Pl.stp; rw [HSL.out, hTH.out, if_pos hlt])
        have HU : Hid (¬ J.t < Pl.hT D.s1 → Pl.stp D 1 J = J) := Lib.hid (fun hlt => by unfold Pl.stp; rw [HSL.out, hTH.out, if_neg hlt])
        change Hid (Calls Try.prog 47 #[.int .i64 1, .slice A D.s1.length c] wo _) at HE
        clear hR hnc hcm hH hI hTH
        generalize Pl.hT D.s1 = t at *
        generalize Pl.hI D.s1 = im at *
        generalize D.s1.length = n at *
        go_wp2_with fail
        refine HE.out.mono ?_
        rintro e w2 ⟨A', rfl, hR2, rfl⟩
        by_cases hlt : J.t < t
        · have hltI : (J.t : Int) < (t : Nat) := by omega
          have HC := Lib.hid (copied_any (some A') im (c - 4) (n - 8) hlen.out.1 (by have := hlen.out.2; omega) w2 hR2)
          have HV := Lib.hid (HT.out hlt)
          clear HT HU hlt hR2 hJ
          go_wp2_with fail
          refine HC.out.mono ?_
          rintro e w8 ⟨u, rfl, hO8, hb8⟩
          obtain ⟨A8, c8, rfl, _, _, _⟩ := rows_of_owns encU8 (show World.ownsRow _ _ _ _ _ (List.length im) _ by rw [hlen.out.1]; exact hO8)
          have HJ8 := Lib.hid (HJ.out.below hb8)
          have HO8 := Lib.hid (own_mono hO8 (Nat.zero_le _))
          have hB8 := hB.trans (hb8.mono hB.size)
          have p3 : w8.cell? ⟨w1.heap.size, 3, none⟩ = some (.int .i64 (J.t : Nat)) := HJ8.out.blk.cell 3
          have p4 : w8.cell? ⟨w1.heap.size, 4, none⟩ = some vj := HJ8.out.blk.cell 4
          have g3 := HJ8.out.blk.frozen 3
          have g4 := HJ8.out.blk.frozen 4
          clear q3 HC hO8 hb8 HJ hB
          go_wp2
          have hf : Fr [w1.heap.size] w8 ((w8.setCell ⟨w1.heap.size, 3, none⟩ (.int .i64 (t : Nat))).setCell ⟨w1.heap.size, 4, none⟩ (.slice A8 im.length c8)) := (Fr.setCell w8 w1.heap.size 3 _).trans (Fr.setCell _ w1.heap.size 4 _)
          have hO9 : Own8 ((w8.setCell ⟨w1.heap.size, 3, none⟩ (.int .i64 (t : Nat))).setCell ⟨w1.heap.size, 4, none⟩ (.slice A8 im.length c8)) (.slice A8 im.length c8) im := Own8.fr (by have := HO8.out; rw [← hlen.out.1] at this; exact this) hf HJ8.out.at_
          have hJ9 : Jnl ((w8.setCell ⟨w1.heap.size, 3, none⟩ (.int .i64 (t : Nat))).setCell ⟨w1.heap.size, 4, none⟩ (.slice A8 im.length c8)) w1.heap.size b { J with t := t, im := im } := ⟨_, (HJ8.out.blk.set_ 3 _).set_ 4 _, hO9, h1.out.2⟩
          have hB9 := hB8.trans (hf.below (B := w1.heap.size) (by simp) hB8.size)
          generalize (w8.setCell ⟨w1.heap.size, 3, none⟩ (.int .i64 (t : Nat))).setCell ⟨w1.heap.size, 4, none⟩ (.slice A8 im.length c8) = w9 at *
          go_roundw
          case rel => exact ⟨2, by omega, by simp, by rw [HN.out, HV.out]; exact hJ9, hB9⟩
          case measure => simp [intOf]
        · have hltI : ¬ (J.t : Int) < (t : Nat) := by omega
          have HV := Lib.hid (HU.out hlt)
          clear HT HU hlt hR2 hJ
          go_wp2
          go_roundw
          case rel => exact ⟨2, by omega, by simp, by rw [HN.out, HV.out]; exact ⟨_, HJ.out⟩, hB⟩
          case measure => simp [intOf]
    · go_wp2
      go_ret2
      exact ⟨rfl, hJ, hB⟩
end Go.Proofs.Ytalfffkcmddakab
