/- A pair of journals: opened. -/
import Derived.Test.YtalfffkcmddakabR8
namespace Go.Proofs.Ytalfffkcmddakab
open Go.RowKit Go.Shelf

theorem Fr.two {w : World} (g i j : Nat) (u v : Value) : Fr [g] w ((w.setCell ⟨g, i, none⟩ u).setCell ⟨g, j, none⟩ v) := (Fr.setCell w g i u).trans (Fr.setCell _ g j v)
set_option maxRecDepth 100000 in
set_option maxHeartbeats 8000000 in
theorem popen_any {w : World} {p b r : Nat} {vj vq : Value} {D : Pl.Dk} (hP : Blk w p 48 (pairA b r vj vq)) (d : Dsk w b D) (k : Rsk w r D) :
    Calls Try.prog 19 #[ptr p] w fun e w' => e = .returned (.bool true) ∧ Fr [p] w w' ∧ (D.up = true → ∃ j q, w.heap.size ≤ j ∧ w.heap.size ≤ q ∧ Pr2 w' p b r j q D (Pl.opn D)) ∧ (D.up = false → Below w.heap.size w w') := by
  have q0 := hP.cell 0
  have HP := Lib.hid hP
  have HD := Lib.hid d
  have HK := Lib.hid k
  cases hu : D.up with
  | false =>
    have HO := Lib.hid (open_down d hu)
    have HR := Lib.hid (ropen_down k hu)
    have q1 := hP.cell 1
    clear hP d k hu
    go_enter Try.func19, Try.ntmps19
    go_wp2_with fail
    refine HO.out.mono ?_
    rintro e w1 ⟨rfl, rfl⟩
    go_wp2_with fail
    refine HR.out.mono ?_
    rintro e w1 ⟨rfl, rfl⟩
    go_wp2
    go_ret
    exact ⟨rfl, Fr.refl _ _, fun h => (by cases h), fun _ => Below.refl _ _⟩
  | true =>
    have HO := Lib.hid (open_any d hu)
    have HR := Lib.hid (fun w' (hb : Below w.heap.size w w') => ropen_any (k.below hb) hu)
    have hpl := hP.lt
    clear hP d k hu
    go_enter Try.func19, Try.ntmps19
    go_wp2_with fail
    refine HO.out.mono ?_
    rintro e w1 ⟨rfl, hJ1, hb1⟩
    have q1 := (HP.out.below hb1 hpl).cell 1
    have HJ1 := Lib.hid hJ1
    have HB1 := Lib.hid hb1
    have hpj : p < w1.heap.size := Nat.lt_of_lt_of_le hpl hb1.size
    clear hJ1 hb1 q0 HO
    go_wp2_with fail
    refine (HR.out w1 HB1.out).mono ?_
    rintro e w2 ⟨rfl, hQ2, hb2⟩
    have hB2 := HB1.out.trans (hb2.mono HB1.out.size)
    have bP := HP.out.below hB2 hpl
    have p2 := bP.cell 2
    have p3 := bP.cell 3
    have g2 := bP.frozen 2
    have g3 := bP.frozen 3
    have HJ2 := Lib.hid (HJ1.out.below hb2)
    have HQ2 := Lib.hid hQ2
    have HD2 := Lib.hid (HD.out.below hB2)
    have HK2 := Lib.hid (HK.out.below hB2)
    have HBP := Lib.hid bP
    have HF2 := Lib.hid (Fr.of_below [p] hB2)
    have h00 : ((0 : Int) != 0) = false := by decide
    clear hB2 bP hb2 hQ2 q1 HR
    go_wp2
    go_ret
    have hf := Fr.two (w := w2) p 2 3 (ptr w.heap.size) (ptr w1.heap.size)
    have hat : ∀ g, g ∈ [p] → g < w2.heap.size → ∃ t cs, Blk w2 g t cs ∧ t ≠ 5 := fun g hg _ => by simp at hg; subst hg; exact ⟨_, _, HBP.out, tP8⟩
    obtain ⟨cb, hcb⟩ := HD2.out.blk
    obtain ⟨ck, hck⟩ := HK2.out.blk
    obtain ⟨cj, hcj⟩ := HJ2.out.blk
    obtain ⟨cq, hcq⟩ := HQ2.out.blk
    have n1 := (HBP.out.ne hcb tPd).symm
    have n2 := (HBP.out.ne hck tPk).symm
    have n3 := (HBP.out.ne hcj tPj).symm
    have n4 := (HBP.out.ne hcq tPq).symm
    refine ⟨rfl, HF2.out.trans hf, fun _ => ⟨w.heap.size, w1.heap.size, Nat.le_refl _, HB1.out.size, (HBP.out.set_ 2 _).set_ 3 _, HD2.out.fr hf (by simpa using n1) hat, HK2.out.fr hf (by simpa using n2) hat, HJ2.out.fr hf (by simpa using n3) hat, HQ2.out.fr hf (by simpa using n4) hat⟩, fun h => (by cases h)⟩
end Go.Proofs.Ytalfffkcmddakab
