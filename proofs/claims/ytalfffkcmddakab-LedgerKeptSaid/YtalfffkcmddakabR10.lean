/- One step of a pair of journals. -/
import Derived.Test.YtalfffkcmddakabR9
import Derived.Test.YtalfffkcmddakabA2
namespace Go.Proofs.Ytalfffkcmddakab
open Go.RowKit Go.Shelf

namespace Pl
/-- a step -/
def plQ (g : Gs) : Int := g.x.k % 7
end Pl
def plD (D : Pl.Dk) (J : Pl.Jn) (g : Pl.Gs) : Pl.Dk := if Pl.plQ g = 5 then Pl.svD D J g.im else if Pl.plQ g = 6 then D else acD D g.x (Pl.plQ g % 5)
def plJ (D : Pl.Dk) (J : Pl.Jn) (g : Pl.Gs) : Pl.Jn := if Pl.plQ g = 5 then Pl.svJ D J g.im else if Pl.plQ g = 6 then (if D.up = true then Pl.opn D else J) else J
theorem tGd : (50 : TypeId) ≠ 39 := by decide
theorem tGk : (50 : TypeId) ≠ 82 := by decide
theorem tGj : (50 : TypeId) ≠ 42 := by decide
theorem tGq : (50 : TypeId) ≠ 87 := by decide
theorem lt_of_cell {w : World} {g o : Nat} {v : Value} (h : w.cell? ⟨g, o, none⟩ = some v) : g < w.heap.size := by
  rcases Nat.lt_or_ge g w.heap.size with h' | h'
  · exact h'
  · unfold World.cell? at h; rw [Array.getElem?_eq_none h'] at h; cases h
theorem at2 {w : World} {g1 g2 : Nat} {t1 t2 : TypeId} {cs1 cs2 : Array Value} (h1 : Blk w g1 t1 cs1) (h2 : Blk w g2 t2 cs2) (n1 : t1 ≠ 5) (n2 : t2 ≠ 5) : ∀ g, g ∈ [g1, g2] → g < w.heap.size → ∃ t cs, Blk w g t cs ∧ t ≠ 5 := fun g hg _ => by
  simp at hg
  rcases hg with rfl | rfl
  · exact ⟨_, _, h1, n1⟩
  · exact ⟨_, _, h2, n2⟩
theorem tKu : (82 : TypeId) ≠ 5 := by decide
theorem tQu : (87 : TypeId) ≠ 5 := by decide
theorem nin2 {a b c : Nat} (h1 : a ≠ b) (h2 : a ≠ c) : a ∉ [b, c] := by simp [h1, h2]
theorem sv_sz {D : Pl.Dk} {J : Pl.Jn} (h : Sz D) (hj : J.im.length ≤ 100000) (im : Pl.Bs) : Sz (Pl.svD D J im) ∧ (Pl.svD D J im).st = D.st ∧ (Pl.svJ D J im).im.length ≤ 100000 := by
  unfold Pl.svD Pl.svJ
  cases Pl.ded D J with
  | true => exact ⟨h, rfl, hj⟩
  | false =>
    cases hL : Pl.lim J im with
    | true => exact ⟨h, rfl, hj⟩
    | false =>
      unfold Pl.lim at hL
      rw [Bool.or_eq_false_iff, decide_eq_false_iff_not, decide_eq_false_iff_not] at hL
      refine ⟨wr_sz h _ (by rw [Pl.cod_len]; omega), wr_st _ _ _, ?_⟩
      rw [if_neg (by decide), if_neg (by decide)]
      split
      · show im.length ≤ 100000; omega
      · exact hj
theorem opn_sz (D : Pl.Dk) : (Pl.opn D).im.length ≤ 100000 := by
  have hs : ∀ (i : Nat) (J : Pl.Jn), J.im.length ≤ 100000 → (Pl.stp D i J).im.length ≤ 100000 := fun i J h => by
    unfold Pl.stp
    split
    · rename_i hlt
      unfold Pl.tO at hlt
      split at hlt
      · rename_i hH
        have := (Pl.isH_iff.1 hH).2.1
        show (Pl.hI (D.sl i)).length ≤ 100000
        unfold Pl.hI
        rw [List.length_take, List.length_drop]
        omega
      · omega
    · exact h
  exact hs 1 _ (hs 0 _ (Nat.zero_le _))
theorem pl_sz {D : Pl.Dk} {J : Pl.Jn} (h : Sz D) (hj : J.im.length ≤ 100000) (g : Pl.Gs) (hl : g.x.b.length ≤ 100000) : Sz (plD D J g) ∧ (plD D J g).st ≤ D.st + 1 ∧ (plJ D J g).im.length ≤ 100000 := by
  unfold plD plJ
  split
  · have := sv_sz h hj g.im
    exact ⟨this.1, by rw [this.2.1]; omega, this.2.2⟩
  · split
    · refine ⟨h, by omega, ?_⟩
      split
      · exact opn_sz D
      · exact hj
    · have := ac_sz h g.x (Pl.plQ g % 5) hl
      exact ⟨this.1, this.2, hj⟩
set_option maxRecDepth 100000 in
set_option maxHeartbeats 8000000 in
theorem does_save {w : World} {p b r j q B : Nat} {D : Pl.Dk} {J : Pl.Jn} (h : Pr2 w p b r j q D J) (hz : Sz D) (hj : J.im.length ≤ 100000) (g : Pl.Gs) (hg : GsIn w g) (hQ : Pl.plQ g = 5) (hB : B ≤ p ∧ B ≤ b ∧ B ≤ r ∧ B ≤ j ∧ B ≤ q) :
    Calls Try.prog 20 #[ptr p, .agg (gsA g)] w fun e w' => e = .returned (.bool true) ∧ Pr2 w' p b r j q (Pl.svD D J g.im) (Pl.svJ D J g.im) ∧ Below B w w' := by
  have hA := (Below.refl w.heap.size w).alloc (Nat.le_refl _) (.cells (gsA g) 50)
  have bG := Blk.new w 50 (gsA g)
  have h1 := h.below hA
  have hg1 := hg.below hA
  have hpl := h.blk.lt
  have hBw : B ≤ w.heap.size := by omega
  have HA := Lib.hid hA
  have k0 := bG.cell 0
  have kq : g.x.k.tmod 7 = 5 := by
    rw [Int.tmod_eq_emod_of_nonneg hg.ac.k0]; exact hQ
  obtain ⟨n, hn⟩ : ∃ n, g.im.length = n := ⟨_, rfl⟩
  have c5 : (w.alloc (.cells (gsA g) 50)).cell? ⟨w.heap.size, 5, none⟩ = some (.slice g.a n g.c) := by rw [← hn]; exact bG.cell 5
  have HH := Lib.hid h1
  have HG := Lib.hid hg1
  have HBG := Lib.hid bG
  have HN := Lib.hid hn
  clear h hg hA h1 hg1 bG hn hQ
  go_enter Try.func20, Try.ntmps20
  go_wp2
  clear k0
  generalize w.alloc (.cells (gsA g) 50) = W0 at *
  obtain ⟨G, hG⟩ : ∃ G, w.heap.size = G := ⟨_, rfl⟩
  rw [hG] at HBG c5 HA ⊢
  have hpG : p ≠ G := by omega
  have hBG : B ≤ G := by omega
  refine wp_region_held (S := fun W => W.cell? ⟨p, 0, none⟩ = some (ptr b) ∧ W.cell? ⟨p, 1, none⟩ = some (ptr r) ∧ W.cell? ⟨p, 2, none⟩ = some (ptr j) ∧ W.cell? ⟨p, 3, none⟩ = some (ptr q) ∧ W.cell? ⟨G, 5, none⟩ = some (.slice g.a n g.c)) (by kernel_rfl) ?_
  change wpAnyH _ _ _ _ _ _ _ _ (World.drew _)
  have hdr : Below W0.heap.size W0 W0.drew := (Below.refl _ _).drew
  have hW0 := HBG.out.lt
  have HH1 := Lib.hid (HH.out.below hdr)
  have HG1 := Lib.hid (HG.out.below hdr)
  have HBG1 := Lib.hid (HBG.out.below hdr hW0)
  have HA1 := Lib.hid (HA.out.trans (hdr.mono (by rw [← hG]; exact HA.out.size)))
  have hS : (fun W : World => W.cell? ⟨p, 0, none⟩ = some (ptr b) ∧ W.cell? ⟨p, 1, none⟩ = some (ptr r) ∧ W.cell? ⟨p, 2, none⟩ = some (ptr j) ∧ W.cell? ⟨p, 3, none⟩ = some (ptr q) ∧ W.cell? ⟨G, 5, none⟩ = some (.slice g.a n g.c)) W0.drew := ⟨HH1.out.blk.cell 0, HH1.out.blk.cell 1, HH1.out.blk.cell 2, HH1.out.blk.cell 3, (hdr.cell (p := ⟨G, 5, none⟩) hW0).trans c5⟩
  clear hdr c5 HH HG HBG HA hG
  generalize W0.drew = W1 at *
  refine takeD (i := 0) (d := some 12) (v := ?_) rfl rfl (by kernel_rfl) (by decide +kernel) (by decide +kernel) (fun _ _ _ h => h) (Or.inl ⟨by first | kernel_rfl | rfl, ?_⟩) hS ?_
  rotate_left
  · intro w' hT; obtain ⟨p0, p1, p2, p3, c5⟩ := hT; first | (go_simp; done) | (go_simp; with_reducible rfl)
  refine takeD (i := 1) (d := some 13) (v := ?_) rfl rfl (by kernel_rfl) (by decide +kernel) (by decide +kernel) (fun _ _ _ h => h) (Or.inl ⟨by first | kernel_rfl | rfl, ?_⟩) hS ?_
  rotate_left
  · intro w' hT; obtain ⟨p0, p1, p2, p3, c5⟩ := hT; first | (go_simp; done) | (go_simp; with_reducible rfl)
  refine takeD (i := 2) (d := some 14) (v := ?_) rfl rfl (by kernel_rfl) (by decide +kernel) (by decide +kernel) (fun _ _ _ h => h) (Or.inl ⟨by first | kernel_rfl | rfl, ?_⟩) hS ?_
  rotate_left
  · intro w' hT; obtain ⟨p0, p1, p2, p3, c5⟩ := hT; first | (go_simp; done) | (go_simp; with_reducible rfl)
  refine takeD (i := 3) (d := some 15) (v := ?_) rfl rfl (by kernel_rfl) (by decide +kernel) (by decide +kernel) (fun _ _ _ h => h) (Or.inl ⟨by first | kernel_rfl | rfl, ?_⟩) hS ?_
  rotate_left
  · intro w' hT; obtain ⟨p0, p1, p2, p3, c5⟩ := hT; first | (go_simp; done) | (go_simp; with_reducible rfl)
  refine takeD (i := 4) (d := some 16) (v := ?_) rfl rfl (by kernel_rfl) (by decide +kernel) (by decide +kernel) (fun _ _ _ h => h) (Or.inl ⟨by first | kernel_rfl | rfl, ?_⟩) hS ?_
  rotate_left
  · intro w' hT; obtain ⟨p0, p1, p2, p3, c5⟩ := hT; first | (go_simp; done) | (go_simp; with_reducible rfl)
  refine takeD (i := 5) (d := some 17) (v := ?_) rfl rfl (by kernel_rfl) (by decide +kernel) (by decide +kernel) (fun _ _ _ h => h) (Or.inl ⟨by first | kernel_rfl | rfl, ?_⟩) hS ?_
  rotate_left
  · intro w' hT; obtain ⟨p0, p1, p2, p3, c5⟩ := hT; first | (go_simp; done) | (go_simp; with_reducible rfl)
  refine takeD (i := 7) (d := some 19) (v := ?_) rfl rfl (by kernel_rfl) (by decide +kernel) (by decide +kernel) (fun _ _ _ h => h) (Or.inl ⟨by first | kernel_rfl | rfl, ?_⟩) hS ?_
  rotate_left
  · intro w' hT; obtain ⟨p0, p1, p2, p3, c5⟩ := hT; first | (go_simp; done) | (go_simp; with_reducible rfl)
  refine takeD (i := 8) (d := some 20) (v := ?_) rfl rfl (by kernel_rfl) (by decide +kernel) (by decide +kernel) (fun _ _ _ h => h) (Or.inl ⟨by first | kernel_rfl | rfl, ?_⟩) hS ?_
  rotate_left
  · intro w' hT; obtain ⟨p0, p1, p2, p3, c5⟩ := hT; first | (go_simp; done) | (go_simp; with_reducible rfl)
  refine takeD (i := 9) (d := some 21) (v := ?_) rfl rfl (by kernel_rfl) (by decide +kernel) (by decide +kernel) (fun _ _ _ h => h) (Or.inl ⟨by first | kernel_rfl | rfl, ?_⟩) hS ?_
  rotate_left
  · intro w' hT; obtain ⟨p0, p1, p2, p3, c5⟩ := hT; first | (go_simp; done) | (go_simp; with_reducible rfl)
  refine takeD (i := 10) (d := some 22) (v := ?_) rfl rfl (by kernel_rfl) (by decide +kernel) (by decide +kernel) (fun _ _ _ h => h) (Or.inl ⟨by first | kernel_rfl | rfl, ?_⟩) hS ?_
  rotate_left
  · intro w' hT; obtain ⟨p0, p1, p2, p3, c5⟩ := hT; first | (go_simp; done) | (go_simp; with_reducible rfl)
  refine takeD (i := 11) (d := some 23) (v := ?_) rfl rfl (by kernel_rfl) (by decide +kernel) (by decide +kernel) (fun _ _ _ h => h) (Or.inl ⟨by first | kernel_rfl | rfl, ?_⟩) hS ?_
  rotate_left
  · intro w' hT; obtain ⟨p0, p1, p2, p3, c5⟩ := hT; first | (go_simp; done) | (go_simp; with_reducible rfl)
  refine takeD (i := 12) (d := some 24) (v := ?_) rfl rfl (by kernel_rfl) (by decide +kernel) (by decide +kernel) (fun _ _ _ h => h) (Or.inl ⟨by first | kernel_rfl | rfl, ?_⟩) hS ?_
  rotate_left
  · intro w' hT; obtain ⟨p0, p1, p2, p3, c5⟩ := hT; first | (go_simp; done) | (go_simp; with_reducible rfl)
  refine actNorm (fun a' ha => ?_)
  simp [go_sem] at ha
  subst ha
  have HSV := Lib.hid (save_any HH1.out.j HH1.out.d g.a g.im n g.c HN.out (by rw [← HN.out]; exact HG1.out.im.cap) HG1.out.im.top HG1.out.im.nil HG1.out.im.rows)
  obtain ⟨E, hE⟩ : ∃ E, Pl.svE D J g.im = E := ⟨_, rfl⟩
  rw [hE] at HSV
  refine wpAnyH_all (rs := [6]) (by decide +kernel) (by simp) ?_
  intro i0 hi0
  have hi1 := List.mem_singleton.1 hi0
  clear hi0
  subst hi1
  refine wpOp_go rfl (by kernel_rfl) (fun K hK => ?_)
  go_simp
  refine (show Calls Try.prog 24 _ _ _ from HSV.out).mono ?_
  rintro e w2 ⟨rfl, hD2, hJ2, hF2⟩
  obtain ⟨cb, hcb⟩ := HH1.out.d.blk
  obtain ⟨ck, hck⟩ := HH1.out.k.blk
  obtain ⟨cj, hcj⟩ := HH1.out.j.blk
  obtain ⟨cq, hcq⟩ := HH1.out.q.blk
  have hat := at2 hcb hcj tDk tJn
  have bP2 := HH1.out.blk.fr hF2 (nin2 (HH1.out.blk.ne hcb tPd) (HH1.out.blk.ne hcj tPj))
  have bG2 := HBG1.out.fr hF2 (nin2 (HBG1.out.ne hcb tGd) (HBG1.out.ne hcj tGj))
  have hK2 := HH1.out.k.fr hF2 (nin2 (hck.ne hcb tRD) (hck.ne hcj tRJ)) hat
  have hQ2 := HH1.out.q.fr hF2 (nin2 (hcq.ne hcb tDQ.symm) (hcq.ne hcj tJQ.symm)) hat
  have hR2 := HG1.out.im.rows.apart hF2 (no2 HH1.out.j HH1.out.d)
  have hB2 := hF2.below (B := B) (by intro k hk; simp at hk; omega) (by have := HH1.out.blk.lt; omega)
  have hS2 : (fun W : World => W.cell? ⟨p, 0, none⟩ = some (ptr b) ∧ W.cell? ⟨p, 1, none⟩ = some (ptr r) ∧ W.cell? ⟨p, 2, none⟩ = some (ptr j) ∧ W.cell? ⟨p, 3, none⟩ = some (ptr q) ∧ W.cell? ⟨G, 5, none⟩ = some (.slice g.a n g.c)) w2 := ⟨bP2.cell 0, bP2.cell 1, bP2.cell 2, bP2.cell 3, by rw [← HN.out]; exact bG2.cell 5⟩
  refine hK _ _ ⟨hS2, ?_⟩
  clear hK K hS hat hF2 hcb hck hcj hcq cb ck cj cq
  have HSQ := Lib.hid (rsave_any hQ2 hK2 g.a g.im n g.c HN.out (by rw [← HN.out]; exact HG1.out.im.cap) HG1.out.im.top HG1.out.im.nil hR2)
  rw [hE] at HSQ
  have HP2 := Lib.hid bP2
  have HK2 := Lib.hid hK2
  have HQ2 := Lib.hid hQ2
  have HD2 := Lib.hid hD2
  have HJ2 := Lib.hid hJ2
  have HG2 := Lib.hid bG2
  have HB2 := Lib.hid ((HA1.out.mono (by omega)).trans hB2)
  clear bP2 bG2 hK2 hQ2 hR2 hB2 hD2 hJ2 HSV
  refine wpAnyH_all (rs := [13]) (by decide +kernel) (by simp) ?_
  intro i0 hi0
  have hi1 := List.mem_singleton.1 hi0
  clear hi0
  subst hi1
  refine wpOp_go rfl (by kernel_rfl) (fun K hK => ?_)
  go_simp
  refine (show Calls Try.prog 45 _ _ _ from HSQ.out).mono ?_
  rintro e w3 ⟨rfl, hK3, hQ3, hF3⟩
  obtain ⟨cb, hcb⟩ := HD2.out.blk
  obtain ⟨ck, hck⟩ := HK2.out.blk
  obtain ⟨cj, hcj⟩ := HJ2.out.blk
  obtain ⟨cq, hcq⟩ := HQ2.out.blk
  have hat := at2 hck hcq tKu tQu
  have bP3 := HP2.out.fr hF3 (nin2 (HP2.out.ne hck tPk) (HP2.out.ne hcq tPq))
  have bG3 := HG2.out.fr hF3 (nin2 (HG2.out.ne hck tGk) (HG2.out.ne hcq tGq))
  have hD3 := HD2.out.fr hF3 (nin2 (hcb.ne hck tRD.symm) (hcb.ne hcq tDQ)) hat
  have hJ3 := HJ2.out.fr hF3 (nin2 (hcj.ne hck tRJ.symm) (hcj.ne hcq tJQ)) hat
  have hB3 := hF3.below (B := B) (by intro k hk; simp at hk; omega) (by have := HP2.out.lt; omega)
  have HP3 : Hid (Pr2 w3 p b r j q (Pl.svD D J g.im) (Pl.svJ D J g.im)) := Lib.hid ⟨bP3, hD3, hK3, hJ3, hQ3⟩
  have hS3 : (fun W : World => W.cell? ⟨p, 0, none⟩ = some (ptr b) ∧ W.cell? ⟨p, 1, none⟩ = some (ptr r) ∧ W.cell? ⟨p, 2, none⟩ = some (ptr j) ∧ W.cell? ⟨p, 3, none⟩ = some (ptr q) ∧ W.cell? ⟨G, 5, none⟩ = some (.slice g.a n g.c)) w3 := ⟨bP3.cell 0, bP3.cell 1, bP3.cell 2, bP3.cell 3, by rw [← HN.out]; exact bG3.cell 5⟩
  have HB3 := Lib.hid (HB2.out.trans hB3)
  refine hK _ _ ⟨hS3, ?_⟩
  clear hK K hS2 hat hF3 hcb hck hcj hcq cb ck cj cq bP3 bG3 hD3 hJ3 hK3 hQ3 hB3 HP2 HK2 HQ2 HD2 HJ2 HG2 HB2 HSQ
  have hEE : (E == E) = true := by simp
  refine takeD (i := 14) (d := some 26) (v := ?_) rfl rfl (by kernel_rfl) (by decide +kernel) (by decide +kernel) (fun _ _ _ h => h) (Or.inl ⟨by first | kernel_rfl | rfl, ?_⟩) hS3 ?_
  rotate_left
  · intro w' hT; obtain ⟨p0, p1, p2, p3, c5⟩ := hT; first | (go_simp; done) | (go_simp; with_reducible rfl)
  refine takeD (i := 15) (d := some 27) (v := ?_) rfl rfl (by kernel_rfl) (by decide +kernel) (by decide +kernel) (fun _ _ _ h => h) (Or.inl ⟨by first | kernel_rfl | rfl, ?_⟩) hS3 ?_
  rotate_left
  · intro w' hT; obtain ⟨p0, p1, p2, p3, c5⟩ := hT; first | (go_simp; done) | (go_simp; with_reducible rfl)
  refine takeD (i := 16) (d := some 28) (v := ?_) rfl rfl (by kernel_rfl) (by decide +kernel) (by decide +kernel) (fun _ _ _ h => h) (Or.inl ⟨by first | kernel_rfl | rfl, ?_⟩) hS3 ?_
  rotate_left
  · intro w' hT; obtain ⟨p0, p1, p2, p3, c5⟩ := hT; first | (go_simp; done) | (go_simp; with_reducible rfl)
  refine takeD (i := 17) (d := some 29) (v := ?_) rfl rfl (by kernel_rfl) (by decide +kernel) (by decide +kernel) (fun _ _ _ h => h) (Or.inl ⟨by first | kernel_rfl | rfl, ?_⟩) hS3 ?_
  rotate_left
  · intro w' hT; obtain ⟨p0, p1, p2, p3, c5⟩ := hT; first | (go_simp; done) | (go_simp; with_reducible rfl)
  refine takeD (i := 18) (d := some 30) (v := ?_) rfl rfl (by kernel_rfl) (by decide +kernel) (by decide +kernel) (fun _ _ _ h => h) (Or.inl ⟨by first | kernel_rfl | rfl, ?_⟩) hS3 ?_
  rotate_left
  · intro w' hT; obtain ⟨p0, p1, p2, p3, c5⟩ := hT; first | (go_simp; done) | (go_simp; with_reducible rfl)
  refine takeD (i := 19) (d := some 31) (v := ?_) rfl rfl (by kernel_rfl) (by decide +kernel) (by decide +kernel) (fun _ _ _ h => h) (Or.inl ⟨by first | kernel_rfl | rfl, ?_⟩) hS3 ?_
  rotate_left
  · intro w' hT; obtain ⟨p0, p1, p2, p3, c5⟩ := hT; first | (go_simp; done) | (go_simp; with_reducible rfl)
  refine takeD (i := 20) (d := some 32) (v := ?_) rfl rfl (by kernel_rfl) (by decide +kernel) (by decide +kernel) (fun _ _ _ h => h) (Or.inl ⟨by first | kernel_rfl | rfl, ?_⟩) hS3 ?_
  rotate_left
  · intro w' hT; obtain ⟨p0, p1, p2, p3, c5⟩ := hT; first | (go_simp; done) | (go_simp; with_reducible rfl)
  refine takeD (i := 21) (d := some 33) (v := ?_) rfl rfl (by kernel_rfl) (by decide +kernel) (by decide +kernel) (fun _ _ _ h => h) (Or.inl ⟨by first | kernel_rfl | rfl, ?_⟩) hS3 ?_
  rotate_left
  · intro w' hT; obtain ⟨p0, p1, p2, p3, c5⟩ := hT; first | (go_simp; done) | (go_simp; with_reducible rfl)
  refine takeD (i := 22) (d := some 34) (v := ?_) rfl rfl (by kernel_rfl) (by decide +kernel) (by decide +kernel) (fun _ _ _ h => h) (Or.inl ⟨by first | kernel_rfl | rfl, ?_⟩) hS3 ?_
  rotate_left
  · intro w' hT; obtain ⟨p0, p1, p2, p3, c5⟩ := hT; first | (go_simp; done) | (go_simp; with_reducible rfl)
  refine takeD (i := 23) (d := some 35) (v := ?_) rfl rfl (by kernel_rfl) (by decide +kernel) (by decide +kernel) (fun _ _ _ h => h) (Or.inl ⟨by first | kernel_rfl | rfl, ?_⟩) hS3 ?_
  rotate_left
  · intro w' hT; obtain ⟨p0, p1, p2, p3, c5⟩ := hT; first | (go_simp; done) | (go_simp; with_reducible rfl)
  refine actNorm (fun a' ha => ?_)
  simp [go_sem] at ha
  subst ha
  have HAL := Lib.hid (alike_any HP3.out.d HP3.out.k (sv_sz hz hj g.im).1)
  refine wpAnyH_all (rs := [24]) (by decide +kernel) (by simp) ?_
  intro i0 hi0
  have hi1 := List.mem_singleton.1 hi0
  clear hi0
  subst hi1
  refine wpOp_go rfl (by kernel_rfl) (fun K hK => ?_)
  go_simp
  refine (HAL.out).mono ?_
  rintro e w4 ⟨rfl, hb4⟩
  have hP4 := HP3.out.below hb4
  have HP4 := Lib.hid hP4
  have HB4 := Lib.hid (HB3.out.trans (hb4.mono (by have := HP3.out.blk.lt; omega)))
  have hS4 : (fun W : World => W.cell? ⟨p, 0, none⟩ = some (ptr b) ∧ W.cell? ⟨p, 1, none⟩ = some (ptr r) ∧ W.cell? ⟨p, 2, none⟩ = some (ptr j) ∧ W.cell? ⟨p, 3, none⟩ = some (ptr q) ∧ W.cell? ⟨G, 5, none⟩ = some (.slice g.a n g.c)) w4 := by
    obtain ⟨s0, s1, s2, s3, s4⟩ := hS3
    exact ⟨hP4.blk.cell 0, hP4.blk.cell 1, hP4.blk.cell 2, hP4.blk.cell 3, (hb4.cell (p := ⟨G, 5, none⟩) (lt_of_cell s4)).trans s4⟩
  refine hK _ _ ⟨hS4, ?_⟩
  clear hK K hS3 hP4 hb4 HAL
  refine takeD (i := 25) (d := some 37) (v := ?_) rfl rfl (by kernel_rfl) (by decide +kernel) (by decide +kernel) (fun _ _ _ h => h) (Or.inl ⟨by first | kernel_rfl | rfl, ?_⟩) hS4 ?_
  rotate_left
  · intro w' hT; obtain ⟨p0, p1, p2, p3, c5⟩ := hT; first | (go_simp; done) | (go_simp; with_reducible rfl)
  refine takeD (i := 26) (d := some 4) (v := ?_) rfl rfl (by kernel_rfl) (by decide +kernel) (by decide +kernel) (fun _ _ _ h => h) (Or.inl ⟨by first | kernel_rfl | rfl, ?_⟩) hS4 ?_
  rotate_left
  · intro w' hT; obtain ⟨p0, p1, p2, p3, c5⟩ := hT; first | (go_simp; done) | (go_simp; with_reducible rfl)
  refine actNorm (fun a' ha => ?_)
  simp [go_sem] at ha
  subst ha
  refine wpAnyH_done (by decide +kernel) ?_ _
  clear hS4
  go_wp2
  go_ret
  exact ⟨rfl, HP4.out, HB4.out⟩
end Go.Proofs.Ytalfffkcmddakab
