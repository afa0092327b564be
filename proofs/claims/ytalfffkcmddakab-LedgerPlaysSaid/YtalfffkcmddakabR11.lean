/- A step of a pair that opens the journals anew, or that is an act of the disk; any step. -/
import Derived.Test.YtalfffkcmddakabR10
namespace Go.Proofs.Ytalfffkcmddakab
open Go.RowKit Go.Shelf

theorem tAd : (31 : TypeId) ≠ 39 := by decide
theorem tAk : (31 : TypeId) ≠ 82 := by decide
set_option maxRecDepth 100000 in
set_option maxHeartbeats 8000000 in
theorem does_open {w : World} {p b r j q B : Nat} {D : Pl.Dk} {J : Pl.Jn} (h : Pr2 w p b r j q D J) (g : Pl.Gs) (J' : Pl.Jn) (hJ' : (if D.up = true then Pl.opn D else J) = J') (hg : 0 ≤ g.x.k) (hQ : Pl.plQ g = 6) (hB : B ≤ p ∧ B ≤ b ∧ B ≤ r ∧ B ≤ j ∧ B ≤ q) :
    Calls Try.prog 20 #[ptr p, .agg (gsA g)] w fun e w' => e = .returned (.bool true) ∧ (∃ j' q', B ≤ j' ∧ B ≤ q' ∧ Pr2 w' p b r j' q' D J') ∧ Below B w w' := by
  have HJ := Lib.hid hJ'
  clear hJ'
  have hA := (Below.refl w.heap.size w).alloc (Nat.le_refl _) (.cells (gsA g) 50)
  have bG := Blk.new w 50 (gsA g)
  have h1 := h.below hA
  have hpl := h.blk.lt
  have k0 := bG.cell 0
  have kq : g.x.k.tmod 7 = 6 := by
    rw [Int.tmod_eq_emod_of_nonneg hg]; exact hQ
  have HO := Lib.hid (popen_any h1.blk h1.d h1.k)
  have HH := Lib.hid h1
  have hBw : B ≤ (w.alloc (.cells (gsA g) 50)).heap.size := by have := hA.size; omega
  have HA := Lib.hid (hA.mono (show B ≤ w.heap.size by omega))
  clear h hg hA h1 bG hQ
  go_enter Try.func20, Try.ntmps20
  go_wp2_with fail
  clear k0
  generalize w.alloc (.cells (gsA g) 50) = W0 at *
  refine HO.out.mono ?_
  rintro e w1 ⟨rfl, hF, hy, hn⟩
  have HB1 := Lib.hid (HA.out.trans (hF.below (B := B) (by intro k hk; simp at hk; omega) hBw))
  have HY := Lib.hid hy
  have HN := Lib.hid hn
  clear hF hy hn
  go_wp2
  go_ret
  refine ⟨rfl, ?_, HB1.out⟩
  by_cases hu : D.up = true
  · obtain ⟨j', q', h1, h2, h3⟩ := HY.out hu
    exact ⟨j', q', by omega, by omega, by rw [← HJ.out, if_pos hu]; exact h3⟩
  · exact ⟨j, q, by omega, by omega, by rw [← HJ.out, if_neg hu]; exact HH.out.below (HN.out (by simpa using hu))⟩
set_option maxRecDepth 100000 in
set_option maxHeartbeats 8000000 in
theorem does_act {w : World} {p b r j q B : Nat} {D : Pl.Dk} {J : Pl.Jn} (h : Pr2 w p b r j q D J) (hz : Sz D) (hst : D.st < 4611686018427387904) (g : Pl.Gs) (hg : GsIn w g) (hl : g.x.b.length ≤ 100000) (hQ : Pl.plQ g ≠ 5) (hQ6 : Pl.plQ g ≠ 6) (hB : B ≤ p ∧ B ≤ b ∧ B ≤ r ∧ B ≤ j ∧ B ≤ q) :
    Calls Try.prog 20 #[ptr p, .agg (gsA g)] w fun e w' => e = .returned (.bool true) ∧ Pr2 w' p b r j q (acD D g.x (Pl.plQ g % 5)) J ∧ Below B w w' := by
  obtain ⟨x, hx⟩ : ∃ x : Pl.Ac, x = { g.x with k := Pl.plQ g } := ⟨_, rfl⟩
  have hA0 := (Below.refl w.heap.size w).alloc (Nat.le_refl _) (.cells (gsA g) 50)
  have hA := hA0.alloc (by simp) (.cells (acA x) 31)
  have bG := Blk.new w 50 (gsA g)
  have bX := Blk.new (w.alloc (.cells (gsA g) 50)) 31 (acA x)
  have rG : (w.alloc (.cells (gsA g) 50)).rangeAt w.heap.size 0 (acL g.x) := fun i v hv => bG.range i v (by
    match i, hv with
    | 0, hv => exact hv
    | 1, hv => exact hv
    | 2, hv => exact hv
    | 3, hv => exact hv
    | 4, hv => exact hv)
  have h1 := h.below hA
  have hg1 := (hg.below hA).ac
  have hx0 : ∀ W, AcIn W g.x → AcIn W x := fun W h => by
    rw [hx]
    exact ⟨h.b, by show 0 ≤ g.x.k % 7; omega, by show g.x.k % 7 ≤ 255; omega, h.n⟩
  have hx1 := hx0 _ hg1
  have hpl := h.blk.lt
  have hBw : B ≤ w.heap.size := by omega
  have k0 : (w.alloc (.cells (gsA g) 50)).cell? ⟨w.heap.size, 0, none⟩ = some (.int .u8 g.x.k) := bG.cell 0
  have kq : g.x.k.tmod 7 = Pl.plQ g := by
    rw [Int.tmod_eq_emod_of_nonneg hg.ac.k0]; rfl
  have e5 : (Pl.plQ g == 5) = false := by simpa using hQ
  have e6 : (Pl.plQ g == 6) = false := by simpa using hQ6
  have HX : Hid (acD D x (x.k % 5) = acD D g.x (Pl.plQ g % 5)) := Lib.hid (by rw [hx]; rfl)
  have HXA : Hid (acA x = #[.int .u8 (Pl.plQ g), .int .i64 g.x.s, .int .i64 g.x.n, .int .i64 g.x.kp, .slice g.x.a g.x.b.length g.x.c]) := Lib.hid (by rw [hx])
  have hxl : x.b.length ≤ 100000 := by rw [hx]; exact hl
  have HXL := Lib.hid hxl
  have hwq : IntKind.u8.wrap (Pl.plQ g) = Pl.plQ g := by
    have : 0 ≤ Pl.plQ g ∧ Pl.plQ g < 7 := ⟨Int.emod_nonneg _ (by decide), Int.emod_lt_of_pos _ (by decide)⟩
    obtain ⟨t, ht⟩ : ∃ t : Nat, Pl.plQ g = (t : Int) := ⟨(Pl.plQ g).toNat, by omega⟩
    rw [ht]
    have : t < 7 := by omega
    match t, this with
    | 0, _ => rfl
    | 1, _ => rfl
    | 2, _ => rfl
    | 3, _ => rfl
    | 4, _ => rfl
    | 5, _ => rfl
    | 6, _ => rfl
  rw [HXA.out] at bX hA h1 hx1 hg1
  simp only [World.size_alloc] at bX
  have HH := Lib.hid h1
  have HXI := Lib.hid hx1
  have HBX := Lib.hid bX
  have HA := Lib.hid hA
  clear h hg hA h1 hg1 bG hQ hQ6 hx0 hx1 bX hx hA0 hxl
  go_enter Try.func20, Try.ntmps20
  go_wp2_with (refine ldm_ac (s := g.x) rG rfl _ rfl rfl ?_)
  clear rG k0
  obtain ⟨X, hX⟩ : ∃ X, w.heap.size + 1 = X := ⟨_, rfl⟩
  rw [hX] at HBX ⊢
  have hpX : p ≠ X := by omega
  have hBX : B ≤ X := by omega
  have HBw := Lib.hid (show B ≤ w.heap.size by omega)
  have HA := Lib.hid (HA.out.mono HBw.out)
  clear hX
  generalize (w.alloc (.cells (gsA g) 50)).alloc (.cells #[.int .u8 (Pl.plQ g), .int .i64 g.x.s, .int .i64 g.x.n, .int .i64 g.x.kp, .slice g.x.a g.x.b.length g.x.c] 31) = W0 at *
  refine wp_region_held (S := fun W => W.cell? ⟨p, 0, none⟩ = some (ptr b) ∧ W.cell? ⟨p, 1, none⟩ = some (ptr r) ∧ W.rangeAt X 0 (acL x)) (by kernel_rfl) ?_
  change wpAnyH _ _ _ _ _ _ _ _ (World.drew _)
  have hdr : Below W0.heap.size W0 W0.drew := (Below.refl _ _).drew
  have hBX0 := HBX.out.lt
  have HH1 := Lib.hid (HH.out.below hdr)
  have HX1 := Lib.hid (HXI.out.below hdr)
  have hbx := HBX.out.below hdr hBX0
  rw [← HXA.out] at hbx
  have HBX1 := Lib.hid hbx
  have HA1 := Lib.hid (HA.out.trans (hdr.mono (by have := HH.out.blk.lt; omega)))
  have hS : (fun W : World => W.cell? ⟨p, 0, none⟩ = some (ptr b) ∧ W.cell? ⟨p, 1, none⟩ = some (ptr r) ∧ W.rangeAt X 0 (acL x)) W0.drew := ⟨HH1.out.blk.cell 0, HH1.out.blk.cell 1, HBX1.out.range⟩
  clear hdr HH HXI HBX hbx HA
  generalize W0.drew = W1 at *
  refine takeD (i := 0) (d := some 48) (v := ?_) rfl rfl (by kernel_rfl) (by decide +kernel) (by decide +kernel) (fun _ _ _ h => h) (Or.inl ⟨by first | kernel_rfl | rfl, ?_⟩) hS ?_
  rotate_left
  · intro w' hT; obtain ⟨p0, p1, rX⟩ := hT; have x0 : _ = some (Value.int .u8 x.k) := rX 0 _ rfl; have x1 : _ = some (Value.int .i64 x.s) := rX 1 _ rfl; have x2 : _ = some (Value.int .i64 x.n) := rX 2 _ rfl; have x3 : _ = some (Value.int .i64 x.kp) := rX 3 _ rfl; have x4 : _ = some (Value.slice x.a x.b.length x.c) := rX 4 _ rfl; first | (go_simp; done) | (go_simp; with_reducible rfl)
  refine takeD (i := 1) (d := some 49) (v := ?_) rfl rfl (by kernel_rfl) (by decide +kernel) (by decide +kernel) (fun _ _ _ h => h) (Or.inl ⟨by first | kernel_rfl | rfl, ?_⟩) hS ?_
  rotate_left
  · intro w' hT; obtain ⟨p0, p1, rX⟩ := hT; have x0 : _ = some (Value.int .u8 x.k) := rX 0 _ rfl; have x1 : _ = some (Value.int .i64 x.s) := rX 1 _ rfl; have x2 : _ = some (Value.int .i64 x.n) := rX 2 _ rfl; have x3 : _ = some (Value.int .i64 x.kp) := rX 3 _ rfl; have x4 : _ = some (Value.slice x.a x.b.length x.c) := rX 4 _ rfl; first | (go_simp; done) | (go_simp; with_reducible rfl)
  refine takeD (i := 2) (d := some 50) (v := ?_) rfl rfl (by kernel_rfl) (by decide +kernel) (by decide +kernel) (fun _ _ _ h => h) (Or.inl ⟨by first | kernel_rfl | rfl, ?_⟩) hS ?_
  rotate_left
  · intro w' hT; obtain ⟨p0, p1, rX⟩ := hT; have x0 : _ = some (Value.int .u8 x.k) := rX 0 _ rfl; have x1 : _ = some (Value.int .i64 x.s) := rX 1 _ rfl; have x2 : _ = some (Value.int .i64 x.n) := rX 2 _ rfl; have x3 : _ = some (Value.int .i64 x.kp) := rX 3 _ rfl; have x4 : _ = some (Value.slice x.a x.b.length x.c) := rX 4 _ rfl; first | (go_simp; done) | (go_simp; with_reducible rfl)
  refine takeD (i := 3) (d := some 51) (v := ?_) rfl rfl (by kernel_rfl) (by decide +kernel) (by decide +kernel) (fun _ _ _ h => h) (Or.inl ⟨by first | kernel_rfl | rfl, ?_⟩) hS ?_
  rotate_left
  · intro w' hT; obtain ⟨p0, p1, rX⟩ := hT; have x0 : _ = some (Value.int .u8 x.k) := rX 0 _ rfl; have x1 : _ = some (Value.int .i64 x.s) := rX 1 _ rfl; have x2 : _ = some (Value.int .i64 x.n) := rX 2 _ rfl; have x3 : _ = some (Value.int .i64 x.kp) := rX 3 _ rfl; have x4 : _ = some (Value.slice x.a x.b.length x.c) := rX 4 _ rfl; first | (go_simp; done) | (go_simp; with_reducible rfl)
  refine takeD (i := 4) (d := some 52) (v := ?_) rfl rfl (by kernel_rfl) (by decide +kernel) (by decide +kernel) (fun _ _ _ h => h) (Or.inl ⟨by first | kernel_rfl | rfl, ?_⟩) hS ?_
  rotate_left
  · intro w' hT; obtain ⟨p0, p1, rX⟩ := hT; have x0 : _ = some (Value.int .u8 x.k) := rX 0 _ rfl; have x1 : _ = some (Value.int .i64 x.s) := rX 1 _ rfl; have x2 : _ = some (Value.int .i64 x.n) := rX 2 _ rfl; have x3 : _ = some (Value.int .i64 x.kp) := rX 3 _ rfl; have x4 : _ = some (Value.slice x.a x.b.length x.c) := rX 4 _ rfl; first | (go_simp; done) | (go_simp; with_reducible rfl)
  refine takeD (i := 5) (d := some 53) (v := ?_) rfl rfl (by kernel_rfl) (by decide +kernel) (by decide +kernel) (fun _ _ _ h => h) (Or.inl ⟨by first | kernel_rfl | rfl, ?_⟩) hS ?_
  rotate_left
  · intro w' hT; obtain ⟨p0, p1, rX⟩ := hT; have x0 : _ = some (Value.int .u8 x.k) := rX 0 _ rfl; have x1 : _ = some (Value.int .i64 x.s) := rX 1 _ rfl; have x2 : _ = some (Value.int .i64 x.n) := rX 2 _ rfl; have x3 : _ = some (Value.int .i64 x.kp) := rX 3 _ rfl; have x4 : _ = some (Value.slice x.a x.b.length x.c) := rX 4 _ rfl; first | (go_simp; done) | (go_simp; with_reducible rfl)
  refine takeD (i := 6) (d := some 54) (v := ?_) rfl rfl (by kernel_rfl) (by decide +kernel) (by decide +kernel) (fun _ _ _ h => h) (Or.inl ⟨by first | kernel_rfl | rfl, ?_⟩) hS ?_
  rotate_left
  · intro w' hT; obtain ⟨p0, p1, rX⟩ := hT; have x0 : _ = some (Value.int .u8 x.k) := rX 0 _ rfl; have x1 : _ = some (Value.int .i64 x.s) := rX 1 _ rfl; have x2 : _ = some (Value.int .i64 x.n) := rX 2 _ rfl; have x3 : _ = some (Value.int .i64 x.kp) := rX 3 _ rfl; have x4 : _ = some (Value.slice x.a x.b.length x.c) := rX 4 _ rfl; first | (go_simp; done) | (go_simp; with_reducible rfl)
  refine takeD (i := 7) (d := some 55) (v := ?_) rfl rfl (by kernel_rfl) (by decide +kernel) (by decide +kernel) (fun _ _ _ h => h) (Or.inl ⟨by first | kernel_rfl | rfl, ?_⟩) hS ?_
  rotate_left
  · intro w' hT; obtain ⟨p0, p1, rX⟩ := hT; have x0 : _ = some (Value.int .u8 x.k) := rX 0 _ rfl; have x1 : _ = some (Value.int .i64 x.s) := rX 1 _ rfl; have x2 : _ = some (Value.int .i64 x.n) := rX 2 _ rfl; have x3 : _ = some (Value.int .i64 x.kp) := rX 3 _ rfl; have x4 : _ = some (Value.slice x.a x.b.length x.c) := rX 4 _ rfl; first | (go_simp; done) | (go_simp; with_reducible rfl)
  refine takeD (i := 8) (d := some 56) (v := .agg (acA x)) rfl rfl (by kernel_rfl) (by decide +kernel) (by decide +kernel) (fun _ _ _ h => h) (Or.inl ⟨by first | kernel_rfl | rfl, ?_⟩) hS ?_
  · intro w' hT; obtain ⟨p0, p1, rX⟩ := hT; have x0 : _ = some (Value.int .u8 x.k) := rX 0 _ rfl; have x1 : _ = some (Value.int .i64 x.s) := rX 1 _ rfl; have x2 : _ = some (Value.int .i64 x.n) := rX 2 _ rfl; have x3 : _ = some (Value.int .i64 x.kp) := rX 3 _ rfl; have x4 : _ = some (Value.slice x.a x.b.length x.c) := rX 4 _ rfl; first | (go_simp; done) | (go_simp; with_reducible rfl)
  refine actNorm (fun a' ha => ?_)
  simp [go_sem] at ha
  subst ha
  have HAC := Lib.hid (act_any HH1.out.d HH1.out.k hz hst x HX1.out HXL.out)
  refine wpAnyH_all (rs := [9]) (by decide +kernel) (by simp) ?_
  intro i0 hi0
  have hi1 := List.mem_singleton.1 hi0
  clear hi0
  subst hi1
  refine wpOp_go rfl (by kernel_rfl) (fun K hK => ?_)
  go_simp
  refine (HAC.out).mono ?_
  rintro e w2 ⟨rfl, hD2, hK2, hF2⟩
  rw [HX.out] at hD2 hK2
  obtain ⟨cb, hcb⟩ := HH1.out.d.blk
  obtain ⟨ck, hck⟩ := HH1.out.k.blk
  obtain ⟨cj, hcj⟩ := HH1.out.j.blk
  obtain ⟨cq, hcq⟩ := HH1.out.q.blk
  have hat := at2 hcb hck tDk tKu
  have bP2 := HH1.out.blk.fr hF2 (nin2 (HH1.out.blk.ne hcb tPd) (HH1.out.blk.ne hck tPk))
  have bX2 := HBX1.out.fr hF2 (nin2 (HBX1.out.ne hcb tAd) (HBX1.out.ne hck tAk))
  have hJ2 := HH1.out.j.fr hF2 (nin2 (hcj.ne hcb tDJ.symm) (hcj.ne hck tRJ.symm)) hat
  have hQ2 := HH1.out.q.fr hF2 (nin2 (hcq.ne hcb tDQ.symm) (hcq.ne hck tKD.symm)) hat
  have hB2 := hF2.below (B := B) (by intro k hk; simp at hk; omega) (by have := HH1.out.blk.lt; omega)
  have HP2 : Hid (Pr2 w2 p b r j q (acD D g.x (Pl.plQ g % 5)) J) := Lib.hid ⟨bP2, hD2, hK2, hJ2, hQ2⟩
  have HB2 := Lib.hid (HA1.out.trans hB2)
  have hS2 : (fun W : World => W.cell? ⟨p, 0, none⟩ = some (ptr b) ∧ W.cell? ⟨p, 1, none⟩ = some (ptr r) ∧ W.rangeAt X 0 (acL x)) w2 := ⟨bP2.cell 0, bP2.cell 1, bX2.range⟩
  refine hK _ _ ⟨hS2, ?_⟩
  clear hK K hS hat hF2 hcb hck hcj hcq cb ck cj cq bP2 bX2 hD2 hK2 hJ2 hQ2 hB2 HAC HH1 HX1 HBX1 HA1
  refine takeD (i := 10) (d := some 58) (v := ?_) rfl rfl (by kernel_rfl) (by decide +kernel) (by decide +kernel) (fun _ _ _ h => h) (Or.inl ⟨by first | kernel_rfl | rfl, ?_⟩) hS2 ?_
  rotate_left
  · intro w' hT; obtain ⟨p0, p1, rX⟩ := hT; have x0 : _ = some (Value.int .u8 x.k) := rX 0 _ rfl; have x1 : _ = some (Value.int .i64 x.s) := rX 1 _ rfl; have x2 : _ = some (Value.int .i64 x.n) := rX 2 _ rfl; have x3 : _ = some (Value.int .i64 x.kp) := rX 3 _ rfl; have x4 : _ = some (Value.slice x.a x.b.length x.c) := rX 4 _ rfl; first | (go_simp; done) | (go_simp; with_reducible rfl)
  refine takeD (i := 11) (d := some 59) (v := ?_) rfl rfl (by kernel_rfl) (by decide +kernel) (by decide +kernel) (fun _ _ _ h => h) (Or.inl ⟨by first | kernel_rfl | rfl, ?_⟩) hS2 ?_
  rotate_left
  · intro w' hT; obtain ⟨p0, p1, rX⟩ := hT; have x0 : _ = some (Value.int .u8 x.k) := rX 0 _ rfl; have x1 : _ = some (Value.int .i64 x.s) := rX 1 _ rfl; have x2 : _ = some (Value.int .i64 x.n) := rX 2 _ rfl; have x3 : _ = some (Value.int .i64 x.kp) := rX 3 _ rfl; have x4 : _ = some (Value.slice x.a x.b.length x.c) := rX 4 _ rfl; first | (go_simp; done) | (go_simp; with_reducible rfl)
  refine takeD (i := 12) (d := some 60) (v := ?_) rfl rfl (by kernel_rfl) (by decide +kernel) (by decide +kernel) (fun _ _ _ h => h) (Or.inl ⟨by first | kernel_rfl | rfl, ?_⟩) hS2 ?_
  rotate_left
  · intro w' hT; obtain ⟨p0, p1, rX⟩ := hT; have x0 : _ = some (Value.int .u8 x.k) := rX 0 _ rfl; have x1 : _ = some (Value.int .i64 x.s) := rX 1 _ rfl; have x2 : _ = some (Value.int .i64 x.n) := rX 2 _ rfl; have x3 : _ = some (Value.int .i64 x.kp) := rX 3 _ rfl; have x4 : _ = some (Value.slice x.a x.b.length x.c) := rX 4 _ rfl; first | (go_simp; done) | (go_simp; with_reducible rfl)
  refine takeD (i := 13) (d := some 61) (v := ?_) rfl rfl (by kernel_rfl) (by decide +kernel) (by decide +kernel) (fun _ _ _ h => h) (Or.inl ⟨by first | kernel_rfl | rfl, ?_⟩) hS2 ?_
  rotate_left
  · intro w' hT; obtain ⟨p0, p1, rX⟩ := hT; have x0 : _ = some (Value.int .u8 x.k) := rX 0 _ rfl; have x1 : _ = some (Value.int .i64 x.s) := rX 1 _ rfl; have x2 : _ = some (Value.int .i64 x.n) := rX 2 _ rfl; have x3 : _ = some (Value.int .i64 x.kp) := rX 3 _ rfl; have x4 : _ = some (Value.slice x.a x.b.length x.c) := rX 4 _ rfl; first | (go_simp; done) | (go_simp; with_reducible rfl)
  refine takeD (i := 14) (d := some 62) (v := ?_) rfl rfl (by kernel_rfl) (by decide +kernel) (by decide +kernel) (fun _ _ _ h => h) (Or.inl ⟨by first | kernel_rfl | rfl, ?_⟩) hS2 ?_
  rotate_left
  · intro w' hT; obtain ⟨p0, p1, rX⟩ := hT; have x0 : _ = some (Value.int .u8 x.k) := rX 0 _ rfl; have x1 : _ = some (Value.int .i64 x.s) := rX 1 _ rfl; have x2 : _ = some (Value.int .i64 x.n) := rX 2 _ rfl; have x3 : _ = some (Value.int .i64 x.kp) := rX 3 _ rfl; have x4 : _ = some (Value.slice x.a x.b.length x.c) := rX 4 _ rfl; first | (go_simp; done) | (go_simp; with_reducible rfl)
  refine takeD (i := 15) (d := some 63) (v := ?_) rfl rfl (by kernel_rfl) (by decide +kernel) (by decide +kernel) (fun _ _ _ h => h) (Or.inl ⟨by first | kernel_rfl | rfl, ?_⟩) hS2 ?_
  rotate_left
  · intro w' hT; obtain ⟨p0, p1, rX⟩ := hT; have x0 : _ = some (Value.int .u8 x.k) := rX 0 _ rfl; have x1 : _ = some (Value.int .i64 x.s) := rX 1 _ rfl; have x2 : _ = some (Value.int .i64 x.n) := rX 2 _ rfl; have x3 : _ = some (Value.int .i64 x.kp) := rX 3 _ rfl; have x4 : _ = some (Value.slice x.a x.b.length x.c) := rX 4 _ rfl; first | (go_simp; done) | (go_simp; with_reducible rfl)
  refine takeD (i := 16) (d := some 64) (v := ?_) rfl rfl (by kernel_rfl) (by decide +kernel) (by decide +kernel) (fun _ _ _ h => h) (Or.inl ⟨by first | kernel_rfl | rfl, ?_⟩) hS2 ?_
  rotate_left
  · intro w' hT; obtain ⟨p0, p1, rX⟩ := hT; have x0 : _ = some (Value.int .u8 x.k) := rX 0 _ rfl; have x1 : _ = some (Value.int .i64 x.s) := rX 1 _ rfl; have x2 : _ = some (Value.int .i64 x.n) := rX 2 _ rfl; have x3 : _ = some (Value.int .i64 x.kp) := rX 3 _ rfl; have x4 : _ = some (Value.slice x.a x.b.length x.c) := rX 4 _ rfl; first | (go_simp; done) | (go_simp; with_reducible rfl)
  refine takeD (i := 17) (d := some 65) (v := ?_) rfl rfl (by kernel_rfl) (by decide +kernel) (by decide +kernel) (fun _ _ _ h => h) (Or.inl ⟨by first | kernel_rfl | rfl, ?_⟩) hS2 ?_
  rotate_left
  · intro w' hT; obtain ⟨p0, p1, rX⟩ := hT; have x0 : _ = some (Value.int .u8 x.k) := rX 0 _ rfl; have x1 : _ = some (Value.int .i64 x.s) := rX 1 _ rfl; have x2 : _ = some (Value.int .i64 x.n) := rX 2 _ rfl; have x3 : _ = some (Value.int .i64 x.kp) := rX 3 _ rfl; have x4 : _ = some (Value.slice x.a x.b.length x.c) := rX 4 _ rfl; first | (go_simp; done) | (go_simp; with_reducible rfl)
  refine takeD (i := 18) (d := some 66) (v := ?_) rfl rfl (by kernel_rfl) (by decide +kernel) (by decide +kernel) (fun _ _ _ h => h) (Or.inl ⟨by first | kernel_rfl | rfl, ?_⟩) hS2 ?_
  rotate_left
  · intro w' hT; obtain ⟨p0, p1, rX⟩ := hT; have x0 : _ = some (Value.int .u8 x.k) := rX 0 _ rfl; have x1 : _ = some (Value.int .i64 x.s) := rX 1 _ rfl; have x2 : _ = some (Value.int .i64 x.n) := rX 2 _ rfl; have x3 : _ = some (Value.int .i64 x.kp) := rX 3 _ rfl; have x4 : _ = some (Value.slice x.a x.b.length x.c) := rX 4 _ rfl; first | (go_simp; done) | (go_simp; with_reducible rfl)
  refine actNorm (fun a' ha => ?_)
  simp [go_sem] at ha
  subst ha
  have HAL := Lib.hid (alike_any HP2.out.d HP2.out.k (ac_sz hz g.x (Pl.plQ g % 5) hl).1)
  refine wpAnyH_all (rs := [19]) (by decide +kernel) (by simp) ?_
  intro i0 hi0
  have hi1 := List.mem_singleton.1 hi0
  clear hi0
  subst hi1
  refine wpOp_go rfl (by kernel_rfl) (fun K hK => ?_)
  go_simp
  refine (HAL.out).mono ?_
  rintro e w4 ⟨rfl, hb4⟩
  have hP4 := HP2.out.below hb4
  have HP4 := Lib.hid hP4
  have HB4 := Lib.hid (HB2.out.trans (hb4.mono (by have := HP2.out.blk.lt; omega)))
  have hS4 : (fun W : World => W.cell? ⟨p, 0, none⟩ = some (ptr b) ∧ W.cell? ⟨p, 1, none⟩ = some (ptr r) ∧ W.rangeAt X 0 (acL x)) w4 := by
    obtain ⟨s0, s1, s2⟩ := hS2
    exact ⟨hP4.blk.cell 0, hP4.blk.cell 1, fun i v hv => (hb4.cell (p := ⟨X, 0 + i, none⟩) (lt_of_cell (s2 0 _ rfl))).trans (s2 i v hv)⟩
  refine hK _ _ ⟨hS4, ?_⟩
  clear hK K hS2 hP4 hb4 HAL
  refine takeD (i := 20) (d := some 68) (v := ?_) rfl rfl (by kernel_rfl) (by decide +kernel) (by decide +kernel) (fun _ _ _ h => h) (Or.inl ⟨by first | kernel_rfl | rfl, ?_⟩) hS4 ?_
  rotate_left
  · intro w' hT; obtain ⟨p0, p1, rX⟩ := hT; have x0 : _ = some (Value.int .u8 x.k) := rX 0 _ rfl; have x1 : _ = some (Value.int .i64 x.s) := rX 1 _ rfl; have x2 : _ = some (Value.int .i64 x.n) := rX 2 _ rfl; have x3 : _ = some (Value.int .i64 x.kp) := rX 3 _ rfl; have x4 : _ = some (Value.slice x.a x.b.length x.c) := rX 4 _ rfl; first | (go_simp; done) | (go_simp; with_reducible rfl)
  refine takeD (i := 21) (d := some 4) (v := ?_) rfl rfl (by kernel_rfl) (by decide +kernel) (by decide +kernel) (fun _ _ _ h => h) (Or.inl ⟨by first | kernel_rfl | rfl, ?_⟩) hS4 ?_
  rotate_left
  · intro w' hT; obtain ⟨p0, p1, rX⟩ := hT; have x0 : _ = some (Value.int .u8 x.k) := rX 0 _ rfl; have x1 : _ = some (Value.int .i64 x.s) := rX 1 _ rfl; have x2 : _ = some (Value.int .i64 x.n) := rX 2 _ rfl; have x3 : _ = some (Value.int .i64 x.kp) := rX 3 _ rfl; have x4 : _ = some (Value.slice x.a x.b.length x.c) := rX 4 _ rfl; first | (go_simp; done) | (go_simp; with_reducible rfl)
  refine actNorm (fun a' ha => ?_)
  simp [go_sem] at ha
  subst ha
  refine wpAnyH_done (by decide +kernel) ?_ _
  clear hS4
  go_wp2
  go_ret
  exact ⟨rfl, HP4.out, HB4.out⟩
/-- any step -/
theorem does_any {w : World} {p b r j q B : Nat} {D : Pl.Dk} {J : Pl.Jn} (h : Pr2 w p b r j q D J) (hz : Sz D) (hj : J.im.length ≤ 100000) (hst : D.st < 4611686018427387904) (g : Pl.Gs) (hg : GsIn w g) (hl : g.x.b.length ≤ 100000) (hB : B ≤ p ∧ B ≤ b ∧ B ≤ r ∧ B ≤ j ∧ B ≤ q) :
    Calls Try.prog 20 #[ptr p, .agg (gsA g)] w fun e w' => e = .returned (.bool true) ∧ (∃ j' q', B ≤ j' ∧ B ≤ q' ∧ Pr2 w' p b r j' q' (plD D J g) (plJ D J g)) ∧ Below B w w' := by
  by_cases h5 : Pl.plQ g = 5
  · refine (does_save h hz hj g hg h5 hB).mono fun e w' ⟨he, hp, hb⟩ => ⟨he, ⟨j, q, hB.2.2.2.1, hB.2.2.2.2, ?_⟩, hb⟩
    unfold plD plJ
    rw [if_pos h5, if_pos h5]
    exact hp
  by_cases h6 : Pl.plQ g = 6
  · refine (does_open h g _ rfl hg.ac.k0 h6 hB).mono fun e w' ⟨he, ⟨j', q', h1, h2, hp⟩, hb⟩ => ⟨he, ⟨j', q', h1, h2, ?_⟩, hb⟩
    unfold plD plJ
    rw [if_neg h5, if_neg h5, if_pos h6, if_pos h6]
    exact hp
  · refine (does_act h hz hst g hg hl h5 h6 hB).mono fun e w' ⟨he, hp, hb⟩ => ⟨he, ⟨j, q, hB.2.2.2.1, hB.2.2.2.2, ?_⟩, hb⟩
    unfold plD plJ
    rw [if_neg h5, if_neg h5, if_neg h6, if_neg h6]
    exact hp
end Go.Proofs.Ytalfffkcmddakab
