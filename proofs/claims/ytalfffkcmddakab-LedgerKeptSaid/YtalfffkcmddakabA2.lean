/- act: a call of both disks. -/
import Derived.Test.YtalfffkcmddakabA1
import Derived.Test.YtalfffkcmddakabV1
namespace Go.Proofs.Ytalfffkcmddakab
open Go.RowKit Go.Shelf

/-- the disk behind a call -/
def acD (D : Pl.Dk) (x : Pl.Ac) (q : Int) : Pl.Dk := if q = 0 then Pl.wrD D x.s x.b else if q = 2 then Pl.armD D x.n x.kp else if q = 3 then Pl.rsD D else D
theorem Fr.up2 {b r g : Nat} {w w' : World} (h : Fr [g] w w') (hg : g = b ∨ g = r) : Fr [b, r] w w' := h.mono fun k hk _ => by simp at hk; subst hk; rcases hg with rfl | rfl <;> simp

set_option maxRecDepth 100000 in
set_option maxHeartbeats 8000000 in
theorem act_copy {w : World} {b r : Nat} {D : Pl.Dk} (h : Dsk w b D) (k : Rsk w r D) (hz : Sz D) (hst : D.st < 4611686018427387904) (x : Pl.Ac) (hx : AcIn w x) (hl : x.b.length ≤ 100000) (hq : x.k % 5 = 4) :
    Calls Try.prog 13 #[ptr b, ptr r, .agg (acA x)] w fun e w' => e = .returned (.bool true) ∧ Dsk w' b (acD D x 4) ∧ Rsk w' r (acD D x 4) ∧ Fr [b, r] w w' := by
  have hA := (Below.refl w.heap.size w).alloc (Nat.le_refl _) (.cells (acA x) 31)
  have bX := Blk.new w 31 (acA x)
  have HH := Lib.hid (h.below hA)
  have HK := Lib.hid (k.below hA)
  have HX := Lib.hid (hx.below hA)
  have HZ := Lib.hid hz
  have HST := Lib.hid hst
  have HL := Lib.hid hl
  have hk0 := hx.k0
  have hk1 := hx.k1
  have hbg : b ≠ w.heap.size := by have := h.lt; omega
  have hrg : r ≠ w.heap.size := by have := k.lt; omega
  have hbr : Hid (b ≠ r) := Lib.hid (h.ne k)
  have HF := Lib.hid (Fr.of_below [b, r] hA)
  have q0 : (w.alloc (.cells (acA x) 31)).cell? ⟨w.heap.size, 0, none⟩ = some (.int .u8 x.k) := bX.cell 0
  have q1 : (w.alloc (.cells (acA x) 31)).cell? ⟨w.heap.size, 1, none⟩ = some (.int .i64 x.s) := bX.cell 1
  have q2 : (w.alloc (.cells (acA x) 31)).cell? ⟨w.heap.size, 2, none⟩ = some (.int .i64 x.n) := bX.cell 2
  have q3 : (w.alloc (.cells (acA x) 31)).cell? ⟨w.heap.size, 3, none⟩ = some (.int .i64 x.kp) := bX.cell 3
  have q4 : (w.alloc (.cells (acA x) 31)).cell? ⟨w.heap.size, 4, none⟩ = some (.slice x.a x.b.length x.c) := bX.cell 4
  have HBX := Lib.hid bX
  clear h k hz hx hA bX hst hl
  go_enter Try.func13, Try.ntmps13
  go_wp2
  go_ret
  exact ⟨rfl, HH.out, HK.out, HF.out⟩

set_option maxRecDepth 100000 in
set_option maxHeartbeats 8000000 in
theorem act_arm {w : World} {b r : Nat} {D : Pl.Dk} (h : Dsk w b D) (k : Rsk w r D) (hz : Sz D) (hst : D.st < 4611686018427387904) (x : Pl.Ac) (hx : AcIn w x) (hl : x.b.length ≤ 100000) (hq : x.k % 5 = 2) :
    Calls Try.prog 13 #[ptr b, ptr r, .agg (acA x)] w fun e w' => e = .returned (.bool true) ∧ Dsk w' b (acD D x 2) ∧ Rsk w' r (acD D x 2) ∧ Fr [b, r] w w' := by
  have hA := (Below.refl w.heap.size w).alloc (Nat.le_refl _) (.cells (acA x) 31)
  have bX := Blk.new w 31 (acA x)
  have HH := Lib.hid (h.below hA)
  have HK := Lib.hid (k.below hA)
  have HX := Lib.hid (hx.below hA)
  have HZ := Lib.hid hz
  have HST := Lib.hid hst
  have HL := Lib.hid hl
  have hk0 := hx.k0
  have hk1 := hx.k1
  have hbg : b ≠ w.heap.size := by have := h.lt; omega
  have hrg : r ≠ w.heap.size := by have := k.lt; omega
  have hbr : Hid (b ≠ r) := Lib.hid (h.ne k)
  have HF := Lib.hid (Fr.of_below [b, r] hA)
  have q0 : (w.alloc (.cells (acA x) 31)).cell? ⟨w.heap.size, 0, none⟩ = some (.int .u8 x.k) := bX.cell 0
  have q1 : (w.alloc (.cells (acA x) 31)).cell? ⟨w.heap.size, 1, none⟩ = some (.int .i64 x.s) := bX.cell 1
  have q2 : (w.alloc (.cells (acA x) 31)).cell? ⟨w.heap.size, 2, none⟩ = some (.int .i64 x.n) := bX.cell 2
  have q3 : (w.alloc (.cells (acA x) 31)).cell? ⟨w.heap.size, 3, none⟩ = some (.int .i64 x.kp) := bX.cell 3
  have q4 : (w.alloc (.cells (acA x) 31)).cell? ⟨w.heap.size, 4, none⟩ = some (.slice x.a x.b.length x.c) := bX.cell 4
  have HBX := Lib.hid bX
  clear h k hz hx hA bX hst hl
  have H1 : Hid (Calls Try.prog 23 #[ptr b, .int .i64 x.n, .int .i64 x.kp] (w.alloc (.cells (acA x) 31)) fun e w' => e = .returned (.tuple #[]) ∧ Dsk w' b (Pl.armD D x.n x.kp) ∧ Fr [b] (w.alloc (.cells (acA x) 31)) w') := Lib.hid (by
    obtain ⟨v0, v1, kp, h⟩ := HH.out
    exact (arm_any h x.n x.kp HX.out.n).mono fun e w' ⟨he, hd, hf⟩ => ⟨he, ⟨_, _, _, hd⟩, hf⟩)
  go_enter Try.func13, Try.ntmps13
  go_wp2_with fail
  refine H1.out.mono ?_
  rintro e w2 ⟨rfl, hD2, hF2⟩
  have HK2 := Lib.hid (HK.out.fr hF2 (by simpa using hbr.out.symm) HH.out.at_)
  have bX2 := HBX.out.fr hF2 (by simpa using hbg.symm)
  have HF2 := Lib.hid (HF.out.trans (hF2.up2 (.inl rfl)))
  have HD2 := Lib.hid hD2
  have p2 : w2.cell? ⟨w.heap.size, 2, none⟩ = some (.int .i64 x.n) := bX2.cell 2
  have p3 : w2.cell? ⟨w.heap.size, 3, none⟩ = some (.int .i64 x.kp) := bX2.cell 3
  clear q0 q1 q2 q3 q4 H1 hD2 hF2
  go_wp2_with fail
  refine (rarm_any HK2.out x.n x.kp HX.out.n).mono ?_
  rintro e w3 ⟨rfl, hR3, hF3⟩
  have HD3 := Lib.hid (HD2.out.fr hF3 (by simpa using hbr.out) HK2.out.at_)
  have HF3 := Lib.hid (HF2.out.trans (hF3.up2 (.inr rfl)))
  have HR3 := Lib.hid hR3
  clear hR3 hF3 p2 p3
  go_wp2
  go_ret
  exact ⟨rfl, HD3.out, HR3.out, HF3.out⟩

set_option maxRecDepth 100000 in
set_option maxHeartbeats 8000000 in
theorem act_restart {w : World} {b r : Nat} {D : Pl.Dk} (h : Dsk w b D) (k : Rsk w r D) (hz : Sz D) (hst : D.st < 4611686018427387904) (x : Pl.Ac) (hx : AcIn w x) (hl : x.b.length ≤ 100000) (hq : x.k % 5 = 3) :
    Calls Try.prog 13 #[ptr b, ptr r, .agg (acA x)] w fun e w' => e = .returned (.bool true) ∧ Dsk w' b (acD D x 3) ∧ Rsk w' r (acD D x 3) ∧ Fr [b, r] w w' := by
  have hA := (Below.refl w.heap.size w).alloc (Nat.le_refl _) (.cells (acA x) 31)
  have bX := Blk.new w 31 (acA x)
  have HH := Lib.hid (h.below hA)
  have HK := Lib.hid (k.below hA)
  have HX := Lib.hid (hx.below hA)
  have HZ := Lib.hid hz
  have HST := Lib.hid hst
  have HL := Lib.hid hl
  have hk0 := hx.k0
  have hk1 := hx.k1
  have hbg : b ≠ w.heap.size := by have := h.lt; omega
  have hrg : r ≠ w.heap.size := by have := k.lt; omega
  have hbr : Hid (b ≠ r) := Lib.hid (h.ne k)
  have HF := Lib.hid (Fr.of_below [b, r] hA)
  have q0 : (w.alloc (.cells (acA x) 31)).cell? ⟨w.heap.size, 0, none⟩ = some (.int .u8 x.k) := bX.cell 0
  have q1 : (w.alloc (.cells (acA x) 31)).cell? ⟨w.heap.size, 1, none⟩ = some (.int .i64 x.s) := bX.cell 1
  have q2 : (w.alloc (.cells (acA x) 31)).cell? ⟨w.heap.size, 2, none⟩ = some (.int .i64 x.n) := bX.cell 2
  have q3 : (w.alloc (.cells (acA x) 31)).cell? ⟨w.heap.size, 3, none⟩ = some (.int .i64 x.kp) := bX.cell 3
  have q4 : (w.alloc (.cells (acA x) 31)).cell? ⟨w.heap.size, 4, none⟩ = some (.slice x.a x.b.length x.c) := bX.cell 4
  have HBX := Lib.hid bX
  clear h k hz hx hA bX hst hl
  have H1 := Lib.hid (restart_d HH.out HST.out)
  go_enter Try.func13, Try.ntmps13
  go_wp2_with fail
  refine H1.out.mono ?_
  rintro e w2 ⟨rfl, hD2, hF2⟩
  have HK2 := Lib.hid (HK.out.fr hF2 (by simpa using hbr.out.symm) HH.out.at_)
  have HF2 := Lib.hid (HF.out.trans (hF2.up2 (.inl rfl)))
  have HD2 := Lib.hid hD2
  clear q0 q1 q2 q3 q4 H1 hD2 hF2
  go_wp2_with fail
  refine (rrestart_any HK2.out HST.out).mono ?_
  rintro e w3 ⟨rfl, hR3, hF3⟩
  have HD3 := Lib.hid (HD2.out.fr hF3 (by simpa using hbr.out) HK2.out.at_)
  have HF3 := Lib.hid (HF2.out.trans (hF3.up2 (.inr rfl)))
  have HR3 := Lib.hid hR3
  clear hR3 hF3
  go_wp2
  go_ret
  exact ⟨rfl, HD3.out, HR3.out, HF3.out⟩

set_option maxRecDepth 100000 in
set_option maxHeartbeats 8000000 in
theorem act_read {w : World} {b r : Nat} {D : Pl.Dk} (h : Dsk w b D) (k : Rsk w r D) (hz : Sz D) (hst : D.st < 4611686018427387904) (x : Pl.Ac) (hx : AcIn w x) (hl : x.b.length ≤ 100000) (hq : x.k % 5 = 1) :
    Calls Try.prog 13 #[ptr b, ptr r, .agg (acA x)] w fun e w' => e = .returned (.bool true) ∧ Dsk w' b (acD D x 1) ∧ Rsk w' r (acD D x 1) ∧ Fr [b, r] w w' := by
  have hA := (Below.refl w.heap.size w).alloc (Nat.le_refl _) (.cells (acA x) 31)
  have bX := Blk.new w 31 (acA x)
  have HH := Lib.hid (h.below hA)
  have HK := Lib.hid (k.below hA)
  have HX := Lib.hid (hx.below hA)
  have HZ := Lib.hid hz
  have HST := Lib.hid hst
  have HL := Lib.hid hl
  have hk0 := hx.k0
  have hk1 := hx.k1
  have hbg : b ≠ w.heap.size := by have := h.lt; omega
  have hrg : r ≠ w.heap.size := by have := k.lt; omega
  have hbr : Hid (b ≠ r) := Lib.hid (h.ne k)
  have HF := Lib.hid (Fr.of_below [b, r] hA)
  have q0 : (w.alloc (.cells (acA x) 31)).cell? ⟨w.heap.size, 0, none⟩ = some (.int .u8 x.k) := bX.cell 0
  have q1 : (w.alloc (.cells (acA x) 31)).cell? ⟨w.heap.size, 1, none⟩ = some (.int .i64 x.s) := bX.cell 1
  have q2 : (w.alloc (.cells (acA x) 31)).cell? ⟨w.heap.size, 2, none⟩ = some (.int .i64 x.n) := bX.cell 2
  have q3 : (w.alloc (.cells (acA x) 31)).cell? ⟨w.heap.size, 3, none⟩ = some (.int .i64 x.kp) := bX.cell 3
  have q4 : (w.alloc (.cells (acA x) 31)).cell? ⟨w.heap.size, 4, none⟩ = some (.slice x.a x.b.length x.c) := bX.cell 4
  have HBX := Lib.hid bX
  clear h k hz hx hA bX hst hl
  have H1 := Lib.hid (dread_any HH.out x.s HZ.out)
  obtain ⟨er, her⟩ : ∃ er, Pl.rdE D x.s = er := ⟨_, rfl⟩
  rw [her] at H1
  have HER := Lib.hid her
  have hee : (er == er) = true := by simp
  clear her
  go_enter Try.func13, Try.ntmps13
  go_wp2_with fail
  refine H1.out.mono ?_
  rintro e w2 ⟨A2, n2, c2, rfl, hn2, hR2, hb2⟩
  have HK2 := Lib.hid (HK.out.below hb2)
  have HD2 := Lib.hid (HH.out.below hb2)
  have bX2 := HBX.out.below hb2 HBX.out.lt
  have HF2 := Lib.hid (HF.out.trans (Fr.of_below [b, r] hb2))
  have HR2 := Lib.hid hR2
  have p1 : w2.cell? ⟨w.heap.size, 1, none⟩ = some (.int .i64 x.s) := bX2.cell 1
  have H2 := Lib.hid (rread_any HK2.out x.s HZ.out)
  rw [HER.out] at H2
  clear q0 q1 q2 q3 q4 H1 hR2
  go_wp2_with fail
  refine H2.out.mono ?_
  rintro e w3 ⟨A3, n3, c3, rfl, hn3, hR3, hb3⟩
  have HD3 := Lib.hid (HD2.out.below hb3)
  have HK3 := Lib.hid (HK2.out.below hb3)
  have HF3 := Lib.hid (HF2.out.trans (Fr.of_below [b, r] hb3))
  have hv1 := conv_rows (HR2.out.below hb3) n2 c2 hn2
  have hv2 := conv_rows hR3 n3 c3 hn3
  generalize str (Pl.rdV D x.s) = S at *
  have hSS : (S.toList == S.toList) = true := by simp
  clear H2 hR3 hb3 hb2 p1 hn2 hn3
  go_wp2
  go_ret
  exact ⟨rfl, HD3.out, HK3.out, HF3.out⟩

set_option maxRecDepth 100000 in
set_option maxHeartbeats 8000000 in
theorem act_write {w : World} {b r : Nat} {D : Pl.Dk} (h : Dsk w b D) (k : Rsk w r D) (hz : Sz D) (hst : D.st < 4611686018427387904) (x : Pl.Ac) (hx : AcIn w x) (hl : x.b.length ≤ 100000) (hq : x.k % 5 = 0) :
    Calls Try.prog 13 #[ptr b, ptr r, .agg (acA x)] w fun e w' => e = .returned (.bool true) ∧ Dsk w' b (acD D x 0) ∧ Rsk w' r (acD D x 0) ∧ Fr [b, r] w w' := by
  have hA := (Below.refl w.heap.size w).alloc (Nat.le_refl _) (.cells (acA x) 31)
  have bX := Blk.new w 31 (acA x)
  have HH := Lib.hid (h.below hA)
  have HK := Lib.hid (k.below hA)
  have HX := Lib.hid (hx.below hA)
  have HZ := Lib.hid hz
  have HST := Lib.hid hst
  have HL := Lib.hid hl
  have hk0 := hx.k0
  have hk1 := hx.k1
  have hbg : b ≠ w.heap.size := by have := h.lt; omega
  have hrg : r ≠ w.heap.size := by have := k.lt; omega
  have hbr : Hid (b ≠ r) := Lib.hid (h.ne k)
  have HF := Lib.hid (Fr.of_below [b, r] hA)
  have q0 : (w.alloc (.cells (acA x) 31)).cell? ⟨w.heap.size, 0, none⟩ = some (.int .u8 x.k) := bX.cell 0
  have q1 : (w.alloc (.cells (acA x) 31)).cell? ⟨w.heap.size, 1, none⟩ = some (.int .i64 x.s) := bX.cell 1
  have q2 : (w.alloc (.cells (acA x) 31)).cell? ⟨w.heap.size, 2, none⟩ = some (.int .i64 x.n) := bX.cell 2
  have q3 : (w.alloc (.cells (acA x) 31)).cell? ⟨w.heap.size, 3, none⟩ = some (.int .i64 x.kp) := bX.cell 3
  have q4 : (w.alloc (.cells (acA x) 31)).cell? ⟨w.heap.size, 4, none⟩ = some (.slice x.a x.b.length x.c) := bX.cell 4
  have HBX := Lib.hid bX
  clear h k hz hx hA bX hst hl
  obtain ⟨er, her⟩ : ∃ er, Pl.wrE D x.s = er := ⟨_, rfl⟩
  have H1 := Lib.hid (fun W hb => write_any (HH.out.below (w' := W) hb) x.s x.a x.b _ x.c rfl HL.out HX.out.b.cap (HX.out.b.rows.below hb))
  have HER := Lib.hid her
  have hee : (er == er) = true := by simp
  clear her
  go_enter Try.func13, Try.ntmps13
  go_wp2
  refine wp_region_held (S := fun W => Blk W w.heap.size 31 (acA x)) (by kernel_rfl) ?_
  change wpAnyH _ _ _ _ _ _ _ _ (World.drew _)
  have H1' : Hid (Calls Try.prog 30 #[ptr b, .int .i64 x.s, .slice x.a x.b.length x.c] (World.drew (w.alloc (.cells (acA x) 31))) fun e w' => e = .returned (.int .i64 (Pl.wrE D x.s)) ∧ Dsk w' b (Pl.wrD D x.s x.b) ∧ Fr [b] (World.drew (w.alloc (.cells (acA x) 31))) w') := Lib.hid (H1.out _ ((Below.refl _ _).drew))
  rw [HER.out] at H1'
  have HK2 : Hid (Rsk (World.drew (w.alloc (.cells (acA x) 31))) r D) := Lib.hid (HK.out.below ((Below.refl _ _).drew))
  have HD2 : Hid (Dsk (World.drew (w.alloc (.cells (acA x) 31))) b D) := Lib.hid (HH.out.below ((Below.refl _ _).drew))
  have HX2 : Hid (AcIn (World.drew (w.alloc (.cells (acA x) 31))) x) := Lib.hid (HX.out.below ((Below.refl _ _).drew))
  have HF2 := Lib.hid HF.out.drew
  have hS := HBX.out.drew
  clear q0 q1 q2 q3 q4 H1 HBX HF HX HK HH
  generalize World.drew (w.alloc (.cells (acA x) 31)) = W at *
  refine wpAnyH_take (i := 0) (v := ?_) rfl (by kernel_rfl) (by decide +kernel) (by decide +kernel) (fun _ _ _ h => h) (Or.inl ⟨by rfl, ?_⟩) hS ?_
  rotate_left
  · intro w' hS; have s1 : w'.cell? ⟨w.heap.size, 1, none⟩ = some (.int .i64 x.s) := hS.cell 1; have s4 : w'.cell? ⟨w.heap.size, 4, none⟩ = some (.slice x.a x.b.length x.c) := hS.cell 4; first | (go_simp; done) | (go_simp; with_reducible rfl)
  refine wpAnyH_take (i := 1) (v := ?_) rfl (by kernel_rfl) (by decide +kernel) (by decide +kernel) (fun _ _ _ h => h) (Or.inl ⟨by rfl, ?_⟩) hS ?_
  rotate_left
  · intro w' hS; have s1 : w'.cell? ⟨w.heap.size, 1, none⟩ = some (.int .i64 x.s) := hS.cell 1; have s4 : w'.cell? ⟨w.heap.size, 4, none⟩ = some (.slice x.a x.b.length x.c) := hS.cell 4; first | (go_simp; done) | (go_simp; with_reducible rfl)
  refine wpAnyH_take (i := 2) (v := ?_) rfl (by kernel_rfl) (by decide +kernel) (by decide +kernel) (fun _ _ _ h => h) (Or.inl ⟨by rfl, ?_⟩) hS ?_
  rotate_left
  · intro w' hS; have s1 : w'.cell? ⟨w.heap.size, 1, none⟩ = some (.int .i64 x.s) := hS.cell 1; have s4 : w'.cell? ⟨w.heap.size, 4, none⟩ = some (.slice x.a x.b.length x.c) := hS.cell 4; first | (go_simp; done) | (go_simp; with_reducible rfl)
  refine wpAnyH_take (i := 3) (v := ?_) rfl (by kernel_rfl) (by decide +kernel) (by decide +kernel) (fun _ _ _ h => h) (Or.inl ⟨by rfl, ?_⟩) hS ?_
  rotate_left
  · intro w' hS; have s1 : w'.cell? ⟨w.heap.size, 1, none⟩ = some (.int .i64 x.s) := hS.cell 1; have s4 : w'.cell? ⟨w.heap.size, 4, none⟩ = some (.slice x.a x.b.length x.c) := hS.cell 4; first | (go_simp; done) | (go_simp; with_reducible rfl)
  refine wpAnyH_take (i := 4) (v := ?_) rfl (by kernel_rfl) (by decide +kernel) (by decide +kernel) (fun _ _ _ h => h) (Or.inl ⟨by rfl, ?_⟩) hS ?_
  rotate_left
  · intro w' hS; have s1 : w'.cell? ⟨w.heap.size, 1, none⟩ = some (.int .i64 x.s) := hS.cell 1; have s4 : w'.cell? ⟨w.heap.size, 4, none⟩ = some (.slice x.a x.b.length x.c) := hS.cell 4; first | (go_simp; done) | (go_simp; with_reducible rfl)
  refine wpAnyH_take (i := 6) (v := ?_) rfl (by kernel_rfl) (by decide +kernel) (by decide +kernel) (fun _ _ _ h => h) (Or.inl ⟨by rfl, ?_⟩) hS ?_
  rotate_left
  · intro w' hS; have s1 : w'.cell? ⟨w.heap.size, 1, none⟩ = some (.int .i64 x.s) := hS.cell 1; have s4 : w'.cell? ⟨w.heap.size, 4, none⟩ = some (.slice x.a x.b.length x.c) := hS.cell 4; first | (go_simp; done) | (go_simp; with_reducible rfl)
  refine wpAnyH_take (i := 7) (v := ?_) rfl (by kernel_rfl) (by decide +kernel) (by decide +kernel) (fun _ _ _ h => h) (Or.inl ⟨by rfl, ?_⟩) hS ?_
  rotate_left
  · intro w' hS; have s1 : w'.cell? ⟨w.heap.size, 1, none⟩ = some (.int .i64 x.s) := hS.cell 1; have s4 : w'.cell? ⟨w.heap.size, 4, none⟩ = some (.slice x.a x.b.length x.c) := hS.cell 4; first | (go_simp; done) | (go_simp; with_reducible rfl)
  refine wpAnyH_take (i := 8) (v := ?_) rfl (by kernel_rfl) (by decide +kernel) (by decide +kernel) (fun _ _ _ h => h) (Or.inl ⟨by rfl, ?_⟩) hS ?_
  rotate_left
  · intro w' hS; have s1 : w'.cell? ⟨w.heap.size, 1, none⟩ = some (.int .i64 x.s) := hS.cell 1; have s4 : w'.cell? ⟨w.heap.size, 4, none⟩ = some (.slice x.a x.b.length x.c) := hS.cell 4; first | (go_simp; done) | (go_simp; with_reducible rfl)
  refine wpAnyH_take (i := 9) (v := ?_) rfl (by kernel_rfl) (by decide +kernel) (by decide +kernel) (fun _ _ _ h => h) (Or.inl ⟨by rfl, ?_⟩) hS ?_
  rotate_left
  · intro w' hS; have s1 : w'.cell? ⟨w.heap.size, 1, none⟩ = some (.int .i64 x.s) := hS.cell 1; have s4 : w'.cell? ⟨w.heap.size, 4, none⟩ = some (.slice x.a x.b.length x.c) := hS.cell 4; first | (go_simp; done) | (go_simp; with_reducible rfl)
  refine wpAnyH_take (i := 10) (v := ?_) rfl (by kernel_rfl) (by decide +kernel) (by decide +kernel) (fun _ _ _ h => h) (Or.inl ⟨by rfl, ?_⟩) hS ?_
  rotate_left
  · intro w' hS; have s1 : w'.cell? ⟨w.heap.size, 1, none⟩ = some (.int .i64 x.s) := hS.cell 1; have s4 : w'.cell? ⟨w.heap.size, 4, none⟩ = some (.slice x.a x.b.length x.c) := hS.cell 4; first | (go_simp; done) | (go_simp; with_reducible rfl)
  refine wpAnyH_all (rs := [5]) (by decide +kernel) (by simp) ?_
  intro i0 hi0
  obtain rfl := List.mem_singleton.1 hi0
  refine wpOp_go rfl rfl (fun K hK => ?_)
  go_simp
  refine H1'.out.mono ?_
  rintro e w3 ⟨rfl, hD3, hF3⟩
  have hS3 := hS.fr hF3 (by simpa using hbg.symm)
  have HK3 := Lib.hid (HK2.out.fr hF3 (by simpa using hbr.out.symm) HD2.out.at_)
  have HF3 := Lib.hid (HF2.out.trans (hF3.up2 (.inl rfl)))
  have HD3 := Lib.hid hD3
  have H2 := Lib.hid (rwrite_any HK3.out x.s x.a x.b _ x.c rfl HL.out HX2.out.b.cap HX2.out.b.nil (HX2.out.b.rows.apart hF3 HD2.out.no))
  rw [HER.out] at H2
  clear hD3 hF3 H1' HK2 HD2 HF2 HX2 hS
  refine hK _ _ ⟨hS3, ?_⟩
  clear hK K
  refine wpAnyH_all (rs := [11]) (by decide +kernel) (by simp) ?_
  intro i0 hi0
  obtain rfl := List.mem_singleton.1 hi0
  refine wpOp_go rfl rfl (fun K hK => ?_)
  go_simp
  refine H2.out.mono ?_
  rintro e w4 ⟨rfl, hR4, hF4⟩
  have hS4 := hS3.fr hF4 (by simpa using hrg.symm)
  have HD4 := Lib.hid (HD3.out.fr hF4 (by simpa using hbr.out) HK3.out.at_)
  have HF4 := Lib.hid (HF3.out.trans (hF4.up2 (.inr rfl)))
  have HR4 := Lib.hid hR4
  clear hR4 hF4 H2 HK3 HD3 HF3 hS3
  refine hK _ _ ⟨hS4, ?_⟩
  clear hK K
  refine wpAnyH_take (i := 12) (v := ?_) rfl (by kernel_rfl) (by decide +kernel) (by decide +kernel) (fun _ _ _ h => h) (Or.inl ⟨by rfl, ?_⟩) hS4 ?_
  rotate_left
  · intro w' hS; first | (go_simp; done) | (go_simp; with_reducible rfl)
  refine wpAnyH_take (i := 13) (v := ?_) rfl (by kernel_rfl) (by decide +kernel) (by decide +kernel) (fun _ _ _ h => h) (Or.inl ⟨by rfl, ?_⟩) hS4 ?_
  rotate_left
  · intro w' hS; first | (go_simp; done) | (go_simp; with_reducible rfl)
  refine wpAnyH_done (by decide +kernel) ?_ _
  go_wp2
  go_ret
  exact ⟨rfl, HD4.out, HR4.out, HF4.out⟩

theorem act_any {w : World} {b r : Nat} {D : Pl.Dk} (h : Dsk w b D) (k : Rsk w r D) (hz : Sz D) (hst : D.st < 4611686018427387904) (x : Pl.Ac) (hx : AcIn w x) (hl : x.b.length ≤ 100000) :
    Calls Try.prog 13 #[ptr b, ptr r, .agg (acA x)] w fun e w' => e = .returned (.bool true) ∧ Dsk w' b (acD D x (x.k % 5)) ∧ Rsk w' r (acD D x (x.k % 5)) ∧ Fr [b, r] w w' := by
  have hq : x.k % 5 = 0 ∨ x.k % 5 = 1 ∨ x.k % 5 = 2 ∨ x.k % 5 = 3 ∨ x.k % 5 = 4 := by omega
  rcases hq with hq | hq | hq | hq | hq
  · rw [hq]; exact act_write h k hz hst x hx hl hq
  · rw [hq]; exact act_read h k hz hst x hx hl hq
  · rw [hq]; exact act_arm h k hz hst x hx hl hq
  · rw [hq]; exact act_restart h k hz hst x hx hl hq
  · rw [hq]; exact act_copy h k hz hst x hx hl hq
theorem put_sz {D : Pl.Dk} (h : Sz D) (i : Nat) {l : Pl.Bs} (hl : l.length ≤ 100000) : Sz (D.put i l) := by
  unfold Pl.Dk.put
  split
  · exact ⟨hl, h.2⟩
  · exact ⟨h.1, hl⟩
theorem wr_sz {D : Pl.Dk} (h : Sz D) (i : Int) {l : Pl.Bs} (hl : l.length ≤ 100000) : Sz (Pl.wrD D i l) := by
  unfold Pl.wrD
  split
  · exact h
  · split
    · exact h
    · split
      · exact put_sz (D := D) h _ (by rw [List.length_take]; omega)
      · exact put_sz (D := D) h _ hl
theorem wr_st (D : Pl.Dk) (i : Int) (l : Pl.Bs) : (Pl.wrD D i l).st = D.st := by
  have hp : ∀ (i : Nat) (x : Pl.Bs), (D.put i x).st = D.st := fun i x => by unfold Pl.Dk.put; split <;> rfl
  unfold Pl.wrD
  split
  · rfl
  · split
    · rfl
    · split
      · exact hp _ _
      · exact hp _ _
theorem ac_sz {D : Pl.Dk} (h : Sz D) (x : Pl.Ac) (q : Int) (hl : x.b.length ≤ 100000) : Sz (acD D x q) ∧ (acD D x q).st ≤ D.st + 1 := by
  unfold acD
  split
  · exact ⟨wr_sz h _ hl, by rw [wr_st]; omega⟩
  · split
    · exact ⟨h, Nat.le_succ _⟩
    · split
      · exact ⟨h, Nat.le_refl _⟩
      · exact ⟨h, Nat.le_succ _⟩
end Go.Proofs.Ytalfffkcmddakab
