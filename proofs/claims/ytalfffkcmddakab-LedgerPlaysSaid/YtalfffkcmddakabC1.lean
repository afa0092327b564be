/- Copy of both disks. -/
import Derived.Test.YtalfffkcmddakabA1
import Derived.Test.YtalfffkcmddakabZ7
namespace Go.Proofs.Ytalfffkcmddakab
open Go.RowKit Go.Shelf

theorem infoDk : (Try.prog.info? 39).map (·.size) = some 6 := by kernel_rfl
abbrev zdk : Array Value := #[.int .i64 0, .bool false, .slice none 0 0, .slice none 0 0, .int .i64 0, .int .i64 0]
theorem own_one {w : World} {v : Value} {l : Pl.Bs} (h : Own8 w v l) : v.oneCell' = true := by obtain ⟨A, c, rfl, _⟩ := h.rows; rfl
theorem dk_all {w : World} {b : Nat} {D : Pl.Dk} {v0 v1 : Value} {kp : Int} (h : IsDk w b D v0 v1 kp) : (dkA D v0 v1 kp).all (·.oneCell') = true := by
  obtain ⟨A, c, e0, _⟩ := h.o0.rows
  obtain ⟨B, d, e1, _⟩ := h.o1.rows
  rw [e0, e1]
  simp [Value.oneCell']
section
variable {ops : Array Oper} {rest : List Oper} {o : Oper} {a : Act} {w : World} {Q : Exit → Act → World → Prop} {b off : Nat}
theorem ldm_dk {D : Pl.Dk} {v0 v1 : Value} {kp : Int} (hr : w.rangeAt b off (dkA D v0 v1 kp).toList) (hw : Region.wanted o (yielded ops a.tmps) = true) (x : Operand) (ho : o.op = .load 39 x)
    (hx : a.eval x = .pointer (some ⟨b, off, none⟩)) (h : wpList Try.prog ops Q rest (a.put o.dst (.agg (dkA D v0 v1 kp))) w) : wpList Try.prog ops Q (o :: rest) a w :=
  wpList_wanted hw fun _ hK => wp_load_mid 39 x ho b off hx (dkA D v0 v1 kp).toList _ hr Try.underlying39 rfl infoDk (hK _ _ h)
theorem st_dk {old : Array Value} {D : Pl.Dk} {v0 v1 : Value} {kp : Int} {g : Nat} {t : TypeId} (b : Blk w g t old) (hall : (dkA D v0 v1 kp).all (·.oneCell') = true) (hs : old.size = 6) (hgd : o.guard = none) (x y : Operand) (ho : o.op = .store 39 x y)
    (hx : a.eval x = .pointer (some ⟨g, 0, none⟩)) (hy : a.eval y = .agg (dkA D v0 v1 kp))
    (h : ∀ w', Blk w' g t (dkA D v0 v1 kp) → Only g w w' → wpList Try.prog ops Q rest (a.put o.dst undef) w') : wpList Try.prog ops Q (o :: rest) a w :=
  wpList_store_row hgd 39 x y ho g (dkA D v0 v1 kp) hx hy t old b infoDk hs hall (h _ (blk_setRow b) (Only.setRow g w (dkA D v0 v1 kp)))
end

set_option maxRecDepth 100000 in
set_option maxHeartbeats 8000000 in
theorem copy_any {w : World} {b : Nat} {D : Pl.Dk} (h : Dsk w b D) (hz : Sz D) :
    Calls Try.prog 15 #[ptr b] w fun e w' => ∃ g, e = .returned (ptr g) ∧ w.heap.size ≤ g ∧ Dsk w' g D ∧ Below w.heap.size w w' := by
  obtain ⟨v0, v1, kp, h⟩ := h
  have HM := Lib.hid (made_any h)
  have hB0 := (Below.refl w.heap.size w).alloc (Nat.le_refl _) (.cells zdk 39)
  have bz := Blk.new w 39 zdk
  have hall := dk_all h
  have hr0 : w.rangeAt b 0 (dkA D v0 v1 kp).toList := h.blk.range
  have hr1 : (w.alloc (.cells zdk 39)).rangeAt b 0 (dkA D v0 v1 kp).toList := (h.below hB0).blk.range
  have HR : Hid (∀ W, Below w.heap.size w W → W.rangeAt b 2 [v0, v1]) := Lib.hid (fun W hW => by
    have hD := h.below hW
    intro i v hv
    match i, hv with
    | 0, hv => simp at hv; subst hv; exact hD.blk.cell 2
    | 1, hv => simp at hv; subst hv; exact hD.blk.cell 3
    | i + 2, hv => simp at hv)
  have HB0 := Lib.hid hB0
  have HH := Lib.hid h
  have HZ := Lib.hid hz
  obtain ⟨i0, i1⟩ := ix_ar v0 v1
  clear h hz hB0
  go_enter Try.func15, Try.ntmps15
  go_wp2_with fail
  refine HM.out.mono ?_
  rintro e w1 ⟨rfl, rfl⟩
  go_wp2_with (first | refine ldm_dk hr0 rfl _ rfl rfl ?_ | refine ldm_dk hr1 rfl _ rfl rfl ?_ | (refine st_dk (D := D) (v0 := v0) (v1 := v1) (kp := kp) bz hall rfl rfl _ _ rfl rfl rfl ?_; intro w3 bX3 hO3; have hb3 := HB0.out.trans (hO3.below (Nat.le_refl _)); have hr3 := HR.out w3 hb3) | refine ldm_ar hr3 rfl _ rfl rfl ?_)
  have hD3 : IsDk w3 w1.heap.size D v0 v1 kp := ⟨bX3, HH.out.kp, (HH.out.below hb3).o0, (HH.out.below hb3).o1, HH.out.st, HH.out.fb⟩
  have HD3 := Lib.hid hD3
  clear hr0 hr1 hr3 bz hall hD3 bX3 hO3 HM HB0
  obtain ⟨W, hW⟩ : ∃ W, W = w3 := ⟨_, rfl⟩
  clear hW W
  go_loopw [16] (fun i wr => ∃ (q : Nat) (u0 u1 : Value), q ≤ 2 ∧ i = .int .i64 q ∧ Hid (IsDk wr w1.heap.size D u0 u1 kp) ∧ Below w1.heap.size w1 wr) (fun i _ => 2 - (intOf i).toNat)
  case atStart => exact ⟨0, v0, v1, by omega, rfl, HD3, hb3⟩
  case round =>
    clear HD3 hb3
    obtain ⟨q, u0, u1, hq, rfl, HD, hB⟩ := hrel
    obtain ⟨wo, rfl⟩ : ∃ wo, wo = wr := ⟨_, rfl⟩
    have hq3 : q = 0 ∨ q = 1 ∨ q = 2 := by omega
    rcases hq3 with rfl | rfl | rfl
    · obtain ⟨A, c, rfl, hR, hnc, hcm⟩ := (HH.out.below hB).o0.rows
      have HC := Lib.hid (copied_any A D.s0 c _ rfl HZ.out.1 wo hR)
      clear hR hnc hcm
      obtain ⟨n, hn⟩ : ∃ n, n = D.s0.length := ⟨_, rfl⟩
      rw [← hn] at HC i0 i1 ⊢
      have HNN := Lib.hid hn
      clear hn
      go_wp2_with fail
      refine HC.out.mono ?_
      rintro e w8 ⟨u, rfl, hO8, hb8⟩
      obtain ⟨A8, c8, rfl, _, _, _⟩ := rows_of_owns encU8 (show World.ownsRow _ _ _ _ _ (List.length D.s0) _ by rw [← HNN.out]; exact hO8)
      have HD8 := Lib.hid (HD.out.below hb8)
      have HO8 := Lib.hid (own_mono hO8 (Nat.zero_le _))
      have hB8 := hB.trans (hb8.mono hB.size)
      have p3 := HD8.out.blk.cell (2 + 0)
      have g3 := HD8.out.blk.frozen (2 + 0)
      clear HC hO8 hb8 HD hB
      go_wp2
      have hf : Fr [w1.heap.size] w8 (w8.setCell ⟨w1.heap.size, 2 + 0, none⟩ (.slice A8 D.s0.length c8)) := Fr.setCell w8 w1.heap.size (2 + 0) _
      have hO9 : Own8 (w8.setCell ⟨w1.heap.size, 2 + 0, none⟩ (.slice A8 D.s0.length c8)) (.slice A8 D.s0.length c8) D.s0 := Own8.fr (by have := HO8.out; rw [HNN.out] at this; exact this) hf HD8.out.at_
      have hD9 := HD8.out.turn (D' := D) hf (HD8.out.blk.set_ (2 + 0) _) HD8.out.kp HD8.out.st HD8.out.fb (.inr hO9) (.inl ⟨rfl, rfl⟩)
      have HD9 := Lib.hid hD9
      have hB9 := hB8.trans (hf.below (B := w1.heap.size) (by simp) hB8.size)
      clear hf hO9 hD9 p3 g3 hB8
      generalize w8.setCell ⟨w1.heap.size, 2 + 0, none⟩ (.slice A8 D.s0.length c8) = w9 at *
      go_roundw
      case rel => exact ⟨1, _, _, by omega, by simp, HD9, hB9⟩
      case measure => simp [intOf]
    · obtain ⟨A, c, rfl, hR, hnc, hcm⟩ := (HH.out.below hB).o1.rows
      have HC := Lib.hid (copied_any A D.s1 c _ rfl HZ.out.2 wo hR)
      clear hR hnc hcm
      obtain ⟨n, hn⟩ : ∃ n, n = D.s1.length := ⟨_, rfl⟩
      rw [← hn] at HC i0 i1 ⊢
      have HNN := Lib.hid hn
      clear hn
      go_wp2_with fail
      refine HC.out.mono ?_
      rintro e w8 ⟨u, rfl, hO8, hb8⟩
      obtain ⟨A8, c8, rfl, _, _, _⟩ := rows_of_owns encU8 (show World.ownsRow _ _ _ _ _ (List.length D.s1) _ by rw [← HNN.out]; exact hO8)
      have HD8 := Lib.hid (HD.out.below hb8)
      have HO8 := Lib.hid (own_mono hO8 (Nat.zero_le _))
      have hB8 := hB.trans (hb8.mono hB.size)
      have p3 := HD8.out.blk.cell (2 + 1)
      have g3 := HD8.out.blk.frozen (2 + 1)
      clear HC hO8 hb8 HD hB
      go_wp2
      have hf : Fr [w1.heap.size] w8 (w8.setCell ⟨w1.heap.size, 2 + 1, none⟩ (.slice A8 D.s1.length c8)) := Fr.setCell w8 w1.heap.size (2 + 1) _
      have hO9 : Own8 (w8.setCell ⟨w1.heap.size, 2 + 1, none⟩ (.slice A8 D.s1.length c8)) (.slice A8 D.s1.length c8) D.s1 := Own8.fr (by have := HO8.out; rw [HNN.out] at this; exact this) hf HD8.out.at_
      have hD9 := HD8.out.turn (D' := D) hf (HD8.out.blk.set_ (2 + 1) _) HD8.out.kp HD8.out.st HD8.out.fb (.inl ⟨rfl, rfl⟩) (.inr hO9)
      have HD9 := Lib.hid hD9
      have hB9 := hB8.trans (hf.below (B := w1.heap.size) (by simp) hB8.size)
      clear hf hO9 hD9 p3 g3 hB8
      generalize w8.setCell ⟨w1.heap.size, 2 + 1, none⟩ (.slice A8 D.s1.length c8) = w9 at *
      go_roundw
      case rel => exact ⟨2, _, _, by omega, by simp, HD9, hB9⟩
      case measure => simp [intOf]
    · go_wp2
      go_ret
      exact ⟨_, rfl, Nat.le_refl _, ⟨_, _, _, HD.out⟩, hB⟩
def stQ (D : Pl.Dk) : Nat → Pl.Dk
  | 0 => { D with s0 := [], s1 := [] }
  | 1 => { D with s1 := [] }
  | _ => D
set_option maxRecDepth 100000 in
set_option maxHeartbeats 8000000 in
theorem rcopy_any {w : World} {r : Nat} {D : Pl.Dk} (h : Rsk w r D) (hz : Sz D) :
    Calls Try.prog 16 #[ptr r] w fun e w' => ∃ g, e = .returned (ptr g) ∧ w.heap.size ≤ g ∧ Rsk w' g D ∧ Below w.heap.size w w' := by
  obtain ⟨v0, v1, kp, h⟩ := h
  have HH := Lib.hid h
  have HZ := Lib.hid hz
  clear h hz
  go_enter Try.func16, Try.ntmps16
  go_wp2
  refine wp_region_held (S := fun W => Blk W r 82 (rkA D v0 v1 kp)) (by kernel_rfl) ?_
  change wpAnyH _ _ _ _ _ _ _ _ (World.drew _)
  have hS := HH.out.blk.drew
  have hBd : Below w.heap.size w w.drew := (Below.refl _ w).drew
  have hsz0 : w.heap.size = w.drew.heap.size := rfl
  generalize w.drew = W at *
  refine wpAnyH_take (i := 0) (v := ?_) rfl (by kernel_rfl) (by decide +kernel) (by decide +kernel) (fun _ _ _ h => h) (Or.inl ⟨by rfl, ?_⟩) hS ?_
  rotate_left
  · intro w' hS; have s2 : w'.cell? ⟨r, 2, none⟩ = some (.bool (!D.up)) := hS.cell 2; have s3 : w'.cell? ⟨r, 3, none⟩ = some (.int .i64 (D.fl : Nat)) := hS.cell 3; have s4 : w'.cell? ⟨r, 4, none⟩ = some (.int .i64 kp) := hS.cell 4; have s5 : w'.cell? ⟨r, 5, none⟩ = some (.int .i64 ((D.st - 1 : Nat) : Int)) := hS.cell 5; first | (go_simp; done) | (go_simp; with_reducible rfl)
  refine wpAnyH_take (i := 1) (v := ?_) rfl (by kernel_rfl) (by decide +kernel) (by decide +kernel) (fun _ _ _ h => h) (Or.inl ⟨by rfl, ?_⟩) hS ?_
  rotate_left
  · intro w' hS; have s2 : w'.cell? ⟨r, 2, none⟩ = some (.bool (!D.up)) := hS.cell 2; have s3 : w'.cell? ⟨r, 3, none⟩ = some (.int .i64 (D.fl : Nat)) := hS.cell 3; have s4 : w'.cell? ⟨r, 4, none⟩ = some (.int .i64 kp) := hS.cell 4; have s5 : w'.cell? ⟨r, 5, none⟩ = some (.int .i64 ((D.st - 1 : Nat) : Int)) := hS.cell 5; first | (go_simp; done) | (go_simp; with_reducible rfl)
  refine wpAnyH_take (i := 2) (v := ?_) rfl (by kernel_rfl) (by decide +kernel) (by decide +kernel) (fun _ _ _ h => h) (Or.inl ⟨by rfl, ?_⟩) hS ?_
  rotate_left
  · intro w' hS; have s2 : w'.cell? ⟨r, 2, none⟩ = some (.bool (!D.up)) := hS.cell 2; have s3 : w'.cell? ⟨r, 3, none⟩ = some (.int .i64 (D.fl : Nat)) := hS.cell 3; have s4 : w'.cell? ⟨r, 4, none⟩ = some (.int .i64 kp) := hS.cell 4; have s5 : w'.cell? ⟨r, 5, none⟩ = some (.int .i64 ((D.st - 1 : Nat) : Int)) := hS.cell 5; first | (go_simp; done) | (go_simp; with_reducible rfl)
  refine wpAnyH_take (i := 3) (v := ?_) rfl (by kernel_rfl) (by decide +kernel) (by decide +kernel) (fun _ _ _ h => h) (Or.inl ⟨by rfl, ?_⟩) hS ?_
  rotate_left
  · intro w' hS; have s2 : w'.cell? ⟨r, 2, none⟩ = some (.bool (!D.up)) := hS.cell 2; have s3 : w'.cell? ⟨r, 3, none⟩ = some (.int .i64 (D.fl : Nat)) := hS.cell 3; have s4 : w'.cell? ⟨r, 4, none⟩ = some (.int .i64 kp) := hS.cell 4; have s5 : w'.cell? ⟨r, 5, none⟩ = some (.int .i64 ((D.st - 1 : Nat) : Int)) := hS.cell 5; first | (go_simp; done) | (go_simp; with_reducible rfl)
  refine wpAnyH_take (i := 4) (v := ?_) rfl (by kernel_rfl) (by decide +kernel) (by decide +kernel) (fun _ _ _ h => h) (Or.inl ⟨by rfl, ?_⟩) hS ?_
  rotate_left
  · intro w' hS; have s2 : w'.cell? ⟨r, 2, none⟩ = some (.bool (!D.up)) := hS.cell 2; have s3 : w'.cell? ⟨r, 3, none⟩ = some (.int .i64 (D.fl : Nat)) := hS.cell 3; have s4 : w'.cell? ⟨r, 4, none⟩ = some (.int .i64 kp) := hS.cell 4; have s5 : w'.cell? ⟨r, 5, none⟩ = some (.int .i64 ((D.st - 1 : Nat) : Int)) := hS.cell 5; first | (go_simp; done) | (go_simp; with_reducible rfl)
  refine wpAnyH_take (i := 5) (v := ?_) rfl (by kernel_rfl) (by decide +kernel) (by decide +kernel) (fun _ _ _ h => h) (Or.inl ⟨by rfl, ?_⟩) hS ?_
  rotate_left
  · intro w' hS; have s2 : w'.cell? ⟨r, 2, none⟩ = some (.bool (!D.up)) := hS.cell 2; have s3 : w'.cell? ⟨r, 3, none⟩ = some (.int .i64 (D.fl : Nat)) := hS.cell 3; have s4 : w'.cell? ⟨r, 4, none⟩ = some (.int .i64 kp) := hS.cell 4; have s5 : w'.cell? ⟨r, 5, none⟩ = some (.int .i64 ((D.st - 1 : Nat) : Int)) := hS.cell 5; first | (go_simp; done) | (go_simp; with_reducible rfl)
  refine wpAnyH_take (i := 6) (v := ?_) rfl (by kernel_rfl) (by decide +kernel) (by decide +kernel) (fun _ _ _ h => h) (Or.inl ⟨by rfl, ?_⟩) hS ?_
  rotate_left
  · intro w' hS; have s2 : w'.cell? ⟨r, 2, none⟩ = some (.bool (!D.up)) := hS.cell 2; have s3 : w'.cell? ⟨r, 3, none⟩ = some (.int .i64 (D.fl : Nat)) := hS.cell 3; have s4 : w'.cell? ⟨r, 4, none⟩ = some (.int .i64 kp) := hS.cell 4; have s5 : w'.cell? ⟨r, 5, none⟩ = some (.int .i64 ((D.st - 1 : Nat) : Int)) := hS.cell 5; first | (go_simp; done) | (go_simp; with_reducible rfl)
  refine wpAnyH_take (i := 7) (v := ?_) rfl (by kernel_rfl) (by decide +kernel) (by decide +kernel) (fun _ _ _ h => h) (Or.inl ⟨by rfl, ?_⟩) hS ?_
  rotate_left
  · intro w' hS; have s2 : w'.cell? ⟨r, 2, none⟩ = some (.bool (!D.up)) := hS.cell 2; have s3 : w'.cell? ⟨r, 3, none⟩ = some (.int .i64 (D.fl : Nat)) := hS.cell 3; have s4 : w'.cell? ⟨r, 4, none⟩ = some (.int .i64 kp) := hS.cell 4; have s5 : w'.cell? ⟨r, 5, none⟩ = some (.int .i64 ((D.st - 1 : Nat) : Int)) := hS.cell 5; first | (go_simp; done) | (go_simp; with_reducible rfl)
  refine wpAnyH_take (i := 8) (v := ?_) rfl (by kernel_rfl) (by decide +kernel) (by decide +kernel) (fun _ _ _ h => h) (Or.inl ⟨by rfl, ?_⟩) hS ?_
  rotate_left
  · intro w' hS; have s2 : w'.cell? ⟨r, 2, none⟩ = some (.bool (!D.up)) := hS.cell 2; have s3 : w'.cell? ⟨r, 3, none⟩ = some (.int .i64 (D.fl : Nat)) := hS.cell 3; have s4 : w'.cell? ⟨r, 4, none⟩ = some (.int .i64 kp) := hS.cell 4; have s5 : w'.cell? ⟨r, 5, none⟩ = some (.int .i64 ((D.st - 1 : Nat) : Int)) := hS.cell 5; first | (go_simp; done) | (go_simp; with_reducible rfl)
  refine wpAnyH_take (i := 9) (v := ?_) rfl (by kernel_rfl) (by decide +kernel) (by decide +kernel) (fun _ _ _ h => h) (Or.inl ⟨by rfl, ?_⟩) hS ?_
  rotate_left
  · intro w' hS; have s2 : w'.cell? ⟨r, 2, none⟩ = some (.bool (!D.up)) := hS.cell 2; have s3 : w'.cell? ⟨r, 3, none⟩ = some (.int .i64 (D.fl : Nat)) := hS.cell 3; have s4 : w'.cell? ⟨r, 4, none⟩ = some (.int .i64 kp) := hS.cell 4; have s5 : w'.cell? ⟨r, 5, none⟩ = some (.int .i64 ((D.st - 1 : Nat) : Int)) := hS.cell 5; first | (go_simp; done) | (go_simp; with_reducible rfl)
  refine wpAnyH_take (i := 10) (v := ?_) rfl (by kernel_rfl) (by decide +kernel) (by decide +kernel) (fun _ _ _ h => h) (Or.inl ⟨by rfl, ?_⟩) hS ?_
  rotate_left
  · intro w' hS; have s2 : w'.cell? ⟨r, 2, none⟩ = some (.bool (!D.up)) := hS.cell 2; have s3 : w'.cell? ⟨r, 3, none⟩ = some (.int .i64 (D.fl : Nat)) := hS.cell 3; have s4 : w'.cell? ⟨r, 4, none⟩ = some (.int .i64 kp) := hS.cell 4; have s5 : w'.cell? ⟨r, 5, none⟩ = some (.int .i64 ((D.st - 1 : Nat) : Int)) := hS.cell 5; first | (go_simp; done) | (go_simp; with_reducible rfl)
  refine wpAnyH_take (i := 11) (v := ?_) rfl (by kernel_rfl) (by decide +kernel) (by decide +kernel) (fun _ _ _ h => h) (Or.inl ⟨by rfl, ?_⟩) hS ?_
  rotate_left
  · intro w' hS; have s2 : w'.cell? ⟨r, 2, none⟩ = some (.bool (!D.up)) := hS.cell 2; have s3 : w'.cell? ⟨r, 3, none⟩ = some (.int .i64 (D.fl : Nat)) := hS.cell 3; have s4 : w'.cell? ⟨r, 4, none⟩ = some (.int .i64 kp) := hS.cell 4; have s5 : w'.cell? ⟨r, 5, none⟩ = some (.int .i64 ((D.st - 1 : Nat) : Int)) := hS.cell 5; first | (go_simp; done) | (go_simp; with_reducible rfl)
  refine wpAnyH_take (i := 12) (v := ?_) rfl (by kernel_rfl) (by decide +kernel) (by decide +kernel) (fun _ _ _ h => h) (Or.inl ⟨by rfl, ?_⟩) hS ?_
  rotate_left
  · intro w' hS; have s2 : w'.cell? ⟨r, 2, none⟩ = some (.bool (!D.up)) := hS.cell 2; have s3 : w'.cell? ⟨r, 3, none⟩ = some (.int .i64 (D.fl : Nat)) := hS.cell 3; have s4 : w'.cell? ⟨r, 4, none⟩ = some (.int .i64 kp) := hS.cell 4; have s5 : w'.cell? ⟨r, 5, none⟩ = some (.int .i64 ((D.st - 1 : Nat) : Int)) := hS.cell 5; first | (go_simp; done) | (go_simp; with_reducible rfl)
  refine wpAnyH_take (i := 13) (v := ?_) rfl (by kernel_rfl) (by decide +kernel) (by decide +kernel) (fun _ _ _ h => h) (Or.inl ⟨by rfl, ?_⟩) hS ?_
  rotate_left
  · intro w' hS; have s2 : w'.cell? ⟨r, 2, none⟩ = some (.bool (!D.up)) := hS.cell 2; have s3 : w'.cell? ⟨r, 3, none⟩ = some (.int .i64 (D.fl : Nat)) := hS.cell 3; have s4 : w'.cell? ⟨r, 4, none⟩ = some (.int .i64 kp) := hS.cell 4; have s5 : w'.cell? ⟨r, 5, none⟩ = some (.int .i64 ((D.st - 1 : Nat) : Int)) := hS.cell 5; first | (go_simp; done) | (go_simp; with_reducible rfl)
  refine wpAnyH_take (i := 14) (v := ?_) rfl (by kernel_rfl) (by decide +kernel) (by decide +kernel) (fun _ _ _ h => h) (Or.inl ⟨by rfl, ?_⟩) hS ?_
  rotate_left
  · intro w' hS; have s2 : w'.cell? ⟨r, 2, none⟩ = some (.bool (!D.up)) := hS.cell 2; have s3 : w'.cell? ⟨r, 3, none⟩ = some (.int .i64 (D.fl : Nat)) := hS.cell 3; have s4 : w'.cell? ⟨r, 4, none⟩ = some (.int .i64 kp) := hS.cell 4; have s5 : w'.cell? ⟨r, 5, none⟩ = some (.int .i64 ((D.st - 1 : Nat) : Int)) := hS.cell 5; first | (go_simp; done) | (go_simp; with_reducible rfl)
  refine wpAnyH_take (i := 15) (v := ?_) rfl (by kernel_rfl) (by decide +kernel) (by decide +kernel) (fun _ _ _ h => h) (Or.inl ⟨by rfl, ?_⟩) hS ?_
  rotate_left
  · intro w' hS; have s2 : w'.cell? ⟨r, 2, none⟩ = some (.bool (!D.up)) := hS.cell 2; have s3 : w'.cell? ⟨r, 3, none⟩ = some (.int .i64 (D.fl : Nat)) := hS.cell 3; have s4 : w'.cell? ⟨r, 4, none⟩ = some (.int .i64 kp) := hS.cell 4; have s5 : w'.cell? ⟨r, 5, none⟩ = some (.int .i64 ((D.st - 1 : Nat) : Int)) := hS.cell 5; first | (go_simp; done) | (go_simp; with_reducible rfl)
  refine wpAnyH_take (i := 16) (v := ?_) rfl (by kernel_rfl) (by decide +kernel) (by decide +kernel) (fun _ _ _ h => h) (Or.inl ⟨by rfl, ?_⟩) hS ?_
  rotate_left
  · intro w' hS; have s2 : w'.cell? ⟨r, 2, none⟩ = some (.bool (!D.up)) := hS.cell 2; have s3 : w'.cell? ⟨r, 3, none⟩ = some (.int .i64 (D.fl : Nat)) := hS.cell 3; have s4 : w'.cell? ⟨r, 4, none⟩ = some (.int .i64 kp) := hS.cell 4; have s5 : w'.cell? ⟨r, 5, none⟩ = some (.int .i64 ((D.st - 1 : Nat) : Int)) := hS.cell 5; first | (go_simp; done) | (go_simp; with_reducible rfl)
  refine wpAnyH_all (rs := [17]) (by decide +kernel) (by simp) ?_
  intro i0 hi0
  obtain rfl := List.mem_singleton.1 hi0
  refine wpOp_go rfl rfl (fun K hK => ?_)
  go_simp
  have hS2 := hS.alloc (.cells (rkA { D with s0 := [], s1 := [] } (.slice none 0 0) (.slice none 0 0) kp) 82)
  have bN := Blk.new W 82 (rkA { D with s0 := [], s1 := [] } (.slice none 0 0) (.slice none 0 0) kp)
  have hB2 := hBd.alloc (by omega) (.cells (rkA { D with s0 := [], s1 := [] } (.slice none 0 0) (.slice none 0 0) kp) 82)
  refine hK _ _ ⟨hS2, ?_⟩
  clear hK K
  refine wpAnyH_take (i := 18) (v := ?_) rfl (by kernel_rfl) (by decide +kernel) (by decide +kernel) (fun _ _ _ h => h) (Or.inl ⟨by rfl, ?_⟩) hS2 ?_
  rotate_left
  · intro w' hS; first | (go_simp; done) | (go_simp; with_reducible rfl)
  refine wpAnyH_done (by decide +kernel) ?_ _
  have HD2 : Hid (IsRk (W.alloc (.cells (rkA { D with s0 := [], s1 := [] } (.slice none 0 0) (.slice none 0 0) kp) 82)) W.heap.size (stQ D 0) (.slice none 0 0) (.slice none 0 0) kp) := Lib.hid ⟨bN, HH.out.kp, Own8.nil _, Own8.nil _, HH.out.st, HH.out.fb⟩
  have hgs : w.heap.size ≤ W.heap.size := by omega
  have hrs : r < W.heap.size := hS.lt
  clear hS hS2 bN
  generalize W.alloc (.cells (rkA { D with s0 := [], s1 := [] } (.slice none 0 0) (.slice none 0 0) kp) 82) = W2 at *
  clear hsz0 hBd
  generalize W.heap.size = g at *
  go_wp2
  go_loopw [23] (fun i wr => ∃ (q : Nat) (u0 u1 : Value), q ≤ 2 ∧ i = .int .i64 q ∧ Hid (IsRk wr g (stQ D q) u0 u1 kp) ∧ Below w.heap.size w wr) (fun i _ => 2 - (intOf i).toNat)
  case atStart => exact ⟨0, _, _, by omega, rfl, HD2, hB2⟩
  case round =>
    clear HD2 hB2
    obtain ⟨q, u0, u1, hq, rfl, HD, hB⟩ := hrel
    obtain ⟨wo, rfl⟩ : ∃ wo, wo = wr := ⟨_, rfl⟩
    have hq3 : q = 0 ∨ q = 1 ∨ q = 2 := by omega
    rcases hq3 with rfl | rfl | rfl
    · have hHr := HH.out.below hB
      obtain ⟨A, c, rfl, hR, hnc, hcm⟩ := hHr.o0.rows
      have hnil : A = none → c = 0 := fun e => by
        subst e
        rcases hHr.o0.2 with ⟨e, _⟩ | ⟨g, cap, cur, e, _⟩
        · injection e
        · cases e
      have qv : wo.cell? ⟨r, 0, none⟩ = some (.slice A D.s0.length c) := hHr.blk.cell 0
      have HR := Lib.hid hR
      have HN := Lib.hid hnil
      have hrg : r ≠ g := by omega
      clear hR hnil hnc hcm hHr
      go_wp2
      refine wp_region_held (S := fun W => W.cell? ⟨r, 0, none⟩ = some (.slice A D.s0.length c)) (by kernel_rfl) ?_
      change wpAnyH _ _ _ _ _ _ _ _ (World.drew _)
      have hS : wo.drew.cell? ⟨r, 0, none⟩ = some (.slice A D.s0.length c) := qv
      have HD2 := Lib.hid HD.out.drew
      have hB2 : Below w.heap.size w wo.drew := hB.drew
      have HR2 : Hid (Rows u8L 1 wo.drew A D.s0) := Lib.hid HR.out
      have hrl : r < wo.drew.heap.size := by have := hB2.size; have := HH.out.blk.lt; omega
      clear qv HD hB HR
      generalize wo.drew = W at *
      refine wpAnyH_take (i := 0) (v := ?_) rfl (by kernel_rfl) (by decide +kernel) (by decide +kernel) (fun _ _ _ h => h) (Or.inl ⟨by rfl, ?_⟩) hS ?_
      rotate_left
      · intro w' hS; have s1 : w'.cell? ⟨r, 0, none⟩ = some (.slice A D.s0.length c) := hS; first | (go_simp; done) | (go_simp; with_reducible rfl)
      refine wpAnyH_take (i := 1) (v := ?_) rfl (by kernel_rfl) (by decide +kernel) (by decide +kernel) (fun _ _ _ h => h) (Or.inl ⟨by rfl, ?_⟩) hS ?_
      rotate_left
      · intro w' hS; have s1 : w'.cell? ⟨r, 0, none⟩ = some (.slice A D.s0.length c) := hS; first | (go_simp; done) | (go_simp; with_reducible rfl)
      refine wpAnyH_take (i := 3) (v := ?_) rfl (by kernel_rfl) (by decide +kernel) (by decide +kernel) (fun _ _ _ h => h) (Or.inl ⟨by rfl, ?_⟩) hS ?_
      rotate_left
      · intro w' hS; have s1 : w'.cell? ⟨r, 0, none⟩ = some (.slice A D.s0.length c) := hS; first | (go_simp; done) | (go_simp; with_reducible rfl)
      refine wpAnyH_take (i := 4) (v := ?_) rfl (by kernel_rfl) (by decide +kernel) (by decide +kernel) (fun _ _ _ h => h) (Or.inl ⟨by rfl, ?_⟩) hS ?_
      rotate_left
      · intro w' hS; have s1 : w'.cell? ⟨r, 0, none⟩ = some (.slice A D.s0.length c) := hS; first | (go_simp; done) | (go_simp; with_reducible rfl)
      refine wpAnyH_take (i := 5) (v := ?_) rfl (by kernel_rfl) (by decide +kernel) (by decide +kernel) (fun _ _ _ h => h) (Or.inl ⟨by rfl, ?_⟩) hS ?_
      rotate_left
      · intro w' hS; have s1 : w'.cell? ⟨r, 0, none⟩ = some (.slice A D.s0.length c) := hS; first | (go_simp; done) | (go_simp; with_reducible rfl)
      refine wpAnyH_take (i := 6) (v := ?_) rfl (by kernel_rfl) (by decide +kernel) (by decide +kernel) (fun _ _ _ h => h) (Or.inl ⟨by rfl, ?_⟩) hS ?_
      rotate_left
      · intro w' hS; have s1 : w'.cell? ⟨r, 0, none⟩ = some (.slice A D.s0.length c) := hS; first | (go_simp; done) | (go_simp; with_reducible rfl)
      refine wpAnyH_take (i := 7) (v := ?_) rfl (by kernel_rfl) (by decide +kernel) (by decide +kernel) (fun _ _ _ h => h) (Or.inl ⟨by rfl, ?_⟩) hS ?_
      rotate_left
      · intro w' hS; have s1 : w'.cell? ⟨r, 0, none⟩ = some (.slice A D.s0.length c) := hS; first | (go_simp; done) | (go_simp; with_reducible rfl)
      refine wpAnyH_take (i := 8) (v := ?_) rfl (by kernel_rfl) (by decide +kernel) (by decide +kernel) (fun _ _ _ h => h) (Or.inl ⟨by rfl, ?_⟩) hS ?_
      rotate_left
      · intro w' hS; have s1 : w'.cell? ⟨r, 0, none⟩ = some (.slice A D.s0.length c) := hS; first | (go_simp; done) | (go_simp; with_reducible rfl)
      refine wpAnyH_take (i := 10) (v := ?_) rfl (by kernel_rfl) (by decide +kernel) (by decide +kernel) (fun _ _ _ h => h) (Or.inl ⟨by rfl, ?_⟩) hS ?_
      rotate_left
      · intro w' hS; have s1 : w'.cell? ⟨r, 0, none⟩ = some (.slice A D.s0.length c) := hS; first | (go_simp; done) | (go_simp; with_reducible rfl)
      refine wpAnyH_take (i := 11) (v := ?_) rfl (by kernel_rfl) (by decide +kernel) (by decide +kernel) (fun _ _ _ h => h) (Or.inl ⟨by rfl, ?_⟩) hS ?_
      rotate_left
      · intro w' hS; have s1 : w'.cell? ⟨r, 0, none⟩ = some (.slice A D.s0.length c) := hS; first | (go_simp; done) | (go_simp; with_reducible rfl)
      refine wpAnyH_all (rs := [2]) (by decide +kernel) (by simp) ?_
      intro i0 hi0
      obtain rfl := List.mem_singleton.1 hi0
      refine wpOp_go rfl rfl (fun K hK => ?_)
      go_simp
      have hA9 := (Below.refl W.heap.size W).alloc (Nat.le_refl _) (.cells #[] 5)
      have hS9 : (W.alloc (.cells #[] 5)).cell? ⟨r, 0, none⟩ = some (.slice A D.s0.length c) := (hA9.cell (p := ⟨r, 0, none⟩) hrl).trans hS
      refine hK _ _ ⟨hS9, ?_⟩
      clear hK K
      refine wpAnyH_all (rs := [9]) (by decide +kernel) (by simp) ?_
      intro i0 hi0
      obtain rfl := List.mem_singleton.1 hi0
      refine wpOp_go rfl rfl (fun K hK => ?_)
      have hB9 := hA9.size
      refine wp_app8 _ _ rfl W.heap.size _ 0 [] rfl (own0 _) hB9 A D.s0 _ c rfl rfl (HR2.out.below hA9) HN.out (by have := HZ.out.1; omega) ?_
      intro v3 w3 hO3 hb3
      rw [Nat.zero_add, List.nil_append] at hO3
      obtain ⟨A3, c3, rfl, _, _, _⟩ := rows_of_owns encU8 hO3
      have hb4 := hA9.trans hb3
      have hD3 := HD2.out.below hb4
      have hB3 := hB2.trans (hb4.mono hB2.size)
      have HO3 := Lib.hid (own_mono hO3 (Nat.zero_le _))
      have HD3 := Lib.hid hD3
      have hS3 : w3.cell? ⟨r, 0, none⟩ = some (.slice A D.s0.length c) := (hb4.cell (p := ⟨r, 0, none⟩) hrl).trans hS
      have q2 := hD3.blk.cell 0
      have f2 := hD3.blk.frozen 0
      clear hD3 hO3 hb3 hb4 HD2 HR2 hA9 hB9 hS9 hS hB2
      refine hK _ _ ⟨hS3, ?_⟩
      clear hK K
      refine wpAnyH_take (i := 12) (v := ?_) rfl (by kernel_rfl) (by decide +kernel) (by decide +kernel) (fun _ _ _ h => h) (Or.inl ⟨by rfl, ?_⟩) hS3 ?_
      rotate_left
      · intro w' hS; first | (go_simp; done) | (go_simp; with_reducible rfl)
      refine wpAnyH_all (rs := [13]) (by decide +kernel) (by simp) ?_
      intro i0 hi0
      obtain rfl := List.mem_singleton.1 hi0
      refine wpOp_go rfl rfl (fun K hK => ?_)
      go_simp
      have hf4 : Fr [g] w3 (w3.setCell ⟨g, 0, none⟩ (.slice A3 (List.length D.s0) c3)) := Fr.setCell w3 g 0 _
      have hS4 : (w3.setCell ⟨g, 0, none⟩ (.slice A3 (List.length D.s0) c3)).cell? ⟨r, 0, none⟩ = some (.slice A D.s0.length c) := (hf4.cell (by have := hB3.size; have := HH.out.blk.lt; omega) (by simpa using hrg)).trans hS3
      refine hK _ _ ⟨hS4, ?_⟩
      clear hK K
      refine wpAnyH_done (by decide +kernel) ?_ _
      have hO4 : Own8 (w3.setCell ⟨g, 0, none⟩ (.slice A3 (List.length D.s0) c3)) (.slice A3 (List.length D.s0) c3) D.s0 := Own8.fr HO3.out hf4 HD3.out.at_
      have hD4 := HD3.out.turn (D' := stQ D 1) hf4 (HD3.out.blk.set_ 0 _) HD3.out.kp HD3.out.st HD3.out.fb (.inr hO4) (.inl ⟨rfl, rfl⟩)
      have HD4 := Lib.hid hD4
      have hB4 := hB3.trans (hf4.below (B := w.heap.size) (by intro k hk; simp at hk; omega) hB3.size)
      clear hf4 hO4 hD4 q2 f2 HD3 HO3 hS4 hS3 hB3
      generalize w3.setCell ⟨g, 0, none⟩ (.slice A3 (List.length D.s0) c3) = w4 at *
      go_wp2
      go_roundw
      case rel => exact ⟨1, _, _, by omega, by simp, HD4, hB4⟩
      case measure => simp [intOf]
    · have hHr := HH.out.below hB
      obtain ⟨A, c, rfl, hR, hnc, hcm⟩ := hHr.o1.rows
      have hnil : A = none → c = 0 := fun e => by
        subst e
        rcases hHr.o1.2 with ⟨e, _⟩ | ⟨g, cap, cur, e, _⟩
        · injection e
        · cases e
      have qv : wo.cell? ⟨r, 1, none⟩ = some (.slice A D.s1.length c) := hHr.blk.cell 1
      have HR := Lib.hid hR
      have HN := Lib.hid hnil
      have hrg : r ≠ g := by omega
      clear hR hnil hnc hcm hHr
      go_wp2
      refine wp_region_held (S := fun W => W.cell? ⟨r, 1, none⟩ = some (.slice A D.s1.length c)) (by kernel_rfl) ?_
      change wpAnyH _ _ _ _ _ _ _ _ (World.drew _)
      have hS : wo.drew.cell? ⟨r, 1, none⟩ = some (.slice A D.s1.length c) := qv
      have HD2 := Lib.hid HD.out.drew
      have hB2 : Below w.heap.size w wo.drew := hB.drew
      have HR2 : Hid (Rows u8L 1 wo.drew A D.s1) := Lib.hid HR.out
      have hrl : r < wo.drew.heap.size := by have := hB2.size; have := HH.out.blk.lt; omega
      clear qv HD hB HR
      generalize wo.drew = W at *
      refine wpAnyH_take (i := 0) (v := ?_) rfl (by kernel_rfl) (by decide +kernel) (by decide +kernel) (fun _ _ _ h => h) (Or.inl ⟨by rfl, ?_⟩) hS ?_
      rotate_left
      · intro w' hS; have s1 : w'.cell? ⟨r, 1, none⟩ = some (.slice A D.s1.length c) := hS; first | (go_simp; done) | (go_simp; with_reducible rfl)
      refine wpAnyH_take (i := 1) (v := ?_) rfl (by kernel_rfl) (by decide +kernel) (by decide +kernel) (fun _ _ _ h => h) (Or.inl ⟨by rfl, ?_⟩) hS ?_
      rotate_left
      · intro w' hS; have s1 : w'.cell? ⟨r, 1, none⟩ = some (.slice A D.s1.length c) := hS; first | (go_simp; done) | (go_simp; with_reducible rfl)
      refine wpAnyH_take (i := 3) (v := ?_) rfl (by kernel_rfl) (by decide +kernel) (by decide +kernel) (fun _ _ _ h => h) (Or.inl ⟨by rfl, ?_⟩) hS ?_
      rotate_left
      · intro w' hS; have s1 : w'.cell? ⟨r, 1, none⟩ = some (.slice A D.s1.length c) := hS; first | (go_simp; done) | (go_simp; with_reducible rfl)
      refine wpAnyH_take (i := 4) (v := ?_) rfl (by kernel_rfl) (by decide +kernel) (by decide +kernel) (fun _ _ _ h => h) (Or.inl ⟨by rfl, ?_⟩) hS ?_
      rotate_left
      · intro w' hS; have s1 : w'.cell? ⟨r, 1, none⟩ = some (.slice A D.s1.length c) := hS; first | (go_simp; done) | (go_simp; with_reducible rfl)
      refine wpAnyH_take (i := 5) (v := ?_) rfl (by kernel_rfl) (by decide +kernel) (by decide +kernel) (fun _ _ _ h => h) (Or.inl ⟨by rfl, ?_⟩) hS ?_
      rotate_left
      · intro w' hS; have s1 : w'.cell? ⟨r, 1, none⟩ = some (.slice A D.s1.length c) := hS; first | (go_simp; done) | (go_simp; with_reducible rfl)
      refine wpAnyH_take (i := 6) (v := ?_) rfl (by kernel_rfl) (by decide +kernel) (by decide +kernel) (fun _ _ _ h => h) (Or.inl ⟨by rfl, ?_⟩) hS ?_
      rotate_left
      · intro w' hS; have s1 : w'.cell? ⟨r, 1, none⟩ = some (.slice A D.s1.length c) := hS; first | (go_simp; done) | (go_simp; with_reducible rfl)
      refine wpAnyH_take (i := 7) (v := ?_) rfl (by kernel_rfl) (by decide +kernel) (by decide +kernel) (fun _ _ _ h => h) (Or.inl ⟨by rfl, ?_⟩) hS ?_
      rotate_left
      · intro w' hS; have s1 : w'.cell? ⟨r, 1, none⟩ = some (.slice A D.s1.length c) := hS; first | (go_simp; done) | (go_simp; with_reducible rfl)
      refine wpAnyH_take (i := 8) (v := ?_) rfl (by kernel_rfl) (by decide +kernel) (by decide +kernel) (fun _ _ _ h => h) (Or.inl ⟨by rfl, ?_⟩) hS ?_
      rotate_left
      · intro w' hS; have s1 : w'.cell? ⟨r, 1, none⟩ = some (.slice A D.s1.length c) := hS; first | (go_simp; done) | (go_simp; with_reducible rfl)
      refine wpAnyH_take (i := 10) (v := ?_) rfl (by kernel_rfl) (by decide +kernel) (by decide +kernel) (fun _ _ _ h => h) (Or.inl ⟨by rfl, ?_⟩) hS ?_
      rotate_left
      · intro w' hS; have s1 : w'.cell? ⟨r, 1, none⟩ = some (.slice A D.s1.length c) := hS; first | (go_simp; done) | (go_simp; with_reducible rfl)
      refine wpAnyH_take (i := 11) (v := ?_) rfl (by kernel_rfl) (by decide +kernel) (by decide +kernel) (fun _ _ _ h => h) (Or.inl ⟨by rfl, ?_⟩) hS ?_
      rotate_left
      · intro w' hS; have s1 : w'.cell? ⟨r, 1, none⟩ = some (.slice A D.s1.length c) := hS; first | (go_simp; done) | (go_simp; with_reducible rfl)
      refine wpAnyH_all (rs := [2]) (by decide +kernel) (by simp) ?_
      intro i0 hi0
      obtain rfl := List.mem_singleton.1 hi0
      refine wpOp_go rfl rfl (fun K hK => ?_)
      go_simp
      have hA9 := (Below.refl W.heap.size W).alloc (Nat.le_refl _) (.cells #[] 5)
      have hS9 : (W.alloc (.cells #[] 5)).cell? ⟨r, 1, none⟩ = some (.slice A D.s1.length c) := (hA9.cell (p := ⟨r, 1, none⟩) hrl).trans hS
      refine hK _ _ ⟨hS9, ?_⟩
      clear hK K
      refine wpAnyH_all (rs := [9]) (by decide +kernel) (by simp) ?_
      intro i0 hi0
      obtain rfl := List.mem_singleton.1 hi0
      refine wpOp_go rfl rfl (fun K hK => ?_)
      have hB9 := hA9.size
      refine wp_app8 _ _ rfl W.heap.size _ 0 [] rfl (own0 _) hB9 A D.s1 _ c rfl rfl (HR2.out.below hA9) HN.out (by have := HZ.out.2; omega) ?_
      intro v3 w3 hO3 hb3
      rw [Nat.zero_add, List.nil_append] at hO3
      obtain ⟨A3, c3, rfl, _, _, _⟩ := rows_of_owns encU8 hO3
      have hb4 := hA9.trans hb3
      have hD3 := HD2.out.below hb4
      have hB3 := hB2.trans (hb4.mono hB2.size)
      have HO3 := Lib.hid (own_mono hO3 (Nat.zero_le _))
      have HD3 := Lib.hid hD3
      have hS3 : w3.cell? ⟨r, 1, none⟩ = some (.slice A D.s1.length c) := (hb4.cell (p := ⟨r, 1, none⟩) hrl).trans hS
      have q2 := hD3.blk.cell 1
      have f2 := hD3.blk.frozen 1
      clear hD3 hO3 hb3 hb4 HD2 HR2 hA9 hB9 hS9 hS hB2
      refine hK _ _ ⟨hS3, ?_⟩
      clear hK K
      refine wpAnyH_take (i := 12) (v := ?_) rfl (by kernel_rfl) (by decide +kernel) (by decide +kernel) (fun _ _ _ h => h) (Or.inl ⟨by rfl, ?_⟩) hS3 ?_
      rotate_left
      · intro w' hS; first | (go_simp; done) | (go_simp; with_reducible rfl)
      refine wpAnyH_all (rs := [13]) (by decide +kernel) (by simp) ?_
      intro i0 hi0
      obtain rfl := List.mem_singleton.1 hi0
      refine wpOp_go rfl rfl (fun K hK => ?_)
      go_simp
      have hf4 : Fr [g] w3 (w3.setCell ⟨g, 1, none⟩ (.slice A3 (List.length D.s1) c3)) := Fr.setCell w3 g 1 _
      have hS4 : (w3.setCell ⟨g, 1, none⟩ (.slice A3 (List.length D.s1) c3)).cell? ⟨r, 1, none⟩ = some (.slice A D.s1.length c) := (hf4.cell (by have := hB3.size; have := HH.out.blk.lt; omega) (by simpa using hrg)).trans hS3
      refine hK _ _ ⟨hS4, ?_⟩
      clear hK K
      refine wpAnyH_done (by decide +kernel) ?_ _
      have hO4 : Own8 (w3.setCell ⟨g, 1, none⟩ (.slice A3 (List.length D.s1) c3)) (.slice A3 (List.length D.s1) c3) D.s1 := Own8.fr HO3.out hf4 HD3.out.at_
      have hD4 := HD3.out.turn (D' := stQ D 2) hf4 (HD3.out.blk.set_ 1 _) HD3.out.kp HD3.out.st HD3.out.fb (.inl ⟨rfl, rfl⟩) (.inr hO4)
      have HD4 := Lib.hid hD4
      have hB4 := hB3.trans (hf4.below (B := w.heap.size) (by intro k hk; simp at hk; omega) hB3.size)
      clear hf4 hO4 hD4 q2 f2 HD3 HO3 hS4 hS3 hB3
      generalize w3.setCell ⟨g, 1, none⟩ (.slice A3 (List.length D.s1) c3) = w4 at *
      go_wp2
      go_roundw
      case rel => exact ⟨2, _, _, by omega, by simp, HD4, hB4⟩
      case measure => simp [intOf]
    · go_wp2
      go_ret
      exact ⟨_, rfl, hgs, ⟨_, _, _, HD.out⟩, hB⟩
end Go.Proofs.Ytalfffkcmddakab
