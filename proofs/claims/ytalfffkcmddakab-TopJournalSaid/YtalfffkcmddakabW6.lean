/- decodedEntry of the program. -/
import Derived.Test.YtalfffkcmddakabW5
namespace Go.Proofs.Ytalfffkcmddakab
open Go.RowKit Go.Shelf

theorem u8_lt (x : UInt8) : x.toNat < 256 := x.toNat_lt
/-- 13 bytes that lie somewhere -/
def In13 (W : World) (b off : Nat) (l : Pl.Bs) : Prop := ∀ (i : Nat) (hi : i < l.length), W.rangeAt b (off + i * 1) (u8L l[i])
theorem In13.below {W W' : World} {b off : Nat} {l : Pl.Bs} (h : In13 W b off l) (hb : b < W.heap.size) (hB : Below W.heap.size W W') : In13 W' b off l := fun i hi => rangeAt_below (h i hi) hb hB
set_option maxRecDepth 100000 in
set_option maxHeartbeats 8000000 in
theorem decentry_b (b off : Nat) (l : Pl.Bs) (hn : l.length = 13) (w : World) (hb : b < w.heap.size) (hI : In13 w b off l) :
    Calls Try.prog 72 #[.slice (some ⟨b, off, none⟩) 13 13] w fun e w' => e = .returned (.agg (enA (Pl.de1 l))) ∧ Below w.heap.size w w' := by
  have bZ := Blk.new w 72 zen
  have hB := (Below.refl w.heap.size w).alloc (Nat.le_refl _) (.cells zen 72)
  have hI1 := hI.below hb hB
  have HB := Lib.hid hB
  obtain ⟨x0, hx0⟩ : ∃ x, x = l[0]'(by omega) := ⟨_, rfl⟩
  have H0 : Hid (∀ W, In13 W b off l → W.cell? ⟨b, off, none⟩ = some (.int .u8 (x0.toNat : Int))) := Lib.hid (fun W h => by
    have := h 0 (by omega) 0 _ rfl
    rw [hx0]
    exact this)
  have hk0 : (Pl.de1 l).k = (x0.toNat : Int) := by
    unfold Pl.de1
    rw [hx0]
    simp [List.getD_eq_getElem?_getD, List.getElem?_eq_getElem (show 0 < l.length by omega)]
  have hx := u8_lt x0
  have HA : Hid (∀ W k, In13 W b off l → k + 4 ≤ 13 → Calls Try.prog 63 #[.slice (some ⟨b, off, none⟩) 13 13, .int .i64 (k : Nat)] W fun e w' => e = .returned (.int .i64 ((Pl.num ((l.drop k).take 4) : Nat) : Int)) ∧ w' = W) :=
    Lib.hid (fun W k h hk => numat_any b off l 13 13 k (k : Nat) rfl hn hk (Nat.le_refl _) (by decide) W h)
  have eA : (Pl.de1 l) = ⟨(x0.toNat : Int), ((Pl.num ((l.drop 1).take 4) : Nat) : Int), ((Pl.num ((l.drop 5).take 4) : Nat) : Int), ((Pl.num ((l.drop 9).take 4) : Nat) : Int)⟩ := by
    have : Pl.de1 l = ⟨(Pl.de1 l).k, (Pl.de1 l).r, (Pl.de1 l).d, (Pl.de1 l).c⟩ := rfl
    rw [this, hk0]
    rfl
  rw [eA]
  have hA1 := Lib.hid (fun W h => HA.out W 1 h (by omega))
  have hA5 := Lib.hid (fun W h => HA.out W 5 h (by omega))
  have hA9 := Lib.hid (fun W h => HA.out W 9 h (by omega))
  generalize Pl.num ((l.drop 1).take 4) = n1 at *
  generalize Pl.num ((l.drop 5).take 4) = n5 at *
  generalize Pl.num ((l.drop 9).take 4) = n9 at *
  generalize x0.toNat = z at *
  have kz : IntKind.i64.wrap (z : Int) = (z : Int) := IntWalk.i64_in _ (by omega)
  clear eA hk0 hx0 hI hB HA
  go_enter Try.func72, Try.ntmps72
  go_wp2
  refine wp_region_held (S := fun W => In13 W b off l ∧ (∃ cs : Array Value, cs.size = 4 ∧ Blk W w.heap.size 72 cs) ∧ Below w.heap.size w W) (by kernel_rfl) ?_
  change wpAnyH _ _ _ _ _ _ _ _ (World.drew _)
  have hS : (fun W : World => In13 W b off l ∧ (∃ cs : Array Value, cs.size = 4 ∧ Blk W w.heap.size 72 cs) ∧ Below w.heap.size w W) (w.alloc (.cells zen 72)).drew := ⟨hI1, ⟨_, rfl, bZ.drew⟩, HB.out.drew⟩
  generalize (w.alloc (.cells zen 72)).drew = W at *
  refine wpAnyH_take (i := 0) (v := ?_) rfl (by kernel_rfl) (by decide +kernel) (by decide +kernel) (fun _ _ _ h => h) (Or.inl ⟨by rfl, ?_⟩) hS ?_
  rotate_left
  · intro w' hS; first | (go_simp; done) | (go_simp; with_reducible rfl)
  refine wpAnyH_take (i := 1) (v := ?_) rfl (by kernel_rfl) (by decide +kernel) (by decide +kernel) (fun _ _ _ h => h) (Or.inl ⟨by rfl, ?_⟩) hS ?_
  rotate_left
  · intro w' hS; first | (go_simp; done) | (go_simp; with_reducible rfl)
  refine wpAnyH_take (i := 2) (v := ?_) rfl (by kernel_rfl) (by decide +kernel) (by decide +kernel) (fun _ _ _ h => h) (Or.inl ⟨by rfl, ?_⟩) hS ?_
  rotate_left
  · intro w' hS; have c0 := H0.out w' hS.1; first | (go_simp; done) | (go_simp; with_reducible rfl)
  refine wpAnyH_take (i := 3) (v := ?_) rfl (by kernel_rfl) (by decide +kernel) (by decide +kernel) (fun _ _ _ h => h) (Or.inl ⟨by rfl, ?_⟩) hS ?_
  rotate_left
  · intro w' hS; first | (go_simp; done) | (go_simp; with_reducible rfl)
  refine wpAnyH_take (i := 4) (v := ?_) rfl (by kernel_rfl) (by decide +kernel) (by decide +kernel) (fun _ _ _ h => h) (Or.inl ⟨by rfl, ?_⟩) hS ?_
  rotate_left
  · intro w' hS; first | (go_simp; done) | (go_simp; with_reducible rfl)
  refine wpAnyH_take (i := 6) (v := ?_) rfl (by kernel_rfl) (by decide +kernel) (by decide +kernel) (fun _ _ _ h => h) (Or.inl ⟨by rfl, ?_⟩) hS ?_
  rotate_left
  · intro w' hS; first | (go_simp; done) | (go_simp; with_reducible rfl)
  refine wpAnyH_take (i := 8) (v := ?_) rfl (by kernel_rfl) (by decide +kernel) (by decide +kernel) (fun _ _ _ h => h) (Or.inl ⟨by rfl, ?_⟩) hS ?_
  rotate_left
  · intro w' hS; first | (go_simp; done) | (go_simp; with_reducible rfl)
  refine wpAnyH_all (rs := [5]) (by decide +kernel) (by simp) ?_
  intro i0 hi0
  obtain rfl := List.mem_singleton.1 hi0
  refine wpOp_goE rfl rfl (fun K hK => ?_)
  go_simp
  refine (hA1.out _ hS.1).mono ?_
  rintro e w5 ⟨rfl, hw⟩
  rw [hw]
  refine hK _ _ ⟨hS, ?_⟩
  clear hK K
  refine wpAnyH_all (rs := [7]) (by decide +kernel) (by simp) ?_
  intro i0 hi0
  obtain rfl := List.mem_singleton.1 hi0
  refine wpOp_goE rfl rfl (fun K hK => ?_)
  go_simp
  refine (hA5.out _ hS.1).mono ?_
  rintro e w6 ⟨rfl, hw⟩
  rw [hw]
  refine hK _ _ ⟨hS, ?_⟩
  clear hK K
  refine wpAnyH_all (rs := [9]) (by decide +kernel) (by simp) ?_
  intro i0 hi0
  obtain rfl := List.mem_singleton.1 hi0
  refine wpOp_goE rfl rfl (fun K hK => ?_)
  go_simp
  refine (hA9.out _ hS.1).mono ?_
  rintro e w7 ⟨rfl, hw⟩
  rw [hw]
  refine hK _ _ ⟨hS, ?_⟩
  clear hK K
  refine wpAnyH_take (i := 10) (v := ?_) rfl (by kernel_rfl) (by decide +kernel) (by decide +kernel) (fun _ _ _ h => h) (Or.inl ⟨by rfl, ?_⟩) hS ?_
  rotate_left
  · intro w' hS; first | (go_simp; done) | (go_simp; with_reducible rfl)
  refine wpAnyH_all (rs := [11]) (by decide +kernel) (by simp) ?_
  intro i0 hi0
  obtain rfl := List.mem_singleton.1 hi0
  obtain ⟨hI2, ⟨cs, hcs, hZ2⟩, hB2⟩ := hS
  have HB2 := Lib.hid hB2
  have hne : b ≠ w.heap.size := by omega
  refine wpOp_goE rfl rfl (fun K hK => ?_)
  refine wp_store_row 72 _ _ rfl w.heap.size (enA ⟨(z : Int), n1, n5, n9⟩) rfl rfl _ cs hZ2 infoEn hcs (en_all _) (hK _ _ ?_)
  have bN := blk_setRow' (cs := enA ⟨(z : Int), n1, n5, n9⟩) hZ2
  have hI3 : In13 (W.setRow w.heap.size (enA ⟨(z : Int), n1, n5, n9⟩)) b off l := fun i hi j v hv => by
    have h1 := hI2 i hi j v hv
    have h2 := (Only.setRow w.heap.size W (enA ⟨(z : Int), n1, n5, n9⟩)).block b hne
    rw [← h1]
    simp only [World.cell?, h2]
  have HBN := Lib.hid (HB2.out.trans ((Only.setRow w.heap.size W (enA ⟨(z : Int), n1, n5, n9⟩)).below (Nat.le_refl _)))
  generalize W.setRow w.heap.size (enA ⟨(z : Int), n1, n5, n9⟩) = W2 at *
  refine ⟨⟨hI3, ⟨_, rfl, bN⟩, HBN.out⟩, ?_⟩
  refine wpAnyH_done (by decide +kernel) ?_ _
  clear hK K hI2 hZ2 hI3
  go_wp2
  exact bodyPost_ret (v := .agg (enA ⟨(z : Int), n1, n5, n9⟩)) (results_cell1 Try.results72 _ _ w.heap.size 72 (enA ⟨(z : Int), n1, n5, n9⟩) (0, 0) _ rfl bN Try.underlying72 rfl infoEn) rfl ⟨rfl, HBN.out⟩
end Go.Proofs.Ytalfffkcmddakab
