import Derived.Test.YticjhkfidgkecaaGreatDoorC4
import Derived.Test.YticjhkfidgkecaaGreatDoorB5
namespace Go.Proofs.YticjhkfidgkecaaGreatDoor
open Go.RowKit Pl

theorem RdL.get' {w : World} {ps : List Tree} {A : Option Addr} (h : RdL w ps A) (h0 : 0 < ps.length) : ∃ b o, A = some ⟨b, o, none⟩ := by
  obtain ⟨b, o, e, _⟩ := h.addr h0
  exact ⟨b, o, e⟩
set_option maxRecDepth 100000 in
set_option maxHeartbeats 4000000 in
theorem build_step (h : Hd) (ps : List Tree) (vs : List Value) (hlen : vs.length = ps.length) (h0 : 0 < ps.length) (hle2 : ps.length ≤ 2)
    (hB : ∀ k (hk : k < ps.length), ∃ t x, vs[k]? = some (.iface t x) ∧ BuildC ps[k] (.iface t x))
    (V : Value) (e : E3) (hV : ExtOk V e) (hp : 0 ≤ e.x ∧ 0 ≤ e.y ∧ 0 ≤ e.z) (hf : Fits e)
    (hJ : ∀ (A : Option Addr) (c g d : Nat) (w : World), Own w → (∀ i u, vs[i]? = some u → w.cell? ⟨g, i, none⟩ = some u) →
      Calls Tryz.prog 126 #[bv h A ps.length c, .slice (some ⟨g, 0, none⟩) ps.length d] w fun e' w' => e' = .returned (.tuple #[V, .bool true]) ∧ Below w.heap.size w w') : BuildC (.node h ps) V := by
  intro A c w hR hO
  dsimp only [Tree.hd, Tree.ps] at hR ⊢
  obtain ⟨b, o, rfl⟩ := hR.get' h0
  obtain ⟨i0, hi, hz0, hz1, hz2⟩ := info_parts info77
  have hb := (Below.refl w.heap.size w).alloc (Nat.le_refl _) (.cells #[.int .i64 h.op, .int .i64 h.ax, .int .u8 h.col, .int .i64 h.n0, .int .i64 h.n1, .int .i64 h.n2, .slice (some ⟨b, o, none⟩) ps.length c] 25)
  have HB := Lib.hid hb
  have HBB := Lib.hid (Blk.new w 25 #[.int .i64 h.op, .int .i64 h.ax, .int .u8 h.col, .int .i64 h.n0, .int .i64 h.n1, .int .i64 h.n2, .slice (some ⟨b, o, none⟩) ps.length c])
  have HOw := Lib.hid hO
  have HR := Lib.hid hR
  have HBC := Lib.hid hB
  have HJ := Lib.hid (hJ (some ⟨b, o, none⟩) c)
  have HFt := Lib.hid (fun w => fits_any e w hp)
  have hd : decide (Fits e) = true := by simpa using hf
  rw [hd] at HFt
  have HX := Lib.hid (fun w => extents_shape e w)
  obtain ⟨tv, xv, rfl, hm⟩ := hV
  have HM := Lib.hid hm
  have HLEN := Lib.hid hlen
  clear hb hO hp hf hd hR hB hJ hm hlen
  unfold bv hdc
  go_enter Tryz.func102, Tryz.ntmps102
  go_wp2_with (at_make; refine wpList_make_own _ rfl _ _ 148 rfl (w.heap.size + 1) 77 i0 _ 1 Tryz.underlying148 hi hz0 hz1 .i64 .i64 _ ps.length rfl rfl rfl (by rw [hz2]; omega) (by unfold maxLen; omega) (by simp) ?_; intro w0 hown0 hgrow0; have hBw : Below w.heap.size w w0 := HB.out.grown hgrow0 HB.out.size (fun k e => by cases e); have hBn : Blk w0 w.heap.size 25 #[.int .i64 h.op, .int .i64 h.ax, .int .u8 h.col, .int .i64 h.n0, .int .i64 h.n1, .int .i64 h.n2, .slice (some ⟨b, o, none⟩) ps.length c] := (hgrow0.block w.heap.size HBB.out.lt (by simp)).trans HBB.out; have HBw := Lib.hid hBw; have HBn := Lib.hid hBn; rw [World.size_alloc] at hown0; have HO := Lib.hid hown0; have c6 : w0.cell? ⟨w.heap.size, 6, none⟩ = some (.slice (some ⟨b, o, none⟩) ps.length c) := (hBn.cell 6).trans rfl; clear hown0 hgrow0 hBw hBn)
  clear c6
  obtain ⟨n0, hn0⟩ : ∃ n0, n0 = w.heap.size := ⟨_, rfl⟩
  have Hn0 := Lib.hid hn0
  clear hn0
  rw [← Hn0.out] at HBn HO ⊢
  go_loopw [4, 18] (fun pv i wr => ∃ k : Nat, k ≤ ps.length ∧ i = .int .i64 k ∧ wr.ownsRow (n0 + 1) 77 1 pv k (vs.take k) ∧ Below w.heap.size w wr ∧ Blk wr n0 25 #[.int .i64 h.op, .int .i64 h.ax, .int .u8 h.col, .int .i64 h.n0, .int .i64 h.n1, .int .i64 h.n2, .slice (some ⟨b, o, none⟩) ps.length c]) (fun _ i _ => ps.length - (intOf i).toNat)
  case atStart => exact ⟨0, by omega, rfl, HO.out, HBw.out, HBn.out⟩
  case round =>
    clear HO HBw HBn
    obtain ⟨k, hk, rfl, hown, hBw, hBn⟩ := hrel
    have HO := Lib.hid hown
    have HBw := Lib.hid hBw
    have HBn := Lib.hid hBn
    clear hown hBw hBn
    by_cases hlt : k < ps.length
    · obtain ⟨A', c', hc, hr'⟩ := ((HR.out.get k hlt).below HBw.out).open
      obtain ⟨t, x, hvk, hbk⟩ := HBC.out k hlt
      obtain ⟨p, hpk⟩ : ∃ p, p = ps[k] := ⟨_, rfl⟩
      rw [← hpk] at hc hr' hbk
      have HVK := Lib.hid hvk
      clear hpk hvk
      obtain ⟨c0, c1, c2, c3, c4, c5, c6⟩ := hc
      have hb1 := (Below.refl wr.heap.size wr).alloc (Nat.le_refl _) (hdo p.hd A' p.ps.length c')
      have HCL := Lib.hid (hbk A' c' _ (hr'.below hb1) ((HOw.out.below HBw.out).below hb1))
      have HO1 := Lib.hid (HO.out.kept (row := none) ⟨hb1.os, hb1.tape, hb1.output, hb1.size, fun k hk _ => hb1.block k hk⟩ (by cases hv : Value.ownBlock _ <;> simp))
      have HBw1 := Lib.hid (below_trans HBw.out hb1)
      have HBn1 := Lib.hid (HBn.out.below hb1 HBn.out.lt)
      clear hb1 hr' hbk
      go_wp2_with fail
      refine HCL.out.mono ?_
      rintro e' w3 ⟨rfl, hb3⟩
      have HO3 := Lib.hid (HO1.out.kept (row := none) ⟨hb3.os, hb3.tape, hb3.output, hb3.size, fun k hk _ => hb3.block k hk⟩ (by cases hv : Value.ownBlock _ <;> simp))
      have HBw3 := Lib.hid (below_trans HBw1.out hb3)
      have HBn3 := Lib.hid (HBn1.out.below hb3 HBn1.out.lt)
      clear hb3 HCL HO1 HBw1 HBn1 c0 c1 c2 c3 c4 c5 c6
      go_wp2_with (at_builtin; refine wpList_append_own _ rfl _ _ 148 rfl (n0 + 1) 77 i0 _ 1 16 Tryz.underlying148 hi hz0 hz1 hz2 rfl (by decide) _ _ _ rfl (HO3.out.alloc _) ⟨w3.heap.size, 0, none⟩ 1 1 [.iface t x] rfl rfl (new1 _ _) (fun u hu => by simp at hu; subst hu; rfl) (by unfold maxLen; omega) (by omega) (by have := HBn3.out.lt; simp; omega) ?_; intro v' w4 hown' hgrow _)
      have HBw4 : Hid (Below w.heap.size w w4) := Lib.hid ((HBw3.out.alloc HBw3.out.size (.cells #[.iface t x] 77)).grown hgrow (by have := HBw3.out.size; simp; omega) (fun k e => by have := (HO3.out.lt k e).1; have := Hn0.out; omega))
      have HBn4 : Hid (Blk w4 n0 25 _) := Lib.hid ((hgrow.block n0 (by have := HBn3.out.lt; simp; omega) (fun e => by have := (HO3.out.lt n0 e.symm).1; omega)).trans (HBn3.out.alloc (.cells #[.iface t x] 77)))
      have HO4 : Hid (w4.ownsRow (n0 + 1) 77 1 v' (k + 1) (vs.take (k + 1))) := Lib.hid (by rw [List.take_add_one, HVK.out]; exact hown')
      clear hgrow hown' HO3 HBw3 HBn3
      go_wp2_with fail
      go_roundw
      case rel => exact ⟨k + 1, by omega, by go_num, HO4.out, HBw4.out, HBn4.out⟩
      case measure => simp [intOf]; omega
    · obtain rfl : k = ps.length := by omega
      have hown := HO.out
      rw [List.take_of_length_le (Nat.le_of_eq HLEN.out)] at hown
      obtain ⟨g, d, rfl, hg1, hg2, hg3, hcell⟩ := own_slice hown h0
      have HCL := Lib.hid (HJ.out g d wr (HOw.out.below HBw.out) hcell)
      have hB := HBn.out
      have c0 : wr.cell? ⟨n0, 0, none⟩ = some (.int .i64 h.op) := (hB.cell 0).trans rfl
      have c1 : wr.cell? ⟨n0, 1, none⟩ = some (.int .i64 h.ax) := (hB.cell 1).trans rfl
      have c2 : wr.cell? ⟨n0, 2, none⟩ = some (.int .u8 h.col) := (hB.cell 2).trans rfl
      have c3 : wr.cell? ⟨n0, 3, none⟩ = some (.int .i64 h.n0) := (hB.cell 3).trans rfl
      have c4 : wr.cell? ⟨n0, 4, none⟩ = some (.int .i64 h.n1) := (hB.cell 4).trans rfl
      have c5 : wr.cell? ⟨n0, 5, none⟩ = some (.int .i64 h.n2) := (hB.cell 5).trans rfl
      have c6 : wr.cell? ⟨n0, 6, none⟩ = some (.slice (some ⟨b, o, none⟩) ps.length c) := (hB.cell 6).trans rfl
      have hm := HM.out
      have hcall := call201
      clear hown hcell hB hg1 hg2 hg3
      go_wp2_with fail
      refine HCL.out.mono ?_
      rintro e' w1 ⟨rfl, hb1⟩
      have HB1 := Lib.hid (below_trans HBw.out hb1)
      clear hb1 HCL c0 c1 c2 c3 c4 c5 c6
      go_wp2_with fail
      refine (HX.out _).mono ?_
      rintro e' w2 ⟨rfl, hb2⟩
      have HB2 := Lib.hid (below_trans HB1.out hb2)
      clear hb2
      go_wp2_with fail
      refine (HFt.out _).mono ?_
      rintro e' w3 ⟨rfl, hb3⟩
      have HB3 := Lib.hid (below_trans HB2.out hb3)
      clear hb3
      go_wp2_with fail
      go_ret2
      exact ⟨ret2 rfl rfl, HB3.out⟩
end Go.Proofs.YticjhkfidgkecaaGreatDoor
