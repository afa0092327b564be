/- The document's covered, covers, Covers. -/
import Derived.Test.YtghbipipehglfaaDoorC3
import Derived.Test.YtghbipipehglfaaDoorB8
namespace Go.Proofs.YtghbipipehglfaaDoor
open Go.RowKit Go.Shelf

theorem run_size {W : World} {b off : Nat} {s : Pl.Sz} (h : W.rangeAt b off (szA s).toList) : (Instr.loadAt 46 (.pointer (some ⟨b, off, none⟩))).run Tryd.prog W = .ok (.agg (szA s)) W :=
  run_loadAt_mid W b off 46 (szA s).toList _ h Tryd.underlying46 rfl info24
theorem run_head {W : World} {b off : Nat} {s : Pl.Hd} (h : W.rangeAt b off (hdA s).toList) : (Instr.loadAt 34 (.pointer (some ⟨b, off, none⟩))).run Tryd.prog W = .ok (.agg (hdA s)) W :=
  run_loadAt_mid W b off 34 (hdA s).toList _ h Tryd.underlying34 rfl info26
theorem Ext.range {w0 : World} (s : Ext w0) {b off : Nat} {cs : List Value} (h : w0.rangeAt b off cs) (hlt : b < w0.heap.size) : s.w.rangeAt b off cs := rangeAt_below h hlt s.h
section
variable {ops : Array Oper} {rest : List Oper} {o : Oper} {a : Act} {Q : Act → Prop} {w0 : World} {b off : Nat}
/-- in a region that draws its order and reads: a whole size, a whole head -/
theorem qld_size {E : Pl.Sz} (hr : w0.rangeAt b off (szA E).toList) (hlt : b < w0.heap.size) (hw : Region.wanted o (yielded ops a.tmps) = true) (x : Operand) (ho : o.op = .load 46 x)
    (hx : a.eval x = .pointer (some ⟨b, off, none⟩)) (h : wpQuiet Tryd.prog ops (fun w' => ∃ s : Ext w0, w' = s.w) Q rest (a.put o.dst (.agg (szA E)))) : wpQuiet Tryd.prog ops (fun w' => ∃ s : Ext w0, w' = s.w) Q (o :: rest) a :=
  BigFrame.wpQuiet_want hw fun K hK => ⟨_, fun w ⟨s, e⟩ => by
    subst e
    unfold Oper.quietAt execOp
    simp only [ho, hx, run_size (s.range hr hlt), Sem.run_bind, Sem.run_pure, Result.andThen_ok]
    exact ⟨rfl, rfl⟩, hK _ h⟩
theorem qld_head {E : Pl.Hd} (hr : w0.rangeAt b off (hdA E).toList) (hlt : b < w0.heap.size) (hw : Region.wanted o (yielded ops a.tmps) = true) (x : Operand) (ho : o.op = .load 34 x)
    (hx : a.eval x = .pointer (some ⟨b, off, none⟩)) (h : wpQuiet Tryd.prog ops (fun w' => ∃ s : Ext w0, w' = s.w) Q rest (a.put o.dst (.agg (hdA E)))) : wpQuiet Tryd.prog ops (fun w' => ∃ s : Ext w0, w' = s.w) Q (o :: rest) a :=
  BigFrame.wpQuiet_want hw fun K hK => ⟨_, fun w ⟨s, e⟩ => by
    subst e
    unfold Oper.quietAt execOp
    simp only [ho, hx, run_head (s.range hr hlt), Sem.run_bind, Sem.run_pure, Result.andThen_ok]
    exact ⟨rfl, rfl⟩, hK _ h⟩
end
/-- the indexes of a list of numbers -/
def nats (l : List Int) : List Nat := l.map Int.toNat
theorem nats_drop {l : List Int} {k : Nat} (hk : k < l.length) : nats (l.drop k) = (l.getD k 0).toNat :: nats (l.drop (k + 1)) := by
  rw [List.drop_eq_getElem_cons hk, List.getD_eq_getElem?_getD, List.getElem?_eq_getElem hk]; rfl

set_option maxRecDepth 100000 in
set_option maxHeartbeats 4000000 in
theorem rcovered_any (A Al : Option Addr) (ss : List Pl.Sz) (h : Pl.Hd) (l : List Int) (c cl : Nat) (w : World) (hv : ∀ k, k < ss.length → Pl.vsz (ss.getD k Pl.zsz) = true) (hh : Pl.vh h = true)
    (hl : ∀ k, k < l.length → 0 ≤ l.getD k 0 ∧ l.getD k 0 < ss.length) (hmax : l.length ≤ 9223372036854775807) (hI : Szs w A ss) (hL : Ints w Al l) :
    Calls Tryd.prog 65 #[.slice A ss.length c, .agg (hdA h), .slice Al l.length cl] w fun e w' => e = .returned (.bool (Pl.cvb ss h (nats l))) ∧ Below w.heap.size w w' := by
  obtain ⟨R, hR⟩ : ∃ R, Pl.cvb ss h (nats (l.drop 0)) = R := ⟨_, rfl⟩
  rw [show Pl.cvb ss h (nats l) = R by rw [← hR, List.drop_zero]]
  have HR := Lib.hid hR
  have HV := Lib.hid hv
  have HH := Lib.hid hh
  have HL := Lib.hid hL
  have HB := Lib.hid hl
  have HI := Lib.hid hI
  have hB0 := (Below.refl w.heap.size w).alloc (Nat.le_refl _) (.cells (hdA h) 34)
  have bH := Blk.new w 34 (hdA h)
  clear hR hv hh hL hl hI
  go_enter Tryd.func65, Tryd.ntmps65
  go_wp2
  go_loopw [8, 11] (fun _ i wr => ∃ k : Nat, k ≤ l.length ∧ i = .int .i64 k ∧ Hid (Pl.cvb ss h (nats (l.drop k)) = R) ∧ Blk wr w.heap.size 34 (hdA h) ∧ Below w.heap.size w wr) (fun _ i _ => l.length - (intOf i).toNat)
  case atStart => exact ⟨0, Nat.zero_le _, rfl, HR, bH, hB0⟩
  case round =>
    clear bH hB0 HR
    obtain ⟨k, hk, rfl, hr, bH, hB⟩ := hrel
    obtain ⟨wo, rfl⟩ : ∃ wo, wo = wr := ⟨_, rfl⟩
    by_cases hlt : k < l.length
    · obtain ⟨bl, ol, rfl, hbl, hcl⟩ : ∃ bb off, Al = some ⟨bb, off, none⟩ ∧ bb < w.heap.size ∧ ∀ j, j < l.length → w.cell? ⟨bb, off + j, none⟩ = some (.int .i64 (l.getD j 0)) := by
        rcases HL.out with h | ⟨bb, off, he, h1, hc⟩
        · rw [h] at hlt; simp at hlt
        · exact ⟨bb, off, he, h1, hc⟩
      have hck : wo.cell? ⟨bl, ol + k, none⟩ = some (.int .i64 (l.getD k 0)) := (hB.cell (p := ⟨bl, ol + k, none⟩) hbl).trans (hcl k hlt)
      obtain ⟨g0, g1⟩ := HB.out k hlt
      have hr2 : Hid ((Pl.fit (ss.getD (l.getD k 0).toNat Pl.zsz) h || Pl.cvb ss h (nats (l.drop (k + 1)))) = R) := Lib.hid (by rw [← hr.out, nats_drop hlt]; rfl)
      clear hr hcl
      generalize l.getD k 0 = y at *
      obtain ⟨i, rfl⟩ := Int.eq_ofNat_of_zero_le g0
      have hi : i < ss.length := by omega
      rw [Int.toNat_natCast] at hr2
      obtain ⟨bz, oz, rfl, hbz, hcz⟩ : ∃ bb off, A = some ⟨bb, off, none⟩ ∧ bb < w.heap.size ∧ ∀ j, j < ss.length → w.rangeAt bb (off + j * 17) (szA (ss.getD j Pl.zsz)).toList := by
        rcases HI.out with h | ⟨bb, off, he, hb, hc⟩
        · rw [h] at hi; simp at hi
        · exact ⟨bb, off, he, hb, hc⟩
      have hsv := HV.out i hi
      have hcs := rangeAt_below (hcz i hi) hbz hB
      have hbo := hB.size
      have hbz2 : bz < wo.heap.size := by omega
      have r1 := bH.range
      have hbh := bH.lt
      obtain ⟨b, hb⟩ : ∃ b, Pl.fit (ss.getD i Pl.zsz) h = b := ⟨_, rfl⟩
      have HFT := Lib.hid (fun w => rfits_any (ss.getD i Pl.zsz) h hsv HH.out w)
      rw [hb] at HFT hr2
      clear hb hcz hsv g0 g1
      generalize ss.getD i Pl.zsz = E1 at *
      go_wp2
      refine wp_region_ext (by kernel_rfl) (by kernel_rfl) ?_
      repeat (first | (refine qld_size hcs hbz2 rfl _ rfl rfl ?_; simp only [Act.put, List.setIfInBounds_toArray, List.set_cons_succ, List.set_cons_zero]) | (refine qld_head r1 hbh rfl _ rfl rfl ?_; simp only [Act.put, List.setIfInBounds_toArray, List.set_cons_succ, List.set_cons_zero]) | go_big_quiet_step ((go_at_call 42; refine calls_ext (HFT.out _))))
      refine wpQuiet_nil ?_
      rintro _ ⟨e, rfl⟩
      have hB2 := hB.trans (e.h.mono hB.size)
      have bH2 := bH.below e.h bH.lt
      generalize e.w = W2 at *
      clear hcs r1 bH hB e HFT hck
      cases b with
      | true =>
        have HT : Hid (R = true) := Lib.hid hr2.out.symm
        go_wp2
        go_ret
        exact ⟨by rw [HT.out]; rfl, hB2⟩
      | false =>
        have HN : Hid (Pl.cvb ss h (nats (l.drop (k + 1))) = R) := Lib.hid hr2.out
        go_wp2
        go_roundw
        case rel => exact ⟨k + 1, by omega, by go_num, HN, bH2, hB2⟩
        case measure => simp [intOf]; omega
    · obtain rfl : k = l.length := by omega
      have HF : Hid (R = false) := Lib.hid (by rw [← hr.out, List.drop_length]; rfl)
      go_wp2
      go_ret
      exact ⟨by rw [HF.out]; rfl, hB⟩
end Go.Proofs.YtghbipipehglfaaDoor
