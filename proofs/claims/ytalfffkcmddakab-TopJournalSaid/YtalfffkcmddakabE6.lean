/- sorted of the program: the entries of a map, in the order of entries. -/
import Derived.Test.YtalfffkcmddakabE3
import Derived.Test.YtalfffkcmddakabE4
import Derived.Deep.Onto
namespace Go.Proofs.Ytalfffkcmddakab
open Go.RowKit Go.Shelf Go.Sort Go.Lib

theorem Pl.Ok.perm {a b : List Pl.En} (h : Pl.Ok a) (hp : a.Perm b) : Pl.Ok b :=
  ⟨by rw [← hp.length_eq]; exact h.len, fun e he => h.k e (hp.mem_iff.2 he), ((hp.map Pl.nm).nodup_iff).1 h.dif⟩
theorem enL_one (e : Pl.En) : ∀ v ∈ enL e, v.oneCell' = true := encEn.one e
theorem own_ne' {W : World} {B g : Nat} {t : TypeId} {k n : Nat} {v : Value} {xs : List Value} (h : W.ownsRow B t k v n xs) (hg : g < B) : v.ownBlock ≠ some g := fun e => by have := (h.lt g e).1; omega
theorem RG.len {D : DataW Value} {S : List Pl.En} {left : Lit → Bool} {acc : List Pl.En} (h : RG D S left acc) : acc.length ≤ S.length := List.Nodup.length_le_of_subset h.nod h.sub
set_option maxRecDepth 100000 in
set_option maxHeartbeats 8000000 in
theorem sorted_any (b m : Nat) (S : List Pl.En) (hS : Pl.Ok S) (w : World) (hM : MapE w b m S) :
    Calls Try.prog 57 #[.map (some b)] w fun e w' => ∃ v, e = .returned v ∧ w'.ownsRow w.heap.size 72 4 v S.length (flt enL (Pl.srt S)) ∧ Below w.heap.size w w' := by
  obtain ⟨D, hown, hMD⟩ := hM
  have HS := Lib.hid hS
  have hR0 := RG.start hMD
  have HD := Lib.hid hR0
  have hbl := hown.lt
  obtain ⟨i0, hi, hz0, hz1, hz2⟩ := info_parts infoEn3
  clear hS hMD hR0
  go_enter Try.func57, Try.ntmps57
  go_wp2_with (at_range; refine wpList_range_own _ rfl _ 97 rfl 101 72 keyedNm Try.underlying97 itself b m _ rfl hown ?_; intro w0 hrg0 hg0 hs0)
  go_frame
  have hB0 : Below w.heap.size w w0 := (Below.refl w.heap.size w).grown hg0 (Nat.le_refl _) (fun j hj => by cases hj)
  clear hown
  go_loopw [3] (fun v wr => ∃ (left : Lit → Bool) (cnt : Nat) (acc : List Pl.En), wr.ranges Try.prog 101 itself b w.heap.size m D left cnt ∧ Hid (RG D S left acc) ∧ Hid (wr.ownsRow (w.heap.size + 1) 72 4 v acc.length (flt enL acc)) ∧ Below w.heap.size w wr ∧ w.heap.size + 1 ≤ wr.heap.size)
    (fun _ wr => wr.rangeLeft b w.heap.size)
  case atStart => exact ⟨_, _, [], hrg0, HD, Lib.hid (World.ownsRow_nil _ _ _ _), hB0, by omega⟩
  case round =>
    clear HD hB0 hrg0 hg0 hs0
    obtain ⟨left, cnt, acc, hrg, HG, HO, hB, hsz⟩ := hrel
    obtain ⟨wo, rfl⟩ : ∃ wo, wo = wr := ⟨_, rfl⟩
    go_wp2_with (at_next; refine wpList_next_ranges _ rfl _ rfl 101 keyedNm itself id id (fun key kl _ => ⟨key, rfl⟩) (fun v y _ => ⟨v, rfl⟩) b w.heap.size m _ _ _ rfl hrg ?_ ?_)
    · intro hc0 hl0
      have hp := HG.out.done hl0
      have HP := Lib.hid hp
      have HOk := Lib.hid (HS.out.perm hp.symm)
      clear hp hl0
      go_wp2_with fail
      refine (sort_row (w.heap.size + 1) _ acc.length acc HOk.out rfl _ HO.out).mono ?_
      rintro e w1 ⟨rfl, hown1, hb1⟩
      have hB1 := hB.trans (hb1.mono (Nat.le_succ _))
      have HO1 := Lib.hid hown1
      clear hown1 hb1 hB hrg
      go_wp2
      go_ret
      refine ⟨_, rfl, ?_, hB1⟩
      have h1 := HO1.out.mono (Nat.le_succ _)
      rw [HP.out.length_eq, Pl.srt_of_perm HS.out.dif HP.out] at h1
      exact h1
    · intro x c kl y yp w1 cnt1 hkey hlk hRv hat hrg1 hlt hg1 hs1 hen
      have hy : y = .held c := by cases hRv; rfl
      subst hy
      obtain ⟨e, heS, hea, hce, hG1⟩ := HG.out.next hlk hat
      subst hce
      have HG1 := Lib.hid hG1
      have HLN := Lib.hid HG1.out.len
      have HLS := Lib.hid HS.out.len
      have hown1 := HO.out.kept hg1 (.inr (own_ne' HO.out (Nat.lt_succ_self _)))
      have hB1 : RowKit.Below w.heap.size w w1 := hB.grown hg1 hB.size (fun j hj => by cases hj; exact Nat.le_refl _)
      have HOW := Lib.hid hown1
      have HLL := Lib.hid hrg.left_eq
      have HRG1 := Lib.hid hrg1
      have HLT := Lib.hid hlt
      clear hG1 hkey hlk hRv hat heS hea hown1 hg1 hB HO HG hrg yp
      have bz := Blk.new w1 72 (#[.int .i64 0, .int .i64 0, .int .i64 0, .int .i64 0])
      have hsz1 : w.heap.size + 1 ≤ w1.heap.size := by omega
      have HL2 : Hid (acc.length + 1 ≤ 1000) := Lib.hid (by have := HLN.out; have := HLS.out; simp at *; omega)
      have HFL : Hid (flt enL (acc ++ [e]) = flt enL acc ++ enL e) := Lib.hid (by rw [flt_append, flt_one])
      clear HLN HLS hs1 hsz hrg1 hlt
      go_wp2_with (first
        | (refine st_en (k := e) bz rfl rfl _ _ rfl rfl rfl ?_
           intro w3 bX3 hO3
           have hr3 := bX3.range
           have HS3 : Hid (w3.heap.size = w1.heap.size + 1) := Lib.hid (by rw [hO3.size]; simp)
           have hb13 : RowKit.Below w1.heap.size w1 w3 := ((RowKit.Below.refl w1.heap.size w1).alloc (Nat.le_refl _) (.cells (#[.int .i64 0, .int .i64 0, .int .i64 0, .int .i64 0]) 72)).trans (hO3.below (Nat.le_refl _))
           have HRG3 := Lib.hid (HRG1.out.kept (grown_none hb13) (by simp) (by simp))
           have HO3 := Lib.hid (own_keep HOW.out hb13)
           have hB3 := hB1.trans (hb13.mono hB1.size)
           clear bz hO3 hb13 bX3)
        | refine ldm_en hr3 rfl _ rfl rfl ?_
        | (at_builtin
           go_loud (refine wpList_append_own _ rfl _ _ 70 rfl (w.heap.size + 1) 72 i0 _ 4 32 Try.underlying70 hi hz0 hz1 hz2 rfl (by decide) _ _ _ rfl (HO3.out.alloc _) ⟨w3.heap.size, 0, none⟩ 1 1 (enL e) rfl rfl (new_cells' _ _ _ rfl) (enL_one e) (by unfold maxLen; have := HL2.out; omega) (by have := HL2.out; omega) (by have := HS3.out; simp; omega) ?_
                    intro v' w5 hown' hgrow _)))
      have hna := (HO3.out.alloc (.cells (enL e).toArray 72))
      have hB4 := hB3.alloc hB3.size (.cells (enL e).toArray 72)
      have hB5 := hB4.grown hgrow hB4.size (fun s h => Nat.le_of_succ_le (HO3.out.lt s h).1)
      have HRG5 := Lib.hid ((HRG3.out.alloc (.cells (enL e).toArray 72)).kept hgrow (fun h => by have := (HO3.out.lt b h.symm).1; omega) (fun h => by have := (HO3.out.lt w.heap.size h.symm).1; omega))
      have HO5 := Lib.hid hown'
      have HS5 : Hid (w.heap.size + 1 ≤ w5.heap.size) := Lib.hid (by have h1 := hgrow.size; have h2 := HS3.out; simp at h1; omega)
      clear hown' hgrow hna hB4 hB3
      go_roundw
      case rel => exact ⟨_, cnt1, acc ++ [e], HRG5.out, HG1, Lib.hid (by rw [HFL.out, List.length_append]; exact HO5.out), hB5, HS5.out⟩
      case measure => rw [HRG5.out.left_eq, HLL.out]; exact HLT.out
end Go.Proofs.Ytalfffkcmddakab
