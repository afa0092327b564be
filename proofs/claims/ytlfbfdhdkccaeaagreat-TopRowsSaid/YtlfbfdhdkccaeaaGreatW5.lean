/- A map from numbers to numbers that is asked whether it has one; what the rows are told of; arrange. -/
import Derived.Test.YtlfbfdhdkccaeaaGreatW4
import Derived.Test.YtlfbfdhdkccaeaaGreatPZ
namespace Go.Proofs.YtlfbfdhdkccaeaaGreat
open Go.RowKit Go.Shelf

/-- how a value is read: as itself -/
def itself (v : Value) : Option (DataW Value × List MemPlace) := some (.held v, [])
/-- block b is a map from numbers to numbers, of at most n entries -/
def MapN (W : World) (b n : Nat) (f : Nat → Option Nat) : Prop :=
  ∃ D : DataW Value, W.ownsMap Tryz.prog 3 itself b n D ∧ ∀ i : Nat, i ≤ 1000 → D.atKey (.int .i64 i) (.held (.int .i64 0)) = .held (.int .i64 ((f i).getD 0 : Nat)) ∧ Maps.has D (.int .i64 i) = (f i).isSome
theorem nat_wf {i : Nat} (h : i ≤ 1000) : (Lit.int .i64 (i : Nat)).wf = true := WalkArith.wf_i64 (by omega)
theorem MapN.kept {W W' : World} {b n : Nat} {f : Nat → Option Nat} {row : Option Nat} (h : MapN W b n f) (hg : W.grownBy W' row) (hne : some b ≠ row) : MapN W' b n f := by
  obtain ⟨D, h1, h2⟩ := h
  exact ⟨D, h1.kept hg hne, h2⟩
theorem MapN.below {W W' : World} {b n : Nat} {f : Nat → Option Nat} (h : MapN W b n f) (hb : Below W.heap.size W W') : MapN W' b n f := h.kept (grown_none hb) (by simp)
theorem MapN.lt {W : World} {b n : Nat} {f : Nat → Option Nat} (h : MapN W b n f) : b < W.heap.size := by
  obtain ⟨D, h1, h2⟩ := h
  exact h1.lt
theorem MapN.mono {W : World} {b n m : Nat} {f : Nat → Option Nat} (h : MapN W b n f) (hm : n ≤ m) : MapN W b m f := by
  obtain ⟨D, h1, h2⟩ := h
  exact ⟨D, h1.mono hm, h2⟩
theorem MapN.made (W : World) : MapN (W.alloc (.map #[] 0)) W.heap.size 0 (fun _ => none) := ⟨_, World.ownsMap_made W _ _ _, fun _ _ => ⟨rfl, rfl⟩⟩
theorem zeroInt (w : World) : (zeroValue 3).run Tryz.prog w = .ok (.int .i64 0) w := by kernel_rfl
theorem MapN.look {W : World} {b n : Nat} {f : Nat → Option Nat} (h : MapN W b n f) {i : Nat} (hi : i ≤ 1000) :
    (Instr.lookup 49 (.map (some b)) (.int .i64 (i : Nat)) true).run Tryz.prog W = .ok (.tuple #[.int .i64 ((f i).getD 0 : Nat), .bool (f i).isSome]) W := by
  obtain ⟨D, h1, h2⟩ := h
  obtain ⟨v, ps, hrun, hv⟩ := h1.look_ok keyedInt Tryz.underlying49 (z := .int .i64 0) (zeroInt W) (zd := .held (.int .i64 0)) (zp := []) rfl (Go.Maps.keyOf_int_mk Tryz.underlying3 (nat_wf hi))
  rw [(h2 i hi).1] at hv
  cases hv
  rw [(h2 i hi).2] at hrun
  exact hrun
theorem MapN.store {W : World} {b n : Nat} {f : Nat → Option Nat} (h : MapN W b n f) (hn : n < maxLen) {i : Nat} (v : Nat) (hi : i ≤ 1000) :
    ∃ W', (Instr.mapUpdate 49 (.map (some b)) (.int .i64 (i : Nat)) (.int .i64 (v : Nat))).run Tryz.prog W = .ok () W' ∧ MapN W' b (n + 1) (fun j => if j = i then some v else f j) ∧ W.grownBy W' (some b) := by
  obtain ⟨D, h1, h2⟩ := h
  have hk := keyedInt.key (Go.Maps.keyOf_int_mk Tryz.underlying3 (nat_wf hi))
  obtain ⟨W', hrun, h3, h4⟩ := h1.update keyedInt Tryz.underlying49 hn (Go.Maps.keyOf_int_mk Tryz.underlying3 (nat_wf hi)) (val := .int .i64 (v : Nat)) (d := .held (.int .i64 (v : Nat))) (ps := []) rfl
  refine ⟨W', hrun, ⟨_, h3, fun j hj => ?_⟩, h4⟩
  by_cases e : j = i
  · subst e
    rw [Go.Maps.atKey_put_same h1.isMap hk, Go.Maps.has_put_same h1.isMap hk]
    simp
  · have hne : (Lit.int .i64 (j : Nat)) ≠ Lit.int .i64 (i : Nat) := by intro h; injection h with _ h; omega
    rw [Go.Maps.atKey_put_other hne, Go.Maps.has_put_other hne]
    simp only [if_neg e]
    exact h2 j hj

/-- what rows are told of -/
theorem Pl.row_facts {l : List Pl.Bt} (h : Pl.Ok l) {k : Nat} (hk : k ≤ l.length) {j : Nat} (hj : j < (Pl.gr l k).length) :
    0 < ((Pl.gr l k).getD j []).length ∧ ((Pl.gr l k).getD j []).length ≤ 40 ∧ Pl.lst ((Pl.gr l k).getD j []) < l.length := by
  have G := Pl.Gd.all h k hk
  have hin : ∀ {i j}, i ∈ Pl.row l k j → i < l.length := fun {i j} hi => Pl.ord_mem.1 (List.mem_of_mem_take ((G.mem i).1 ⟨j, Pl.row_lt hi, hi⟩))
  refine ⟨List.length_pos_iff.2 (G.ne j hj), ?_, hin (Pl.lst_mem (G.ne j hj))⟩
  have h1 := List.Nodup.length_le_of_subset (G.nd j) (l₂ := List.range l.length) (fun x hx => List.mem_range.2 (hin hx))
  have := h.len
  rw [List.length_range] at h1
  exact Nat.le_trans h1 this
theorem Pl.gr_len {l : List Pl.Bt} : ∀ k, (Pl.gr l k).length ≤ k
  | 0 => Nat.le_refl _
  | k + 1 => by
    have := Pl.gr_len (l := l) k
    rw [Pl.gr_succ, Pl.put_len]
    split <;> omega
theorem Pl.put_lt {rows : List (List Nat)} {r i : Nat} (h : r < rows.length) : rows.set r (rows.getD r [] ++ [i]) = Pl.put rows r i := by unfold Pl.put; rw [if_pos h]
theorem Pl.put_new {rows : List (List Nat)} {i : Nat} : (rows ++ [[]]).set rows.length ((rows ++ [[]]).getD rows.length [] ++ [i]) = Pl.put rows rows.length i := by
  unfold Pl.put; rw [if_neg (Nat.lt_irrefl _)]
  simp
end Go.Proofs.YtlfbfdhdkccaeaaGreat

