import Derived.Test.YtflkhjicgojcbaaV2
import Derived.Test.YtflkhjicgojcbaaQ4
import Derived.Test.YtflkhjicgojcbaaG8
namespace Go.Proofs.Ytflkhjicgojcbaa
open Go.RowKit Go.Shelf

/-- all sums of two places -/
def allS (o p : List Geo.XY) : List Geo.XY := o.flatMap (fun a => p.map (addXY a))
theorem allS_mem {o p : List Geo.XY} {x : Geo.XY} : x ∈ allS o p ↔ ∃ a b, a ∈ o ∧ b ∈ p ∧ x = Geo.add a b := by
  unfold allS
  rw [List.mem_flatMap]
  constructor
  · rintro ⟨a, ha, hx⟩
    obtain ⟨b, hb, rfl⟩ := List.mem_map.1 hx
    refine ⟨a, b, ha, hb, ?_⟩
    unfold addXY Geo.add
    ext <;> dsimp only <;> omega
  · rintro ⟨a, b, ha, hb, rfl⟩
    refine ⟨a, ha, List.mem_map.2 ⟨b, hb, ?_⟩⟩
    unfold addXY Geo.add
    ext <;> dsimp only <;> omega
theorem allS_len (o p : List Geo.XY) : (allS o p).length = o.length * p.length := by
  unfold allS
  induction o with
  | nil => simp
  | cons a o ih => rw [List.flatMap_cons, List.length_append, ih, List.length_map, List.length_cons, Nat.succ_mul]; omega
theorem allS_take (o p : List Geo.XY) (k : Nat) (hk : k < o.length) : allS (o.take (k + 1)) p = allS (o.take k) p ++ p.map (addXY (Geo.X o k)) := by
  unfold allS
  rw [take_x o k hk, List.flatMap_append]
  simp
theorem in_mem {l : List Geo.XY} (h : AllIn l) {a : Geo.XY} (ha : a ∈ l) : Geo.In a := by
  obtain ⟨i, hi, rfl⟩ := Geo.mem_X ha
  exact h i hi
theorem allS_wid {o p : List Geo.XY} (ho : AllIn o) (hp : AllIn p) : ∀ x, x ∈ allS o p → Wid x := by
  intro x hx
  obtain ⟨a, b, ha, hb, rfl⟩ := allS_mem.1 hx
  obtain ⟨a1, a2, a3, a4⟩ := in_mem ho ha
  obtain ⟨b1, b2, b3, b4⟩ := in_mem hp hb
  unfold Geo.add Wid
  dsimp only
  omega
theorem std_of {l : List Geo.XY} (h : Valid l) : Geo.Std (Geo.canon l) := Geo.std_canon h.1 h.rg
/-- the sums that come out are an outline of all sums -/
theorem sum_facts {o p : List Geo.XY} (vo : Valid o) (vp : Valid p) : Geo.Std (sumL o p) ∧ (sumL o p).length ≤ 128 ∧ (∀ x, x ∈ sumL o p → x ∈ allS o p) ∧
    (∀ i, i < (sumL o p).length → Geo.pickK (allS o p) (Geo.X (sumL o p) i) (allS o p).length = Geo.At (sumL o p) (i + 1)) ∧
    Geo.X (Geo.canon (allS o p)) 0 = Geo.X (sumL o p) 0 ∧ (∀ i, 0 < i → i < (sumL o p).length → Geo.X (sumL o p) i ≠ Geo.X (sumL o p) 0) ∧
    (∀ i, i < (sumL o p).length → Geo.At (sumL o p) (i + 1) ≠ Geo.X (sumL o p) i) := by
  have so := std_of vo
  have sp := std_of vp
  have hs : Geo.Std (sumL o p) := Geo.sp_std so sp
  have hd := hs.rg.dist hs.h3
  have hm : ∀ x, x ∈ sumL o p → x ∈ allS o p := by
    intro x hx
    obtain ⟨a, b, ha, hb, rfl⟩ := Geo.sp_mem so sp hx
    exact allS_mem.2 ⟨a, b, Geo.mem_canon.1 ha, Geo.mem_canon.1 hb, rfl⟩
  refine ⟨hs, ?_, hm, fun i hi => ?_, ?_, fun i h0 hi => ?_, fun i hi => ?_⟩
  · unfold sumL
    rw [Geo.sumPoly_len]
    have := merge_len (Geo.stepsL (Geo.canon o)) (Geo.stepsL (Geo.canon p))
    rw [Geo.stepsL_len, Geo.stepsL_len, Geo.canon_length, Geo.canon_length] at this
    have := vo.2.1
    have := vp.2.1
    omega
  · refine Geo.pick_next hs hm ?_ hi
    intro x hx k hk
    obtain ⟨a, b, ha, hb, rfl⟩ := allS_mem.1 hx
    exact Geo.sp_hold so sp (Geo.mem_canon.2 ha) (Geo.mem_canon.2 hb) hk
  · refine Geo.low_first ?_ (hm _ (Geo.X_mem hs.pos))
    intro x hx
    obtain ⟨a, b, ha, hb, rfl⟩ := allS_mem.1 hx
    have e0 : Geo.X (sumL o p) 0 = Geo.add (Geo.X (Geo.canon o) 0) (Geo.X (Geo.canon p) 0) := by
      have := Geo.X_walkL (Geo.add (Geo.X (Geo.canon o) 0) (Geo.X (Geo.canon p) 0)) (Geo.merge (Geo.stepsL (Geo.canon o)) (Geo.stepsL (Geo.canon p))) (k := 0) (by rw [← Geo.sumPoly_len]; exact Geo.sp_pos so sp)
      rw [List.take_zero, Geo.tot, Geo.add_zero] at this
      exact this
    obtain ⟨i, hi, rfl⟩ := Geo.mem_X (Geo.mem_canon.2 ha)
    obtain ⟨j, hj, rfl⟩ := Geo.mem_X (Geo.mem_canon.2 hb)
    have l1 := so.lo i hi
    have l2 := sp.lo j hj
    rw [e0]
    unfold Geo.low Geo.add at *
    simp only at *
    omega
  · intro he
    have := hd i 0 hi hs.pos he
    omega
  · intro he
    have h3 := hs.h3
    rw [← Geo.At_mod, Geo.At_lt _ (Nat.mod_lt _ hs.pos)] at he
    have := hd _ i (Nat.mod_lt _ hs.pos) hi he
    by_cases hc : i + 1 = (sumL o p).length
    · rw [hc, Nat.mod_self] at this; omega
    · rw [Nat.mod_eq_of_lt (by omega)] at this; omega
end Go.Proofs.Ytflkhjicgojcbaa
