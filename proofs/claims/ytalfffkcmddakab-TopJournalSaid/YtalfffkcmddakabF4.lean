/- Rows that the library sorts. -/
import Derived.Test.YtalfffkcmddakabF2
import Derived.Test.YtalfffkcmddakabJP
import Derived.Shelf.SlSortCmp.NoneTotal
namespace Go.Proofs.Ytalfffkcmddakab
open Go.RowKit Go.Shelf Go.Sort Go.Lib

section
variable {α : Type} {enc : α → List Value} {k : Nat}
variable [Inhabited α]
theorem flatK_flt (E : Enc enc k) (xs : List α) : flatK enc k xs.toArray = (flt enc xs).toArray := ext_get! (by simp [flt_len E]) fun t ht => by
  have ht' : t < xs.length * k := by simpa using ht
  rw [get_flatK _ _ _ _ (by simpa using ht')]
  have h1 : t / k < xs.length := Nat.div_lt_of_lt_mul (by rw [Nat.mul_comm]; exact ht')
  have h2 : t % k < k := Nat.mod_lt _ E.pos
  have h3 : t / k * k + t % k = t := by rw [Nat.mul_comm]; exact Nat.div_add_mod t k
  have h4 := flt_get E xs _ _ h1 h2
  rw [h3] at h4
  rw [getElem!_pos (flt enc xs).toArray t (by simp [flt_len E]; omega), List.getElem_toArray]
  rw [List.getElem?_eq_getElem (by rw [flt_len E]; omega)] at h4
  rw [getElem!_pos xs.toArray (t / k) (by simpa using h1), List.getElem_toArray]
  rw [List.getElem?_eq_getElem (by rw [E.len]; omega)] at h4
  rw [getElem!_pos (enc xs[t / k]) (t % k) (by rw [E.len]; omega)]
  exact (Option.some.inj h4).symm
theorem holdsK_own (E : Enc enc k) {w : World} {B g c : Nat} {t : TypeId} {xs : List α} (h : w.ownsRow B t k (.slice (some ⟨g, 0, none⟩) xs.length c) xs.length (flt enc xs)) : HoldsK enc k w g 0 xs.toArray := by
  unfold HoldsK
  rw [flatK_flt E]
  intro j hj
  have hj' : j < xs.length * k := by simpa [flt_len E] using hj
  refine ⟨?_, by rw [Nat.zero_add]; exact h.frozenAt j⟩
  rw [Nat.zero_add, h.cellAt j hj']
  rw [getElem!_pos (flt enc xs).toArray j hj, List.getElem_toArray]
  exact List.getElem?_eq_getElem _
omit [Inhabited α] in
theorem heap_sortK {w : World} {g n : Nat} {os : Array Obj} {cur : Array Value} {e : TypeId} {fr : Nat × Nat} (F : Array Value) (hb : w.heap[g]? = some (.cells cur e fr)) :
    (grow (putRow id (Sort.ahead w n) g 0 F) os).heap[g]? = some (.cells (putCells id 0 F cur) e fr) := by
  have hg : g < w.heap.size := (Array.getElem?_eq_some_iff.1 hb).1
  rw [heap_grow_old _ _ (by simpa using hg)]
  simp [putRow, mapBlock, Sort.ahead, Array.getElem?_modify, hb, onCells]
omit [Inhabited α] in
theorem grownBy_sortK {w : World} {g n : Nat} {os : Array Obj} (F : Array Value) : w.grownBy (grow (putRow id (Sort.ahead w n) g 0 F) os) (some g) := by
  refine ⟨rfl, rfl, rfl, by simp, fun k hk hne => ?_⟩
  rw [heap_grow_old _ _ (by simpa using hk)]
  have : g ≠ k := fun e => hne (by rw [e])
  simp [putRow, mapBlock, Sort.ahead, Array.getElem?_modify, this]
omit [Inhabited α] in
theorem take_putK (cur : Array Value) (xs : List Value) (h : xs.length ≤ cur.size) : (putCells id 0 xs.toArray cur).toList.take xs.length = xs := by
  apply List.ext_getElem?
  intro j
  by_cases hj : j < xs.length
  · rw [List.getElem?_take_of_lt hj, Array.getElem?_toList]
    simp [putCells, hj, show j < cur.size by omega]
  · rw [List.getElem?_take_eq_none (by omega), List.getElem?_eq_none (by omega)]
theorem own_sortK (E : Enc enc k) {w : World} {B g c n : Nat} {t : TypeId} {ps qs : List α} {os : Array Obj} (hl : qs.length = ps.length) (h : w.ownsRow B t k (.slice (some ⟨g, 0, none⟩) ps.length c) ps.length (flt enc ps)) :
    (sortWorldK enc k w g 0 n qs.toArray os).ownsRow B t k (.slice (some ⟨g, 0, none⟩) ps.length c) ps.length (flt enc qs) ∧ Below B w (sortWorldK enc k w g 0 n qs.toArray os) := by
  unfold sortWorldK putRowK
  rw [flatK_flt E]
  obtain ⟨h0, h1⟩ := h
  rcases h1 with ⟨he, _⟩ | ⟨g', cap, cur, he, hg, hb, h1, h2, h3, h4⟩
  · cases he
  · cases he
    have hlen : (flt enc qs).length = ps.length * k := by rw [flt_len E, hl]
    refine ⟨⟨hlen, .inr ⟨g, c, _, rfl, hg, heap_sortK _ hb, h1, h2, by simp [putCells, h3], ?_⟩⟩, ?_⟩
    · have := take_putK cur (flt enc qs) (by rw [hlen, h3]; exact Nat.mul_le_mul_right k h1)
      rw [hlen] at this
      exact this
    · have hgw : g < w.heap.size := (Array.getElem?_eq_some_iff.1 hb).1
      have hs : B ≤ w.heap.size := by omega
      exact (Below.refl B w).grown (grownBy_sortK _) hs (fun k e => by cases e; exact hg)
end
end Go.Proofs.Ytalfffkcmddakab
