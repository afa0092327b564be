/- A map from things of lines to places. -/
import Derived.Test.YtdihnbjmeppbcaaDoorW4
import Derived.Test.YtdihnbjmeppbcaaDoorP13
namespace Go.Proofs.YtdihnbjmeppbcaaDoor
open Go.RowKit Go.Shelf

/-- how a value is read: as itself -/
def itself (v : Value) : Option (DataW Value × List MemPlace) := some (.held v, [])
theorem keyedLn : Go.Maps.Keyed Tryd.prog 55 := Go.Maps.Keyed.of_law lawLn
/-- a thing as a value, and as a key -/
abbrev thV (m : ByteArray) (c s : Int) : Value := .agg #[.string m, .int .i64 c, .int .i64 s, .int .i64 0]
abbrev thK (m : ByteArray) (c s : Int) : Lit := .string (keyBytes [.string m.data.toList, .int .i64 c, .int .i64 s, .int .i64 0])
theorem thKey {m : ByteArray} {c s : Int} (hm : m.size ≤ maxLen) (hc : (Lit.int .i64 c).wf = true) (hs : (Lit.int .i64 s).wf = true) : keyOf Tryd.prog 55 (thV m c s) = some (thK m c s) :=
  lnKey hm hc hs (by decide)
theorem zeroInt (w : World) : (zeroValue 3).run Tryd.prog w = .ok (.int .i64 0) w := by kernel_rfl
/-- block b is a map from things to places, of at most n entries -/
def MapL (W : World) (b n : Nat) (f : ByteArray → Int → Int → Option Nat) : Prop :=
  ∃ D : DataW Value, W.ownsMap Tryd.prog 55 itself b n D ∧ ∀ (m : ByteArray) (c s : Int), m.size ≤ maxLen → (Lit.int .i64 c).wf = true → (Lit.int .i64 s).wf = true →
    D.atKey (thK m c s) (.held (.int .i64 0)) = .held (.int .i64 ((f m c s).getD 0 : Nat)) ∧ Go.Maps.has D (thK m c s) = (f m c s).isSome
section
variable {W W' : World} {b n : Nat} {f : ByteArray → Int → Int → Option Nat}
theorem MapL.kept {row : Option Nat} (h : MapL W b n f) (hg : W.grownBy W' row) (hne : some b ≠ row) : MapL W' b n f := by
  obtain ⟨D, h1, h2⟩ := h
  exact ⟨D, h1.kept hg hne, h2⟩
theorem MapL.below (h : MapL W b n f) (hb : Below W.heap.size W W') : MapL W' b n f := h.kept (grown_none hb) (by simp)
theorem MapL.lt (h : MapL W b n f) : b < W.heap.size := by
  obtain ⟨D, h1, h2⟩ := h
  exact h1.lt
theorem MapL.drew (h : MapL W b n f) : MapL W.drew b n f := h
theorem MapL.made (W : World) : MapL (W.alloc (.map #[] 0)) W.heap.size 0 (fun _ _ _ => none) := ⟨_, World.ownsMap_made W _ _ _, fun _ _ _ _ _ _ => ⟨rfl, rfl⟩⟩
theorem MapL.mono {n' : Nat} (h : MapL W b n f) (hm : n ≤ n') : MapL W b n' f := by
  obtain ⟨D, h1, h2⟩ := h
  exact ⟨D, h1.mono hm, h2⟩
theorem MapL.look (h : MapL W b n f) {m : ByteArray} {c s : Int} (hm : m.size ≤ maxLen) (hc : (Lit.int .i64 c).wf = true) (hs : (Lit.int .i64 s).wf = true) :
    (Instr.lookup 117 (.map (some b)) (thV m c s) true).run Tryd.prog W = .ok (.tuple #[.int .i64 ((f m c s).getD 0 : Nat), .bool (f m c s).isSome]) W := by
  obtain ⟨D, h1, h2⟩ := h
  obtain ⟨v, ps, hrun, hv⟩ := h1.look_ok keyedLn Tryd.underlying117 (z := .int .i64 0) (zeroInt W) (zd := .held (.int .i64 0)) (zp := []) rfl (thKey hm hc hs)
  rw [(h2 m c s hm hc hs).1] at hv
  cases hv
  rw [(h2 m c s hm hc hs).2] at hrun
  exact hrun
theorem MapL.store (h : MapL W b n f) (hn : n < maxLen) {m : ByteArray} {c s : Int} (v : Nat) (hm : m.size ≤ maxLen) (hc : (Lit.int .i64 c).wf = true) (hs : (Lit.int .i64 s).wf = true) :
    ∃ W', (Instr.mapUpdate 117 (.map (some b)) (thV m c s) (.int .i64 (v : Nat))).run Tryd.prog W = .ok () W' ∧ MapL W' b (n + 1) (fun m' c' s' => if m' = m ∧ c' = c ∧ s' = s then some v else f m' c' s') ∧ W.grownBy W' (some b) := by
  obtain ⟨D, h1, h2⟩ := h
  have hk := thKey hm hc hs
  obtain ⟨W', hrun, h3, h4⟩ := h1.update keyedLn Tryd.underlying117 hn hk (val := .int .i64 (v : Nat)) (d := .held (.int .i64 (v : Nat))) (ps := []) rfl
  refine ⟨W', hrun, ⟨_, h3, fun m' c' s' k1 k2 k3 => ?_⟩, h4⟩
  have hk' := thKey k1 k2 k3
  by_cases e : m' = m ∧ c' = c ∧ s' = s
  · obtain ⟨rfl, rfl, rfl⟩ := e
    rw [Go.Maps.atKey_put_same h1.isMap (keyedLn.key hk), Go.Maps.has_put_same h1.isMap (keyedLn.key hk)]
    simp
  · have hne : thK m' c' s' ≠ thK m c s := fun h => by
      rw [h] at hk'
      have := keyedLn.inj hk' hk
      simp at this
      exact e this
    rw [Go.Maps.atKey_put_other hne, Go.Maps.has_put_other hne]
    simp only [if_neg e]
    exact h2 m' c' s' k1 k2 k3
end
end Go.Proofs.YtdihnbjmeppbcaaDoor
