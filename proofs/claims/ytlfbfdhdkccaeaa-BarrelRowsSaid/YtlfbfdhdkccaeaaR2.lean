/- A map from pairs of numbers to numbers; Fewest of the document. -/
import Derived.Test.YtlfbfdhdkccaeaaR1
import Derived.Test.YtlfbfdhdkccaeaaP13
import Derived.Test.YtlfbfdhdkccaeaaOpen
import Derived.WideKeyPair
import Derived.DeepKeys4
namespace Go.Proofs.Ytlfbfdhdkccaeaa
open Go.RowKit Go.Shelf Go.Sort

theorem arrPr : Go.WideMaps.ArrKey Try.prog 52 3 2 := ⟨Try.underlying52, by kernel_rfl, by kernel_rfl, cells52⟩
theorem szPr : ∃ m, Try.prog.types.size = m + 1 := ⟨Try.prog.types.size - 1, by have h : 0 < Try.prog.types.size := of_decide_eq_true (by kernel_rfl); omega⟩
theorem rowPr : (52 : TypeId) < Try.prog.types.size := of_decide_eq_true (by kernel_rfl)
theorem deepPr : Try.prog.keyTypeAt 2 52 = true := by kernel_rfl
theorem lawPr : Go.WideMaps.KeyLaw Try.prog 52 := deep_law_laid laidOut (m := 2) (by omega) rowPr deepPr (by rw [Try.underlying52])
theorem keyedPr : Go.Maps.Keyed Try.prog 52 := Go.Maps.Keyed.of_law lawPr
/-- a pair as a value, and as a key -/
abbrev prV (d g : Int) : Value := .agg #[.int .i64 d, .int .i64 g]
abbrev prK (d g : Int) : Lit := .string (keyBytes [.int .i64 d, .int .i64 g])
theorem dg_wf {d : Int} (h0 : 0 ≤ d) (h1 : d ≤ 1000) : (Lit.int .i64 d).wf = true := WalkArith.wf_i64 (by omega)
theorem prKey {d g : Int} (hd : (Lit.int .i64 d).wf = true) (hg : (Lit.int .i64 g).wf = true) : keyOf Try.prog 52 (prV d g) = some (prK d g) := Go.WideMaps.keyOf_pair arrPr Try.underlying3 szPr hd hg
/-- block b is a map from pairs of numbers to numbers, of at most n entries -/
def MapP (W : World) (b n : Nat) (f : Int → Int → Nat) : Prop :=
  ∃ D : DataW Value, W.ownsMap Try.prog 52 itself b n D ∧ ∀ d g : Int, 0 ≤ d → d ≤ 1000 → 0 ≤ g → g ≤ 1000 → D.atKey (prK d g) (.held (.int .i64 0)) = .held (.int .i64 (f d g : Nat))
theorem MapP.made (W : World) : MapP (W.alloc (.map #[] 0)) W.heap.size 0 (fun _ _ => 0) := ⟨_, World.ownsMap_made W _ _ _, fun _ _ _ _ _ _ => rfl⟩
theorem MapP.lt {W : World} {b n : Nat} {f : Int → Int → Nat} (h : MapP W b n f) : b < W.heap.size := by
  obtain ⟨D, h1, h2⟩ := h
  exact h1.lt
theorem MapP.look {W : World} {b n : Nat} {f : Int → Int → Nat} (h : MapP W b n f) {d g : Int} (hd0 : 0 ≤ d) (hd : d ≤ 1000) (hg0 : 0 ≤ g) (hg : g ≤ 1000) :
    (Instr.lookup 78 (.map (some b)) (prV d g) false).run Try.prog W = .ok (.int .i64 (f d g : Nat)) W := by
  obtain ⟨D, h1, h2⟩ := h
  obtain ⟨v, ps, hrun, hv⟩ := h1.lookup keyedPr Try.underlying78 (z := .int .i64 0) (zeroInt W) (zd := .held (.int .i64 0)) (zp := []) rfl (prKey (dg_wf hd0 hd) (dg_wf hg0 hg))
  rw [h2 d g hd0 hd hg0 hg] at hv
  cases hv
  exact hrun
theorem MapP.store {W : World} {b n : Nat} {f : Int → Int → Nat} (h : MapP W b n f) (hn : n < maxLen) {d g : Int} (v : Nat) (hd0 : 0 ≤ d) (hd : d ≤ 1000) (hg0 : 0 ≤ g) (hg : g ≤ 1000) :
    ∃ W', (Instr.mapUpdate 78 (.map (some b)) (prV d g) (.int .i64 (v : Nat))).run Try.prog W = .ok () W' ∧ MapP W' b (n + 1) (fun d' g' => if d' = d ∧ g' = g then v else f d' g') ∧ W.grownBy W' (some b) := by
  obtain ⟨D, h1, h2⟩ := h
  have hk := prKey (dg_wf hd0 hd) (dg_wf hg0 hg)
  obtain ⟨W', hrun, h3, h4⟩ := h1.update keyedPr Try.underlying78 hn hk (val := .int .i64 (v : Nat)) (d := .held (.int .i64 (v : Nat))) (ps := []) rfl
  refine ⟨W', hrun, ⟨_, h3, fun d' g' k1 k2 k3 k4 => ?_⟩, h4⟩
  show (D.put (prK d g) (.held (.int .i64 (v : Nat)))).atKey (prK d' g') (.held (.int .i64 0)) = .held (.int .i64 ((if d' = d ∧ g' = g then v else f d' g' : Nat) : Int))
  by_cases e : d' = d ∧ g' = g
  · obtain ⟨rfl, rfl⟩ := e
    rw [Go.Maps.atKey_put_same h1.isMap (keyedPr.key hk), if_pos ⟨rfl, rfl⟩]
  · have hne : prK d' g' ≠ prK d g := fun h => by
      have hk' := prKey (dg_wf k1 k2) (dg_wf k3 k4)
      rw [h] at hk'
      have := keyedPr.inj hk' hk
      simp at this
      exact e this
    rw [Go.Maps.atKey_put_other hne, if_neg e]
    exact h2 d' g' k1 k2 k3 k4
end Go.Proofs.Ytlfbfdhdkccaeaa
