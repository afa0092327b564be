/- A map from numbers to numbers: its keys, what it has; slices.Sorted of maps.Keys of it. -/
import Derived.Test.YtalfffkcmddakaaD3
import Derived.Test.YtalfffkcmddakaaShelf3
import Derived.Test.YtalfffkcmddakaaP8
import Derived.Lib.SlKeysI
namespace Go.Proofs.Ytalfffkcmddakaa
open Go.RowKit Go.Shelf

theorem keyTypeInt : Try.prog.keyType 3 = true := by kernel_rfl
theorem keyedInt : Go.Maps.Keyed Try.prog 3 := Go.Maps.int_keyed Try.underlying3
/-- block b is a map from numbers to numbers, of at most n entries, with these keys -/
def MapC (W : World) (b n : Nat) (K : List Int) (f : Int → Int) : Prop :=
  ∃ D : DataW Value, W.ownsMap Try.prog 3 itself b n D ∧ (∀ x : Int, D.atKey (.int .i64 x) (.held (.int .i64 0)) = .held (.int .i64 (f x))) ∧ K.Nodup ∧ ∀ x : Int, x ∈ K ↔ Go.Maps.has D (.int .i64 x) = true
section
variable {W W' : World} {b n : Nat} {K : List Int} {f : Int → Int}
theorem MapC.kept {row : Option Nat} (h : MapC W b n K f) (hg : W.grownBy W' row) (hne : some b ≠ row) : MapC W' b n K f := by
  obtain ⟨D, h1, h2⟩ := h
  exact ⟨D, h1.kept hg hne, h2⟩
theorem MapC.below (h : MapC W b n K f) (hb : Below W.heap.size W W') : MapC W' b n K f := h.kept (grown_none hb) (by simp)
theorem MapC.belowB {B : Nat} (h : MapC W b n K f) (hb : Below B W W') (hB : b < B) : MapC W' b n K f := by
  obtain ⟨D, h1, h2⟩ := h
  refine ⟨D, ?_, h2⟩
  obtain ⟨es, clock, hb', Ft, hs, hD⟩ := h1
  exact ⟨es, clock, (hb.block b hB).trans hb', Ft, hs, hD⟩
theorem MapC.lt (h : MapC W b n K f) : b < W.heap.size := by
  obtain ⟨D, h1, h2⟩ := h
  exact h1.lt
theorem MapC.made (W : World) : MapC (W.alloc (.map #[] 0)) W.heap.size 0 [] (fun _ => 0) := ⟨_, World.ownsMap_made W _ _ _, fun _ => rfl, List.nodup_nil, fun x => ⟨(fun h => by cases h), (fun h => by cases h)⟩⟩
theorem MapC.look (h : MapC W b n K f) {x : Int} (hx : (Lit.int .i64 x).wf = true) :
    (Instr.lookup 117 (.map (some b)) (.int .i64 x) false).run Try.prog W = .ok (.int .i64 (f x)) W := by
  obtain ⟨D, h1, h2, _⟩ := h
  obtain ⟨v, ps, hrun, hv⟩ := h1.lookup keyedInt Try.underlying117 (z := .int .i64 0) (zeroInt W) (zd := .held (.int .i64 0)) (zp := []) rfl (Go.Maps.keyOf_int_mk Try.underlying3 hx)
  rw [h2 x] at hv
  cases hv
  exact hrun
theorem MapC.store (h : MapC W b n K f) (hn : n < maxLen) {x : Int} (v : Int) (hx : (Lit.int .i64 x).wf = true) :
    ∃ W', (Instr.mapUpdate 117 (.map (some b)) (.int .i64 x) (.int .i64 v)).run Try.prog W = .ok () W' ∧ MapC W' b (n + 1) (if x ∈ K then K else K ++ [x]) (fun y => if y = x then v else f y) ∧ W.grownBy W' (some b) := by
  obtain ⟨D, h1, h2, hd, hk⟩ := h
  obtain ⟨W', hrun, h3, h4⟩ := h1.update keyedInt Try.underlying117 hn (Go.Maps.keyOf_int_mk Try.underlying3 hx) (val := .int .i64 v) (d := .held (.int .i64 v)) (ps := []) rfl
  have hkk := keyedInt.key (Go.Maps.keyOf_int_mk Try.underlying3 hx)
  refine ⟨W', hrun, ⟨_, h3, fun y => ?_, ?_, fun y => ?_⟩, h4⟩
  · by_cases e : y = x
    · subst e
      rw [Go.Maps.atKey_put_same h1.isMap hkk]
      simp
    · rw [Go.Maps.atKey_put_other (by intro h; cases h; exact e rfl), h2 y]
      simp [e]
  · by_cases e : x ∈ K
    · rw [if_pos e]; exact hd
    · rw [if_neg e]
      exact List.nodup_append.2 ⟨hd, by simp, fun a ha c hc => by simp at hc; subst hc; exact fun h => e (h ▸ ha)⟩
  · by_cases e : y = x
    · subst e
      rw [Go.Maps.has_put_same h1.isMap hkk]
      by_cases e2 : y ∈ K
      · simp [e2]
      · simp [e2]
    · rw [Go.Maps.has_put_other (by intro h; cases h; exact e rfl), ← hk y]
      by_cases e2 : x ∈ K
      · simp [e2]
      · simp [e2, e]
theorem MapC.perm {D : DataW Value} (h1 : W.ownsMap Try.prog 3 itself b n D) (hd : K.Nodup) (hk : ∀ x : Int, x ∈ K ↔ Go.Maps.has D (.int .i64 x) = true) : K.Perm (intKeys D) :=
  CollectedI.perm (left := fun _ => false) ⟨hd, fun x => by rw [hk]; simp⟩ h1 keyedInt Try.underlying3 (fun _ => rfl)
end
theorem sortsC (m : Nat) : AnyZI.SortsIn Try.prog Try.sortedC_ren Fence.wide m :=
  ⟨fun blk off cap ss W hH hblk hsz => callsIn_wide.2 (Try.slices_Sort_int blk off cap ss W hH hblk hsz),
   fun p cap W => callsIn_wide.2 (Try.slices_Sort_int_none p cap W)⟩
set_option maxHeartbeats 1000000 in
theorem keys_any (mb : Option Nat) (W : World) : Calls Try.prog 95 #[.map mb] W fun e w' => e = .returned (.func (.func 118) #[] #[.pointer (some ⟨W.heap.size, 0, none⟩)]) ∧ w' = W.alloc (.cells #[.map mb] 117) :=
  (callsIn_wide (n := 5)).1 (AnyZI.keys_in Try.keysC Fence.wide 5 trivial rfl mb W)
set_option maxHeartbeats 2000000 in
/-- slices.Sorted of what maps.Keys gave -/
theorem sortedk_any (b n : Nat) (K : List Int) (f : Int → Int) (hK : K.length ≤ 1000) (w : World) (hM : MapC w b n K f) :
    Calls Try.prog 94 #[.func (.func 118) #[] #[.pointer (some ⟨w.heap.size, 0, none⟩)]] (w.alloc (.cells #[.map (some b)] 117)) fun e w' => ∃ (v : Value) (ss : List Int), e = .returned v ∧ ss.Perm K ∧ w'.ownsRow w.heap.size 3 1 v ss.length (flt inL (ss.mergeSort fun x y => decide (x ≤ y))) ∧ Below w.heap.size (w.alloc (.cells #[.map (some b)] 117)) w' := by
  obtain ⟨D, hown, _, hd, hk⟩ := hM
  have hp := MapC.perm hown hd hk
  have hbl := hown.lt
  have hsz : Go.Maps.size D ≤ 1000 := by
    obtain ⟨es, hD, _⟩ := hown.keysOf
    have h1 := hp.length_eq
    rw [hD] at h1 ⊢
    simp [intKeys] at h1
    show es.length ≤ 1000
    omega
  refine (callsIn_wide (n := 5)).1 ?_
  have hseq : SeqGives Fence.wide 2 Try.prog 118 #[.pointer (some ⟨w.heap.size, 0, none⟩)] encZ (fun ss => ss.Perm (intKeys D)) (Go.Maps.size D) (w.alloc (.cells #[.map (some b)] 117)) :=
    AnyZI.keys_gives (ρ := Try.keysC_ren) { Try.keysC with } Fence.wide _ trivial rfl (by omega) w.heap.size b n D _ (by simp) (by simp) (by
      obtain ⟨es, clock, hb, Ft, hs, hD⟩ := hown
      exact ⟨es, clock, (Below.heap_alloc _ _ b hbl).trans hb, Ft, hs, hD⟩)
  have cS := AnyZI.sorted_in Try.sortedC Fence.wide 5 trivial trivial trivial trivial rfl (by omega) (sortsC _) (enters_of Try.func96 (by kernel_rfl) rfl) 118 #[.pointer (some ⟨w.heap.size, 0, none⟩)] trivial (enters_of Try.func118 (by kernel_rfl) rfl) _ _ (by unfold maxLen; omega) (by omega) _ hseq
  change CallsIn _ _ Try.prog 94 _ _ _ at cS
  refine cS.mono ?_
  rintro e w' ⟨v, ss, rfl, hS, hrow, _, hb⟩
  refine ⟨v, ss, rfl, hS.trans hp.symm, ?_, hb.mono (by simp)⟩
  have h1 := hrow.mono (show w.heap.size ≤ (w.alloc (.cells #[.map (some b)] 117)).heap.size by simp)
  rw [flt_inL]
  exact h1
end Go.Proofs.Ytalfffkcmddakaa
