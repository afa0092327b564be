/- Lists of sizes and of heads in memory; what a list's validity is; the map of numbers that were seen. -/
import Derived.Test.YtghbipipehglfaaDoorA3
import Derived.Deep.MidRow
import Derived.Maps.Own
import Derived.Maps.OwnSet
import Derived.Maps.OwnOps
import Derived.ProofKit
namespace Go.Proofs.YtghbipipehglfaaDoor
open Go.RowKit Go.Shelf

theorem rangeAt_below {W W' : World} {b o : Nat} {cs : List Value} (h : W.rangeAt b o cs) (hlt : b < W.heap.size) (hb : Below W.heap.size W W') : W'.rangeAt b o cs :=
  fun j v hv => (hb.cell (p := ⟨b, o + j, none⟩) hlt).trans (h j v hv)
/-- a slice of sizes that lies in memory -/
def Szs (W : World) (A : Option Addr) (l : List Pl.Sz) : Prop :=
  l = [] ∨ ∃ b off, A = some ⟨b, off, none⟩ ∧ b < W.heap.size ∧ ∀ k, k < l.length → W.rangeAt b (off + k * 17) (szA (l.getD k Pl.zsz)).toList
theorem Szs.below {W W' : World} {A : Option Addr} {l : List Pl.Sz} (h : Szs W A l) (hb : Below W.heap.size W W') : Szs W' A l := by
  rcases h with h | ⟨b, off, h1, h2, h3⟩
  · exact .inl h
  · exact .inr ⟨b, off, h1, Nat.lt_of_lt_of_le h2 hb.size, fun k hk => rangeAt_below (h3 k hk) h2 hb⟩
abbrev zhd : Pl.Hd := ⟨0, fun _ => 0⟩
/-- a slice of heads that lies in memory -/
def Hds (W : World) (A : Option Addr) (l : List Pl.Hd) : Prop :=
  l = [] ∨ ∃ b off, A = some ⟨b, off, none⟩ ∧ b < W.heap.size ∧ ∀ k, k < l.length → W.rangeAt b (off + k * 6) (hdA (l.getD k zhd)).toList
theorem Hds.below {W W' : World} {A : Option Addr} {l : List Pl.Hd} (h : Hds W A l) (hb : Below W.heap.size W W') : Hds W' A l := by
  rcases h with h | ⟨b, off, h1, h2, h3⟩
  · exact .inl h
  · exact .inr ⟨b, off, h1, Nat.lt_of_lt_of_le h2 hb.size, fun k hk => rangeAt_below (h3 k hk) h2 hb⟩

namespace Pl
/-- the rest of a list is valid, given the numbers that came before -/
def vl {α : Type} (ok : α → Bool) (num : α → Int) : List α → List Int → Bool
  | [], _ => true
  | a :: l, s => ok a && (!(decide (num a ∈ s)) && vl ok num l (num a :: s))
theorem vl_step {α : Type} {ok : α → Bool} {num : α → Int} {l : List α} {k : Nat} {z : α} {s : List Int} (hk : k < l.length) :
    vl ok num (l.drop k) s = (ok (l.getD k z) && (!(decide (num (l.getD k z) ∈ s)) && vl ok num (l.drop (k + 1)) (num (l.getD k z) :: s))) := by
  rw [List.drop_eq_getElem_cons hk, List.getD_eq_getElem?_getD, List.getElem?_eq_getElem hk]; rfl
theorem vl_end {α : Type} {ok : α → Bool} {num : α → Int} {l : List α} {s : List Int} : vl ok num (l.drop l.length) s = true := by rw [List.drop_length]; rfl
theorem vl_congr {α : Type} {ok : α → Bool} {num : α → Int} : ∀ {l : List α} {s t : List Int}, (∀ x, x ∈ s ↔ x ∈ t) → vl ok num l s = vl ok num l t
  | [], _, _, _ => rfl
  | a :: l, s, t, h => by
    unfold vl
    rw [vl_congr (l := l) (s := num a :: s) (t := num a :: t) (fun x => by simp [h])]
    simp [h]
def vszs (l : List Sz) : Bool := decide (l.length ≤ 20) && vl vsz Sz.code l []
def vhds (l : List Hd) : Bool := decide (l.length ≤ 40) && vl vh Hd.num l []
end Pl

section
variable {P : Program} {ops : Array Oper} {rest : List Oper} {o : Oper} {a : Act} {w : World} {Q : Exit → Act → World → Prop}
theorem wpList_wanted (hw : Region.wanted o (yielded ops a.tmps) = true)
    (h : ∀ K : Act → World → Prop, (∀ a w, wpList P ops Q rest a w → K a w) → o.wp P a w K Q) : wpList P ops Q (o :: rest) a w :=
  wpList_step fun K hK => by rw [if_pos hw]; exact h K hK
end
section
variable {ops : Array Oper} {rest : List Oper} {o : Oper} {a : Act} {w : World} {Q : Exit → Act → World → Prop} {b off : Nat}
theorem ldm_size {s : Pl.Sz} (hr : w.rangeAt b off (szA s).toList) (hw : Region.wanted o (yielded ops a.tmps) = true) (x : Operand) (ho : o.op = .load 46 x)
    (hx : a.eval x = .pointer (some ⟨b, off, none⟩)) (h : wpList Tryd.prog ops Q rest (a.put o.dst (.agg (szA s))) w) : wpList Tryd.prog ops Q (o :: rest) a w :=
  wpList_wanted hw fun _ hK => wp_load_mid 46 x ho b off hx (szA s).toList _ hr Tryd.underlying46 rfl info24 (hK _ _ h)
theorem ldm_head {s : Pl.Hd} (hr : w.rangeAt b off (hdA s).toList) (hw : Region.wanted o (yielded ops a.tmps) = true) (x : Operand) (ho : o.op = .load 34 x)
    (hx : a.eval x = .pointer (some ⟨b, off, none⟩)) (h : wpList Tryd.prog ops Q rest (a.put o.dst (.agg (hdA s))) w) : wpList Tryd.prog ops Q (o :: rest) a w :=
  wpList_wanted hw fun _ hK => wp_load_mid 34 x ho b off hx (hdA s).toList _ hr Tryd.underlying34 rfl info26 (hK _ _ h)
theorem Blk.range {g : Nat} {t : TypeId} {cs : Array Value} (h : Blk w g t cs) : w.rangeAt g 0 cs.toList := fun j v hv => by
  rw [Nat.zero_add, h.cell j]
  simpa using hv
end

/-- block b is the map of the numbers l, at most n of them -/
def Seen (W : World) (b n : Nat) (l : List Int) : Prop :=
  ∃ D : DataW Unit, W.ownsMap Tryd.prog 3 (plainElem Tryd.prog 4) b n D ∧ ∀ x : Int, (Lit.int .i64 x).wf = true → D.atKey (.int .i64 x) (.lit (.bool false)) = .lit (.bool (decide (x ∈ l)))
theorem grown_none {W W' : World} (h : Below W.heap.size W W') : W.grownBy W' none := ⟨h.os, h.tape, h.output, h.size, fun k hk _ => h.block k hk⟩
theorem Seen.below {W W' : World} {b n : Nat} {l : List Int} (h : Seen W b n l) (hb : Below W.heap.size W W') : Seen W' b n l := by
  obtain ⟨D, h1, h2⟩ := h
  exact ⟨D, h1.kept (grown_none hb) (by simp), h2⟩
theorem Seen.lt {W : World} {b n : Nat} {l : List Int} (h : Seen W b n l) : b < W.heap.size := by
  obtain ⟨D, h1, h2⟩ := h
  exact h1.lt
theorem Seen.made (W : World) : Seen (W.alloc (.map #[] 0)) W.heap.size 0 [] := ⟨_, World.ownsMap_made W _ _ _, fun _ _ => rfl⟩
theorem zeroBool (w : World) : (zeroValue 4).run Tryd.prog w = .ok (.bool false) w := by kernel_rfl
theorem keyedInt : Go.Maps.Keyed Tryd.prog 3 := Go.Maps.int_keyed Tryd.underlying3
theorem plainElem_bool_inv {H : Type} {P : Program} {e : TypeId} (he : P.underlying e = some .bool) {v : Value} {z : DataW H × List MemPlace} (h : plainElem P e v = some z) : ∃ x, v = .bool x ∧ z = (.lit (.bool x), []) := by
  unfold plainElem at h
  rw [he] at h
  cases v <;> simp at h
  exact ⟨_, rfl, h.symm⟩
theorem Seen.look {W : World} {b n : Nat} {l : List Int} (h : Seen W b n l) {x : Int} (hx : (Lit.int .i64 x).wf = true) :
    (Instr.lookup 94 (.map (some b)) (.int .i64 x) false).run Tryd.prog W = .ok (.bool (decide (x ∈ l))) W := by
  obtain ⟨D, h1, h2⟩ := h
  obtain ⟨v, ps, hrun, hv⟩ := h1.lookup keyedInt Tryd.underlying94 (z := .bool false) (zeroBool W) (plainElem_bool Tryd.underlying4 false) (Go.Maps.keyOf_int_mk Tryd.underlying3 hx)
  obtain ⟨y, rfl, e⟩ := plainElem_bool_inv Tryd.underlying4 hv
  rw [h2 x hx] at e
  cases e
  exact hrun
theorem Seen.store {W : World} {b n : Nat} {l : List Int} (h : Seen W b n l) (hn : n < maxLen) {x : Int} (hx : (Lit.int .i64 x).wf = true) :
    ∃ W', (Instr.mapUpdate 94 (.map (some b)) (.int .i64 x) (.bool true)).run Tryd.prog W = .ok () W' ∧ Seen W' b (n + 1) (x :: l) ∧ W.grownBy W' (some b) := by
  obtain ⟨D, h1, h2⟩ := h
  obtain ⟨W', hrun, h3, h4⟩ := h1.update keyedInt Tryd.underlying94 hn (Go.Maps.keyOf_int_mk Tryd.underlying3 hx) (plainElem_bool Tryd.underlying4 true)
  refine ⟨W', hrun, ⟨_, h3, fun y hy => ?_⟩, h4⟩
  by_cases e : y = x
  · subst e
    rw [Go.Maps.atKey_put_same h1.isMap (keyedInt.key (Go.Maps.keyOf_int_mk Tryd.underlying3 hx))]
    simp
  · rw [Go.Maps.atKey_put_other (by intro h; cases h; exact e rfl), h2 y hy]
    simp [e]
end Go.Proofs.YtghbipipehglfaaDoor
