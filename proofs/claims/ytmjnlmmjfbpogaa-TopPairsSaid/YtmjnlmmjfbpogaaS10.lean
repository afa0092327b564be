/- The walk of reachable. -/
import Derived.Test.YtmjnlmmjfbpogaaS9
import Derived.Test.YtmjnlmmjfbpogaaP13
namespace Go.Proofs.Ytmjnlmmjfbpogaa
open Go.RowKit Go.Shelf Go.Sort Go.Lib

/-- block b is a map from numbers to numbers, of at most n entries -/
def MapI (W : World) (b n : Nat) (f : Int → Int) : Prop :=
  ∃ D : DataW Value, W.ownsMap Try.prog 3 itself b n D ∧ ∀ x : Int, (Lit.int .i64 x).wf = true → D.atKey (.int .i64 x) (.held (.int .i64 0)) = .held (.int .i64 (f x))
theorem MapI.kept {W W' : World} {b n : Nat} {f : Int → Int} {row : Option Nat} (h : MapI W b n f) (hg : W.grownBy W' row) (hne : some b ≠ row) : MapI W' b n f := by
  obtain ⟨D, h1, h2⟩ := h
  exact ⟨D, h1.kept hg hne, h2⟩
theorem MapI.below {W W' : World} {b n : Nat} {f : Int → Int} (h : MapI W b n f) (hb : Below W.heap.size W W') : MapI W' b n f := h.kept (grown_none hb) (by simp)
theorem MapI.lt {W : World} {b n : Nat} {f : Int → Int} (h : MapI W b n f) : b < W.heap.size := by
  obtain ⟨D, h1, h2⟩ := h
  exact h1.lt
theorem MapI.made (W : World) : MapI (W.alloc (.map #[] 0)) W.heap.size 0 (fun _ => 0) := ⟨_, World.ownsMap_made W _ _ _, fun _ _ => rfl⟩
theorem zeroInt (w : World) : (zeroValue 3).run Try.prog w = .ok (.int .i64 0) w := by kernel_rfl
theorem MapI.look {W : World} {b n : Nat} {f : Int → Int} (h : MapI W b n f) {x : Int} (hx : (Lit.int .i64 x).wf = true) :
    (Instr.lookup 99 (.map (some b)) (.int .i64 x) false).run Try.prog W = .ok (.int .i64 (f x)) W := by
  obtain ⟨D, h1, h2⟩ := h
  obtain ⟨v, ps, hrun, hv⟩ := h1.lookup keyedInt Try.underlying99 (z := .int .i64 0) (zeroInt W) (zd := .held (.int .i64 0)) (zp := []) rfl (Go.Maps.keyOf_int_mk Try.underlying3 hx)
  rw [h2 x hx] at hv
  cases hv
  exact hrun
theorem MapI.store {W : World} {b n : Nat} {f : Int → Int} (h : MapI W b n f) (hn : n < maxLen) {x : Int} (v : Int) (hx : (Lit.int .i64 x).wf = true) :
    ∃ W', (Instr.mapUpdate 99 (.map (some b)) (.int .i64 x) (.int .i64 v)).run Try.prog W = .ok () W' ∧ MapI W' b (n + 1) (fun y => if y = x then v else f y) ∧ W.grownBy W' (some b) := by
  obtain ⟨D, h1, h2⟩ := h
  obtain ⟨W', hrun, h3, h4⟩ := h1.update keyedInt Try.underlying99 hn (Go.Maps.keyOf_int_mk Try.underlying3 hx) (val := .int .i64 v) (d := .held (.int .i64 v)) (ps := []) rfl
  refine ⟨W', hrun, ⟨_, h3, fun y hy => ?_⟩, h4⟩
  by_cases e : y = x
  · subst e
    rw [Go.Maps.atKey_put_same h1.isMap (keyedInt.key (Go.Maps.keyOf_int_mk Try.underlying3 hx))]
    simp
  · rw [Go.Maps.atKey_put_other (by intro h; cases h; exact e rfl), h2 y hy]
    simp [e]

/-- what the closure has caught: the boxes of reached, of the list, of the tolerance, of itself, of the map -/
abbrev wcb (b1 b2 b3 b4 b5 : Nat) : Array Value := #[.pointer (some ⟨b1, 0, none⟩), .pointer (some ⟨b2, 0, none⟩), .pointer (some ⟨b3, 0, none⟩), .pointer (some ⟨b4, 0, none⟩), .pointer (some ⟨b5, 0, none⟩)]
structure Wenv (l : List Pl.Tm) (n c : Nat) (tol : Int) (W : World) (bz oz rb mb nm b1 b2 b3 b4 b5 : Nat) (f : Int → Int) : Prop where
  lt : bz < W.heap.size
  tm : ∀ j, j < l.length → W.rangeAt bz (oz + j * 4) (tmA (l.getD j Pl.zt)).toList
  map : MapI W mb nm f
  k1 : Blk W b1 76 #[.slice (some ⟨rb, 0, none⟩) n n]
  k2 : Blk W b2 22 #[.slice (some ⟨bz, oz, none⟩) n c]
  k3 : Blk W b3 3 #[.int .i64 tol]
  k4 : Blk W b4 100 #[.func (.func 83) #[] (wcb b1 b2 b3 b4 b5)]
  k5 : Blk W b5 99 #[.map (some mb)]
  n0 : bz ≠ rb
  n1 : b1 ≠ rb
  n2 : b2 ≠ rb
  n3 : b3 ≠ rb
  n4 : b4 ≠ rb
  n5 : b5 ≠ rb
  n6 : mb ≠ rb
section
variable {l : List Pl.Tm} {n c : Nat} {tol : Int} {W W' : World} {bz oz rb mb nm b1 b2 b3 b4 b5 : Nat} {f : Int → Int}
theorem Wenv.two (h : Wenv l n c tol W bz oz rb mb nm b1 b2 b3 b4 b5 f) (t : Two rb rb W W') : Wenv l n c tol W' bz oz rb mb nm b1 b2 b3 b4 b5 f where
  lt := Nat.lt_of_lt_of_le h.lt t.size
  tm := fun j hj i v hv => by rw [World.cell?_of_block (a := ⟨bz, oz + j * 4 + i, none⟩) (t.block bz h.lt h.n0 h.n0)]; exact h.tm j hj i v hv
  map := h.map.kept (row := some rb) ⟨t.os, t.tape, t.output, t.size, fun k hk hne => t.block k hk (fun e => hne (by rw [e])) (fun e => hne (by rw [e]))⟩ (fun e => h.n6 (by cases e; rfl))
  k1 := (t.block b1 h.k1.lt h.n1 h.n1).trans h.k1
  k2 := (t.block b2 h.k2.lt h.n2 h.n2).trans h.k2
  k3 := (t.block b3 h.k3.lt h.n3 h.n3).trans h.k3
  k4 := (t.block b4 h.k4.lt h.n4 h.n4).trans h.k4
  k5 := (t.block b5 h.k5.lt h.n5 h.n5).trans h.k5
  n0 := h.n0
  n1 := h.n1
  n2 := h.n2
  n3 := h.n3
  n4 := h.n4
  n5 := h.n5
  n6 := h.n6
theorem Wenv.cells (h : Wenv l n c tol W bz oz rb mb nm b1 b2 b3 b4 b5 f) {i : Nat} (hi : i < l.length) : W.cell? ⟨bz, oz + i * 4, none⟩ = some (.int .i64 (Pl.at' l i).num) ∧ W.cell? ⟨bz, oz + i * 4 + 1, none⟩ = some (.int .i64 (Pl.at' l i).side) ∧ W.cell? ⟨bz, oz + i * 4 + 2, none⟩ = some (.int .i64 (Pl.at' l i).len) ∧ W.cell? ⟨bz, oz + i * 4 + 3, none⟩ = some (.int .i64 (Pl.at' l i).col) := by
  have h1 := h.tm i hi
  rw [Pl.at_getD hi] at h1
  exact ⟨h1 0 _ rfl, h1 1 _ rfl, h1 2 _ rfl, h1 3 _ rfl⟩
end
theorem eg_walk : ∀ args w, (callFunc 83 args).run Try.prog w = .ok (.enter 83 args) w := enters_of Try.func83 (by kernel_rfl) rfl
/-- what walk leaves -/
def WalkPost (l : List Pl.Tm) (n : Nat) (tol : Int) (rb : Nat) (S : Nat → Bool) (a : Nat) (w : World) (e : Ending) (w' : World) : Prop :=
  ∃ S', e = .returned (.tuple #[]) ∧ StB w' rb n S' ∧ Two rb rb w w' ∧ Pl.Wk l tol S a S'
end Go.Proofs.Ytmjnlmmjfbpogaa
