/- Helpers: what blocks hold, worlds in which all that lay lies as it lay, the map of keys that were seen. -/
import Derived.Test.YtbdnocijhbkclaaGreatDoorProg
import Derived.Test.YtbdnocijhbkclaaGreatDoorPC
import Derived.WalkKit
import Derived.WalkSpells
import Derived.WalkLawsBesides
import Derived.Outline
import Derived.BigQuiet
import Derived.Deep.QuietTactic
import Derived.Lib.Hide
import Derived.OwnWalk
import Derived.Laws.OwnMore
import Derived.Shelf.Abstract
import Derived.Shelf.RegionOpen
import Derived.Deep.MidRow
import Derived.Maps.Own
import Derived.Maps.OwnSet
import Derived.Maps.OwnOps
import Derived.Maps.Views
import Derived.ProofKit
import Derived.IntWalk
import Derived.StillTailTactics
namespace Go.Proofs.YtbdnocijhbkclaaGreatDoor
open Go.RowKit Go.Shelf
/-- a world in which all that lay in w0 lies as it lay -/
structure Ext (w0 : World) where
  w : World
  h : Below w0.heap.size w0 w

instance (w0 : World) : Nonempty (Ext w0) := ⟨⟨w0, Below.refl _ _⟩⟩

theorem Ext.cell {w0 : World} (s : Ext w0) {p : Addr} {v : Value} (hp : w0.cell? p = some v) : s.w.cell? p = some v := by
  have hlt : p.block < w0.heap.size := by
    rcases Nat.lt_or_ge p.block w0.heap.size with h | h
    · exact h
    · unfold World.cell? at hp; rw [Array.getElem?_eq_none h] at hp; cases hp
  rw [s.h.cell hlt]; exact hp

theorem wp_region_ext {P : Program} {id : Nat} {Q : Exit → Act → World → Prop} {a : Act} {w : World} {l : List Oper} (hm : P.follows .mixedOrders = true) (hB : Region.lexB .any l.toArray = true)
    (h : wpQuiet P l.toArray (fun w' => ∃ s : Ext w, w' = s.w) (fun a' => ∀ w', (∃ s : Ext w, w' = s.w) → Q .normal a' w') l a) : (Code.region id l.toArray true).wp P Q a w :=
  wp_region_quiet (C := fun w' => ∃ s : Ext w, w' = s.w) hm hB ⟨⟨w.drew, (Below.refl _ w).drew⟩, rfl⟩ (by simpa using h)

theorem calls_ext {P : Program} {f : FuncId} {args : Array Value} {w0 : World} {s : Ext w0} {v : Value}
    (h : Calls P f args s.w fun e w' => e = .returned v ∧ Below s.w.heap.size s.w w') : Calls P f args s.w fun e w'' => e = .returned v ∧ ∃ s' : Ext w0, w'' = s'.w :=
  h.mono fun _ w' ⟨he, hb⟩ => ⟨he, ⟨w', s.h.trans (hb.mono s.h.size)⟩, rfl⟩

theorem heap_new (w : World) (o : Obj) : (w.alloc o).heap[w.heap.size]? = some o := by
  show (w.heap.push o)[w.heap.size]? = some o
  simp
/-- block g is just the cells cs -/
def Blk (w : World) (g : Nat) (t : TypeId) (cs : Array Value) : Prop := w.heap[g]? = some (.cells cs t (0, 0))
section
variable {w w' : World} {g : Nat} {t : TypeId} {cs : Array Value}
theorem Blk.lt (h : Blk w g t cs) : g < w.heap.size := by
  rcases Nat.lt_or_ge g w.heap.size with hlt | hge
  · exact hlt
  · unfold Blk at h; rw [Array.getElem?_eq_none hge] at h; cases h
theorem Blk.cell (h : Blk w g t cs) (i : Nat) : w.cell? ⟨g, i, none⟩ = cs[i]? := cell_of_row w g i cs t (0, 0) h
theorem Blk.frozen (h : Blk w g t cs) (i : Nat) : w.frozen? ⟨g, i, none⟩ = false := by
  unfold Blk at h
  simp [World.frozen?, h]
theorem Blk.new (w : World) (t : TypeId) (cs : Array Value) : Blk (w.alloc (.cells cs t)) w.heap.size t cs := heap_new w _
theorem Blk.drew (h : Blk w g t cs) : Blk w.drew g t cs := h
theorem Blk.alloc (h : Blk w g t cs) (o : Obj) : Blk (w.alloc o) g t cs := (Below.heap_alloc w o g h.lt).trans h
theorem Blk.set_ (h : Blk w g t cs) (i : Nat) (u : Value) : Blk (w.setCell ⟨g, i, none⟩ u) g t (cs.setIfInBounds i u) := by
  unfold Blk at h ⊢
  simp [World.setCell, Array.getElem?_modify, h]
theorem Blk.far (h : Blk w g t cs) {p : Addr} (hp : g ≠ p.block) (u : Value) : Blk (w.setCell p u) g t cs := (Below.heap_setCell w p u g hp).trans h
theorem Blk.below {B : Nat} (h : Blk w g t cs) (hb : Below B w w') (hg : g < B) : Blk w' g t cs := (hb.block g hg).trans h
end
/-- numbers as values -/
abbrev ints (l : List Int) : List Value := l.map (Value.int .i64)
theorem ints_len (l : List Int) : (ints l).length = l.length := List.length_map ..
theorem ints_get {l : List Int} {k : Nat} (hk : k < l.length) : (ints l)[k]? = some (.int .i64 (l.getD k 0)) := by
  rw [List.getElem?_map, List.getElem?_eq_getElem hk, List.getD_eq_getElem?_getD, List.getElem?_eq_getElem hk]; rfl
theorem ints_one (l : List Int) : ∀ u ∈ ints l, u.oneCell' = true := by
  intro u hu
  obtain ⟨x, _, rfl⟩ := List.mem_map.1 hu
  rfl
/-- a slice of numbers that lies in memory -/
def Ints (W : World) (A : Option Addr) (l : List Int) : Prop :=
  l = [] ∨ ∃ b off, A = some ⟨b, off, none⟩ ∧ b < W.heap.size ∧ ∀ k, k < l.length → W.cell? ⟨b, off + k, none⟩ = some (.int .i64 (l.getD k 0))
theorem Ints.below {W W' : World} {A : Option Addr} {l : List Int} (h : Ints W A l) (hb : Below W.heap.size W W') : Ints W' A l := by
  rcases h with h | ⟨b, off, he, hlt, hc⟩
  · exact .inl h
  · exact .inr ⟨b, off, he, Nat.lt_of_lt_of_le hlt hb.size, fun k hk => (hb.cell (p := ⟨b, off + k, none⟩) hlt).trans (hc k hk)⟩
theorem Ints.nil (W : World) (A : Option Addr) : Ints W A [] := .inl rfl
theorem info3 : (Tryz.prog.info? 3).map (fun i => (i.zero, i.size, i.bytes)) = some (some (.int .i64 0), 1, 8) := by kernel_rfl
theorem ints_of_owns {W : World} {base : Nat} {v : Value} {l : List Int} (h : W.ownsRow base 3 1 v l.length (ints l)) : ∃ A c, v = .slice A l.length c ∧ Ints W A l := by
  have hh := h
  rcases h with ⟨_, ⟨rfl, h0⟩ | ⟨g, cap, cur, rfl, hg, hcell, _⟩⟩
  · exact ⟨none, 0, by rw [h0], .inl (List.length_eq_zero_iff.1 h0)⟩
  · refine ⟨some ⟨g, 0, none⟩, cap, rfl, .inr ⟨g, 0, rfl, ?_, fun k hk => ?_⟩⟩
    · rcases Nat.lt_or_ge g W.heap.size with h | h
      · exact h
      · rw [Array.getElem?_eq_none h] at hcell; cases hcell
    · have c1 := hh.cellAt k (by omega)
      rw [ints_get hk] at c1
      rw [Nat.zero_add]
      exact c1
theorem cell_one (W : World) (t : TypeId) (x : Value) : ∀ (j : Nat) (u : Value), [x][j]? = some u → (W.alloc (.cells #[x] t)).cell? ((⟨W.heap.size, 0, none⟩ : Addr).add j) = some u := by
  intro j u hj
  have := (Blk.new W t #[x]).cell j
  rw [show (⟨W.heap.size, 0, none⟩ : Addr).add j = ⟨W.heap.size, j, none⟩ from by cases j <;> simp [Addr.add], this]
  simpa using hj


theorem rangeAt_below {W W' : World} {b o : Nat} {cs : List Value} (h : W.rangeAt b o cs) (hlt : b < W.heap.size) (hb : Below W.heap.size W W') : W'.rangeAt b o cs :=
  fun j v hv => (hb.cell (p := ⟨b, o + j, none⟩) hlt).trans (h j v hv)
section
variable {P : Program} {ops : Array Oper} {rest : List Oper} {o : Oper} {a : Act} {w : World} {Q : Exit → Act → World → Prop}
theorem wpList_wanted (hw : Region.wanted o (yielded ops a.tmps) = true)
    (h : ∀ K : Act → World → Prop, (∀ a w, wpList P ops Q rest a w → K a w) → o.wp P a w K Q) : wpList P ops Q (o :: rest) a w :=
  wpList_step fun K hK => by rw [if_pos hw]; exact h K hK
end
section
variable {w : World}
theorem Blk.range {g : Nat} {t : TypeId} {cs : Array Value} (h : Blk w g t cs) : w.rangeAt g 0 cs.toList := fun j v hv => by
  rw [Nat.zero_add, h.cell j]
  simpa using hv
end
theorem Below.drewN {B : Nat} {w w' : World} (h : Below B w w') {n : Nat} : Below B w (w'.drewN n) := ⟨h.os, h.tape, h.output, h.size, h.block⟩
theorem ownDrewN {w : World} {B : Nat} {t : TypeId} {k : Nat} {v : Value} {n m : Nat} {xs : List Value} (h : w.ownsRow B t k v n xs) : (w.drewN m).ownsRow B t k v n xs := h
theorem Blk.drewN {w : World} {g : Nat} {t : TypeId} {cs : Array Value} (h : Blk w g t cs) {n : Nat} : Blk (w.drewN n) g t cs := h
theorem grown_none {W W' : World} (h : Below W.heap.size W W') : W.grownBy W' none := ⟨h.os, h.tape, h.output, h.size, fun k hk _ => h.block k hk⟩
theorem zeroBool (w : World) : (zeroValue 4).run Tryz.prog w = .ok (.bool false) w := by kernel_rfl
theorem keyedInt : Go.Maps.Keyed Tryz.prog 3 := Go.Maps.int_keyed Tryz.underlying3
theorem plainElem_bool_inv {H : Type} {P : Program} {e : TypeId} (he : P.underlying e = some .bool) {v : Value} {z : DataW H × List MemPlace} (h : plainElem P e v = some z) : ∃ x, v = .bool x ∧ z = (.lit (.bool x), []) := by
  unfold plainElem at h
  rw [he] at h
  cases v <;> simp at h
  exact ⟨_, rfl, h.symm⟩

/-- a kind of keys, as values and as what a map knows them by -/
structure KeyT (κ : Type) where
  t : TypeId
  mt : TypeId
  val : κ → Value
  lit : κ → Lit
  ok : κ → Prop
  keyed : Go.Maps.Keyed Tryz.prog t
  map : Tryz.prog.underlying mt = some (.map t 4)
  key : ∀ k, ok k → keyOf Tryz.prog t (val k) = some (lit k)
  inj : ∀ a b, val a = val b → a = b
/-- block b is the map whose keys are those of S -/
def Seen {κ : Type} [DecidableEq κ] (K : KeyT κ) (W : World) (b n : Nat) (S : List κ) : Prop :=
  ∃ D : DataW Unit, W.ownsMap Tryz.prog K.t (plainElem Tryz.prog 4) b n D ∧ Go.Maps.size D = S.length ∧ ∀ k, K.ok k → Go.Maps.has D (K.lit k) = decide (k ∈ S)
section
variable {κ : Type} [DecidableEq κ] {K : KeyT κ} {W W' : World} {b n : Nat} {S : List κ}
theorem Seen.below (h : Seen K W b n S) (hb : Below W.heap.size W W') : Seen K W' b n S := by
  obtain ⟨D, h1, h2⟩ := h
  exact ⟨D, h1.kept (grown_none hb) (by simp), h2⟩
theorem Seen.drew (h : Seen K W b n S) : Seen K W.drew b n S := h
theorem Seen.alloc (h : Seen K W b n S) (o : Obj) : Seen K (W.alloc o) b n S := by
  obtain ⟨D, h1, h2⟩ := h
  exact ⟨D, h1.alloc o, h2⟩
theorem Seen.lt (h : Seen K W b n S) : b < W.heap.size := by
  obtain ⟨D, h1, h2⟩ := h
  exact h1.lt
theorem Seen.made (W : World) : Seen K (W.alloc (.map #[] 0)) W.heap.size 0 [] := ⟨_, World.ownsMap_made W _ _ _, rfl, fun _ _ => rfl⟩
theorem Seen.len (h : Seen K W b n S) (ty : TypeId) : (Builtin.len_ #[K.mt] ty #[.map (some b)]).run Tryz.prog W = .ok (.int .i64 (S.length : Nat)) W := by
  obtain ⟨D, h1, h2, h3⟩ := h
  rw [← h2]
  exact h1.len K.map ty
set_option maxRecDepth 100000 in
theorem Seen.store (h : Seen K W b n S) (hn : n < maxLen) {x : κ} (hx : K.ok x) :
    ∃ W', (Instr.mapUpdate K.mt (.map (some b)) (K.val x) (.bool true)).run Tryz.prog W = .ok () W' ∧ Seen K W' b (n + 1) (Pl.ins x S) ∧ W.grownBy W' (some b) := by
  obtain ⟨D, h1, h2, h3⟩ := h
  have hk := K.key x hx
  obtain ⟨W', hrun, h4, h5⟩ := h1.update K.keyed K.map hn hk (plainElem_bool Tryz.underlying4 true)
  refine ⟨W', hrun, ⟨_, h4, ?_, fun y hy => ?_⟩, h5⟩
  · rw [Go.Maps.size_put (h1.tidy K.keyed), h3 x hx, h2]
    unfold Pl.ins
    by_cases e : x ∈ S
    · rw [decide_eq_true e, if_pos rfl, if_pos e]
    · rw [decide_eq_false e, if_neg (by decide), if_neg e]; rfl
  · have hm : y ∈ Pl.ins x S ↔ y = x ∨ y ∈ S := by
      unfold Pl.ins
      split
      · constructor
        · exact .inr
        · rintro (rfl | h)
          · assumption
          · exact h
      · rw [List.mem_cons]
    by_cases e : y = x
    · subst e
      rw [Go.Maps.has_put_same h1.isMap (K.keyed.key hk), decide_eq_true (hm.2 (.inl rfl))]
    · have hne : K.lit y ≠ K.lit x := fun h => by
        have hk' := K.key y hy
        rw [h] at hk'
        exact e (K.inj _ _ (K.keyed.inj hk' hk))
      rw [Go.Maps.has_put_other hne, h3 y hy]
      congr 1
      rw [hm]
      simp [e]
end
end Go.Proofs.YtbdnocijhbkclaaGreatDoor
