/- Helpers: what blocks hold, worlds in which all that lay lies as it lay, lists of numbers in memory, sizes and heads as values and as cells. -/
import Derived.Test.YtghbipipehglfaaDoorProg
import Derived.Test.YtghbipipehglfaaDoorP1
import Derived.Test.YtghbipipehglfaaDoorP2
import Derived.WalkKit
import Derived.WalkSpells
import Derived.WalkLawsBesides
import Derived.Outline
import Derived.BigQuiet
import Derived.Deep.QuietTactic
import Derived.Lib.Hide
import Derived.OwnWalk
import Derived.Laws.OwnMore
import Derived.RangeFuncNested
import Derived.RangeFuncBound
import Derived.RangeFuncCalls
import Derived.RangeFuncLeaves
import Derived.Shelf.Abstract
import Derived.Shelf.RegionOpen
import Derived.OwnWalkIn
import Derived.TacticsInMore
import Derived.LoopNIn
import Derived.LoopIn
import Derived.Deep.MidRow
namespace Go.Proofs.YtghbipipehglfaaDoor
open Go.RowKit Go.Shelf

/-- a world in which all that lay in w0 lies as it lay -/
structure Ext (w0 : World) where
  w : World
  h : Below w0.heap.size w0 w

instance (w0 : World) : Nonempty (Ext w0) := ⟨⟨w0, Below.refl _ _⟩⟩

theorem Ext.cell {w0 : World} (s : Ext w0) {p : Addr} {v : Value} (hp : w0.cell? p = some v) : s.w.cell? p = some v := by
  have hlt : p.block < w0.heap.size := by
    rcases Nat.lt_or_ge p.block w0.heap.size with h | h
    · exact h
    · unfold World.cell? at hp; rw [Array.getElem?_eq_none h] at hp; cases hp
  rw [s.h.cell hlt]; exact hp

theorem wp_region_ext {P : Program} {id : Nat} {Q : Exit → Act → World → Prop} {a : Act} {w : World} {l : List Oper} (hm : P.follows .mixedOrders = true) (hB : Region.lexB .any l.toArray = true)
    (h : wpQuiet P l.toArray (fun w' => ∃ s : Ext w, w' = s.w) (fun a' => ∀ w', (∃ s : Ext w, w' = s.w) → Q .normal a' w') l a) : (Code.region id l.toArray true).wp P Q a w :=
  wp_region_quiet (C := fun w' => ∃ s : Ext w, w' = s.w) hm hB ⟨⟨w.drew, (Below.refl _ w).drew⟩, rfl⟩ (by simpa using h)

theorem calls_ext {P : Program} {f : FuncId} {args : Array Value} {w0 : World} {s : Ext w0} {v : Value}
    (h : Calls P f args s.w fun e w' => e = .returned v ∧ Below s.w.heap.size s.w w') : Calls P f args s.w fun e w'' => e = .returned v ∧ ∃ s' : Ext w0, w'' = s'.w :=
  h.mono fun _ w' ⟨he, hb⟩ => ⟨he, ⟨w', s.h.trans (hb.mono s.h.size)⟩, rfl⟩

/-- block g is just the cells cs -/
def Blk (w : World) (g : Nat) (t : TypeId) (cs : Array Value) : Prop := w.heap[g]? = some (.cells cs t (0, 0))
section
variable {w w' : World} {g : Nat} {t : TypeId} {cs : Array Value}
theorem Blk.lt (h : Blk w g t cs) : g < w.heap.size := by
  rcases Nat.lt_or_ge g w.heap.size with hlt | hge
  · exact hlt
  · unfold Blk at h; rw [Array.getElem?_eq_none hge] at h; cases h
theorem Blk.cell (h : Blk w g t cs) (i : Nat) : w.cell? ⟨g, i, none⟩ = cs[i]? := cell_of_row w g i cs t (0, 0) h
theorem Blk.frozen (h : Blk w g t cs) (i : Nat) : w.frozen? ⟨g, i, none⟩ = false := by
  unfold Blk at h
  simp [World.frozen?, h]
theorem Blk.new (w : World) (t : TypeId) (cs : Array Value) : Blk (w.alloc (.cells cs t)) w.heap.size t cs := World.alloc_heap_new w _
theorem Blk.drew (h : Blk w g t cs) : Blk w.drew g t cs := h
theorem Blk.alloc (h : Blk w g t cs) (o : Obj) : Blk (w.alloc o) g t cs := (Below.heap_alloc w o g h.lt).trans h
theorem Blk.set_ (h : Blk w g t cs) (i : Nat) (u : Value) : Blk (w.setCell ⟨g, i, none⟩ u) g t (cs.setIfInBounds i u) := by
  unfold Blk at h ⊢
  simp [World.setCell, Array.getElem?_modify, h]
theorem Blk.far (h : Blk w g t cs) {p : Addr} (hp : g ≠ p.block) (u : Value) : Blk (w.setCell p u) g t cs := (Below.heap_setCell w p u g hp).trans h
theorem Blk.below {B : Nat} (h : Blk w g t cs) (hb : Below B w w') (hg : g < B) : Blk w' g t cs := (hb.block g hg).trans h
theorem blk_own {β : Type} (B : Nat) (t : TypeId) (f : β → Array Value) : Own (fun s W => Blk W B t (f s)) := fun s X Y row hs hg hrow =>
  (hg.block B hs.lt (fun e' => by obtain ⟨_, ho, hc⟩ := hrow B e'.symm; rw [show X.heap[B]? = _ from hs] at ho; cases ho; cases hc)).trans hs
end
theorem keepsFrom_below {B : Nat} {W W' : World} (h : Below W.heap.size W W') : KeepsFrom B W W' :=
  ⟨h.size, fun k _ _ hk _ => (h.block k (Array.getElem?_eq_some_iff.1 hk).1).trans hk⟩
/-- what a round keeps: all that lay below n₀, and block Bs -/
def KeepsO (n₀ Bs : Nat) (W W' : World) : Prop := Below n₀ W W' ∧ W'.heap[Bs]? = W.heap[Bs]?
theorem KeepsO.trans {n₀ Bs : Nat} {A B C : World} (h : KeepsO n₀ Bs A B) (k : KeepsO n₀ Bs B C) : KeepsO n₀ Bs A C := ⟨h.1.trans k.1, k.2.trans h.2⟩
theorem KeepsO.refl (n₀ Bs : Nat) (A : World) : KeepsO n₀ Bs A A := ⟨Below.refl _ _, rfl⟩
theorem KeepsO.drew {n₀ Bs : Nat} {A B : World} (h : KeepsO n₀ Bs A B) : KeepsO n₀ Bs A B.drew := ⟨h.1.drew, h.2⟩
theorem KeepsO.alloc {n₀ Bs : Nat} {A B : World} (h : KeepsO n₀ Bs A B) (h1 : n₀ ≤ B.heap.size) (h2 : Bs < B.heap.size) (o : Obj) : KeepsO n₀ Bs A (B.alloc o) := ⟨h.1.alloc h1 o, (Below.heap_alloc B o Bs h2).trans h.2⟩
theorem keepsO_b {n₀ Bs : Nat} {w : World} (hn : n₀ ≤ w.heap.size) (hBs : Bs < w.heap.size) (W : World) (l : Nat) (o o' : Obj) (hl : w.heap.size ≤ l) (h : W.heap[l]? = some o) (h1 : o.isCells = false) (h2 : o.isWalk = false) : KeepsO n₀ Bs W (W.putObj l o') :=
  ⟨belowK_b hn W l o o' hl h h1 h2, World.putObj_heap_other (by omega)⟩

/-- numbers as values -/
abbrev ints (l : List Int) : List Value := l.map (Value.int .i64)
theorem ints_len (l : List Int) : (ints l).length = l.length := List.length_map ..
theorem ints_get {l : List Int} {k : Nat} (hk : k < l.length) : (ints l)[k]? = some (.int .i64 (l.getD k 0)) := by
  rw [List.getElem?_map, List.getElem?_eq_getElem hk, List.getD_eq_getElem?_getD, List.getElem?_eq_getElem hk]; rfl
theorem ints_one (l : List Int) : ∀ u ∈ ints l, u.oneCell' = true := by
  intro u hu
  obtain ⟨x, _, rfl⟩ := List.mem_map.1 hu
  rfl
/-- a slice of numbers that lies in memory -/
def Ints (W : World) (A : Option Addr) (l : List Int) : Prop :=
  l = [] ∨ ∃ b off, A = some ⟨b, off, none⟩ ∧ b < W.heap.size ∧ ∀ k, k < l.length → W.cell? ⟨b, off + k, none⟩ = some (.int .i64 (l.getD k 0))
theorem Ints.below {W W' : World} {A : Option Addr} {l : List Int} (h : Ints W A l) (hb : Below W.heap.size W W') : Ints W' A l := by
  rcases h with h | ⟨b, off, he, hlt, hc⟩
  · exact .inl h
  · exact .inr ⟨b, off, he, Nat.lt_of_lt_of_le hlt hb.size, fun k hk => (hb.cell (p := ⟨b, off + k, none⟩) hlt).trans (hc k hk)⟩
theorem Ints.nil (W : World) (A : Option Addr) : Ints W A [] := .inl rfl
theorem info3 : (Tryd.prog.info? 3).map (fun i => (i.zero, i.size, i.bytes)) = some (some (.int .i64 0), 1, 8) := by kernel_rfl
theorem ints_of_owns {W : World} {base : Nat} {v : Value} {l : List Int} (h : W.ownsRow base 3 1 v l.length (ints l)) : ∃ A c, v = .slice A l.length c ∧ Ints W A l := by
  have hh := h
  rcases h with ⟨_, ⟨rfl, h0⟩ | ⟨g, cap, cur, rfl, hg, hcell, _⟩⟩
  · exact ⟨none, 0, by rw [h0], .inl (List.length_eq_zero_iff.1 h0)⟩
  · refine ⟨some ⟨g, 0, none⟩, cap, rfl, .inr ⟨g, 0, rfl, ?_, fun k hk => ?_⟩⟩
    · rcases Nat.lt_or_ge g W.heap.size with h | h
      · exact h
      · rw [Array.getElem?_eq_none h] at hcell; cases hcell
    · have c1 := hh.cellAt k (by omega)
      rw [ints_get hk] at c1
      rw [Nat.zero_add]
      exact c1
theorem cell_one (W : World) (t : TypeId) (x : Value) : ∀ (j : Nat) (u : Value), [x][j]? = some u → (W.alloc (.cells #[x] t)).cell? ((⟨W.heap.size, 0, none⟩ : Addr).add j) = some u := by
  intro j u hj
  have := (Blk.new W t #[x]).cell j
  rw [show (⟨W.heap.size, 0, none⟩ : Addr).add j = ⟨W.heap.size, j, none⟩ from by cases j <;> simp [Addr.add], this]
  simpa using hj

abbrev a5 (f : Nat → Int) : Value := .agg #[.int .i64 (f 0), .int .i64 (f 1), .int .i64 (f 2), .int .i64 (f 3), .int .i64 (f 4)]
abbrev szA (s : Pl.Sz) : Array Value := #[.int .i64 s.code, .int .i64 (s.fr 0), .int .i64 (s.fr 1), .int .i64 (s.fr 2), .int .i64 (s.fr 3), .int .i64 (s.fr 4), .int .i64 (s.up 0), .int .i64 (s.up 1), .int .i64 (s.up 2), .int .i64 (s.up 3), .int .i64 (s.up 4), .int .i64 (s.bd 0), .int .i64 (s.bd 1), .int .i64 (s.bd 2), .int .i64 (s.bd 3), .int .i64 (s.bd 4), .int .i64 s.tot]
abbrev hdA (h : Pl.Hd) : Array Value := #[.int .i64 h.num, .int .i64 (h.m 0), .int .i64 (h.m 1), .int .i64 (h.m 2), .int .i64 (h.m 3), .int .i64 (h.m 4)]
abbrev a5A (f : Nat → Int) : Array Value := #[.int .i64 (f 0), .int .i64 (f 1), .int .i64 (f 2), .int .i64 (f 3), .int .i64 (f 4)]

theorem five {k : Nat} (hk : k < 5) {p : Nat → Prop} (h0 : p 0) (h1 : p 1) (h2 : p 2) (h3 : p 3) (h4 : p 4) : p k := by
  match k, hk with
  | 0, _ => exact h0
  | 1, _ => exact h1
  | 2, _ => exact h2
  | 3, _ => exact h3
  | 4, _ => exact h4
section
variable {w : World} {g : Nat} {s : Pl.Sz} {h : Pl.Hd} {f : Nat → Int} {t : TypeId} {k : Nat}
theorem Blk.code (b : Blk w g t (szA s)) : w.cell? ⟨g, 0, none⟩ = some (.int .i64 s.code) := b.cell 0
theorem Blk.tot (b : Blk w g t (szA s)) : w.cell? ⟨g, 16, none⟩ = some (.int .i64 s.tot) := b.cell 16
theorem Blk.fr (b : Blk w g t (szA s)) (hk : k < 5) : w.cell? ⟨g, 1 + k, none⟩ = some (.int .i64 (s.fr k)) :=
  five (p := fun k => w.cell? ⟨g, 1 + k, none⟩ = some (.int .i64 (s.fr k))) hk (b.cell 1) (b.cell 2) (b.cell 3) (b.cell 4) (b.cell 5)
theorem Blk.up (b : Blk w g t (szA s)) (hk : k < 5) : w.cell? ⟨g, 6 + k, none⟩ = some (.int .i64 (s.up k)) :=
  five (p := fun k => w.cell? ⟨g, 6 + k, none⟩ = some (.int .i64 (s.up k))) hk (b.cell 6) (b.cell 7) (b.cell 8) (b.cell 9) (b.cell 10)
theorem Blk.bd (b : Blk w g t (szA s)) (hk : k < 5) : w.cell? ⟨g, 11 + k, none⟩ = some (.int .i64 (s.bd k)) :=
  five (p := fun k => w.cell? ⟨g, 11 + k, none⟩ = some (.int .i64 (s.bd k))) hk (b.cell 11) (b.cell 12) (b.cell 13) (b.cell 14) (b.cell 15)
theorem Blk.num (b : Blk w g t (hdA h)) : w.cell? ⟨g, 0, none⟩ = some (.int .i64 h.num) := b.cell 0
theorem Blk.ms (b : Blk w g t (hdA h)) (hk : k < 5) : w.cell? ⟨g, 1 + k, none⟩ = some (.int .i64 (h.m k)) :=
  five (p := fun k => w.cell? ⟨g, 1 + k, none⟩ = some (.int .i64 (h.m k))) hk (b.cell 1) (b.cell 2) (b.cell 3) (b.cell 4) (b.cell 5)
theorem Blk.at5 (b : Blk w g t (a5A f)) (hk : k < 5) : w.cell? ⟨g, k, none⟩ = some (.int .i64 (f k)) :=
  five (p := fun k => w.cell? ⟨g, k, none⟩ = some (.int .i64 (f k))) hk (b.cell 0) (b.cell 1) (b.cell 2) (b.cell 3) (b.cell 4)
theorem Blk.ldm (b : Blk w g t (hdA h)) : (Instr.loadAt 32 (.pointer (some ⟨g, 1, none⟩))).run Tryd.prog w = .ok (.agg (a5A h.m)) w :=
  run_loadAt_mid w g 1 32 (a5A h.m).toList _ (fun j v hj => by
    have hj' : j < 5 := by
      rcases Nat.lt_or_ge j 5 with e | e
      · exact e
      · rw [List.getElem?_eq_none (by simpa using e)] at hj; cases hj
    rw [b.ms hj']
    refine Eq.trans ?_ hj
    exact five (p := fun k => some (Value.int .i64 (h.m k)) = (a5A h.m).toList[k]?) hj' rfl rfl rfl rfl rfl) Tryd.underlying32 rfl (by kernel_rfl)
theorem Blk.ldh (b : Blk w g t (hdA h)) : (Instr.loadAt 34 (.pointer (some ⟨g, 0, none⟩))).run Tryd.prog w = .ok (.agg (hdA h)) w := by
  simp only [Instr.loadAt, Instr.sureAddr, Sem.run_bind, Sem.run_pure, Result.andThen_ok]
  exact run_loadVar_row w g t 34 (hdA h) (0, 0) _ b Tryd.underlying34 rfl (by kernel_rfl)
theorem Blk.lds (b : Blk w g t (szA s)) : (Instr.loadAt 46 (.pointer (some ⟨g, 0, none⟩))).run Tryd.prog w = .ok (.agg (szA s)) w := by
  simp only [Instr.loadAt, Instr.sureAddr, Sem.run_bind, Sem.run_pure, Result.andThen_ok]
  exact run_loadVar_row w g t 46 (szA s) (0, 0) _ b Tryd.underlying46 rfl (by kernel_rfl)
theorem Blk.ld5 (b : Blk w g t (a5A f)) : (Instr.loadAt 32 (.pointer (some ⟨g, 0, none⟩))).run Tryd.prog w = .ok (.agg (a5A f)) w := by
  simp only [Instr.loadAt, Instr.sureAddr, Sem.run_bind, Sem.run_pure, Result.andThen_ok]
  exact run_loadVar_row w g t 32 (a5A f) (0, 0) _ b Tryd.underlying32 rfl (by kernel_rfl)
/-- the element k of an array of five -/
theorem idx5 (f : Nat → Int) (hk : k < 5) (w : World) : (Instr.index 32 (.agg #[.int .i64 (f 0), .int .i64 (f 1), .int .i64 (f 2), .int .i64 (f 3), .int .i64 (f 4)]) (.int .i64 k)).run Tryd.prog w = .ok (.int .i64 (f k)) w := by
  refine five (p := fun k : Nat => (Instr.index 32 (.agg #[.int .i64 (f 0), .int .i64 (f 1), .int .i64 (f 2), .int .i64 (f 3), .int .i64 (f 4)]) (.int .i64 k)).run Tryd.prog w = .ok (.int .i64 (f k)) w) hk ?_ ?_ ?_ ?_ ?_ <;> kernel_rfl
end
end Go.Proofs.YtghbipipehglfaaDoor
