import Derived.Test.YticjhkfidgkecaaGreatDoorProg
import Derived.Test.YticjhkfidgkecaaGreatDoorP2
import Derived.WalkKit
import Derived.WalkSpells
import Derived.WalkLawsBesides
import Derived.Outline
import Derived.BigQuiet
import Derived.Deep.QuietTactic
import Derived.Lib.Hide
namespace Go.Proofs.YticjhkfidgkecaaGreatDoor
open Go.RowKit

/-- a world in which all that lay in w0 lies as it lay -/
structure Ext (w0 : World) where
  w : World
  h : Below w0.heap.size w0 w

instance (w0 : World) : Nonempty (Ext w0) := ⟨⟨w0, Below.refl _ _⟩⟩

theorem cell_lt {w0 : World} {p : Addr} {v : Value} (hp : w0.cell? p = some v) : p.block < w0.heap.size := by
  rcases Nat.lt_or_ge p.block w0.heap.size with h | h
  · exact h
  · unfold World.cell? at hp; rw [Array.getElem?_eq_none h] at hp; cases hp
theorem cell_ext {w w' : World} (h : Below w.heap.size w w') {p : Addr} {v : Value} (hp : w.cell? p = some v) : w'.cell? p = some v := by
  rw [h.cell (cell_lt hp)]; exact hp
theorem Ext.cell {w0 : World} (s : Ext w0) {p : Addr} {v : Value} (hp : w0.cell? p = some v) : s.w.cell? p = some v := cell_ext s.h hp

theorem wp_region_ext {P : Program} {id : Nat} {Q : Exit → Act → World → Prop} {a : Act} {w : World} {l : List Oper} (hm : P.follows .mixedOrders = true) (hB : Region.lexB .any l.toArray = true)
    (h : wpQuiet P l.toArray (fun w' => ∃ s : Ext w, w' = s.w) (fun a' => ∀ w', (∃ s : Ext w, w' = s.w) → Q .normal a' w') l a) : (Code.region id l.toArray true).wp P Q a w :=
  wp_region_quiet (C := fun w' => ∃ s : Ext w, w' = s.w) hm hB ⟨⟨w.drew, (Below.refl _ w).drew⟩, rfl⟩ (by simpa using h)

theorem calls_ext {P : Program} {f : FuncId} {args : Array Value} {w0 : World} {s : Ext w0} {v : Value}
    (h : Calls P f args s.w fun e w' => e = .returned v ∧ Below s.w.heap.size s.w w') : Calls P f args s.w fun e w'' => e = .returned v ∧ ∃ s' : Ext w0, w'' = s'.w :=
  h.mono fun _ w' ⟨he, hb⟩ => ⟨he, ⟨w', s.h.trans (hb.mono s.h.size)⟩, rfl⟩

section
variable {w w' : World} {g : Nat} {t : TypeId} {cs : Array Value}
/-- the block g is these cells -/
def Blk (w : World) (g : Nat) (t : TypeId) (cs : Array Value) : Prop := w.heap[g]? = some (.cells cs t (0, 0))
theorem Blk.lt (h : Blk w g t cs) : g < w.heap.size := (Array.getElem?_eq_some_iff.1 h).1
theorem Blk.cell (h : Blk w g t cs) (i : Nat) : w.cell? ⟨g, i, none⟩ = cs[i]? := cell_of_row w g i cs t (0, 0) h
theorem Blk.frozen (h : Blk w g t cs) (i : Nat) : w.frozen? ⟨g, i, none⟩ = false := by
  unfold Blk at h; simp [World.frozen?, h]
theorem Blk.new (w : World) (t : TypeId) (cs : Array Value) : Blk (w.alloc (.cells cs t)) w.heap.size t cs := by unfold Blk World.alloc; simp
theorem Blk.below {B : Nat} (h : Blk w g t cs) (hb : Below B w w') (hg : g < B) : Blk w' g t cs := (hb.block g hg).trans h
theorem Blk.alloc (h : Blk w g t cs) (o : Obj) : Blk (w.alloc o) g t cs := (Below.heap_alloc w o g h.lt).trans h
theorem Blk.drew (h : Blk w g t cs) : Blk w.drew g t cs := h
end

open Pl
abbrev str (l : List UInt8) : Value := .string ⟨l.toArray⟩
def leastV (op i : Int) : Int := if op = 4 ∧ i = 0 then 0 else 1
/-- the cells of the tables of the program's own -/
def kindCells : List Value := [str [], .int .i64 3, .int .i64 0, str (wd 2), .int .i64 0, .int .i64 2, str (wd 3), .int .i64 0, .int .i64 1, str (wd 4), .int .i64 2, .int .i64 1, str (wd 5), .int .i64 0, .int .i64 1, str (wd 6), .int .i64 1, .int .i64 1]
structure Own (w : World) : Prop where
  col : ∃ t, Blk w 0 t #[.int .u8 97, .int .u8 98, .int .u8 99, .int .u8 100, .int .u8 101, .int .u8 102, .int .u8 103, .int .u8 104, .int .u8 105]
  kind : ∃ t, Blk w 1 t kindCells.toArray
theorem Own.below {w w' : World} (h : Own w) (hb : Below w.heap.size w w') : Own w' := ⟨h.col.imp fun _ k => k.below hb k.lt, h.kind.imp fun _ k => k.below hb k.lt⟩

set_option maxHeartbeats 400000 in
theorem isOp_any (n : Int) (w : World) : Calls Tryz.prog 123 #[.int .i64 n] w fun e w' => e = .returned (.bool (decide (1 ≤ n) && decide (n ≤ 6))) ∧ w' = w := by
  go_enter Tryz.func123, Tryz.ntmps123
  go_wp2
  all_goals (go_ret; exact ⟨by simp [*]; try omega, rfl⟩)
set_option maxHeartbeats 400000 in
theorem isAxis_any (n : Int) (w : World) : Calls Tryz.prog 75 #[.int .i64 n] w fun e w' => e = .returned (.bool (decide (0 ≤ n) && decide (n ≤ 2))) ∧ w' = w := by
  go_enter Tryz.func75, Tryz.ntmps75
  go_wp2
  all_goals (go_ret; exact ⟨by simp [*]; try omega, rfl⟩)
set_option maxHeartbeats 400000 in
theorem least_any (op i : Int) (w : World) : Calls Tryz.prog 134 #[.int .i64 op, .int .i64 i] w fun e w' => e = .returned (.int .i64 (leastV op i)) ∧ w' = w := by
  by_cases h1 : op = 4
  · subst h1
    by_cases h2 : i = 0
    · subst h2
      go_enter Tryz.func134, Tryz.ntmps134
      go_wp2
      go_ret
      exact ⟨rfl, rfl⟩
    · have g2 : (i == 0) = false := by simpa using h2
      have H2 := Lib.hid h2
      clear h2
      go_enter Tryz.func134, Tryz.ntmps134
      go_wp2
      go_ret
      exact ⟨by unfold leastV; rw [if_neg (fun h => H2.out h.2)]; rfl, rfl⟩
  · have g2 : (op == 4) = false := by simpa using h1
    have H2 := Lib.hid h1
    clear h1
    go_enter Tryz.func134, Tryz.ntmps134
    go_wp2
    go_ret
    exact ⟨by unfold leastV; rw [if_neg (fun h => H2.out h.1)]; rfl, rfl⟩
/-- the kind of an Op -/
def kindV (op : Int) : Value := .agg #[str (wd op), .int .i64 (nNum op), .int .i64 (nPart op)]
set_option maxHeartbeats 1000000 in
theorem kindOf_any (op : Int) (h1 : 1 ≤ op) (h6 : op ≤ 6) (w : World) (hO : Own w) : Calls Tryz.prog 105 #[.int .i64 op] w fun e w' => e = .returned (kindV op) ∧ Below w.heap.size w w' := by
  obtain ⟨_, hok⟩ := hO.kind
  have hk := hok.cell
  have hlt := hok.lt
  clear hok
  have hop : op = 1 ∨ op = 2 ∨ op = 3 ∨ op = 4 ∨ op = 5 ∨ op = 6 := by omega
  clear hO
  rcases hop with rfl | rfl | rfl | rfl | rfl | rfl
  · have c0 := hk 0; have c1 := hk 1; have c2 := hk 2
    simp only [kindCells, List.getElem?_toArray, List.getElem?_cons_zero, List.getElem?_cons_succ] at c0 c1 c2
    clear hk
    go_enter Tryz.func105, Tryz.ntmps105
    go_wp2
    exact bodyPost_ret (v := kindV 1) (by simp [results, Tryz.results105, go_sem, kindV, nNum, nPart, wd]) rfl ⟨rfl, (Below.refl _ _).alloc (Nat.le_refl _) _⟩
  · have c0 := hk 3; have c1 := hk 4; have c2 := hk 5
    simp only [kindCells, List.getElem?_toArray, List.getElem?_cons_zero, List.getElem?_cons_succ] at c0 c1 c2
    clear hk
    go_enter Tryz.func105, Tryz.ntmps105
    go_wp2
    exact bodyPost_ret (v := kindV 2) (by simp [results, Tryz.results105, go_sem, kindV, nNum, nPart, wd]) rfl ⟨rfl, (Below.refl _ _).alloc (Nat.le_refl _) _⟩
  · have c0 := hk 6; have c1 := hk 7; have c2 := hk 8
    simp only [kindCells, List.getElem?_toArray, List.getElem?_cons_zero, List.getElem?_cons_succ] at c0 c1 c2
    clear hk
    go_enter Tryz.func105, Tryz.ntmps105
    go_wp2
    exact bodyPost_ret (v := kindV 3) (by simp [results, Tryz.results105, go_sem, kindV, nNum, nPart, wd]) rfl ⟨rfl, (Below.refl _ _).alloc (Nat.le_refl _) _⟩
  · have c0 := hk 9; have c1 := hk 10; have c2 := hk 11
    simp only [kindCells, List.getElem?_toArray, List.getElem?_cons_zero, List.getElem?_cons_succ] at c0 c1 c2
    clear hk
    go_enter Tryz.func105, Tryz.ntmps105
    go_wp2
    exact bodyPost_ret (v := kindV 4) (by simp [results, Tryz.results105, go_sem, kindV, nNum, nPart, wd]) rfl ⟨rfl, (Below.refl _ _).alloc (Nat.le_refl _) _⟩
  · have c0 := hk 12; have c1 := hk 13; have c2 := hk 14
    simp only [kindCells, List.getElem?_toArray, List.getElem?_cons_zero, List.getElem?_cons_succ] at c0 c1 c2
    clear hk
    go_enter Tryz.func105, Tryz.ntmps105
    go_wp2
    exact bodyPost_ret (v := kindV 5) (by simp [results, Tryz.results105, go_sem, kindV, nNum, nPart, wd]) rfl ⟨rfl, (Below.refl _ _).alloc (Nat.le_refl _) _⟩
  · have c0 := hk 15; have c1 := hk 16; have c2 := hk 17
    simp only [kindCells, List.getElem?_toArray, List.getElem?_cons_zero, List.getElem?_cons_succ] at c0 c1 c2
    clear hk
    go_enter Tryz.func105, Tryz.ntmps105
    go_wp2
    exact bodyPost_ret (v := kindV 6) (by simp [results, Tryz.results105, go_sem, kindV, nNum, nPart, wd]) rfl ⟨rfl, (Below.refl _ _).alloc (Nat.le_refl _) _⟩

abbrev colAgg : Value := .agg #[.int .u8 97, .int .u8 98, .int .u8 99, .int .u8 100, .int .u8 101, .int .u8 102, .int .u8 103, .int .u8 104, .int .u8 105]
theorem idx_col0 (w : World) : (Instr.index 90 colAgg (.int .i64 0)).run Tryz.prog w = .ok (.int .u8 97) w := by kernel_rfl
theorem idx_col1 (w : World) : (Instr.index 90 colAgg (.int .i64 1)).run Tryz.prog w = .ok (.int .u8 98) w := by kernel_rfl
theorem idx_col2 (w : World) : (Instr.index 90 colAgg (.int .i64 2)).run Tryz.prog w = .ok (.int .u8 99) w := by kernel_rfl
theorem idx_col3 (w : World) : (Instr.index 90 colAgg (.int .i64 3)).run Tryz.prog w = .ok (.int .u8 100) w := by kernel_rfl
theorem idx_col4 (w : World) : (Instr.index 90 colAgg (.int .i64 4)).run Tryz.prog w = .ok (.int .u8 101) w := by kernel_rfl
theorem idx_col5 (w : World) : (Instr.index 90 colAgg (.int .i64 5)).run Tryz.prog w = .ok (.int .u8 102) w := by kernel_rfl
theorem idx_col6 (w : World) : (Instr.index 90 colAgg (.int .i64 6)).run Tryz.prog w = .ok (.int .u8 103) w := by kernel_rfl
theorem idx_col7 (w : World) : (Instr.index 90 colAgg (.int .i64 7)).run Tryz.prog w = .ok (.int .u8 104) w := by kernel_rfl
theorem idx_col8 (w : World) : (Instr.index 90 colAgg (.int .i64 8)).run Tryz.prog w = .ok (.int .u8 105) w := by kernel_rfl
theorem idx_col (k : Nat) (hk : k < 9) (w : World) : (Instr.index 90 colAgg (.int .i64 (k : Int))).run Tryz.prog w = .ok (.int .u8 (97 + (k : Int))) w := by
  have : k = 0 ∨ k = 1 ∨ k = 2 ∨ k = 3 ∨ k = 4 ∨ k = 5 ∨ k = 6 ∨ k = 7 ∨ k = 8 := by omega
  rcases this with rfl | rfl | rfl | rfl | rfl | rfl | rfl | rfl | rfl
  · exact idx_col0 w
  · exact idx_col1 w
  · exact idx_col2 w
  · exact idx_col3 w
  · exact idx_col4 w
  · exact idx_col5 w
  · exact idx_col6 w
  · exact idx_col7 w
  · exact idx_col8 w
theorem ret2 {a b a' b' : Value} (h : a = a') (h' : b = b') : Ending.returned (.tuple #[a, b]) = .returned (.tuple #[a', b']) := by rw [h, h']
theorem ret1 {a a' : Value} (h : a = a') : Ending.returned a = .returned a' := by rw [h]
set_option maxHeartbeats 1000000 in
/-- colourOf: the number of a colour's letter -/
theorem colourOf_yes (c : Int) (h1 : 97 ≤ c) (h2 : c ≤ 105) (w : World) (hO : Own w) : Calls Tryz.prog 112 #[.int .u8 c] w fun e w' => e = .returned (.tuple #[.int .i64 (c - 97), .bool true]) ∧ w' = w := by
  obtain ⟨_, hok⟩ := hO.col
  have hk := hok.cell
  clear hok
  clear hO
  go_enter Tryz.func112, Tryz.ntmps112
  go_wp2
  clear hk
  go_loop [7] (fun i => ∃ k : Nat, (k : Int) ≤ c - 97 ∧ i = .int .i64 k) (fun i => 9 - (intOf i).toNat)
  case atStart => exact ⟨0, by omega, rfl⟩
  case round =>
    obtain ⟨k, hk, rfl⟩ := hrel
    have hix := fun w => idx_col k (by omega) w
    by_cases he : (k : Int) = c - 97
    · have g1 : ((97 : Int) + (k : Int) == c) = true := by simp; omega
      have HE := Lib.hid he
      clear he
      go_wp2
      go_ret2
      exact ⟨ret2 (congrArg (Value.int .i64) HE.out) rfl, rfl⟩
    · have g1 : ((97 : Int) + (k : Int) == c) = false := by simp; omega
      have HE := Lib.hid he
      clear he
      go_wp2
      go_round
      case rel => exact ⟨k + 1, by have := HE.out; omega, by go_num⟩
      case measure => simp [intOf]; omega
set_option maxHeartbeats 1000000 in
theorem colourOf_no (c : Int) (hn : ¬ (97 ≤ c ∧ c ≤ 105)) (w : World) (hO : Own w) : Calls Tryz.prog 112 #[.int .u8 c] w fun e w' => e = .returned (.tuple #[.int .i64 0, .bool false]) ∧ w' = w := by
  obtain ⟨_, hok⟩ := hO.col
  have hk := hok.cell
  clear hok
  clear hO
  go_enter Tryz.func112, Tryz.ntmps112
  go_wp2
  clear hk
  go_loop [7] (fun i => ∃ k : Nat, k ≤ 9 ∧ i = .int .i64 k) (fun i => 9 - (intOf i).toNat)
  case atStart => exact ⟨0, by omega, rfl⟩
  case round =>
    obtain ⟨k, hk, rfl⟩ := hrel
    by_cases hlt : k < 9
    · have hix := fun w => idx_col k hlt w
      have g1 : ((97 : Int) + (k : Int) == c) = false := by simp; omega
      go_wp2
      go_round
      case rel => exact ⟨k + 1, by omega, by go_num⟩
      case measure => simp [intOf]; omega
    · obtain rfl : k = 9 := by omega
      go_wp2
      go_ret2
      exact ⟨rfl, rfl⟩

/-! ### recipes in memory -/
/-- the cells of a block -/
def hdc (h : Hd) (A : Option Addr) (n c : Nat) : Array Value := #[.int .i64 h.op, .int .i64 h.ax, .int .u8 h.col, .int .i64 h.n0, .int .i64 h.n1, .int .i64 h.n2, .slice A n c]
/-- a block by value -/
def bv (h : Hd) (A : Option Addr) (n c : Nat) : Value := .agg (hdc h A n c)
/-- seven cells in memory are those of a block -/
def HC (w : World) (b o : Nat) (h : Hd) (A : Option Addr) (n c : Nat) : Prop :=
  w.cell? ⟨b, o, none⟩ = some (.int .i64 h.op) ∧ w.cell? ⟨b, o + 1, none⟩ = some (.int .i64 h.ax) ∧ w.cell? ⟨b, o + 2, none⟩ = some (.int .u8 h.col) ∧ w.cell? ⟨b, o + 3, none⟩ = some (.int .i64 h.n0) ∧
  w.cell? ⟨b, o + 4, none⟩ = some (.int .i64 h.n1) ∧ w.cell? ⟨b, o + 5, none⟩ = some (.int .i64 h.n2) ∧ w.cell? ⟨b, o + 6, none⟩ = some (.slice A n c)
theorem HC.below {w w' : World} {b o : Nat} {h : Hd} {A : Option Addr} {n c : Nat} (H : HC w b o h A n c) (hb : Below w.heap.size w w') : HC w' b o h A n c := by
  obtain ⟨h0, h1, h2, h3, h4, h5, h6⟩ := H
  exact ⟨cell_ext hb h0, cell_ext hb h1, cell_ext hb h2, cell_ext hb h3, cell_ext hb h4, cell_ext hb h5, cell_ext hb h6⟩
mutual
/-- the blocks of a list lie one behind the other -/
def RdL (w : World) : List Tree → Option Addr → Prop
  | [], _ => True
  | t :: ts, A => ∃ b o, A = some ⟨b, o, none⟩ ∧ RdT w t b o ∧ RdL w ts (some ⟨b, o + 7, none⟩)
def RdT (w : World) : Tree → Nat → Nat → Prop
  | .node h ps, b, o => ∃ A c, HC w b o h A ps.length c ∧ RdL w ps A
end
theorem RdL.get {w : World} : ∀ {ps : List Tree} {b o : Nat}, RdL w ps (some ⟨b, o, none⟩) → ∀ k (hk : k < ps.length), RdT w ps[k] b (o + k * 7)
  | t :: ts, b, o, h, 0, _ => by
    obtain ⟨b', o', he, h1, _⟩ := h
    cases he
    simpa using h1
  | t :: ts, b, o, h, k + 1, hk => by
    obtain ⟨b', o', he, _, h2⟩ := h
    cases he
    have := RdL.get h2 k (by simpa using hk)
    rw [show o + 7 + k * 7 = o + (k + 1) * 7 by omega] at this
    exact this
theorem RdT.lt {w : World} {t : Tree} {b o : Nat} (h : RdT w t b o) : b < w.heap.size := by
  cases t with
  | node hd ps =>
    rw [RdT] at h
    obtain ⟨A, c, h, _⟩ := h
    exact cell_lt h.1
theorem RdL.addr {w : World} {ps : List Tree} {A : Option Addr} (h : RdL w ps A) (h0 : 0 < ps.length) : ∃ b o, A = some ⟨b, o, none⟩ ∧ b < w.heap.size := by
  cases ps with
  | nil => simp at h0
  | cons t ts =>
    rw [RdL] at h
    obtain ⟨b, o, rfl, h1, _⟩ := h
    exact ⟨b, o, rfl, h1.lt⟩
theorem rd_below {w w' : World} (hb : Below w.heap.size w w') : (∀ t : Tree, ∀ b o, RdT w t b o → RdT w' t b o) ∧ (∀ ps : List Tree, ∀ A, RdL w ps A → RdL w' ps A) := by
  have key : ∀ t : Tree, ∀ b o, RdT w t b o → RdT w' t b o := by
    apply Tree.ind
    intro h ps ih b o hr
    rw [RdT] at hr ⊢
    obtain ⟨A, c, h1, h2⟩ := hr
    refine ⟨A, c, h1.below hb, ?_⟩
    clear h1
    induction ps generalizing A with
    | nil => trivial
    | cons t ts ihl =>
      rw [RdL] at h2 ⊢
      obtain ⟨b', o', he, h3, h4⟩ := h2
      exact ⟨b', o', he, ih t (List.mem_cons_self ..) _ _ h3, ihl (fun p hp => ih p (List.mem_cons_of_mem _ hp)) _ h4⟩
  refine ⟨key, fun ps => ?_⟩
  induction ps with
  | nil => intro A _; trivial
  | cons t ts ih =>
    intro A h
    rw [RdL] at h ⊢
    obtain ⟨b', o', he, h3, h4⟩ := h
    exact ⟨b', o', he, key t _ _ h3, ih _ h4⟩
theorem RdL.below {w w' : World} {ps : List Tree} {A : Option Addr} (h : RdL w ps A) (hb : Below w.heap.size w w') : RdL w' ps A := (rd_below hb).2 ps A h
theorem RdT.below {w w' : World} {t : Tree} {b o : Nat} (h : RdT w t b o) (hb : Below w.heap.size w w') : RdT w' t b o := (rd_below hb).1 t b o h
theorem RdT.open {w : World} {t : Tree} {b o : Nat} (h : RdT w t b o) : ∃ A c, HC w b o t.hd A t.ps.length c ∧ RdL w t.ps A := by
  cases t with
  | node hd ps => rw [RdT] at h; exact h
end Go.Proofs.YticjhkfidgkecaaGreatDoor
