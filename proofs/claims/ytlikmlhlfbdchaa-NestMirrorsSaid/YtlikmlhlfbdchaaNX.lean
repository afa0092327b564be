/- Merged: N1 N2 N3 N4 N5. -/
import Derived.Test.YtlikmlhlfbdchaaKX
import Derived.Deep.MidRow
import Derived.Laws.OwnMore
import Derived.StillTailTactics
import Derived.Test.YtlikmlhlfbdchaaBZ
/- nest: rows of elements in memory; boards, faults, parts and places, plain and in memory. -/
namespace Go.Proofs.Ytlikmlhlfbdchaa
open Go.RowKit Go.Shelf

theorem rangeAt_below {W W' : World} {b o : Nat} {cs : List Value} (h : W.rangeAt b o cs) (hlt : b < W.heap.size) (hb : Below W.heap.size W W') : W'.rangeAt b o cs :=
  fun j v hv => (hb.cell (p := ⟨b, o + j, none⟩) hlt).trans (h j v hv)
theorem grown_none {W W' : World} (h : Below W.heap.size W W') : W.grownBy W' none := ⟨h.os, h.tape, h.output, h.size, fun k hk _ => h.block k hk⟩
section
variable {P : Program} {ops : Array Oper} {rest : List Oper} {o : Oper} {a : Act} {w : World} {Q : Exit → Act → World → Prop}
theorem wpList_wanted (hw : Region.wanted o (yielded ops a.tmps) = true)
    (h : ∀ K : Act → World → Prop, (∀ a w, wpList P ops Q rest a w → K a w) → o.wp P a w K Q) : wpList P ops Q (o :: rest) a w :=
  wpList_step fun K hK => by rw [if_pos hw]; exact h K hK
end
theorem Blk.range {w : World} {g : Nat} {t : TypeId} {cs : Array Value} (h : Blk w g t cs) : w.rangeAt g 0 cs.toList := fun j v hv => by
  rw [Nat.zero_add, h.cell j]
  simpa using hv
section
variable {α : Type} (enc : α → List Value) (k : Nat)
/-- how elements are written: k cells each, each of one cell -/
structure Enc : Prop where
  pos : 0 < k
  len : ∀ x, (enc x).length = k
  one : ∀ x, ∀ v ∈ enc x, v.oneCell' = true
/-- the cells of a list -/
def flt (xs : List α) : List Value := xs.flatMap enc
end
section
variable {α : Type} {enc : α → List Value} {k : Nat}
theorem flt_nil : flt enc [] = [] := rfl
theorem flt_append (xs ys : List α) : flt enc (xs ++ ys) = flt enc xs ++ flt enc ys := List.flatMap_append
theorem flt_cons (x : α) (ys : List α) : flt enc (x :: ys) = enc x ++ flt enc ys := List.flatMap_cons
theorem flt_one (x : α) : flt enc [x] = enc x := by simp [flt]
theorem flt_len (E : Enc enc k) (xs : List α) : (flt enc xs).length = xs.length * k := by
  induction xs with
  | nil => simp [flt]
  | cons x xs ih => rw [flt_cons, List.length_append, ih, E.len, List.length_cons, Nat.add_mul]; omega
theorem flt_get (E : Enc enc k) : ∀ (xs : List α) (i j : Nat) (hi : i < xs.length), j < k → (flt enc xs)[i * k + j]? = (enc xs[i])[j]?
  | x :: xs, 0, j, _, hj => by
    rw [flt_cons, List.getElem?_append_left (by rw [E.len]; omega), Nat.zero_mul, Nat.zero_add]; rfl
  | x :: xs, i + 1, j, hi, hj => by
    rw [flt_cons, List.getElem?_append_right (by rw [E.len, Nat.add_mul]; omega), E.len, show (i + 1) * k + j - k = i * k + j from by rw [Nat.add_mul]; omega]
    exact flt_get E xs i j (by simpa using hi) hj
theorem flt_one' (E : Enc enc k) (xs : List α) : ∀ u ∈ flt enc xs, u.oneCell' = true := by
  intro u hu
  obtain ⟨x, _, hx⟩ := List.mem_flatMap.1 hu
  exact E.one x u hx
/-- a slice that lies in memory -/
def Rows (enc : α → List Value) (k : Nat) (W : World) (A : Option Addr) (xs : List α) : Prop :=
  xs = [] ∨ ∃ b off, A = some ⟨b, off, none⟩ ∧ b < W.heap.size ∧ ∀ (i : Nat) (hi : i < xs.length), W.rangeAt b (off + i * k) (enc xs[i])
theorem Rows.nil (W : World) (A : Option Addr) : Rows enc k W A [] := .inl rfl
theorem Rows.below {W W' : World} {A : Option Addr} {xs : List α} (h : Rows enc k W A xs) (hb : Below W.heap.size W W') : Rows enc k W' A xs := by
  rcases h with h | ⟨b, off, h1, h2, h3⟩
  · exact .inl h
  · exact .inr ⟨b, off, h1, Nat.lt_of_lt_of_le h2 hb.size, fun i hi => rangeAt_below (h3 i hi) h2 hb⟩
theorem Rows.open {W : World} {A : Option Addr} {xs : List α} (h : Rows enc k W A xs) (h0 : 0 < xs.length) :
    ∃ b off, A = some ⟨b, off, none⟩ ∧ b < W.heap.size ∧ ∀ (i : Nat) (hi : i < xs.length), W.rangeAt b (off + i * k) (enc xs[i]) := by
  rcases h with h | h
  · rw [h] at h0; simp at h0
  · exact h
/-- the rest behind the first -/
theorem Rows.tail {W : World} {b off : Nat} {x : α} {xs : List α} (h : Rows enc k W (some ⟨b, off, none⟩) (x :: xs)) : Rows enc k W (some ⟨b, off + k, none⟩) xs := by
  rcases h with h | ⟨b', off', h1, h2, h3⟩
  · cases h
  · cases h1
    refine .inr ⟨b, off + k, rfl, h2, fun i hi => ?_⟩
    have := h3 (i + 1) (by simp; omega)
    rw [show off + (i + 1) * k = off + k + i * k from by rw [Nat.add_mul]; omega] at this
    exact this
theorem rows_of_owns (E : Enc enc k) {W : World} {base : Nat} {t : TypeId} {v : Value} {xs : List α} (h : W.ownsRow base t k v xs.length (flt enc xs)) :
    ∃ A c, v = .slice A xs.length c ∧ Rows enc k W A xs ∧ xs.length ≤ c ∧ c ≤ maxLen := by
  have hh := h
  rcases h with ⟨_, ⟨rfl, h0⟩ | ⟨g, cap, cur, rfl, hg, hcell, hle, hcm, _⟩⟩
  · exact ⟨none, 0, by rw [h0], .inl (List.length_eq_zero_iff.1 h0), by omega, by unfold maxLen; omega⟩
  · refine ⟨some ⟨g, 0, none⟩, cap, rfl, .inr ⟨g, 0, rfl, ?_, fun i hi j u hj => ?_⟩, hle, hcm⟩
    · rcases Nat.lt_or_ge g W.heap.size with h | h
      · exact h
      · rw [Array.getElem?_eq_none h] at hcell; cases hcell
    · have hjk : j < k := by
        rcases Nat.lt_or_ge j k with e | e
        · exact e
        · rw [List.getElem?_eq_none (by rw [E.len]; exact e)] at hj; cases hj
      have hlt : i * k + j < xs.length * k := by
        have : (i + 1) * k ≤ xs.length * k := Nat.mul_le_mul_right k hi
        rw [Nat.add_mul] at this
        omega
      have c1 := hh.cellAt (i * k + j) hlt
      rw [flt_get E xs i j hi hjk] at c1
      rw [Nat.zero_add]
      exact c1.trans hj
theorem rows_cells (E : Enc enc k) {W : World} {b off : Nat} {xs : List α} (h : ∀ (i : Nat) (hi : i < xs.length), W.rangeAt b (off + i * k) (enc xs[i])) : ∀ j u, (flt enc xs)[j]? = some u → W.cell? ((⟨b, off, none⟩ : Addr).add j) = some u := by
  intro j u hj
  have hlt : j < xs.length * k := by
    rw [← flt_len E xs]
    rcases Nat.lt_or_ge j (flt enc xs).length with e | e
    · exact e
    · rw [List.getElem?_eq_none e] at hj; cases hj
  have hk := E.pos
  have h1 : j / k < xs.length := Nat.div_lt_of_lt_mul (by rw [Nat.mul_comm]; exact hlt)
  have h2 : j % k < k := Nat.mod_lt _ hk
  have h3 : j / k * k + j % k = j := by rw [Nat.mul_comm]; exact Nat.div_add_mod j k
  rw [← h3, flt_get E xs _ _ h1 h2] at hj
  have h4 := h _ h1 _ _ hj
  rw [Nat.add_assoc, h3] at h4
  rw [show (⟨b, off, none⟩ : Addr).add j = ⟨b, off + j, none⟩ from by cases j <;> simp [Addr.add]]
  exact h4
theorem new_cellsE (W : World) (t : TypeId) (cs : List Value) : ∀ j u, cs[j]? = some u → (W.alloc (.cells cs.toArray t)).cell? ((⟨W.heap.size, 0, none⟩ : Addr).add j) = some u := by
  intro j u hj
  rw [show (⟨W.heap.size, 0, none⟩ : Addr).add j = ⟨W.heap.size, j, none⟩ from by cases j <;> simp [Addr.add], (Blk.new W t cs.toArray).cell j]
  simpa using hj
theorem new_cells' {n : Nat} (W : World) (t : TypeId) (cs : List Value) (hn : W.heap.size = n) : ∀ j u, cs[j]? = some u → (W.alloc (.cells cs.toArray t)).cell? ((⟨n, 0, none⟩ : Addr).add j) = some u := by
  subst hn; exact new_cellsE W t cs
theorem own_keepE {w w' : World} {B : Nat} {t : TypeId} {v : Value} {n : Nat} {xs : List Value} (h : w.ownsRow B t k v n xs) (hb : Below w.heap.size w w') : w'.ownsRow B t k v n xs :=
  h.kept (grown_none hb) (by cases v.ownBlock <;> simp)
theorem Rows.at {W : World} {A : Option Addr} {xs : List α} {z : α} (h : Rows enc k W A xs) (h0 : 0 < xs.length) : ∃ b off, A = some ⟨b, off, none⟩ ∧ b < W.heap.size ∧ ∀ i, i < xs.length → W.rangeAt b (off + i * k) (enc (xs.getD i z)) := by
  obtain ⟨b, off, h1, h2, h3⟩ := h.open h0
  exact ⟨b, off, h1, h2, fun i hi => by rw [List.getD_eq_getElem?_getD, List.getElem?_eq_getElem hi]; exact h3 i hi⟩
end
theorem own_mono {w : World} {B C : Nat} {t : TypeId} {k n : Nat} {v : Value} {xs : List Value} (h : w.ownsRow B t k v n xs) (hb : C ≤ B) : w.ownsRow C t k v n xs := by
  obtain ⟨h0, h1⟩ := h
  rcases h1 with h1 | ⟨g, cap, cur, he, hg, h2⟩
  · exact ⟨h0, .inl h1⟩
  · exact ⟨h0, .inr ⟨g, cap, cur, he, Nat.le_trans hb hg, h2⟩⟩

namespace Ne
structure Rc where
  (x y w h : Int)
structure Bo where
  (w h g : Int)
  fs : List Rc
structure Pa where
  o : List Geo.XY
  t : Bool
structure Pc where
  (p x y : Int)
  t : Bool
  deriving DecidableEq
def zr : Rc := ⟨0, 0, 0, 0⟩
def za : Pa := ⟨[], false⟩
def zc : Pc := ⟨0, 0, 0, false⟩
abbrev rcL (f : Rc) : List Value := [.int .i64 f.x, .int .i64 f.y, .int .i64 f.w, .int .i64 f.h]
abbrev pcL (f : Pc) : List Value := [.int .i64 f.p, .int .i64 f.x, .int .i64 f.y, .bool f.t]
theorem encRc : Enc rcL 4 where
  pos := by decide
  len _ := rfl
  one x v hv := by simp [rcL] at hv; rcases hv with rfl | rfl | rfl | rfl <;> rfl
theorem encPc : Enc pcL 4 where
  pos := by decide
  len _ := rfl
  one x v hv := by simp [pcL] at hv; rcases hv with rfl | rfl | rfl | rfl <;> rfl
/-- a board as a value: its faults lie at A -/
abbrev boV (b : Bo) (A : Option Addr) (c : Nat) : Array Value := #[.int .i64 b.w, .int .i64 b.h, .int .i64 b.g, .slice A b.fs.length c]
/-- parts in memory -/
def PaM (W : World) (A : Option Addr) (l : List Pa) : Prop :=
  l = [] ∨ ∃ b off, A = some ⟨b, off, none⟩ ∧ b < W.heap.size ∧ ∀ i, i < l.length → ∃ A' c, W.cell? ⟨b, off + i * 2, none⟩ = some (.slice A' (l.getD i za).o.length c) ∧ W.cell? ⟨b, off + i * 2 + 1, none⟩ = some (.bool (l.getD i za).t) ∧ Pts W A' (l.getD i za).o ∧ (l.getD i za).o.length ≤ c
theorem PaM.below {W W' : World} {A : Option Addr} {l : List Pa} (h : PaM W A l) (hb : Below W.heap.size W W') : PaM W' A l := by
  rcases h with h | ⟨b, off, h1, h2, h3⟩
  · exact .inl h
  · refine .inr ⟨b, off, h1, Nat.lt_of_lt_of_le h2 hb.size, fun i hi => ?_⟩
    obtain ⟨A', c, c1, c2, c3, c4⟩ := h3 i hi
    exact ⟨A', c, (hb.cell (p := ⟨b, off + i * 2, none⟩) h2).trans c1, (hb.cell (p := ⟨b, off + i * 2 + 1, none⟩) h2).trans c2, c3.below hb, c4⟩
theorem PaM.open {W : World} {A : Option Addr} {l : List Pa} (h : PaM W A l) (h0 : 0 < l.length) :
    ∃ b off, A = some ⟨b, off, none⟩ ∧ b < W.heap.size ∧ ∀ i, i < l.length → ∃ A' c, W.cell? ⟨b, off + i * 2, none⟩ = some (.slice A' (l.getD i za).o.length c) ∧ W.cell? ⟨b, off + i * 2 + 1, none⟩ = some (.bool (l.getD i za).t) ∧ Pts W A' (l.getD i za).o ∧ (l.getD i za).o.length ≤ c := by
  rcases h with h | h
  · rw [h] at h0; simp at h0
  · exact h
/-- a piece of a length within a whole -/
def pc (x n m : Int) : Bool := decide (0 ≤ x ∧ x ≤ m) && decide (1 ≤ n ∧ n ≤ m - x)
def vF (b : Bo) (f : Rc) : Bool := pc f.x f.w b.w && pc f.y f.h b.h
def vFs (b : Bo) : Nat → Bool
  | 0 => true
  | k + 1 => vFs b k && vF b (b.fs.getD k zr)
/-- a valid board -/
def vBo (b : Bo) : Bool := ((decide (1 ≤ b.w ∧ b.w ≤ 60000) && decide (1 ≤ b.h ∧ b.h ≤ 60000)) && decide (0 ≤ b.g ∧ b.g ≤ 2000)) && (decide (b.fs.length ≤ 10) && vFs b b.fs.length)
noncomputable def vPs (l : List Pa) : Nat → Bool
  | 0 => true
  | k + 1 => vPs l k && validB (l.getD k za).o
/-- valid parts -/
noncomputable def vPa (l : List Pa) : Bool := decide (l.length ≤ 60) && vPs l l.length
noncomputable def vAll (b : Bo) (l : List Pa) : Bool := vBo b && vPa l
/-- an index of a part -/
def ix (l : List Pa) (i : Int) : Bool := decide (0 ≤ i ∧ i ≤ (l.length : Int) - 1)
theorem vFs_mono {b : Bo} {j k : Nat} (h : j ≤ k) (hk : vFs b k = true) : vFs b j = true := by
  induction k with
  | zero => obtain rfl : j = 0 := by omega
            rfl
  | succ k ih =>
    by_cases e : j = k + 1
    · subst e; exact hk
    · unfold vFs at hk; simp only [Bool.and_eq_true] at hk; exact ih (by omega) hk.1
theorem vFs_at {b : Bo} {j k : Nat} (hk : vFs b k = true) (h : j < k) : vF b (b.fs.getD j zr) = true := by
  have := vFs_mono (show j + 1 ≤ k by omega) hk
  unfold vFs at this; simp only [Bool.and_eq_true] at this; exact this.2
theorem vPs_mono {l : List Pa} {j k : Nat} (h : j ≤ k) (hk : vPs l k = true) : vPs l j = true := by
  induction k with
  | zero => obtain rfl : j = 0 := by omega
            rfl
  | succ k ih =>
    by_cases e : j = k + 1
    · subst e; exact hk
    · unfold vPs at hk; simp only [Bool.and_eq_true] at hk; exact ih (by omega) hk.1
theorem vPs_at {l : List Pa} {j k : Nat} (hk : vPs l k = true) (h : j < k) : validB (l.getD j za).o = true := by
  have := vPs_mono (show j + 1 ≤ k by omega) hk
  unfold vPs at this; simp only [Bool.and_eq_true] at this; exact this.2
end Ne
end Go.Proofs.Ytlikmlhlfbdchaa
/- nest: valid boards and parts, indexes, of the program. -/
namespace Go.Proofs.Ytlikmlhlfbdchaa
open Go.RowKit Go.Shelf

set_option maxHeartbeats 400000 in
theorem within_e (n a b : Int) (w : World) :
    Calls Try.prog 49 #[.int .i64 n, .int .i64 a, .int .i64 b] w fun e w' => e = .returned (.bool (decide (a ≤ n ∧ n ≤ b))) ∧ w' = w := by
  by_cases h1 : a ≤ n
  · have HV : Hid (decide (a ≤ n ∧ n ≤ b) = decide (n ≤ b)) := Lib.hid (by simp [h1])
    rw [HV.out]
    go_enter Try.func49, Try.ntmps49
    go_wp2
    go_ret
    exact ⟨rfl, rfl⟩
  · have HV : Hid (decide (a ≤ n ∧ n ≤ b) = false) := Lib.hid (by simp [h1])
    rw [HV.out]
    go_enter Try.func49, Try.ntmps49
    go_wp2
    go_ret
    exact ⟨rfl, rfl⟩

set_option maxHeartbeats 1000000 in
theorem ispiece_b (x n m : Int) (hm : m ≤ 60000) (r : Bool) (hr : Ne.pc x n m = r) (w : World) :
    Calls Try.prog 102 #[.int .i64 x, .int .i64 n, .int .i64 m] w fun e w' => e = .returned (.bool r) ∧ w' = w := by
  unfold Ne.pc at hr
  by_cases h1 : 0 ≤ x ∧ x ≤ m
  · have HW : Hid (decide (0 ≤ x ∧ x ≤ m) = true) := Lib.hid (by simp [h1])
    have HV : Hid (decide (1 ≤ n ∧ n ≤ m - x) = r) := Lib.hid (by rw [← hr, HW.out]; simp)
    obtain ⟨h2, h3⟩ := h1
    clear hr
    go_enter Try.func102, Try.ntmps102
    go_wp2_with fail
    refine (within_e _ _ _ _).mono ?_
    rintro e w1 ⟨rfl, rfl⟩
    rw [HW.out]
    go_wp2_with fail
    refine (within_e _ _ _ _).mono ?_
    rintro e w1 ⟨rfl, rfl⟩
    rw [HV.out]
    go_wp2
    go_ret
    exact ⟨rfl, rfl⟩
  · have HW : Hid (decide (0 ≤ x ∧ x ≤ m) = false) := Lib.hid (by simp only [decide_eq_false_iff_not]; exact h1)
    have HV : Hid (r = false) := Lib.hid (by rw [← hr, HW.out]; rfl)
    clear hr h1
    go_enter Try.func102, Try.ntmps102
    go_wp2_with fail
    refine (within_e _ _ _ _).mono ?_
    rintro e w1 ⟨rfl, rfl⟩
    rw [HW.out]
    go_wp2
    go_ret
    exact ⟨by rw [HV.out]; rfl, rfl⟩

section
variable {ops : Array Oper} {rest : List Oper} {o : Oper} {a : Act} {w : World} {Q : Exit → Act → World → Prop} {b off : Nat}
theorem infoRc : (Try.prog.info? 44).map (·.size) = some 4 := by kernel_rfl
theorem infoPc : (Try.prog.info? 40).map (·.size) = some 4 := by kernel_rfl
/-- a fault, a place is read whole, wherever it lies -/
theorem ldm_rc {s : Ne.Rc} (hr : w.rangeAt b off (Ne.rcL s)) (hw : Region.wanted o (yielded ops a.tmps) = true) (x : Operand) (ho : o.op = .load 44 x)
    (hx : a.eval x = .pointer (some ⟨b, off, none⟩)) (h : wpList Try.prog ops Q rest (a.put o.dst (.agg (Ne.rcL s).toArray)) w) : wpList Try.prog ops Q (o :: rest) a w :=
  wpList_wanted hw fun _ hK => wp_load_mid 44 x ho b off hx (Ne.rcL s) _ hr Try.underlying44 rfl infoRc (hK _ _ h)
theorem ldm_pc {s : Ne.Pc} (hr : w.rangeAt b off (Ne.pcL s)) (hw : Region.wanted o (yielded ops a.tmps) = true) (x : Operand) (ho : o.op = .load 40 x)
    (hx : a.eval x = .pointer (some ⟨b, off, none⟩)) (h : wpList Try.prog ops Q rest (a.put o.dst (.agg (Ne.pcL s).toArray)) w) : wpList Try.prog ops Q (o :: rest) a w :=
  wpList_wanted hw fun _ hK => wp_load_mid 40 x ho b off hx (Ne.pcL s) _ hr Try.underlying40 rfl infoPc (hK _ _ h)
end

set_option maxRecDepth 100000 in
set_option maxHeartbeats 4000000 in
theorem vboard_b (b : Ne.Bo) (A : Option Addr) (c n : Nat) (hn : b.fs.length = n) (r : Bool) (hr : Ne.vBo b = r) (w : World) (hF : Rows Ne.rcL 4 w A b.fs) :
    Calls Try.prog 66 #[.agg #[.int .i64 b.w, .int .i64 b.h, .int .i64 b.g, .slice A n c]] w fun e w' => e = .returned (.bool r) ∧ Below w.heap.size w w' := by
  have hB := (Below.refl w.heap.size w).alloc (Nat.le_refl _) (.cells #[.int .i64 b.w, .int .i64 b.h, .int .i64 b.g, .slice A n c] 33)
  have bB := Blk.new w 33 #[.int .i64 b.w, .int .i64 b.h, .int .i64 b.g, .slice A n c]
  have q0 := bB.cell 0
  have q1 := bB.cell 1
  have q2 := bB.cell 2
  have q3 := bB.cell 3
  simp only [List.getElem?_toArray, List.getElem?_cons_zero, List.getElem?_cons_succ] at q0 q1 q2 q3
  unfold Ne.vBo at hr
  obtain ⟨x0, h0⟩ : ∃ x, decide (1 ≤ b.w ∧ b.w ≤ 60000) = x := ⟨_, rfl⟩
  obtain ⟨x1, h1⟩ : ∃ x, decide (1 ≤ b.h ∧ b.h ≤ 60000) = x := ⟨_, rfl⟩
  obtain ⟨x2, h2⟩ : ∃ x, decide (0 ≤ b.g ∧ b.g ≤ 2000) = x := ⟨_, rfl⟩
  rw [h0, h1, h2, hn] at hr
  have H0 := Lib.hid h0
  have H1 := Lib.hid h1
  have H2 := Lib.hid h2
  have HR := Lib.hid hr.symm
  have HF := Lib.hid hF
  have HN := Lib.hid hn
  clear h0 h1 h2 hr hF hn
  cases x0
  · go_enter Try.func66, Try.ntmps66
    go_wp2_with fail
    refine (within_e _ _ _ _).mono ?_
    rintro e w1 ⟨rfl, rfl⟩
    rw [H0.out]
    go_wp2
    go_ret
    exact ⟨by rw [HR.out]; rfl, hB⟩
  cases x1
  · go_enter Try.func66, Try.ntmps66
    go_wp2_with fail
    refine (within_e _ _ _ _).mono ?_
    rintro e w1 ⟨rfl, rfl⟩
    rw [H0.out]
    go_wp2_with fail
    refine (within_e _ _ _ _).mono ?_
    rintro e w1 ⟨rfl, rfl⟩
    rw [H1.out]
    go_wp2
    go_ret
    exact ⟨by rw [HR.out]; rfl, hB⟩
  cases x2
  · go_enter Try.func66, Try.ntmps66
    go_wp2_with fail
    refine (within_e _ _ _ _).mono ?_
    rintro e w1 ⟨rfl, rfl⟩
    rw [H0.out]
    go_wp2_with fail
    refine (within_e _ _ _ _).mono ?_
    rintro e w1 ⟨rfl, rfl⟩
    rw [H1.out]
    go_wp2_with fail
    refine (within_e _ _ _ _).mono ?_
    rintro e w1 ⟨rfl, rfl⟩
    rw [H2.out]
    go_wp2
    go_ret
    exact ⟨by rw [HR.out]; rfl, hB⟩
  by_cases hn : n ≤ 10
  · have d1 : decide ((10 : Int) < (n : Int)) = false := by simp; omega
    have HV : Hid (r = Ne.vFs b n) := Lib.hid (by rw [HR.out, decide_eq_true hn]; simp)
    have HW : Hid (b.w ≤ 60000 ∧ b.h ≤ 60000) := Lib.hid ⟨by have := of_decide_eq_true H0.out; exact this.2, by have := of_decide_eq_true H1.out; exact this.2⟩
    have HNO : Hid (∀ k, k < n → Ne.vFs b (k + 1) = false → r = false) := Lib.hid (fun k hk h => by
      rw [HV.out]
      cases e : Ne.vFs b n with
      | false => rfl
      | true => rw [Ne.vFs_mono (show k + 1 ≤ n by omega) e] at h; cases h)
    clear HR
    go_enter Try.func66, Try.ntmps66
    go_wp2_with fail
    refine (within_e _ _ _ _).mono ?_
    rintro e w1 ⟨rfl, rfl⟩
    rw [H0.out]
    go_wp2_with fail
    refine (within_e _ _ _ _).mono ?_
    rintro e w1 ⟨rfl, rfl⟩
    rw [H1.out]
    go_wp2_with fail
    refine (within_e _ _ _ _).mono ?_
    rintro e w1 ⟨rfl, rfl⟩
    rw [H2.out]
    go_wp2
    generalize hw1 : w.alloc (.cells #[.int .i64 b.w, .int .i64 b.h, .int .i64 b.g, .slice A n c] 33) = w1 at *
    clear H0 H1 H2 q0 q1 q2 q3 hw1
    go_loopw [28] (fun i wr => ∃ k : Nat, k ≤ n ∧ i = .int .i64 k ∧ Ne.vFs b k = true ∧ Below w1.heap.size w1 wr) (fun i _ => n - (intOf i).toNat)
    case atStart => exact ⟨0, Nat.zero_le _, rfl, rfl, Below.refl _ _⟩
    case round =>
      obtain ⟨k, hk, rfl, hv, hb⟩ := hrel
      have HVK := Lib.hid hv
      clear hv
      by_cases hlt : k < n
      · obtain ⟨g, off, rfl, hg, hc⟩ := (HF.out.below hB).at (z := Ne.zr) (by rw [HN.out]; omega)
        have hck := rangeAt_below (hc k (by rw [HN.out]; omega)) hg hb
        have HS : Hid (Ne.vFs b (k + 1) = (Ne.vF b (b.fs.getD k Ne.zr))) := Lib.hid (by rw [Ne.vFs, HVK.out]; rfl)
        obtain ⟨f, hf⟩ : ∃ f, b.fs.getD k Ne.zr = f := ⟨_, rfl⟩
        rw [hf] at hck HS
        obtain ⟨y0, g0⟩ : ∃ x, Ne.pc f.x f.w b.w = x := ⟨_, rfl⟩
        obtain ⟨y1, g1⟩ : ∃ x, Ne.pc f.y f.h b.h = x := ⟨_, rfl⟩
        have HT : Hid (Ne.vFs b (k + 1) = (y0 && y1)) := Lib.hid (by rw [HS.out, ← g0, ← g1]; rfl)
        have G0 := Lib.hid g0
        have G1 := Lib.hid g1
        clear hc hf HS g0 g1
        have s0 := (bB.below hb bB.lt).alloc (.cells (Ne.rcL f).toArray 44)
        have bN := Blk.new wr 44 (Ne.rcL f).toArray
        have p0 := s0.cell 0
        have p1 := s0.cell 1
        have f0 := bN.cell 0
        have f1 := bN.cell 1
        have f2 := bN.cell 2
        have f3 := bN.cell 3
        simp only [List.getElem?_toArray, List.getElem?_cons_zero, List.getElem?_cons_succ] at p0 p1 f0 f1 f2 f3
        have hb2 := hb.alloc hb.size (.cells (Ne.rcL f).toArray 44)
        clear s0 bN
        go_wp2_with (refine ldm_rc hck rfl _ rfl rfl ?_)
        refine (ispiece_b _ _ _ HW.out.1 _ G0.out _).mono ?_
        rintro e w2 ⟨rfl, rfl⟩
        cases y0
        · go_wp2
          go_ret
          exact ⟨by rw [HNO.out k hlt HT.out]; rfl, hB.trans (hb2.mono hB.size)⟩
        · go_wp2_with fail
          refine (ispiece_b _ _ _ HW.out.2 _ G1.out _).mono ?_
          rintro e w2 ⟨rfl, rfl⟩
          cases y1
          · go_wp2
            go_ret
            exact ⟨by rw [HNO.out k hlt HT.out]; rfl, hB.trans (hb2.mono hB.size)⟩
          · go_wp2
            go_roundw
            case rel => exact ⟨k + 1, by omega, by go_num, by rw [HT.out]; rfl, hb2⟩
            case measure => simp [intOf]; omega
      · obtain rfl : k = n := by omega
        go_wp2
        go_ret
        exact ⟨by rw [HV.out, HVK.out]; rfl, hB.trans (hb.mono hB.size)⟩
  · have HV : Hid (r = false) := Lib.hid (by rw [HR.out, decide_eq_false hn]; simp)
    have d1 : decide ((10 : Int) < (n : Int)) = true := by simp; omega
    go_enter Try.func66, Try.ntmps66
    go_wp2_with fail
    refine (within_e _ _ _ _).mono ?_
    rintro e w1 ⟨rfl, rfl⟩
    rw [H0.out]
    go_wp2_with fail
    refine (within_e _ _ _ _).mono ?_
    rintro e w1 ⟨rfl, rfl⟩
    rw [H1.out]
    go_wp2_with fail
    refine (within_e _ _ _ _).mono ?_
    rintro e w1 ⟨rfl, rfl⟩
    rw [H2.out]
    go_wp2
    go_ret
    exact ⟨by rw [HV.out]; rfl, hB⟩

set_option maxRecDepth 100000 in
set_option maxHeartbeats 4000000 in
theorem vparts_b (A : Option Addr) (l : List Ne.Pa) (c n : Nat) (hn : l.length = n) (r : Bool) (hr : Ne.vPa l = r) (w : World) (hP : Ne.PaM w A l) :
    Calls Try.prog 56 #[.slice A n c] w fun e w' => e = .returned (.bool r) ∧ Below w.heap.size w w' := by
  unfold Ne.vPa at hr
  rw [hn] at hr
  have HN := Lib.hid hn
  have HP := Lib.hid hP
  clear hn hP
  by_cases h6 : n ≤ 60
  · have HV : Hid (r = Ne.vPs l n) := Lib.hid (by rw [← hr, decide_eq_true h6]; simp)
    have HNO : Hid (∀ k, k < n → Ne.vPs l (k + 1) = false → r = false) := Lib.hid (fun k hk h => by
      rw [HV.out]
      cases e : Ne.vPs l n with
      | false => rfl
      | true => rw [Ne.vPs_mono (show k + 1 ≤ n by omega) e] at h; cases h)
    have d1 : decide ((60 : Int) < (n : Int)) = false := by simp; omega
    clear hr
    go_enter Try.func56, Try.ntmps56
    go_wp2
    go_loopw [10] (fun i wr => ∃ k : Nat, k ≤ n ∧ i = .int .i64 k ∧ Ne.vPs l k = true ∧ Below w.heap.size w wr) (fun i _ => n - (intOf i).toNat)
    case atStart => exact ⟨0, Nat.zero_le _, rfl, rfl, Below.refl _ _⟩
    case round =>
      obtain ⟨k, hk, rfl, hv, hb⟩ := hrel
      have HVK := Lib.hid hv
      clear hv
      by_cases hlt : k < n
      · obtain ⟨g, off, rfl, hg, hc⟩ := (HP.out.below hb).open (by rw [HN.out]; omega)
        obtain ⟨A', c', c1, c2, c3, c4⟩ := hc k (by rw [HN.out]; omega)
        have HS : Hid (Ne.vPs l (k + 1) = validB (l.getD k Ne.za).o) := Lib.hid (by rw [Ne.vPs, HVK.out]; rfl)
        obtain ⟨q, hq⟩ : ∃ q, l.getD k Ne.za = q := ⟨_, rfl⟩
        rw [hq] at c1 c2 c3 HS
        obtain ⟨y, hy⟩ : ∃ y, validB q.o = y := ⟨_, rfl⟩
        have HY := Lib.hid hy
        rw [hy] at HS
        obtain ⟨m, hm⟩ : ∃ m, q.o.length = m := ⟨_, rfl⟩
        have HM := Lib.hid hm
        rw [hm] at c1
        have HC3 := Lib.hid c3
        clear hc hq hy hm c3 c4
        have bN := Blk.new wr 68 #[.slice A' m c', .bool q.t]
        have f0 := bN.cell 0
        simp only [List.getElem?_toArray, List.getElem?_cons_zero] at f0
        have hb2 := hb.alloc hb.size (.cells #[.slice A' m c', .bool q.t] 68)
        have hba := (Below.refl wr.heap.size wr).alloc (Nat.le_refl _) (.cells #[.slice A' m c', .bool q.t] 68)
        clear bN
        go_wp2_with fail
        have hv := dvalid_b A' q.o c' _ (HC3.out.below hba) y HY.out
        rw [HM.out] at hv
        refine hv.mono ?_
        clear hv
        rintro e w2 ⟨rfl, hb3⟩
        have hb4 := hb2.trans (hb3.mono hb2.size)
        cases y
        · go_wp2
          go_ret
          exact ⟨by rw [HNO.out k hlt HS.out]; rfl, hb4⟩
        · go_wp2
          go_roundw
          case rel => exact ⟨k + 1, by omega, by go_num, by rw [HS.out], hb4⟩
          case measure => simp [intOf]; omega
      · obtain rfl : k = n := by omega
        go_wp2
        go_ret
        exact ⟨by rw [HV.out, HVK.out]; rfl, hb⟩
  · have HV : Hid (r = false) := Lib.hid (by rw [← hr, decide_eq_false h6]; simp)
    have d1 : decide ((60 : Int) < (n : Int)) = true := by simp; omega
    clear hr
    go_enter Try.func56, Try.ntmps56
    go_wp2
    go_ret
    exact ⟨by rw [HV.out]; rfl, Below.refl _ _⟩
end Go.Proofs.Ytlikmlhlfbdchaa
/- nest: Valid, isIndex, checkPart, around, boxes, gridOf, of the program. -/
namespace Go.Proofs.Ytlikmlhlfbdchaa
open Go.RowKit Go.Shelf

theorem results_cell1 {P : Program} {fn : Func} {p : Tmp} {ty : TypeId} (h : fn.results = #[.cell p ty]) (tmps : Array Value) (w : World) (g : Nat) (t : TypeId) (cs : Array Value) (fr : Nat × Nat) (d : TypeDesc)
    (hp : tmps.getD p undef = .pointer (some ⟨g, 0, none⟩)) (hg : w.heap[g]? = some (.cells cs t fr))
    (hu : P.underlying ty = some d) (hd : (match d with | .struct _ | .array _ _ => true | _ => false) = true) (hi : (P.info? ty).map (·.size) = some cs.size) :
    (results fn tmps).run P w = .ok (.agg cs) w := by
  have hp' : tmps[p]?.getD undef = .pointer (some ⟨g, 0, none⟩) := by simpa using hp
  simp [results, h, hp', asAddr, run_loadVar_row w g t ty cs fr d hg hu hd hi]

abbrev boW (b : Ne.Bo) (A : Option Addr) (n c : Nat) : Array Value := #[.int .i64 b.w, .int .i64 b.h, .int .i64 b.g, .slice A n c]
section
variable {ops : Array Oper} {rest : List Oper} {o : Oper} {a : Act} {w : World} {Q : Exit → Act → World → Prop} {b off : Nat}
theorem infoBo : (Try.prog.info? 33).map (·.size) = some 4 := by kernel_rfl
theorem ldm_bo {s : Ne.Bo} {A : Option Addr} {n c : Nat} (hr : w.rangeAt b off (boW s A n c).toList) (hw : Region.wanted o (yielded ops a.tmps) = true) (x : Operand) (ho : o.op = .load 33 x)
    (hx : a.eval x = .pointer (some ⟨b, off, none⟩)) (h : wpList Try.prog ops Q rest (a.put o.dst (.agg (boW s A n c))) w) : wpList Try.prog ops Q (o :: rest) a w :=
  wpList_wanted hw fun _ hK => wp_load_mid 33 x ho b off hx (boW s A n c).toList _ hr Try.underlying33 rfl infoBo (hK _ _ h)
end

set_option maxHeartbeats 1000000 in
theorem valid_b (b : Ne.Bo) (A B : Option Addr) (c n c' m : Nat) (l : List Ne.Pa) (hn : b.fs.length = n) (hm : l.length = m) (r : Bool) (hr : Ne.vAll b l = r) (w : World) (hF : Rows Ne.rcL 4 w A b.fs) (hP : Ne.PaM w B l) :
    Calls Try.prog 26 #[.agg (boW b A n c), .slice B m c'] w fun e w' => e = .returned (.bool r) ∧ Below w.heap.size w w' := by
  have hB := (Below.refl w.heap.size w).alloc (Nat.le_refl _) (.cells (boW b A n c) 33)
  have bB := Blk.new w 33 (boW b A n c)
  have hrg := bB.range
  obtain ⟨x, hx⟩ : ∃ x, Ne.vBo b = x := ⟨_, rfl⟩
  obtain ⟨y, hy⟩ : ∃ y, Ne.vPa l = y := ⟨_, rfl⟩
  have HR : Hid (r = (x && y)) := Lib.hid (by rw [← hr, ← hx, ← hy]; rfl)
  have HX := Lib.hid (fun W h => vboard_b b A c n hn x hx W h)
  have HY := Lib.hid (fun W h => vparts_b B l c' m hm y hy W h)
  have HF := Lib.hid (hF.below hB)
  have HP := Lib.hid (hP.below hB)
  clear hr hx hy hF hP hn hm bB
  go_enter Try.func26, Try.ntmps26
  go_wp2_with (refine ldm_bo hrg rfl _ rfl rfl ?_)
  refine (HX.out _ HF.out).mono ?_
  rintro e w1 ⟨rfl, b1⟩
  have hB1 := hB.trans (b1.mono hB.size)
  cases x with
  | false =>
    go_wp2
    go_ret
    exact ⟨by rw [HR.out]; rfl, hB1⟩
  | true =>
    go_wp2_with fail
    refine (HY.out _ (HP.out.below b1)).mono ?_
    rintro e w2 ⟨rfl, b2⟩
    go_wp2
    go_ret
    exact ⟨by rw [HR.out]; simp, hB1.trans (b2.mono hB1.size)⟩

set_option maxHeartbeats 400000 in
theorem isindex_b (B : Option Addr) (c' m : Nat) (hm : m ≤ 1000000) (i : Int) (r : Bool) (hr : decide (0 ≤ i ∧ i ≤ (m : Int) - 1) = r) (w : World) :
    Calls Try.prog 93 #[.slice B m c', .int .i64 i] w fun e w' => e = .returned (.bool r) ∧ w' = w := by
  have HR := Lib.hid hr
  clear hr
  go_enter Try.func93, Try.ntmps93
  go_wp2_with fail
  refine (within_e _ _ _ _).mono ?_
  rintro e w1 ⟨rfl, rfl⟩
  rw [HR.out]
  go_wp2
  go_ret
  exact ⟨rfl, rfl⟩
namespace Ne
/-- what is wrong with a board, parts and an index -/
noncomputable def cpE (b : Bo) (l : List Pa) (i : Int) : Int := if vAll b l = true then (if ix l i = true then 0 else 2) else 70
theorem vAll_len {b : Bo} {l : List Pa} (h : vAll b l = true) : l.length ≤ 60 := by
  unfold vAll vPa at h
  simp only [Bool.and_eq_true, decide_eq_true_eq] at h
  exact h.2.1
end Ne

set_option maxHeartbeats 1000000 in
theorem checkpart_b (b : Ne.Bo) (A B : Option Addr) (c n c' m : Nat) (l : List Ne.Pa) (hn : b.fs.length = n) (hm : l.length = m) (i : Int) (r : Int) (hr : Ne.cpE b l i = r) (w : World) (hF : Rows Ne.rcL 4 w A b.fs) (hP : Ne.PaM w B l) :
    Calls Try.prog 71 #[.agg (boW b A n c), .slice B m c', .int .i64 i] w fun e w' => e = .returned (.int .i64 r) ∧ Below w.heap.size w w' := by
  have hB := (Below.refl w.heap.size w).alloc (Nat.le_refl _) (.cells (boW b A n c) 33)
  have bB := Blk.new w 33 (boW b A n c)
  have hrg := bB.range
  obtain ⟨x, hx⟩ : ∃ x, Ne.vAll b l = x := ⟨_, rfl⟩
  unfold Ne.cpE at hr
  rw [hx] at hr
  have HX := Lib.hid (fun W h h' => valid_b b A B c n c' m l hn hm x hx W h h')
  have HF := Lib.hid (hF.below hB)
  have HP := Lib.hid (hP.below hB)
  have HR := Lib.hid hr.symm
  have HL := Lib.hid (fun h : x = true => by have := Ne.vAll_len (hx.trans h); rwa [hm] at this)
  have HM := Lib.hid hm
  clear hx hF hP hn hm bB hr
  go_enter Try.func71, Try.ntmps71
  go_wp2_with (refine ldm_bo hrg rfl _ rfl rfl ?_)
  refine (HX.out _ HF.out HP.out).mono ?_
  rintro e w1 ⟨rfl, b1⟩
  have hB1 := hB.trans (b1.mono hB.size)
  cases x with
  | false =>
    go_wp2
    go_ret
    exact ⟨by rw [HR.out]; rfl, hB1⟩
  | true =>
    obtain ⟨y, hy⟩ : ∃ y, Ne.ix l i = y := ⟨_, rfl⟩
    have HY : Hid (decide (0 ≤ i ∧ i ≤ (m : Int) - 1) = y) := Lib.hid (by rw [← hy, ← HM.out]; rfl)
    have HV : Hid (r = if y = true then 0 else 2) := Lib.hid (by rw [HR.out, if_pos rfl, hy])
    clear hy
    go_wp2_with fail
    refine (isindex_b B c' m (by have := HL.out (by first | rfl | trivial); omega) i y HY.out _).mono ?_
    rintro e w2 ⟨rfl, rfl⟩
    cases y with
    | false =>
      go_wp2
      go_ret
      exact ⟨by rw [HV.out]; rfl, hB1⟩
    | true =>
      go_wp2
      go_ret
      exact ⟨by rw [HV.out]; rfl, hB1⟩
namespace Ne
/-- the least rectangle around places -/
def ard (l : List Geo.XY) : Rc := if l.length = 0 then zr else ⟨lo1 (1, 0) l, lo1 (0, 1) l, hi1 (1, 0) l - lo1 (1, 0) l, hi1 (0, 1) l - lo1 (0, 1) l⟩
def bxs (whole len g : Int) : Int := (whole + g).tdiv (len + g)
structure Gr where
  (fx fy sx sy : Int)
  (ac up : Int)
abbrev grL (g : Gr) : List Value := [.int .i64 g.fx, .int .i64 g.fy, .int .i64 g.sx, .int .i64 g.sy, .int .i64 g.ac, .int .i64 g.up]
def grd (b : Bo) (q : Pa) : Gr := ⟨-(ard q.o).x, -(ard q.o).y, (ard q.o).w + b.g, (ard q.o).h + b.g, bxs b.w (ard q.o).w b.g, bxs b.h (ard q.o).h b.g⟩
theorem b10 : Bd (1, 0) := by unfold Bd; decide
theorem b01 : Bd (0, 1) := by unfold Bd; decide
end Ne
theorem span_r (A : Option Addr) (l : List Geo.XY) (c n : Nat) (hn : l.length = n) (d : Geo.XY) (dx dy : Int) (hdx : d.1 = dx) (hdy : d.2 = dy) (h2 : 2 ≤ n) (hl : n ≤ 100000) (hcap : n ≤ c) (hd : Ne.Bd d) (hbd : Ne.AllBd l) (x y : Int) (hx : Ne.lo1 d l = x) (hy : Ne.hi1 d l = y) (w : World) (hr : Pts w A l) :
    Calls Try.prog 97 #[.slice A n c, .agg #[.int .i64 dx, .int .i64 dy]] w fun e w' => e = .returned (.tuple #[.int .i64 x, .int .i64 y]) ∧ Below w.heap.size w w' := by
  subst hn hdx hdy; exact span_b A l c d h2 hl hcap hd hbd x y hx hy w hr

theorem infoGr : (Try.prog.info? 95).map (·.size) = some 6 := by kernel_rfl
set_option maxRecDepth 100000 in
set_option maxHeartbeats 1000000 in
theorem around_b (A : Option Addr) (l : List Geo.XY) (c n : Nat) (hn : l.length = n) (h2 : n = 0 ∨ 2 ≤ n) (hl : n ≤ 100000) (hcap : n ≤ c) (hbd : Ne.AllBd l) (r : Ne.Rc) (hr : Ne.ard l = r) (w : World) (hP : Pts w A l) :
    Calls Try.prog 62 #[.slice A n c] w fun e w' => e = .returned (.agg (Ne.rcL r).toArray) ∧ Below w.heap.size w w' := by
  have hB := (Below.refl w.heap.size w).alloc (Nat.le_refl _) (.cells (Ne.rcL Ne.zr).toArray 44)
  have bR := Blk.new w 44 (Ne.rcL Ne.zr).toArray
  rcases h2 with rfl | h2
  · have hr0 : r = Ne.zr := by rw [← hr]; unfold Ne.ard; rw [if_pos hn]
    subst hr0
    clear hr
    have f0 := bR.frozen 0
    have f1 := bR.frozen 1
    have f2 := bR.frozen 2
    have f3 := bR.frozen 3
    have c0 := bR.cell 0
    have c1 := bR.cell 1
    have c2 := bR.cell 2
    have c3 := bR.cell 3
    simp only [List.getElem?_toArray, List.getElem?_cons_zero, List.getElem?_cons_succ] at c0 c1 c2 c3
    go_enter Try.func62, Try.ntmps62
    go_wp2
    exact bodyPost_ret (v := .agg (Ne.rcL Ne.zr).toArray) (results_cell1 Try.results62 _ _ w.heap.size 44 (Ne.rcL Ne.zr).toArray (0, 0) _ rfl bR Try.underlying44 rfl infoRc) rfl ⟨rfl, hB⟩
  · obtain ⟨a1, ha1⟩ : ∃ a, Ne.lo1 (1, 0) l = a := ⟨_, rfl⟩
    obtain ⟨a2, ha2⟩ : ∃ a, Ne.hi1 (1, 0) l = a := ⟨_, rfl⟩
    obtain ⟨b1, hb1⟩ : ∃ a, Ne.lo1 (0, 1) l = a := ⟨_, rfl⟩
    obtain ⟨b2, hb2⟩ : ∃ a, Ne.hi1 (0, 1) l = a := ⟨_, rfl⟩
    have g1 := Ne.lo1_bd Ne.b10 hbd (by omega)
    have g2 := Ne.hi1_bd Ne.b10 hbd (by omega)
    have g3 := Ne.lo1_bd Ne.b01 hbd (by omega)
    have g4 := Ne.hi1_bd Ne.b01 hbd (by omega)
    rw [ha1] at g1; rw [ha2] at g2; rw [hb1] at g3; rw [hb2] at g4
    have hr0 : r = ⟨a1, b1, a2 - a1, b2 - b1⟩ := by rw [← hr]; unfold Ne.ard; rw [if_neg (by omega), ha1, ha2, hb1, hb2]
    subst hr0
    have HS1 := Lib.hid (fun W (h : Pts W A l) => span_r A l c n hn (1, 0) 1 0 rfl rfl h2 hl hcap Ne.b10 hbd a1 a2 ha1 ha2 W h)
    have HS2 := Lib.hid (fun W (h : Pts W A l) => span_r A l c n hn (0, 1) 0 1 rfl rfl h2 hl hcap Ne.b01 hbd b1 b2 hb1 hb2 W h)
    have HP := Lib.hid (hP.below hB)
    have hn0 : ¬ n = 0 := by omega
    have hn1 : ((n : Int) == 0) = false := by simp; omega
    clear hr ha1 ha2 hb1 hb2 hbd hP hn
    go_enter Try.func62, Try.ntmps62
    go_wp2_with fail
    refine (HS1.out _ HP.out).mono ?_
    rintro e w1 ⟨rfl, k1⟩
    have hB1 := hB.trans (k1.mono hB.size)
    go_wp2_with fail
    refine (HS2.out _ (HP.out.below k1)).mono ?_
    rintro e w2 ⟨rfl, k2⟩
    have hB2 := hB1.trans (k2.mono hB1.size)
    have bR1 := (bR.below k1 bR.lt).below k2 (by have := k1.size; have := bR.lt; omega)
    have f0 := bR1.frozen 0
    have f1 := bR1.frozen 1
    have f2 := bR1.frozen 2
    have f3 := bR1.frozen 3
    have c0 := bR1.cell 0
    have c1 := bR1.cell 1
    have c2 := bR1.cell 2
    have c3 := bR1.cell 3
    simp only [List.getElem?_toArray, List.getElem?_cons_zero, List.getElem?_cons_succ] at c0 c1 c2 c3
    have bR2 := (((bR1.set_ 0 (.int .i64 a1)).set_ 1 (.int .i64 b1)).set_ 2 (.int .i64 (a2 - a1))).set_ 3 (.int .i64 (b2 - b1))
    have hB3 := (((hB2.setCell (p := ⟨w.heap.size, 0, none⟩) (Nat.le_refl _) (.int .i64 a1)).setCell (p := ⟨w.heap.size, 1, none⟩) (Nat.le_refl _) (.int .i64 b1)).setCell (p := ⟨w.heap.size, 2, none⟩) (Nat.le_refl _) (.int .i64 (a2 - a1))).setCell (p := ⟨w.heap.size, 3, none⟩) (Nat.le_refl _) (.int .i64 (b2 - b1))
    go_wp2
    exact bodyPost_ret (v := .agg (Ne.rcL ⟨a1, b1, a2 - a1, b2 - b1⟩).toArray) (results_cell1 Try.results62 _ _ w.heap.size 44 (Ne.rcL ⟨a1, b1, a2 - a1, b2 - b1⟩).toArray (0, 0) _ rfl bR2 Try.underlying44 rfl infoRc) rfl ⟨rfl, hB3⟩

set_option maxHeartbeats 400000 in
theorem boxes_b (W L g : Int) (h1 : 0 ≤ W) (h2 : W ≤ 60000) (h3 : 1 ≤ L) (h4 : L ≤ 60000) (h5 : 0 ≤ g) (h6 : g ≤ 2000) (r : Int) (hr : Ne.bxs W L g = r) (w : World) :
    Calls Try.prog 104 #[.int .i64 W, .int .i64 L, .int .i64 g] w fun e w' => e = .returned (.int .i64 r) ∧ w' = w := by
  have HR := Lib.hid hr
  unfold Ne.bxs at HR
  have e1 : ¬ L + g = 0 := by omega
  have hq1 : (W + g).tdiv (L + g) ≤ 62000 := Int.le_trans (Int.tdiv_le_self _ (by omega)) (by omega)
  have hq2 : 0 ≤ (W + g).tdiv (L + g) := Int.tdiv_nonneg (by omega) (by omega)
  clear hr
  go_enter Try.func104, Try.ntmps104
  go_wp2
  go_ret
  exact ⟨by rw [← HR.out]; rfl, rfl⟩

namespace Ne
theorem allBd_in {l : List Geo.XY} (h : AllIn l) : AllBd l := fun k hk => by have := h k hk; unfold Geo.In at this; unfold Bd; omega
theorem lo_min (d : Geo.XY) {l : List Geo.XY} {k : Nat} (hk : k < l.length) : lo1 d l ≤ dt d (Geo.X l k) := lo_le d l _ _ (by omega)
theorem hi_max (d : Geo.XY) {l : List Geo.XY} {k : Nat} (hk : k < l.length) : dt d (Geo.X l k) ≤ hi1 d l := le_hi d l _ _ (by omega)
theorem lo_is (d : Geo.XY) {l : List Geo.XY} (h0 : 0 < l.length) : ∃ k, k < l.length ∧ lo1 d l = dt d (Geo.X l k) := by
  obtain ⟨j, hj, e⟩ := lo_at d l (l.length - 1); exact ⟨j, by omega, e⟩
theorem hi_is (d : Geo.XY) {l : List Geo.XY} (h0 : 0 < l.length) : ∃ k, k < l.length ∧ hi1 d l = dt d (Geo.X l k) := by
  obtain ⟨j, hj, e⟩ := hi_at d l (l.length - 1); exact ⟨j, by omega, e⟩
theorem dt10 (p : Geo.XY) : dt (1, 0) p = p.1 := by unfold dt; simp
theorem dt01 (p : Geo.XY) : dt (0, 1) p = p.2 := by unfold dt; simp
/-- an outline is one wide and one high at least -/
theorem ard_pos {l : List Geo.XY} (h : Valid l) : lo1 (1, 0) l < hi1 (1, 0) l ∧ lo1 (0, 1) l < hi1 (0, 1) l := by
  have h3 := h.1
  have hc := h.2.2.2 0 (by omega) 2 (by omega) (by omega) (by rw [Nat.mod_eq_of_lt (by omega)]; omega)
  rw [Geo.At_lt _ (by omega), Geo.At_lt _ (by omega), Geo.At_lt _ (by omega)] at hc
  have a0 := lo_min (1, 0) (show 0 < l.length by omega)
  have a1 := lo_min (1, 0) (show 1 < l.length by omega)
  have a2 := lo_min (1, 0) (show 2 < l.length by omega)
  have b0 := hi_max (1, 0) (show 0 < l.length by omega)
  have b1 := hi_max (1, 0) (show 1 < l.length by omega)
  have b2 := hi_max (1, 0) (show 2 < l.length by omega)
  have c0 := lo_min (0, 1) (show 0 < l.length by omega)
  have c1 := lo_min (0, 1) (show 1 < l.length by omega)
  have c2 := lo_min (0, 1) (show 2 < l.length by omega)
  have d0 := hi_max (0, 1) (show 0 < l.length by omega)
  have d1 := hi_max (0, 1) (show 1 < l.length by omega)
  have d2 := hi_max (0, 1) (show 2 < l.length by omega)
  rw [dt10] at a0 a1 a2 b0 b1 b2
  rw [dt01] at c0 c1 c2 d0 d1 d2
  unfold Geo.Cross at hc
  constructor
  · rcases Int.lt_or_le (lo1 (1, 0) l) (hi1 (1, 0) l) with h | h
    · exact h
    · exfalso
      rw [show (Geo.X l (0 + 1)).1 - (Geo.X l 0).1 = 0 by simp only [Nat.zero_add]; omega, show (Geo.X l 2).1 - (Geo.X l 0).1 = 0 by omega] at hc
      simp at hc
  · rcases Int.lt_or_le (lo1 (0, 1) l) (hi1 (0, 1) l) with h | h
    · exact h
    · exfalso
      rw [show (Geo.X l (0 + 1)).2 - (Geo.X l 0).2 = 0 by simp only [Nat.zero_add]; omega, show (Geo.X l 2).2 - (Geo.X l 0).2 = 0 by omega] at hc
      simp at hc
theorem ard_bd {l : List Geo.XY} (h : Valid l) : (-5000 ≤ (ard l).x ∧ (ard l).x ≤ 5000) ∧ (-5000 ≤ (ard l).y ∧ (ard l).y ≤ 5000) ∧ (1 ≤ (ard l).w ∧ (ard l).w ≤ 10000) ∧ (1 ≤ (ard l).h ∧ (ard l).h ≤ 10000) := by
  have h3 := h.1
  obtain ⟨p1, p2⟩ := ard_pos h
  obtain ⟨i1, k1, e1⟩ := lo_is (1, 0) (show 0 < l.length by omega)
  obtain ⟨i2, k2, e2⟩ := hi_is (1, 0) (show 0 < l.length by omega)
  obtain ⟨i3, k3, e3⟩ := lo_is (0, 1) (show 0 < l.length by omega)
  obtain ⟨i4, k4, e4⟩ := hi_is (0, 1) (show 0 < l.length by omega)
  have v1 := h.2.2.1 i1 k1
  have v2 := h.2.2.1 i2 k2
  have v3 := h.2.2.1 i3 k3
  have v4 := h.2.2.1 i4 k4
  rw [dt10] at e1 e2
  rw [dt01] at e3 e4
  unfold Geo.In at v1 v2 v3 v4
  unfold ard
  rw [if_neg (by omega)]
  simp only
  omega
end Ne

set_option maxRecDepth 100000 in
set_option maxHeartbeats 4000000 in
theorem gridof_b (b : Ne.Bo) (A B : Option Addr) (c n c' m : Nat) (q : Ne.Pa) (hm : q.o.length = m) (hc' : m ≤ c') (hv : Valid q.o) (w1 : 0 ≤ b.w) (w2 : b.w ≤ 60000) (h1 : 0 ≤ b.h) (h2 : b.h ≤ 60000) (g1 : 0 ≤ b.g) (g2 : b.g ≤ 2000)
    (r : Ne.Gr) (hr : Ne.grd b q = r) (w : World) (hP : Pts w B q.o) :
    Calls Try.prog 72 #[.agg (boW b A n c), .agg #[.slice B m c', .bool q.t]] w fun e w' => e = .returned (.agg (Ne.grL r).toArray) ∧ Below w.heap.size w w' := by
  have bB := ((Blk.new w 33 (boW b A n c)).alloc (.cells #[.slice B m c', .bool q.t] 68)).alloc (.cells #[.int .i64 0, .int .i64 0, .int .i64 0, .int .i64 0, .int .i64 0, .int .i64 0] 95)
  have bQ := (Blk.new (w.alloc (.cells (boW b A n c) 33)) 68 #[.slice B m c', .bool q.t]).alloc (.cells #[.int .i64 0, .int .i64 0, .int .i64 0, .int .i64 0, .int .i64 0, .int .i64 0] 95)
  have bG := Blk.new ((w.alloc (.cells (boW b A n c) 33)).alloc (.cells #[.slice B m c', .bool q.t] 68)) 95 #[.int .i64 0, .int .i64 0, .int .i64 0, .int .i64 0, .int .i64 0, .int .i64 0]
  have hB := (((Below.refl w.heap.size w).alloc (Nat.le_refl _) (.cells (boW b A n c) 33)).alloc (by simp) (.cells #[.slice B m c', .bool q.t] 68)).alloc (by simp; omega) (.cells #[.int .i64 0, .int .i64 0, .int .i64 0, .int .i64 0, .int .i64 0, .int .i64 0] 95)
  simp only [World.size_alloc] at bQ bG
  obtain ⟨x, hx⟩ : ∃ x, Ne.ard q.o = x := ⟨_, rfl⟩
  have hbd := Ne.ard_bd hv
  rw [hx] at hbd
  obtain ⟨⟨x1, x2⟩, ⟨y1, y2⟩, ⟨k1, k2⟩, l1, l2⟩ := hbd
  obtain ⟨r1, hr1⟩ : ∃ r, Ne.bxs b.w x.w b.g = r := ⟨_, rfl⟩
  obtain ⟨r2, hr2⟩ : ∃ r, Ne.bxs b.h x.h b.g = r := ⟨_, rfl⟩
  have HR : Hid (r = ⟨-x.x, -x.y, x.w + b.g, x.h + b.g, r1, r2⟩) := Lib.hid (by rw [← hr, ← hr1, ← hr2, ← hx]; rfl)
  have h3 := hv.1
  have h64 := hv.2.1
  have HA := Lib.hid (fun W (h : Pts W B q.o) => around_b B q.o c' m hm (.inr (by omega)) (by omega) hc' (Ne.allBd_in hv.allin) x hx W h)
  have HP := Lib.hid (hP.below hB)
  have R1 := Lib.hid hr1
  have R2 := Lib.hid hr2
  have q0 := bQ.cell 0
  simp only [List.getElem?_toArray, List.getElem?_cons_zero] at q0
  clear hr hx hr1 hr2 hP hm hv
  go_enter Try.func72, Try.ntmps72
  go_wp2_with fail
  refine (HA.out _ HP.out).mono ?_
  rintro e w3 ⟨rfl, b1⟩
  have bB1 := bB.below b1 bB.lt
  have bG1 := bG.below b1 bG.lt
  have hB1 := hB.trans (b1.mono hB.size)
  clear bB bG bQ q0 hB HP HA b1
  go_wp2
  have bB2 := bB1.alloc (.cells (Ne.rcL x).toArray 44)
  have bG2 := bG1.alloc (.cells (Ne.rcL x).toArray 44)
  have bX := Blk.new w3 44 (Ne.rcL x).toArray
  have hB2 := hB1.alloc hB1.size (.cells (Ne.rcL x).toArray 44)
  generalize w3.alloc (.cells (Ne.rcL x).toArray 44) = w4 at *
  refine wp_region_tail 33 (by kernel_rfl) (by kernel_rfl) fun W hW => ?_
  have p0 := bB2.drew.cell 0
  have p1 := bB2.drew.cell 1
  have p2 := bB2.drew.cell 2
  have x0 := bX.drew.cell 0
  have x3 := bX.drew.cell 1
  have x4 := bX.drew.cell 2
  have x5 := bX.drew.cell 3
  have bG3 := bG2.drew
  have hB3 := hB2.drew
  rw [← hW] at p0 p1 p2 x0 x3 x4 x5 bG3 hB3
  clear hW bB2 bG2 bX bB1 bG1 hB1 hB2
  simp only [List.getElem?_toArray, List.getElem?_cons_zero, List.getElem?_cons_succ] at p0 p1 p2 x0 x3 x4 x5
  simp only [List.take_succ_cons, List.take_zero, List.drop_succ_cons, List.drop_zero]
  have E1 : Hid (IntKind.i64.wrap (-x.x) = -x.x) := Lib.hid (IntWalk.i64_in _ (by omega))
  have E2 : Hid (IntKind.i64.wrap (-x.y) = -x.y) := Lib.hid (IntWalk.i64_in _ (by omega))
  iterate 24 still_step
  still_call (boxes_b _ _ _ w1 w2 k1 (by omega) g1 g2 _ R1.out _)
  iterate 6 still_step
  still_call (boxes_b _ _ _ h1 h2 l1 (by omega) g1 g2 _ R2.out _)
  iterate 1 still_step
  refine wpStill_nil ?_
  have f0 := bG3.frozen 0
  have f1 := bG3.frozen 1
  have f2 := bG3.frozen 2
  have f3 := bG3.frozen 3
  have f4 := bG3.frozen 4
  have f5 := bG3.frozen 5
  have c0 := bG3.cell 0
  have c1 := bG3.cell 1
  have c2 := bG3.cell 2
  have c3 := bG3.cell 3
  have c4 := bG3.cell 4
  have c5 := bG3.cell 5
  simp only [List.getElem?_toArray, List.getElem?_cons_zero, List.getElem?_cons_succ] at c0 c1 c2 c3 c4 c5
  clear p0 p1 p2 x0 x3 x4 x5
  have E3 : Hid (IntKind.i64.wrap (x.w + b.g) = x.w + b.g) := Lib.hid (IntWalk.i64_in _ (by omega))
  have E4 : Hid (IntKind.i64.wrap (x.h + b.g) = x.h + b.g) := Lib.hid (IntWalk.i64_in _ (by omega))
  rw [E1.out, E2.out, E3.out, E4.out]
  obtain ⟨u1, hu1⟩ : ∃ u, -x.x = u := ⟨_, rfl⟩
  obtain ⟨u2, hu2⟩ : ∃ u, -x.y = u := ⟨_, rfl⟩
  obtain ⟨u3, hu3⟩ : ∃ u, x.w + b.g = u := ⟨_, rfl⟩
  obtain ⟨u4, hu4⟩ : ∃ u, x.h + b.g = u := ⟨_, rfl⟩
  have HV : Hid (r = ⟨u1, u2, u3, u4, r1, r2⟩) := Lib.hid (by rw [HR.out, hu1, hu2, hu3, hu4])
  rw [hu1, hu2, hu3, hu4]
  have bG4 := (((((bG3.set_ 0 (.int .i64 u1)).set_ 1 (.int .i64 u2)).set_ 2 (.int .i64 u3)).set_ 3 (.int .i64 u4)).set_ 4 (.int .i64 r1)).set_ 5 (.int .i64 r2)
  have hl : w.heap.size ≤ w.heap.size + 1 + 1 := by omega
  have hB4 := (((((hB3.setCell (p := ⟨w.heap.size + 1 + 1, 0, none⟩) hl (.int .i64 u1)).setCell (p := ⟨w.heap.size + 1 + 1, 1, none⟩) hl (.int .i64 u2)).setCell (p := ⟨w.heap.size + 1 + 1, 2, none⟩) hl (.int .i64 u3)).setCell (p := ⟨w.heap.size + 1 + 1, 3, none⟩) hl (.int .i64 u4)).setCell (p := ⟨w.heap.size + 1 + 1, 4, none⟩) hl (.int .i64 r1)).setCell (p := ⟨w.heap.size + 1 + 1, 5, none⟩) hl (.int .i64 r2)
  clear hu1 hu2 hu3 hu4 E1 E2 E3 E4 hB3 bG3 hl
  go_wp2
  rw [HV.out]
  exact bodyPost_ret (v := .agg (Ne.grL ⟨u1, u2, u3, u4, r1, r2⟩).toArray) (results_cell1 Try.results72 _ _ (w.heap.size + 1 + 1) 95 (Ne.grL ⟨u1, u2, u3, u4, r1, r2⟩).toArray (0, 0) _ rfl bG4 Try.underlying95 rfl infoGr) rfl ⟨rfl, hB4⟩
end Go.Proofs.Ytlikmlhlfbdchaa
/- nest: where a part lies, of the program. -/
namespace Go.Proofs.Ytlikmlhlfbdchaa
open Go.RowKit Go.Shelf
namespace Ne
/-- the first k corners moved -/
def mvK (L : List Geo.XY) (d : Geo.XY) (k : Nat) : List Geo.XY := (List.range L.length).map fun m => if m < k then addXY d (Geo.X L m) else Geo.X L m
theorem mvK_len (L : List Geo.XY) (d : Geo.XY) (k : Nat) : (mvK L d k).length = L.length := by simp [mvK]
theorem mvK_X {L : List Geo.XY} {d : Geo.XY} {k m : Nat} (h : m < L.length) : Geo.X (mvK L d k) m = if m < k then addXY d (Geo.X L m) else Geo.X L m := by
  have h1 : (mvK L d k)[m]? = some (if m < k then addXY d (Geo.X L m) else Geo.X L m) := by simp [mvK, h]
  unfold Geo.X at h1 ⊢
  rw [h1]; rfl
theorem mvK_zero (L : List Geo.XY) (d : Geo.XY) : mvK L d 0 = L := Geo.list_ext (mvK_len _ _ _) fun i hi => by
  rw [mvK_len] at hi; rw [mvK_X hi, if_neg (by omega)]
theorem mvK_all (L : List Geo.XY) (d : Geo.XY) : mvK L d L.length = L.map (addXY d) := Geo.list_ext (by rw [mvK_len, List.length_map]) fun i hi => by
  rw [mvK_len] at hi; rw [mvK_X hi, if_pos hi, Geo.X_map _ hi]
theorem mvK_succ {L : List Geo.XY} {d : Geo.XY} {k : Nat} (hk : k < L.length) : mvK L d (k + 1) = (mvK L d k).set k (addXY d (Geo.X L k)) := by
  apply Geo.list_ext (by rw [mvK_len, List.length_set, mvK_len])
  intro i hi
  rw [mvK_len] at hi
  rw [mvK_X hi]
  by_cases e : i = k
  · subst e
    rw [if_pos (by omega)]
    unfold Geo.X
    rw [List.getElem?_set_self (by rw [mvK_len]; exact hi)]; rfl
  · have := mvK_X (d := d) (k := k) hi
    unfold Geo.X at this ⊢
    rw [List.getElem?_set_ne (fun h => e h.symm), this]
    by_cases h : i < k
    · rw [if_pos h, if_pos (by omega)]
    · rw [if_neg h, if_neg (by omega)]
noncomputable def frm (o : List Geo.XY) (t : Bool) : List Geo.XY := if t = true then Geo.canon (o.map negXY) else Geo.canon o
/-- the corners of a part at a place -/
noncomputable def lyg (l : List Pa) (p : Pc) : List Geo.XY := (frm (l.getD p.p.toNat za).o p.t).map (addXY (p.x, p.y))
theorem frm_len (o : List Geo.XY) (t : Bool) : (frm o t).length = o.length := by unfold frm; split <;> rw [Geo.canon_length]; rw [List.length_map]
theorem frm_valid {o : List Geo.XY} (h : Valid o) (t : Bool) : Valid (frm o t) := by
  unfold frm; split
  · exact h.neg.canon
  · exact h.canon
end Ne

set_option maxRecDepth 100000 in
set_option maxHeartbeats 4000000 in
theorem lying_b (B : Option Addr) (l : List Ne.Pa) (c' m i : Nat) (hm : l.length = m) (hi : i < m) (x y : Int) (t : Bool) (hx : -120000 ≤ x ∧ x ≤ 120000) (hy : -120000 ≤ y ∧ y ≤ 120000) (hv : validB (l.getD i Ne.za).o = true)
    (n : Nat) (hn : (l.getD i Ne.za).o.length = n) (L : List Geo.XY) (hL : Ne.lyg l ⟨i, x, y, t⟩ = L) (w : World) (hP : Ne.PaM w B l) :
    Calls Try.prog 58 #[.slice B m c', .agg #[.int .i64 i, .int .i64 x, .int .i64 y, .bool t]] w fun e w' => ∃ v, e = .returned v ∧ w'.ownsRow w.heap.size 76 2 v n (flat L) ∧ Below w.heap.size w w' := by
  obtain ⟨b, off, rfl, hb, hc⟩ := hP.open (by omega)
  obtain ⟨A1, c1, d1, d2, d3, d4⟩ := hc i (by omega)
  obtain ⟨o, ho⟩ : ∃ o, (l.getD i Ne.za).o = o := ⟨_, rfl⟩
  rw [ho] at d1 d3 d4 hv hn
  obtain ⟨F, hF⟩ : ∃ F, Ne.frm o t = F := ⟨_, rfl⟩
  have hL' : L = F.map (addXY (x, y)) := by rw [← hL, ← hF, ← ho]; unfold Ne.lyg; simp
  have hFl : F.length = n := by rw [← hF, Ne.frm_len, hn]
  have hval := valid_of hv
  have hFv : Valid F := by rw [← hF]; exact Ne.frm_valid hval t
  have h3 := hFv.1
  have h64 := hFv.2.1
  have hB := (Below.refl w.heap.size w).alloc (Nat.le_refl _) (.cells #[.int .i64 i, .int .i64 x, .int .i64 y, .bool t] 40)
  have bP := Blk.new w 40 #[.int .i64 i, .int .i64 x, .int .i64 y, .bool t]
  have q0 := bP.cell 0
  have q1 := bP.cell 1
  have q2 := bP.cell 2
  have q3 := bP.cell 3
  simp only [List.getElem?_toArray, List.getElem?_cons_zero, List.getElem?_cons_succ] at q0 q1 q2 q3
  have e1 : (w.alloc (.cells #[.int .i64 i, .int .i64 x, .int .i64 y, .bool t] 40)).cell? ⟨b, off + i * 2, none⟩ = some (.slice A1 n c1) := by rw [← hn]; exact (hB.cell (p := ⟨b, off + i * 2, none⟩) hb).trans d1
  have HC : Hid (∀ W, Below w.heap.size w W → Calls Try.prog (if t = true then 95 else 94) #[.slice A1 n c1] W fun e w' => ∃ v, e = .returned (.tuple #[v, .int .i64 0]) ∧ w'.ownsRow W.heap.size 76 2 v n (flat F) ∧ Below W.heap.size W w') := Lib.hid (fun W hW => by
    cases t with
    | true =>
      have H := dturned_any A1 o c1 W (d3.below hW)
      rw [hn] at H
      rw [if_pos rfl]
      refine H.mono ?_
      rintro e w' ⟨v, h1, h2, h3'⟩
      have e0 : lstV o (o.map negXY) = (F, 0) := by unfold lstV; rw [if_pos hv, ← hF]; unfold Ne.frm; rw [if_pos rfl]
      rw [e0] at h1 h2
      dsimp only at h1 h2
      rw [hFl] at h2
      exact ⟨v, h1, h2, h3'⟩
    | false =>
      have H := dcanonical A1 o c1 W (d3.below hW) d4
      rw [hn] at H
      rw [if_neg (by simp)]
      refine H.mono ?_
      rintro e w' ⟨v, h1, h2, h3'⟩
      have e0 : canonV o = (F, 0) := by rw [canonV_ok hv, ← hF]; unfold Ne.frm; rw [if_neg (by simp)]
      rw [e0] at h1 h2
      dsimp only at h1 h2
      rw [hFl] at h2
      exact ⟨v, h1, h2, h3'⟩)
  have HIN := Lib.hid hFv.allin
  have HL := Lib.hid hL'
  have HFL := Lib.hid hFl
  have hlm : (i : Int) < (m : Int) := by omega
  rw [hFl] at h3 h64
  clear hL hF hL' hval hFv hv ho d1 d2 d3 d4 hc hP hFl hn hm
  cases t with
  | true =>
    go_enter Try.func58, Try.ntmps58
    go_wp2_with fail
    refine (HC.out _ hB).mono ?_
    rintro e w1 ⟨v, rfl, hO, hb1⟩
    obtain ⟨g, cp, rfl⟩ : ∃ g cp, v = .slice (some ⟨g, 0, none⟩) n cp := by
      rcases hO with ⟨_, ⟨_, h0⟩ | ⟨g, cap, cur, h, _⟩⟩
      · omega
      · exact ⟨g, cap, h⟩
    have bP1 := bP.below hb1 bP.lt
    have hgB := (hO.lt g rfl).1
    generalize hw0 : w.alloc (.cells #[.int .i64 i, .int .i64 x, .int .i64 y, .bool true] 40) = w0 at *
    have hs0 : w0.heap.size = w.heap.size + 1 := by rw [← hw0]; simp
    clear q0 q1 q2 q3 e1 HC hw0
    go_wp2
    go_loopw [24] (fun i wr => ∃ k : Nat, k ≤ n ∧ i = .int .i64 k ∧ wr.ownsRow w0.heap.size 76 2 (.slice (some ⟨g, 0, none⟩) n cp) n (flat (Ne.mvK F (x, y) k)) ∧ Below w0.heap.size w0 wr) (fun i _ => n - (intOf i).toNat)
    case atStart => exact ⟨0, Nat.zero_le _, rfl, by rw [Ne.mvK_zero]; exact hO, hb1⟩
    case round =>
      clear hO hb1 bP1
      obtain ⟨k, hk, rfl, hO, hb1⟩ := hrel
      have bP1 := bP.below hb1 bP.lt
      by_cases hlt : k < n
      · have q1 := bP1.cell 1
        have q2 := bP1.cell 2
        simp only [List.getElem?_toArray, List.getElem?_cons_zero, List.getElem?_cons_succ] at q1 q2
        have hkF : k < F.length := by rw [HFL.out]; exact hlt
        obtain ⟨f1, f2⟩ := flat_get (Ne.mvK F (x, y) k) k (by rw [Ne.mvK_len]; exact hkF)
        rw [Ne.mvK_X hkF, if_neg (Nat.lt_irrefl k)] at f1 f2
        have c1 := hO.cellAt (k * 2) (by omega)
        have c2 := hO.cellAt (k * 2 + 1) (by omega)
        rw [f1] at c1
        rw [f2] at c2
        have r1 := hO.frozenAt (k * 2)
        have r2 := hO.frozenAt (k * 2 + 1)
        have HS := Lib.hid (Ne.mvK_succ (d := (x, y)) hkF)
        obtain ⟨p1, p2, p3, p4⟩ := HIN.out k hkF
        have hne : ¬ g = w.heap.size := by omega
        have hO2 := (hO.stored (k * 2) (.int .i64 ((Geo.X F k).1 + x))).1.drew
        have hgb2 := (hb1.setCell (p := ⟨g, k * 2, none⟩) hgB (.int .i64 ((Geo.X F k).1 + x))).drew
        have HO2 := Lib.hid hO2
        have HB2 := Lib.hid hgb2
        have hd1 : ¬ k * 2 = k * 2 + 1 := by omega
        clear f1 f2 hO hO2 hgb2 hb1
        go_wp2
        go_region
        have c3 := HO2.out.cellAt (k * 2 + 1) (by omega)
        rw [List.getElem?_set_ne (by omega), (flat_get (Ne.mvK F (x, y) k) k (by rw [Ne.mvK_len]; exact hkF)).2, Ne.mvK_X hkF, if_neg (Nat.lt_irrefl k)] at c3
        have r3 := HO2.out.frozenAt (k * 2 + 1)
        have q3 := (bP.below HB2.out bP.lt).cell 2
        simp only [List.getElem?_toArray, List.getElem?_cons_zero, List.getElem?_cons_succ] at q3
        clear q1 q2 c1 c2 r1 r2 bP1
        generalize (wr.setCell ⟨g, k * 2, none⟩ (.int .i64 ((Geo.X F k).1 + x))).drew = W2 at *
        have hO4 := (HO2.out.stored (k * 2 + 1) (.int .i64 ((Geo.X F k).2 + y))).1.drew
        have hgb4 := (HB2.out.setCell (p := ⟨g, k * 2 + 1, none⟩) hgB (.int .i64 ((Geo.X F k).2 + y))).drew
        have HO4 := Lib.hid hO4
        have HB4 := Lib.hid hgb4
        clear hO4 hgb4
        go_wp2
        go_region
        have hfs := flat_set (Ne.mvK F (x, y) k) k (addXY (x, y) (Geo.X F k))
        have HO5 : Hid (((W2.setCell ⟨g, k * 2 + 1, none⟩ (.int .i64 ((Geo.X F k).2 + y))).drew).ownsRow w0.heap.size 76 2 (.slice (some ⟨g, 0, none⟩) n cp) n (flat (Ne.mvK F (x, y) (k + 1)))) := Lib.hid (by rw [HS.out, ← hfs]; exact HO4.out)
        clear c3 r3 q3 hfs
        generalize (W2.setCell ⟨g, k * 2 + 1, none⟩ (.int .i64 ((Geo.X F k).2 + y))).drew = W3 at *
        go_wp2
        go_roundw
        case rel => exact ⟨k + 1, by omega, by go_num, HO5.out, HB4.out⟩
        case measure => simp [intOf]; omega
      · obtain rfl : k = n := by omega
        have HX : Hid (Ne.mvK F (x, y) k = L) := Lib.hid (by rw [HL.out, ← HFL.out, Ne.mvK_all])
        rw [HX.out] at hO
        go_wp2
        go_ret
        exact ⟨_, rfl, hO.mono hB.size, hB.trans (hb1.mono hB.size)⟩
  | false =>
    go_enter Try.func58, Try.ntmps58
    go_wp2_with fail
    refine (HC.out _ hB).mono ?_
    rintro e w1 ⟨v, rfl, hO, hb1⟩
    obtain ⟨g, cp, rfl⟩ : ∃ g cp, v = .slice (some ⟨g, 0, none⟩) n cp := by
      rcases hO with ⟨_, ⟨_, h0⟩ | ⟨g, cap, cur, h, _⟩⟩
      · omega
      · exact ⟨g, cap, h⟩
    have bP1 := bP.below hb1 bP.lt
    have hgB := (hO.lt g rfl).1
    generalize hw0 : w.alloc (.cells #[.int .i64 i, .int .i64 x, .int .i64 y, .bool false] 40) = w0 at *
    have hs0 : w0.heap.size = w.heap.size + 1 := by rw [← hw0]; simp
    clear q0 q1 q2 q3 e1 HC hw0
    go_wp2
    go_loopw [24] (fun i wr => ∃ k : Nat, k ≤ n ∧ i = .int .i64 k ∧ wr.ownsRow w0.heap.size 76 2 (.slice (some ⟨g, 0, none⟩) n cp) n (flat (Ne.mvK F (x, y) k)) ∧ Below w0.heap.size w0 wr) (fun i _ => n - (intOf i).toNat)
    case atStart => exact ⟨0, Nat.zero_le _, rfl, by rw [Ne.mvK_zero]; exact hO, hb1⟩
    case round =>
      clear hO hb1 bP1
      obtain ⟨k, hk, rfl, hO, hb1⟩ := hrel
      have bP1 := bP.below hb1 bP.lt
      by_cases hlt : k < n
      · have q1 := bP1.cell 1
        have q2 := bP1.cell 2
        simp only [List.getElem?_toArray, List.getElem?_cons_zero, List.getElem?_cons_succ] at q1 q2
        have hkF : k < F.length := by rw [HFL.out]; exact hlt
        obtain ⟨f1, f2⟩ := flat_get (Ne.mvK F (x, y) k) k (by rw [Ne.mvK_len]; exact hkF)
        rw [Ne.mvK_X hkF, if_neg (Nat.lt_irrefl k)] at f1 f2
        have c1 := hO.cellAt (k * 2) (by omega)
        have c2 := hO.cellAt (k * 2 + 1) (by omega)
        rw [f1] at c1
        rw [f2] at c2
        have r1 := hO.frozenAt (k * 2)
        have r2 := hO.frozenAt (k * 2 + 1)
        have HS := Lib.hid (Ne.mvK_succ (d := (x, y)) hkF)
        obtain ⟨p1, p2, p3, p4⟩ := HIN.out k hkF
        have hne : ¬ g = w.heap.size := by omega
        have hO2 := (hO.stored (k * 2) (.int .i64 ((Geo.X F k).1 + x))).1.drew
        have hgb2 := (hb1.setCell (p := ⟨g, k * 2, none⟩) hgB (.int .i64 ((Geo.X F k).1 + x))).drew
        have HO2 := Lib.hid hO2
        have HB2 := Lib.hid hgb2
        have hd1 : ¬ k * 2 = k * 2 + 1 := by omega
        clear f1 f2 hO hO2 hgb2 hb1
        go_wp2
        go_region
        have c3 := HO2.out.cellAt (k * 2 + 1) (by omega)
        rw [List.getElem?_set_ne (by omega), (flat_get (Ne.mvK F (x, y) k) k (by rw [Ne.mvK_len]; exact hkF)).2, Ne.mvK_X hkF, if_neg (Nat.lt_irrefl k)] at c3
        have r3 := HO2.out.frozenAt (k * 2 + 1)
        have q3 := (bP.below HB2.out bP.lt).cell 2
        simp only [List.getElem?_toArray, List.getElem?_cons_zero, List.getElem?_cons_succ] at q3
        clear q1 q2 c1 c2 r1 r2 bP1
        generalize (wr.setCell ⟨g, k * 2, none⟩ (.int .i64 ((Geo.X F k).1 + x))).drew = W2 at *
        have hO4 := (HO2.out.stored (k * 2 + 1) (.int .i64 ((Geo.X F k).2 + y))).1.drew
        have hgb4 := (HB2.out.setCell (p := ⟨g, k * 2 + 1, none⟩) hgB (.int .i64 ((Geo.X F k).2 + y))).drew
        have HO4 := Lib.hid hO4
        have HB4 := Lib.hid hgb4
        clear hO4 hgb4
        go_wp2
        go_region
        have hfs := flat_set (Ne.mvK F (x, y) k) k (addXY (x, y) (Geo.X F k))
        have HO5 : Hid (((W2.setCell ⟨g, k * 2 + 1, none⟩ (.int .i64 ((Geo.X F k).2 + y))).drew).ownsRow w0.heap.size 76 2 (.slice (some ⟨g, 0, none⟩) n cp) n (flat (Ne.mvK F (x, y) (k + 1)))) := Lib.hid (by rw [HS.out, ← hfs]; exact HO4.out)
        clear c3 r3 q3 hfs
        generalize (W2.setCell ⟨g, k * 2 + 1, none⟩ (.int .i64 ((Geo.X F k).2 + y))).drew = W3 at *
        go_wp2
        go_roundw
        case rel => exact ⟨k + 1, by omega, by go_num, HO5.out, HB4.out⟩
        case measure => simp [intOf]; omega
      · obtain rfl : k = n := by omega
        have HX : Hid (Ne.mvK F (x, y) k = L) := Lib.hid (by rw [HL.out, ← HFL.out, Ne.mvK_all])
        rw [HX.out] at hO
        go_wp2
        go_ret
        exact ⟨_, rfl, hO.mono hB.size, hB.trans (hb1.mono hB.size)⟩
end Go.Proofs.Ytlikmlhlfbdchaa
/- nest: outlines on a board; corners of a fault, isBeside, isOn, of the program. -/
namespace Go.Proofs.Ytlikmlhlfbdchaa
open Go.RowKit Go.Shelf
namespace Ne
/-- sides that are not too long -/
def Sm (d : Geo.XY) : Prop := ∃ D1 D2 : Int, (-D1 ≤ d.1 ∧ d.1 ≤ D1) ∧ (-D2 ≤ d.2 ∧ d.2 ≤ D2) ∧ 0 ≤ D1 ∧ 0 ≤ D2 ∧ D1 + D2 ≤ 60000
def DirOk (l : List Geo.XY) : Prop := ∀ k, k < l.length → Sm (sdir l k)
theorem dirs_sm {o p : List Geo.XY} (ho : DirOk o) (hp : DirOk p) {k : Nat} (hk : k < 2 + o.length + p.length) : Sm (dirs o p k) := by
  by_cases e0 : k = 0
  · subst e0; exact ⟨1, 1, by unfold dirs; simp, by unfold dirs; simp, by decide, by decide, by decide⟩
  by_cases e1 : k = 1
  · subst e1; exact ⟨1, 1, by unfold dirs; simp, by unfold dirs; simp, by decide, by decide, by decide⟩
  by_cases e2 : k < 2 + o.length
  · obtain ⟨m, rfl⟩ : ∃ m, k = 2 + m := ⟨k - 2, by omega⟩
    rw [dirs_o (by omega)]
    exact ho _ (pv_lt (show m < o.length by omega))
  · obtain ⟨m, rfl⟩ : ∃ m, k = 2 + o.length + m := ⟨k - 2 - o.length, by omega⟩
    rw [dirs_p]
    exact hp _ (pv_lt (show m < p.length by omega))
theorem Sm.bd {d : Geo.XY} (h : Sm d) : Bd d := by obtain ⟨a, b, h1, h2, h3, h4, h5⟩ := h; unfold Bd; omega
/-- two outlines that are not far from each other -/
def Near (o p : List Geo.XY) : Prop := ∀ i j, i < o.length → j < p.length → (-60000 ≤ (Geo.X o i).1 - (Geo.X p j).1 ∧ (Geo.X o i).1 - (Geo.X p j).1 ≤ 60000) ∧ (-60000 ≤ (Geo.X o i).2 - (Geo.X p j).2 ∧ (Geo.X o i).2 - (Geo.X p j).2 ≤ 60000)
theorem Near.symm {o p : List Geo.XY} (h : Near o p) : Near p o := fun i j hi hj => by have := h j i hj hi; omega
theorem dt_near {d a c : Geo.XY} (h : Sm d) (h1 : -60000 ≤ a.1 - c.1 ∧ a.1 - c.1 ≤ 60000) (h2 : -60000 ≤ a.2 - c.2 ∧ a.2 - c.2 ≤ 60000) : dt d a - dt d c ≤ 3600000000 := by
  obtain ⟨D1, D2, k1, k2, k3, k4, k5⟩ := h
  have m1 := (mul_bd (a := d.1) (b := a.1 - c.1) (A := D1) (B := 60000) k1.1 k1.2 h1.1 h1.2).2
  have m2 := (mul_bd (a := d.2) (b := a.2 - c.2) (A := D2) (B := 60000) k2.1 k2.2 h2.1 h2.2).2
  unfold dt
  rw [Int.mul_sub] at m1 m2
  omega
theorem btw_near {o p : List Geo.XY} {d : Geo.XY} (h0 : 0 < o.length) (k0 : 0 < p.length) (h : Sm d) (hn : Near o p) : btw o p d ≤ 3600000000 := by
  obtain ⟨i, hi, e1⟩ := lo_is d h0
  obtain ⟨j, hj, e2⟩ := hi_is d k0
  obtain ⟨i', hi', e3⟩ := hi_is d h0
  obtain ⟨j', hj', e4⟩ := lo_is d k0
  have a1 := hn i j hi hj
  have a2 := hn.symm j' i' hj' hi'
  have b1 := dt_near h a1.1 a1.2
  have b2 := dt_near h a2.1 a2.2
  unfold btw
  split <;> omega
theorem far_ok {o p : List Geo.XY} (h0 : 0 < o.length) (k0 : 0 < p.length) (ho : DirOk o) (hp : DirOk p) (hn : Near o p) : ∀ k, k < 2 + o.length + p.length → Bd (dirs o p k) ∧ btw o p (dirs o p k) ≤ 4294967295 := fun k hk => by
  have := dirs_sm ho hp hk
  exact ⟨this.bd, by have := btw_near h0 k0 this hn; omega⟩
theorem DirOk.alldir {l : List Geo.XY} (h : DirOk l) : AllDir l := fun k hk => by
  obtain ⟨D1, D2, k1, k2, k3, k4, k5⟩ := h k hk; omega
/-- corners within a board -/
def OnB (b : Bo) (l : List Geo.XY) : Prop := ∀ k, k < l.length → (0 ≤ (Geo.X l k).1 ∧ (Geo.X l k).1 ≤ b.w) ∧ (0 ≤ (Geo.X l k).2 ∧ (Geo.X l k).2 ≤ b.h)
theorem near_on {b : Bo} {o p : List Geo.XY} (hw : b.w ≤ 60000) (hh : b.h ≤ 60000) (ho : OnB b o) (hp : OnB b p) : Near o p := fun i j hi hj => by
  have := ho i hi; have := hp j hj; omega
theorem OnB.allbd {b : Bo} {o : List Geo.XY} (hw : b.w ≤ 60000) (hh : b.h ≤ 60000) (ho : OnB b o) : AllBd o := fun i hi => by
  have := ho i hi; unfold Bd; omega
/-- the corners of a fault -/
def crn (f : Rc) : List Geo.XY := [(f.x, f.y), (f.x + f.w, f.y), (f.x + f.w, f.y + f.h), (f.x, f.y + f.h)]
theorem crn_len (f : Rc) : (crn f).length = 4 := rfl
theorem crn_on {b : Bo} {f : Rc} (h : vF b f = true) : OnB b (crn f) := by
  unfold vF pc at h
  simp only [Bool.and_eq_true, decide_eq_true_eq] at h
  intro k hk
  rw [crn_len] at hk
  have : k = 0 ∨ k = 1 ∨ k = 2 ∨ k = 3 := by omega
  rcases this with rfl | rfl | rfl | rfl <;> simp [crn, Geo.X] <;> omega
theorem crn_dir {b : Bo} {f : Rc} (hw : b.w ≤ 60000) (hh : b.h ≤ 60000) (h : vF b f = true) : DirOk (crn f) := by
  unfold vF pc at h
  simp only [Bool.and_eq_true, decide_eq_true_eq] at h
  intro k hk
  rw [crn_len] at hk
  have : k = 0 ∨ k = 1 ∨ k = 2 ∨ k = 3 := by omega
  rcases this with rfl | rfl | rfl | rfl
  · exact ⟨0, 60000, by simp [sdir, crn, Geo.X], by simp [sdir, crn, Geo.X]; omega, by decide, by decide, by decide⟩
  · exact ⟨60000, 0, by simp [sdir, crn, Geo.X]; omega, by simp [sdir, crn, Geo.X], by decide, by decide, by decide⟩
  · exact ⟨0, 60000, by simp [sdir, crn, Geo.X], by simp [sdir, crn, Geo.X]; omega, by decide, by decide, by decide⟩
  · exact ⟨60000, 0, by simp [sdir, crn, Geo.X]; omega, by simp [sdir, crn, Geo.X], by decide, by decide, by decide⟩
/-- beside the first k faults -/
def clK (b : Bo) (o : List Geo.XY) : Nat → Bool
  | 0 => true
  | k + 1 => clK b o k && apB o (crn (b.fs.getD k zr)) 0
def clB (b : Bo) (o : List Geo.XY) : Bool := clK b o b.fs.length
theorem clK_mono {b : Bo} {o : List Geo.XY} {j k : Nat} (h : j ≤ k) (hk : clK b o k = true) : clK b o j = true := by
  induction k with
  | zero => obtain rfl : j = 0 := by omega
            rfl
  | succ k ih =>
    by_cases e : j = k + 1
    · subst e; exact hk
    · unfold clK at hk; simp only [Bool.and_eq_true] at hk; exact ih (by omega) hk.1
theorem vBo_in {b : Bo} (h : vBo b = true) : (1 ≤ b.w ∧ b.w ≤ 60000) ∧ (1 ≤ b.h ∧ b.h ≤ 60000) ∧ (0 ≤ b.g ∧ b.g ≤ 2000) ∧ b.fs.length ≤ 10 ∧ ∀ k, k < b.fs.length → vF b (b.fs.getD k zr) = true := by
  unfold vBo at h
  simp only [Bool.and_eq_true, decide_eq_true_eq] at h
  exact ⟨h.1.1.1, h.1.1.2, h.1.2, h.2.1, fun k hk => vFs_at h.2.2 hk⟩
end Ne

theorem areapart_b (A B : Option Addr) (o p : List Geo.XY) (c c' m n : Nat) (hm : o.length = m) (hn : p.length = n) (g : Int) (h0 : 2 ≤ m) (hl : m ≤ 64) (hoc : m ≤ c) (k0 : 2 ≤ n) (kl : n ≤ 64) (hpc : n ≤ c')
    (ho : Ne.AllBd o) (hp : Ne.AllBd p) (hod : Ne.DirOk o) (hpd : Ne.DirOk p) (hnr : Ne.Near o p) (hg : 0 ≤ g) (hg' : g ≤ 2000)
    (r : Bool) (hr : Ne.apB o p g = r) (w : World) (hA : Pts w A o) (hB : Pts w B p) :
    Calls Try.prog 50 #[.slice A m c, .slice B n c', .int .i64 g] w fun e w' => e = .returned (.bool r) ∧ Below w.heap.size w w' := by
  subst hm hn
  exact callsIn_wide.1 (areapart_in A B o p c c' g h0 hl hoc k0 kl hpc ho hp (Ne.far_ok (by omega) (by omega) hod hpd hnr) hg hg' r hr w hA hB)

set_option maxRecDepth 100000 in
set_option maxHeartbeats 2000000 in
theorem corners_b (f : Ne.Rc) (h1 : 0 ≤ f.x ∧ f.x ≤ 60000) (h2 : 0 ≤ f.y ∧ f.y ≤ 60000) (h3 : 0 ≤ f.w ∧ f.w ≤ 60000) (h4 : 0 ≤ f.h ∧ f.h ≤ 60000) (w : World) :
    Calls Try.prog 122 #[.agg (Ne.rcL f).toArray] w fun e w' => ∃ A, e = .returned (.slice A 4 4) ∧ Pts w' A (Ne.crn f) ∧ Below w.heap.size w w' := by
  have hB := (Below.refl w.heap.size w).alloc (Nat.le_refl _) (.cells (Ne.rcL f).toArray 44)
  have bF := Blk.new w 44 (Ne.rcL f).toArray
  have q0 := bF.cell 0
  have q1 := bF.cell 1
  have q2 := bF.cell 2
  have q3 := bF.cell 3
  simp only [List.getElem?_toArray, List.getElem?_cons_zero, List.getElem?_cons_succ] at q0 q1 q2 q3
  go_enter Try.func122, Try.ntmps122
  go_wp2
  go_region
  have bF2 : Blk (w.alloc (.cells (Ne.rcL f).toArray 44)).drew w.heap.size 44 (Ne.rcL f).toArray := bF
  have hB2 := hB.drew
  clear q0 q1 q2 q3 bF hB
  have q0 := bF2.cell 0
  have q1 := bF2.cell 1
  simp only [List.getElem?_toArray, List.getElem?_cons_zero, List.getElem?_cons_succ] at q0 q1
  generalize (w.alloc (.cells (Ne.rcL f).toArray 44)).drew = w0 at *
  go_wp2
  go_ret
  have bN := Blk.new w0 76 #[.int .i64 f.x, .int .i64 f.y, .int .i64 (f.x + f.w), .int .i64 f.y, .int .i64 (f.x + f.w), .int .i64 (f.y + f.h), .int .i64 f.x, .int .i64 (f.y + f.h)]
  refine ⟨some ⟨w0.heap.size, 0, none⟩, rfl, .inr ⟨w0.heap.size, 0, rfl, bN.lt, fun k hk => ?_⟩, hB2.alloc hB2.size _⟩
  rw [Ne.crn_len] at hk
  have : k = 0 ∨ k = 1 ∨ k = 2 ∨ k = 3 := by omega
  rcases this with rfl | rfl | rfl | rfl
  · exact ⟨bN.cell 0, bN.cell 1⟩
  · exact ⟨bN.cell 2, bN.cell 3⟩
  · exact ⟨bN.cell 4, bN.cell 5⟩
  · exact ⟨bN.cell 6, bN.cell 7⟩

set_option maxRecDepth 100000 in
set_option maxHeartbeats 4000000 in
theorem isbeside_b (b : Ne.Bo) (A B : Option Addr) (o : List Geo.XY) (n c m c' : Nat) (hn : b.fs.length = n) (hm : o.length = m) (h3 : 3 ≤ m) (h64 : m ≤ 64) (hc' : m ≤ c') (hv : Ne.vBo b = true) (hon : Ne.OnB b o) (hd : Ne.DirOk o)
    (r : Bool) (hr : Ne.clB b o = r) (w : World) (hF : Rows Ne.rcL 4 w A b.fs) (hO : Pts w B o) :
    Calls Try.prog 105 #[.agg (boW b A n c), .slice B m c'] w fun e w' => e = .returned (.bool r) ∧ Below w.heap.size w w' := by
  have hB := (Below.refl w.heap.size w).alloc (Nat.le_refl _) (.cells (boW b A n c) 33)
  have bB := Blk.new w 33 (boW b A n c)
  have q3 := bB.cell 3
  simp only [List.getElem?_toArray, List.getElem?_cons_zero, List.getElem?_cons_succ] at q3
  have HV : Hid (r = Ne.clK b o n) := Lib.hid (by rw [← hr, ← hn]; rfl)
  have HNO : Hid (∀ k, k < n → Ne.clK b o (k + 1) = false → r = false) := Lib.hid (fun k hk h => by
    rw [HV.out]
    cases e : Ne.clK b o n with
    | false => rfl
    | true => rw [Ne.clK_mono (show k + 1 ≤ n by omega) e] at h; cases h)
  have HF := Lib.hid (hF.below hB)
  have HO := Lib.hid (hO.below hB)
  have HN := Lib.hid hn
  have HVB := Lib.hid (Ne.vBo_in hv)
  have HA := Lib.hid (fun (f : Ne.Rc) (hf : Ne.vF b f = true) (x : Bool) (hx : Ne.apB o (Ne.crn f) 0 = x) W C (h1 : Pts W B o) (h2 : Pts W C (Ne.crn f)) =>
    areapart_b B C o (Ne.crn f) c' 4 m 4 hm rfl 0 (by omega) h64 hc' (by omega) (by omega) (by omega) (hon.allbd HVB.out.1.2 HVB.out.2.1.2) ((Ne.crn_on hf).allbd HVB.out.1.2 HVB.out.2.1.2) hd (Ne.crn_dir HVB.out.1.2 HVB.out.2.1.2 hf) (Ne.near_on HVB.out.1.2 HVB.out.2.1.2 hon (Ne.crn_on hf)) (by omega) (by omega) x hx W h1 h2)
  have hn10 : n ≤ 10 := by have := HVB.out.2.2.2.1; rw [HN.out] at this; exact this
  clear hr hn hm hv hF hO hon hd
  go_enter Try.func105, Try.ntmps105
  go_wp2
  generalize w.alloc (.cells (boW b A n c) 33) = w1 at *
  clear q3
  go_loopw [10] (fun i wr => ∃ k : Nat, k ≤ n ∧ i = .int .i64 k ∧ Ne.clK b o k = true ∧ Below w1.heap.size w1 wr) (fun i _ => n - (intOf i).toNat)
  case atStart => exact ⟨0, Nat.zero_le _, rfl, rfl, Below.refl _ _⟩
  case round =>
    obtain ⟨k, hk, rfl, hv, hb⟩ := hrel
    have HVK := Lib.hid hv
    clear hv
    by_cases hlt : k < n
    · obtain ⟨g, off, rfl, hg, hc⟩ := HF.out.at (z := Ne.zr) (by rw [HN.out]; omega)
      have hck := rangeAt_below (hc k (by rw [HN.out]; omega)) hg hb
      obtain ⟨f, hf⟩ : ∃ f, b.fs.getD k Ne.zr = f := ⟨_, rfl⟩
      obtain ⟨x, hx⟩ : ∃ x, Ne.apB o (Ne.crn f) 0 = x := ⟨_, rfl⟩
      have hvf := HVB.out.2.2.2.2 k (by rw [HN.out]; exact hlt)
      rw [hf] at hck hvf
      have HS : Hid (Ne.clK b o (k + 1) = x) := Lib.hid (by rw [Ne.clK, HVK.out, hf, hx]; rfl)
      have HX := Lib.hid hx
      have HVF := Lib.hid hvf
      have hin : (0 ≤ f.x ∧ f.x ≤ 60000) ∧ (0 ≤ f.y ∧ f.y ≤ 60000) ∧ (0 ≤ f.w ∧ f.w ≤ 60000) ∧ (0 ≤ f.h ∧ f.h ≤ 60000) := by
        have a1 := HVB.out.1.2
        have a2 := HVB.out.2.1.2
        unfold Ne.vF Ne.pc at hvf
        simp only [Bool.and_eq_true, decide_eq_true_eq] at hvf
        omega
      have HIN := Lib.hid hin
      clear hc hf hx hvf hin
      have bN := Blk.new wr 44 (Ne.rcL f).toArray
      have hrN := bN.range
      have hb2 := hb.alloc hb.size (.cells (Ne.rcL f).toArray 44)
      clear bN
      go_wp2_with (first | refine ldm_rc hck rfl _ rfl rfl ?_ | refine ldm_rc hrN rfl _ rfl rfl ?_)
      refine (corners_b f HIN.out.1 HIN.out.2.1 HIN.out.2.2.1 HIN.out.2.2.2 _).mono ?_
      rintro e w2 ⟨C, rfl, hpc, hb3⟩
      have HPC := Lib.hid hpc
      have hb4 := hb2.trans (hb3.mono hb2.size)
      clear hpc hck hrN
      go_wp2_with fail
      refine (HA.out f HVF.out x HX.out _ C (HO.out.below hb4) HPC.out).mono ?_
      rintro e w3 ⟨rfl, hb5⟩
      have hb6 := hb4.trans (hb5.mono hb4.size)
      cases x
      · go_wp2
        go_ret
        exact ⟨by rw [HNO.out k hlt HS.out]; rfl, hB.trans (hb6.mono hB.size)⟩
      · go_wp2
        go_roundw
        case rel => exact ⟨k + 1, by omega, by go_num, HS.out, hb6⟩
        case measure => simp [intOf]; omega
    · obtain rfl : k = n := by omega
      go_wp2
      go_ret
      exact ⟨by rw [HV.out, HVK.out]; rfl, hB.trans (hb.mono hB.size)⟩
end Go.Proofs.Ytlikmlhlfbdchaa
