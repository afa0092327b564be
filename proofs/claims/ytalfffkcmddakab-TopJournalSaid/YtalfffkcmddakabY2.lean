/- Disks and journals in memory; what turns. -/
import Derived.Test.YtalfffkcmddakabY1
namespace Go.Proofs.Ytalfffkcmddakab
open Go.RowKit Go.Shelf

/-- nothing that was there has turned but the blocks of S -/
structure Fr (S : List Nat) (w w' : World) : Prop where
  os : w'.os = w.os
  tape : w'.tape = w.tape
  output : w'.output = w.output
  size : w.heap.size ≤ w'.heap.size
  block : ∀ k, k < w.heap.size → k ∉ S → w'.heap[k]? = w.heap[k]?
section
variable {S T : List Nat} {w w' w'' : World}
theorem Fr.refl (S : List Nat) (w : World) : Fr S w w := ⟨rfl, rfl, rfl, Nat.le_refl _, fun _ _ _ => rfl⟩
theorem Fr.trans (h : Fr S w w') (k : Fr S w' w'') : Fr S w w'' :=
  ⟨k.os.trans h.os, k.tape.trans h.tape, k.output.trans h.output, Nat.le_trans h.size k.size, fun j hj hS => (k.block j (Nat.lt_of_lt_of_le hj h.size) hS).trans (h.block j hj hS)⟩
theorem Fr.mono (h : Fr S w w') (hs : ∀ k, k ∈ S → k < w.heap.size → k ∈ T) : Fr T w w' := ⟨h.os, h.tape, h.output, h.size, fun j hj hT => h.block j hj fun hS => hT (hs j hS hj)⟩
theorem Fr.of_below (S : List Nat) (h : Below w.heap.size w w') : Fr S w w' := ⟨h.os, h.tape, h.output, h.size, fun k hk _ => h.block k hk⟩
theorem Fr.below {B : Nat} (h : Fr S w w') (hS : ∀ k, k ∈ S → B ≤ k) (hB : B ≤ w.heap.size) : Below B w w' := ⟨h.os, h.tape, h.output, h.size, fun k hk => h.block k (by omega) fun hm => by have := hS k hm; omega⟩
theorem Fr.setCell (w : World) (g i : Nat) (u : Value) : Fr [g] w (w.setCell ⟨g, i, none⟩ u) := ⟨rfl, rfl, rfl, by simp [World.setCell], fun k _ hm => Below.heap_setCell w ⟨g, i, none⟩ u k (by simpa using hm)⟩
theorem Fr.alloc (S : List Nat) (w : World) (o : Obj) : Fr S w (w.alloc o) := Fr.of_below S ((Below.refl _ _).alloc (Nat.le_refl _) o)
theorem Fr.cell (h : Fr S w w') {b o : Nat} (hb : b < w.heap.size) (hS : b ∉ S) : w'.cell? ⟨b, o, none⟩ = w.cell? ⟨b, o, none⟩ := by unfold World.cell?; rw [h.block b hb hS]
theorem Fr.frozen (h : Fr S w w') {b o : Nat} (hb : b < w.heap.size) (hS : b ∉ S) : w'.frozen? ⟨b, o, none⟩ = w.frozen? ⟨b, o, none⟩ := by unfold World.frozen?; rw [h.block b hb hS]
theorem Fr.grown {row : Option Nat} (h : w.grownBy w' row) (hS : ∀ k, row = some k → k ∈ S ∨ w.heap.size ≤ k) : Fr S w w' :=
  ⟨h.os, h.tape, h.output, h.size, fun k hk hn => h.block k hk fun e => by rcases hS k e.symm with h' | h' <;> first | exact hn h' | omega⟩
end
theorem Blk.fr {S : List Nat} {w w' : World} {g : Nat} {t : TypeId} {cs : Array Value} (h : Blk w g t cs) (hf : Fr S w w') (hS : g ∉ S) : Blk w' g t cs := (hf.block g h.lt hS).trans h
theorem Blk.one {w : World} {g : Nat} {t t' : TypeId} {cs cs' : Array Value} (h : Blk w g t cs) (h' : Blk w g t' cs') : t = t' := by
  unfold Blk at h h'
  rw [h] at h'
  cases h'
  rfl
/-- bytes that lie in a row of their own -/
def Own8 (w : World) (v : Value) (l : Pl.Bs) : Prop := w.ownsRow 0 5 1 v l.length (flt u8L l)
theorem Own8.nil (w : World) : Own8 w (.slice none 0 0) [] := World.ownsRow_nil w 0 _ 1
theorem Own8.fr {S : List Nat} {w w' : World} {v : Value} {l : Pl.Bs} (h : Own8 w v l) (hf : Fr S w w') (hS : ∀ g, g ∈ S → g < w.heap.size → ∃ t cs, Blk w g t cs ∧ t ≠ 5) : Own8 w' v l := by
  refine ⟨h.1, ?_⟩
  rcases h.2 with hn | ⟨g, cap, cur, rfl, hb, hg, rest⟩
  · exact .inl hn
  · refine .inr ⟨g, cap, cur, rfl, hb, ?_, rest⟩
    have hlt : g < w.heap.size := (Array.getElem?_eq_some_iff.1 hg).1
    rw [hf.block g hlt fun hm => ?_]
    · exact hg
    · obtain ⟨t, cs, hB, ht⟩ := hS g hm hlt
      exact ht (hB.one (show Blk w g 5 cur from hg))
theorem Own8.rows {w : World} {v : Value} {l : Pl.Bs} (h : Own8 w v l) : ∃ A c, v = .slice A l.length c ∧ Rows u8L 1 w A l ∧ l.length ≤ c ∧ c ≤ maxLen := rows_of_owns encU8 h
abbrev ptr (b : Nat) : Value := .pointer (some ⟨b, 0, none⟩)
abbrev dkA (D : Pl.Dk) (v0 v1 : Value) (kp : Int) : Array Value := #[.int .i64 (D.st : Nat), .bool D.up, v0, v1, .int .i64 (D.fl : Nat), .int .i64 kp]
/-- block b is this disk -/
structure IsDk (w : World) (b : Nat) (D : Pl.Dk) (v0 v1 : Value) (kp : Int) : Prop where
  blk : Blk w b 39 (dkA D v0 v1 kp)
  kp : 0 < D.fl → kp = D.kp
  o0 : Own8 w v0 D.s0
  o1 : Own8 w v1 D.s1
  st : 1 ≤ D.st
  fb : D.fl ≤ maxLen
def Dsk (w : World) (b : Nat) (D : Pl.Dk) : Prop := ∃ v0 v1 kp, IsDk w b D v0 v1 kp
abbrev jnA (b : Nat) (J : Pl.Jn) (v : Value) : Array Value := #[ptr b, .int .i64 (J.st : Nat), .bool J.fd, .int .i64 (J.t : Nat), v]
structure IsJn (w : World) (j b : Nat) (J : Pl.Jn) (v : Value) : Prop where
  blk : Blk w j 42 (jnA b J v)
  o : Own8 w v J.im
  t : J.t ≤ 2147483647
def Jnl (w : World) (j b : Nat) (J : Pl.Jn) : Prop := ∃ v, IsJn w j b J v
theorem tDk : (39 : TypeId) ≠ 5 := by decide
theorem tJn : (42 : TypeId) ≠ 5 := by decide
theorem tDJ : (39 : TypeId) ≠ 42 := by decide
section
variable {S : List Nat} {w w' : World} {b j : Nat} {D : Pl.Dk} {J : Pl.Jn} {v v0 v1 : Value} {kp : Int}
theorem IsDk.fr (h : IsDk w b D v0 v1 kp) (hf : Fr S w w') (hb : b ∉ S) (hS : ∀ g, g ∈ S → g < w.heap.size → ∃ t cs, Blk w g t cs ∧ t ≠ 5) : IsDk w' b D v0 v1 kp := ⟨h.blk.fr hf hb, h.kp, h.o0.fr hf hS, h.o1.fr hf hS, h.st, h.fb⟩
theorem IsJn.fr (h : IsJn w j b J v) (hf : Fr S w w') (hb : j ∉ S) (hS : ∀ g, g ∈ S → g < w.heap.size → ∃ t cs, Blk w g t cs ∧ t ≠ 5) : IsJn w' j b J v := ⟨h.blk.fr hf hb, h.o.fr hf hS, h.t⟩
theorem IsDk.below (h : IsDk w b D v0 v1 kp) (hb : Below w.heap.size w w') : IsDk w' b D v0 v1 kp := h.fr (Fr.of_below [] hb) (by simp) (by simp)
theorem IsJn.below (h : IsJn w j b J v) (hb : Below w.heap.size w w') : IsJn w' j b J v := h.fr (Fr.of_below [] hb) (by simp) (by simp)
theorem Dsk.below (h : Dsk w b D) (hb : Below w.heap.size w w') : Dsk w' b D := by obtain ⟨v0, v1, kp, h⟩ := h; exact ⟨v0, v1, kp, h.below hb⟩
theorem Jnl.below (h : Jnl w j b J) (hb : Below w.heap.size w w') : Jnl w' j b J := by obtain ⟨v, h⟩ := h; exact ⟨v, h.below hb⟩
theorem IsDk.at_ (h : IsDk w b D v0 v1 kp) : ∀ g, g ∈ [b] → g < w.heap.size → ∃ t cs, Blk w g t cs ∧ t ≠ 5 := fun g hg _ => by
  simp at hg; subst hg; exact ⟨_, _, h.blk, tDk⟩
theorem IsJn.at_ (h : IsJn w j b J v) : ∀ g, g ∈ [j] → g < w.heap.size → ∃ t cs, Blk w g t cs ∧ t ≠ 5 := fun g hg _ => by
  simp at hg; subst hg; exact ⟨_, _, h.blk, tJn⟩
theorem IsJn.ne {b' : Nat} (h : IsJn w j b J v) (k : IsDk w b' D v0 v1 kp) : j ≠ b' := fun e => by
  subst e
  exact tDJ (k.blk.one h.blk)
/-- a disk turned in place: its slots are owned as before, or anew -/
theorem IsDk.turn (h : IsDk w b D v0 v1 kp) {D' : Pl.Dk} {u0 u1 : Value} {kp' : Int} (hf : Fr [b] w w') (hB : Blk w' b 39 (dkA D' u0 u1 kp')) (hk : 0 < D'.fl → kp' = D'.kp) (hs : 1 ≤ D'.st) (hb : D'.fl ≤ maxLen)
    (h0 : (u0 = v0 ∧ D'.s0 = D.s0) ∨ Own8 w' u0 D'.s0) (h1 : (u1 = v1 ∧ D'.s1 = D.s1) ∨ Own8 w' u1 D'.s1) : IsDk w' b D' u0 u1 kp' := by
  refine ⟨hB, hk, ?_, ?_, hs, hb⟩
  · rcases h0 with ⟨rfl, e⟩ | h0
    · rw [e]; exact h.o0.fr hf h.at_
    · exact h0
  · rcases h1 with ⟨rfl, e⟩ | h1
    · rw [e]; exact h.o1.fr hf h.at_
    · exact h1
end
end Go.Proofs.Ytalfffkcmddakab
