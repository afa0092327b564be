/- Plain: valid lists of rates and of prices, told one by one. -/
import Derived.Test.YtdihnbjmeppbcaaDoorP3
namespace Go.Proofs.YtdihnbjmeppbcaaDoor.Pl

def vls {α β : Type} [DecidableEq β] (p : α → Bool) (f : α → β) (l : List α) : Bool := decide (l.length ≤ 60) && (l.all p && decide (l.map f).Nodup)
theorem vrs_eq (l : List Rt) : vrs l = vls vr rk l := rfl
theorem vps_eq (l : List Pr) : vps l = vls vp pk l := rfl
section
variable {α β : Type} [DecidableEq β] {p : α → Bool} {f : α → β} {l : List α}
omit [DecidableEq β] in
theorem nodup_idx : (l.map f).Nodup ↔ ∀ (k i : Nat) (hk : k < l.length) (hi : i < l.length), k < i → f l[k] ≠ f l[i] := by
  unfold List.Nodup
  rw [List.pairwise_iff_getElem]
  constructor
  · intro h k i hk hi hki
    have := h k i (by simpa using hk) (by simpa using hi) hki
    simpa using this
  · intro h k i hk hi hki
    simpa using h k i (by simpa using hk) (by simpa using hi) hki
theorem vls_true : vls p f l = true ↔ l.length ≤ 60 ∧ (∀ (i : Nat) (hi : i < l.length), p l[i] = true) ∧ ∀ (k i : Nat) (hk : k < l.length) (hi : i < l.length), k < i → f l[k] ≠ f l[i] := by
  unfold vls
  rw [Bool.and_eq_true, Bool.and_eq_true, decide_eq_true_iff, decide_eq_true_iff, nodup_idx, List.all_eq_true]
  refine and_congr Iff.rfl (and_congr ⟨fun h i hi => h _ (List.getElem_mem hi), fun h x hx => ?_⟩ Iff.rfl)
  obtain ⟨i, hi, rfl⟩ := List.getElem_of_mem hx
  exact h i hi
theorem vls_long (h : 60 < l.length) : vls p f l = false := by
  rw [← Bool.not_eq_true, vls_true]; intro h'; omega
theorem vls_bad {i : Nat} (hi : i < l.length) (h : p l[i] = false) : vls p f l = false := by
  rw [← Bool.not_eq_true, vls_true]; intro h'; rw [h'.2.1 i hi] at h; cases h
theorem vls_two {k i : Nat} (hi : i < l.length) (hki : k < i) (h : f (l[k]'(by omega)) = f l[i]) : vls p f l = false := by
  rw [← Bool.not_eq_true, vls_true]; intro h'; exact h'.2.2 k i (by omega) hi hki h
theorem vls_parts (n : Nat) (hn : l.length = n) (x y : Bool) (hx : l.all p = x) (hy : decide (l.map f).Nodup = y) : vls p f l = (decide (n ≤ 60) && (x && y)) := by
  subst hn hx hy; rfl
end
theorem vr_parts (r : Rt) (x1 x2 x3 x4 x5 : Bool) (h1 : cyB r.cur = x1) (h2 : decide (r.cur = eurB) = x2) (h3 : dy r.d = x3) (h4 : inB 1 r.num 1000000 = x4) (h5 : inB 1 r.den 1000000 = x5) : vr r = (x1 && (!x2 && (x3 && (x4 && x5)))) := by
  subst h1 h2 h3 h4 h5; rfl
theorem vp_parts (p : Pr) (x1 x2 x3 : Bool) (h1 : wdB p.md = x1) (h2 : dy p.d = x2) (h3 : vst p.st = x3) : vp p = (x1 && (x2 && x3)) := by subst h1 h2 h3; rfl
theorem vl_parts (x : Ln) (x1 x2 x3 x4 : Bool) (h1 : wdB x.md = x1) (h2 : inB 1 x.col 9 = x2) (h3 : inB 1 x.siz 1000000000 = x3) (h4 : inB 1 x.cnt 1000 = x4) : vl x = (x1 && (x2 && (x3 && x4))) := by subst h1 h2 h3 h4; rfl
structure Vr (r : Rt) : Prop where
  cur : cyB r.cur = true
  ne : r.cur ≠ eurB
  d0 : 0 ≤ r.d
  d1 : r.d ≤ 100000
  n0 : 1 ≤ r.num
  n1 : r.num ≤ 1000000
  e0 : 1 ≤ r.den
  e1 : r.den ≤ 1000000
theorem vr_true {r : Rt} : vr r = true ↔ Vr r := by
  unfold vr dy
  simp only [Bool.and_eq_true, inB_true, Bool.not_eq_true', decide_eq_false_iff_not]
  constructor
  · rintro ⟨a, b, ⟨c, d⟩, ⟨e, f⟩, g, h⟩; exact ⟨a, b, c, d, e, f, g, h⟩
  · rintro ⟨a, b, c, d, e, f, g, h⟩; exact ⟨a, b, ⟨c, d⟩, ⟨e, f⟩, g, h⟩
structure Vp (p : Pr) : Prop where
  md : wdB p.md = true
  d0 : 0 ≤ p.d
  d1 : p.d ≤ 100000
  st : vst p.st = true
theorem vp_true {p : Pr} : vp p = true ↔ Vp p := by
  unfold vp dy
  simp only [Bool.and_eq_true, inB_true]
  constructor
  · rintro ⟨a, ⟨c, d⟩, b⟩; exact ⟨a, c, d, b⟩
  · rintro ⟨a, c, d, b⟩; exact ⟨a, ⟨c, d⟩, b⟩
structure Vl (x : Ln) : Prop where
  md : wdB x.md = true
  c0 : 1 ≤ x.col
  c1 : x.col ≤ 9
  s0 : 1 ≤ x.siz
  s1 : x.siz ≤ 1000000000
  n0 : 1 ≤ x.cnt
  n1 : x.cnt ≤ 1000
theorem vl_true {x : Ln} : vl x = true ↔ Vl x := by
  unfold vl
  simp only [Bool.and_eq_true, inB_true]
  constructor
  · rintro ⟨a, ⟨c, d⟩, ⟨e, f⟩, g, h⟩; exact ⟨a, c, d, e, f, g, h⟩
  · rintro ⟨a, c, d, e, f, g, h⟩; exact ⟨a, ⟨c, d⟩, ⟨e, f⟩, g, h⟩
/-- steps, told one by one -/
structure Vst (l : List Stp) : Prop where
  n0 : 1 ≤ l.length
  n1 : l.length ≤ 8
  one : (l.getD 0 default).c = 1
  ok : ∀ i, i < l.length → sok l i = true
theorem vst_true {l : List Stp} : vst l = true ↔ Vst l := by
  unfold vst
  simp only [Bool.and_eq_true, inB_true, decide_eq_true_iff, List.all_eq_true, List.mem_range]
  constructor
  · rintro ⟨⟨a, b⟩, c, d⟩; exact ⟨by omega, by omega, c, d⟩
  · rintro ⟨a, b, c, d⟩; exact ⟨⟨by omega, by omega⟩, c, d⟩
theorem vst_len {l : List Stp} (h : inB 1 (l.length : Int) 8 = false) : vst l = false := by unfold vst; rw [h]; rfl
theorem vst_one {l : List Stp} (h : ¬ (l.getD 0 default).c = 1) : vst l = false := by unfold vst; rw [decide_eq_false h]; simp
theorem vst_bad {l : List Stp} {i : Nat} (hi : i < l.length) (h : sok l i = false) : vst l = false := by
  rw [← Bool.not_eq_true, vst_true]; intro h'; rw [h'.ok i hi] at h; cases h
/-- a form, told part by part -/
theorem vf_parts (f : Fm) (n : Nat) (hn : f.ls.length = n) (x1 x2 x3 x4 x5 : Bool) (h1 : wdB f.cus = x1) (h2 : dy f.d = x2) (h3 : cyB f.cur = x3) (h4 : inB 1 n 40 = x4) (h5 : f.ls.all vl = x5) : vf f = (x1 && (x2 && (x3 && (x4 && x5)))) := by
  subst hn h1 h2 h3 h4 h5; rfl
structure Vf (f : Fm) : Prop where
  cus : wdB f.cus = true
  d0 : 0 ≤ f.d
  d1 : f.d ≤ 100000
  cur : cyB f.cur = true
  n0 : 1 ≤ f.ls.length
  n1 : f.ls.length ≤ 40
  ls : ∀ x, x ∈ f.ls → Vl x
theorem vf_true {f : Fm} : vf f = true ↔ Vf f := by
  unfold vf dy
  simp only [Bool.and_eq_true, inB_true, List.all_eq_true, vl_true]
  constructor
  · rintro ⟨a, ⟨c, d⟩, e, ⟨g, h⟩, i⟩; exact ⟨a, c, d, e, by omega, by omega, i⟩
  · rintro ⟨a, c, d, e, g, h, i⟩; exact ⟨a, ⟨c, d⟩, e, ⟨by omega, by omega⟩, i⟩
/-- what was found -/
def fnd {α : Type} [Inhabited α] (l : List α) : Option Nat → α
  | none => default
  | some j => l.getD j default
theorem lt_step {ks : List Ky} {n : ByteArray} {d : Int} {k : Nat} (hk : k < ks.length) : lt ks n d (k + 1) = if ks[k].1 = n ∧ dof ks (lt ks n d k) + 1 ≤ ks[k].2 ∧ ks[k].2 ≤ d then some k else lt ks n d k := by
  rw [lt, List.getD_eq_getElem?_getD, List.getElem?_eq_getElem hk]; rfl
theorem dof_in {ks : List Ky} {n : ByteArray} {d : Int} (h : ∀ x, x ∈ ks → 0 ≤ x.2 ∧ x.2 ≤ 100000) : ∀ {k : Nat}, k ≤ ks.length → -1 ≤ dof ks (lt ks n d k) ∧ dof ks (lt ks n d k) ≤ 100000 ∧ ((lt ks n d k).isSome = true ↔ 0 ≤ dof ks (lt ks n d k)) := by
  intro k hk
  cases e : lt ks n d k with
  | none => simp [dof]
  | some j =>
    have hj : j < ks.length := by have := lt_lt e; omega
    have h1 := h _ (List.getElem_mem hj)
    simp only [dof, List.getD_eq_getElem?_getD, List.getElem?_eq_getElem hj, Option.getD_some, Option.isSome_some, true_iff]
    omega
theorem dof_some {ks : List Ky} {k : Nat} (hk : k < ks.length) : dof ks (some k) = ks[k].2 := by
  simp [dof, List.getD_eq_getElem?_getD, List.getElem?_eq_getElem hk]
theorem fnd_some {α : Type} [Inhabited α] {l : List α} {k : Nat} (hk : k < l.length) : fnd l (some k) = l[k] := by
  simp [fnd, List.getD_eq_getElem?_getD, List.getElem?_eq_getElem hk]
end Go.Proofs.YtdihnbjmeppbcaaDoor.Pl
