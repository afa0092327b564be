/- Plain: prices, rates, lines, forms; which are valid; the latest of them; what an amount is in a currency. -/
import Derived.Test.YtdihnbjmeppbcaaDoorP2
namespace Go.Proofs.YtdihnbjmeppbcaaDoor.Pl

/-- a step of a price -/
structure Stp where
  c : Int
  m : Int
/-- a price, and where its steps lie -/
structure Pr where
  md : ByteArray
  d : Int
  st : List Stp
  a : Option Addr
  k : Nat
/-- a rate -/
structure Rt where
  cur : ByteArray
  d : Int
  num : Int
  den : Int
/-- a line of a form -/
structure Ln where
  md : ByteArray
  col : Int
  siz : Int
  cnt : Int
deriving DecidableEq
/-- a form, and where its lines lie -/
structure Fm where
  cus : ByteArray
  d : Int
  cur : ByteArray
  ls : List Ln
  a : Option Addr
  k : Nat
abbrev eurB : ByteArray := ⟨#[69, 85, 82]⟩
instance : Inhabited Stp := ⟨⟨0, 0⟩⟩
instance : Inhabited Pr := ⟨⟨⟨#[]⟩, 0, [], none, 0⟩⟩
instance : Inhabited Rt := ⟨⟨⟨#[]⟩, 0, 0, 0⟩⟩
instance : Inhabited Ln := ⟨⟨⟨#[]⟩, 0, 0, 0⟩⟩
/-- a word, a currency, as strings -/
def wdB (s : ByteArray) : Bool := wd s.data.toList
def cyB (s : ByteArray) : Bool := cy s.data.toList
abbrev Ky := ByteArray × Int
def pk (p : Pr) : Ky := (p.md, p.d)
def rk (r : Rt) : Ky := (r.cur, r.d)
/-- the steps of a price: what the Count of one must be above, and whether it is right -/
def sb (l : List Stp) : Nat → Int
  | 0 => 0
  | i + 1 => (l.getD i default).c
def sok (l : List Stp) (i : Nat) : Bool := inB (sb l i + 1) (l.getD i default).c 100000 && inB 0 (l.getD i default).m 10000000
def vst (l : List Stp) : Bool := inB 1 l.length 8 && (decide ((l.getD 0 default).c = 1) && (List.range l.length).all (sok l))
def vp (p : Pr) : Bool := wdB p.md && (dy p.d && vst p.st)
def vr (r : Rt) : Bool := cyB r.cur && (!(decide (r.cur = eurB)) && (dy r.d && (inB 1 r.num 1000000 && inB 1 r.den 1000000)))
def vl (x : Ln) : Bool := wdB x.md && (inB 1 x.col 9 && (inB 1 x.siz 1000000000 && inB 1 x.cnt 1000))
def vps (l : List Pr) : Bool := decide (l.length ≤ 60) && (l.all vp && decide (l.map pk).Nodup)
def vrs (l : List Rt) : Bool := decide (l.length ≤ 60) && (l.all vr && decide (l.map rk).Nodup)
def vf (f : Fm) : Bool := wdB f.cus && (dy f.d && (cyB f.cur && (inB 1 f.ls.length 40 && f.ls.all vl)))

/-- no two are the same, told one by one -/
def nd {α : Type} [DecidableEq α] (l : List α) : Bool := decide l.Nodup
/-- the different ones among the first k -/
def ins {α : Type} [DecidableEq α] (x : α) (s : List α) : List α := if x ∈ s then s else x :: s
def dif {α : Type} [DecidableEq α] (l : List α) : List α := l.foldl (fun s x => ins x s) []
theorem dif_snoc {α : Type} [DecidableEq α] (l : List α) (x : α) : dif (l ++ [x]) = ins x (dif l) := by unfold dif; rw [List.foldl_append]; rfl
theorem mem_dif {α : Type} [DecidableEq α] (l : List α) : ∀ y, y ∈ dif l ↔ y ∈ l := by
  induction h : l.length generalizing l with
  | zero => intro y; rw [List.length_eq_zero_iff.1 h]; exact Iff.rfl
  | succ n ih =>
    intro y
    have hne : l ≠ [] := by intro e; rw [e] at h; simp at h
    rw [← List.dropLast_concat_getLast hne, dif_snoc]
    have h1 := ih l.dropLast (by simp [h])
    unfold ins
    split
    · rename_i hx
      rw [List.mem_append, h1]
      constructor
      · exact .inl
      · rintro (h2 | h2)
        · exact h2
        · rw [List.mem_singleton] at h2
          rw [h2]; exact (h1 _).1 hx
    · rw [List.mem_cons, List.mem_append, h1, List.mem_singleton]; exact Or.comm
theorem dif_len {α : Type} [DecidableEq α] (l : List α) : (dif l).length ≤ l.length ∧ ((dif l).length = l.length ↔ l.Nodup) := by
  induction h : l.length generalizing l with
  | zero => rw [List.length_eq_zero_iff.1 h]; exact ⟨Nat.le_refl _, by simp [dif]⟩
  | succ n ih =>
    have hne : l ≠ [] := by intro e; rw [e] at h; simp at h
    have hl : l.dropLast.length = n := by simp [h]
    have h1 := ih l.dropLast hl
    have e : l = l.dropLast ++ [l.getLast hne] := (List.dropLast_concat_getLast hne).symm
    have e2 : dif l = ins (l.getLast hne) (dif l.dropLast) := by rw [← dif_snoc, ← e]
    have e3 : l.Nodup ↔ l.dropLast.Nodup ∧ l.getLast hne ∉ l.dropLast := by
      conv => lhs; rw [e]
      rw [List.nodup_append]
      constructor
      · rintro ⟨a, _, b⟩
        exact ⟨a, fun hm => b _ hm _ (List.mem_singleton.2 rfl) rfl⟩
      · rintro ⟨a, b⟩
        exact ⟨a, by simp, fun x hx y hy e => b (by rw [List.mem_singleton] at hy; rw [← hy, ← e]; exact hx)⟩
    rw [e2, e3, ← mem_dif l.dropLast]
    unfold ins
    split
    · rename_i hx
      refine ⟨by omega, fun hh => ?_, fun hh => absurd hx hh.2⟩
      omega
    · rename_i hx
      rw [List.length_cons]
      refine ⟨by omega, fun hh => ⟨h1.2.1 (by omega), hx⟩, fun hh => ?_⟩
      have := h1.2.2 hh.1
      omega

/-- the latest one with a name, not later than a day, among the first k -/
def dof (ks : List Ky) : Option Nat → Int
  | none => -1
  | some j => (ks.getD j (⟨#[]⟩, 0)).2
def lt (ks : List Ky) (n : ByteArray) (d : Int) : Nat → Option Nat
  | 0 => none
  | k + 1 => if (ks.getD k (⟨#[]⟩, 0)).1 = n ∧ dof ks (lt ks n d k) + 1 ≤ (ks.getD k (⟨#[]⟩, 0)).2 ∧ (ks.getD k (⟨#[]⟩, 0)).2 ≤ d then some k else lt ks n d k
theorem lt_lt {ks : List Ky} {n : ByteArray} {d : Int} : ∀ {k j : Nat}, lt ks n d k = some j → j < k
  | 0, j, h => by cases h
  | k + 1, j, h => by
    unfold lt at h
    split at h
    · cases h; omega
    · have := lt_lt h; omega
/-- the price of one piece, of n, by the first k steps -/
def cen (l : List Stp) (n : Int) : Nat → Int
  | 0 => 0
  | k + 1 => if (l.getD k default).c ≤ n then (l.getD k default).m else cen l n k
theorem cen_in {l : List Stp} (h : ∀ i, i < l.length → sok l i = true) (n : Int) : ∀ {k : Nat}, k ≤ l.length → 0 ≤ cen l n k ∧ cen l n k ≤ 10000000
  | 0, _ => by simp [cen]
  | k + 1, hk => by
    have h1 := h k (by omega)
    unfold sok at h1
    rw [Bool.and_eq_true, inB_true, inB_true] at h1
    unfold cen
    split
    · exact h1.2
    · exact cen_in h n (by omega)
/-- the count that costs least, and its cost, by the first k steps -/
def chp (l : List Stp) (n : Int) : Nat → Int × Int
  | 0 => (n, n * cen l n l.length)
  | k + 1 => if n < (l.getD k default).c ∧ (l.getD k default).c * (l.getD k default).m < (chp l n k).2 then ((l.getD k default).c, (l.getD k default).c * (l.getD k default).m) else chp l n k
theorem chp_le (l : List Stp) (n : Int) : ∀ k, (chp l n k).2 ≤ n * cen l n l.length ∧ n ≤ (chp l n k).1
  | 0 => ⟨Int.le_refl _, Int.le_refl _⟩
  | k + 1 => by
    have h := chp_le l n k
    unfold chp
    split
    · rename_i hc
      exact ⟨by simp only; omega, by simp only; omega⟩
    · exact h
/-- what an amount is in a currency on a day -/
def cE (l : List Rt) (cur : ByteArray) (d a : Int) : Int :=
  if cur = eurB then 0 else match lt (l.map rk) cur d l.length with
    | none => 81
    | some j => if am (hu (a * (l.getD j default).num) (l.getD j default).den) = true then 0 else 4
def cV (l : List Rt) (cur : ByteArray) (d a : Int) : Int :=
  if cur = eurB then a else match lt (l.map rk) cur d l.length with
    | none => 0
    | some j => if am (hu (a * (l.getD j default).num) (l.getD j default).den) = true then hu (a * (l.getD j default).num) (l.getD j default).den else 0
def coE (l : List Rt) (cur : ByteArray) (d a : Int) : Int := if vrs l = true then (if (cyB cur && (dy d && am a)) = true then cE l cur d a else 2) else 81
def coV (l : List Rt) (cur : ByteArray) (d a : Int) : Int := if vrs l = true then (if (cyB cur && (dy d && am a)) = true then cV l cur d a else 0) else 0
/-- Price -/
def prE (l : List Pr) (m : ByteArray) (d n : Int) : Int := if vps l = true then (if (dy d && inB 1 n 100000) = true then (match lt (l.map pk) m d l.length with | none => 82 | some _ => 0) else 2) else 80
def prS (l : List Pr) (m : ByteArray) (d n : Int) : List Stp := if vps l = true then (if (dy d && inB 1 n 100000) = true then (match lt (l.map pk) m d l.length with | none => [] | some j => (l.getD j default).st) else []) else []
def prV (l : List Pr) (m : ByteArray) (d n : Int) : Int := cen (prS l m d n) n (prS l m d n).length
end Go.Proofs.YtdihnbjmeppbcaaDoor.Pl
