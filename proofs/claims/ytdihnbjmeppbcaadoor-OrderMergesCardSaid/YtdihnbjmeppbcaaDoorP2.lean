/- Plain: words and currencies as lists of bytes, and what is left of them when their signs are trimmed. -/
import Derived.Lib.SlTrimSet
import Derived.Test.YtdihnbjmeppbcaaDoorP1
namespace Go.Proofs.YtdihnbjmeppbcaaDoor.Pl

def up (b : UInt8) : Bool := decide (65 ≤ b.toNat) && decide (b.toNat ≤ 90)
def dg (b : UInt8) : Bool := decide (48 ≤ b.toNat) && decide (b.toNat ≤ 57)
def ud (b : UInt8) : Bool := up b || dg b
abbrev sigL : List UInt8 := [65, 66, 67, 68, 69, 70, 71, 72, 73, 74, 75, 76, 77, 78, 79, 80, 81, 82, 83, 84, 85, 86, 87, 88, 89, 90]
abbrev sigW : List UInt8 := [65, 66, 67, 68, 69, 70, 71, 72, 73, 74, 75, 76, 77, 78, 79, 80, 81, 82, 83, 84, 85, 86, 87, 88, 89, 90, 48, 49, 50, 51, 52, 53, 54, 55, 56, 57]
theorem bytes_all {p q : UInt8 → Bool} (h : (List.range 256).all (fun n => p (UInt8.ofNat n) == q (UInt8.ofNat n)) = true) (b : UInt8) : p b = q b := by
  have h1 := List.all_eq_true.1 h b.toNat (List.mem_range.2 b.toNat_lt)
  rw [UInt8.ofNat_toNat] at h1
  exact beq_iff_eq.1 h1
theorem sig_l (b : UInt8) : sigL.contains b = up b := bytes_all (p := fun b => sigL.contains b) (q := up) (by decide +kernel) b
theorem sig_w (b : UInt8) : sigW.contains b = ud b := bytes_all (p := fun b => sigW.contains b) (q := ud) (by decide +kernel) b
theorem drop_nil {α : Type} {p : α → Bool} : ∀ {l : List α}, l.dropWhile p = [] ↔ l.all p = true
  | [] => by simp
  | x :: l => by
    rw [List.dropWhile_cons]
    cases h : p x
    · simp [h]
    · simp only [if_true, List.all_cons, h, Bool.true_and]; exact drop_nil
theorem all_rev {α : Type} {p : α → Bool} (l : List α) : l.reverse.all p = l.all p := by
  rw [Bool.eq_iff_iff, List.all_eq_true, List.all_eq_true]
  simp
theorem drop_head {α : Type} {p : α → Bool} : ∀ {l : List α} {x : α} {m : List α}, l.dropWhile p = x :: m → p x = false
  | [], x, m, h => by simp at h
  | y :: l, x, m, h => by
    rw [List.dropWhile_cons] at h
    cases hy : p y
    · rw [if_neg (by rw [hy]; decide)] at h
      cases h; exact hy
    · rw [if_pos hy] at h
      exact drop_head h
/-- nothing is left when the signs are trimmed: all are such signs -/
theorem trim_nil {l cs : List UInt8} : Lib.trimS l cs = [] ↔ l.all (fun b => cs.contains b) = true := by
  unfold Lib.trimS Lib.trimLeftS Lib.trimRightS
  rw [drop_nil, all_rev]
  constructor
  · intro h
    cases e : l.reverse.dropWhile (fun b => cs.contains b) with
    | nil => rw [drop_nil, all_rev] at e; exact e
    | cons x m =>
      rw [e, List.all_cons, drop_head e] at h
      simp at h
  · intro h
    rw [← all_rev, ← drop_nil] at h
    rw [h]; rfl
/-- a word -/
def wd (s : List UInt8) : Bool := inB 1 s.length 12 && s.all ud
/-- a currency -/
def cy (s : List UInt8) : Bool := decide (s.length = 3) && s.all up
theorem all_w (l : List UInt8) : (l.all (fun b => sigW.contains b)) = l.all ud := by congr 1; funext b; exact sig_w b
theorem all_l (l : List UInt8) : (l.all (fun b => sigL.contains b)) = l.all up := by congr 1; funext b; exact sig_l b
end Go.Proofs.YtdihnbjmeppbcaaDoor.Pl
