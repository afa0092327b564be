/- The least tolerance with which there are so many pairs: what is asked, and that it is one of the differences. -/
import Derived.Test.YtmjnlmmjfbpogaaP6
namespace Go.Proofs.Ytmjnlmmjfbpogaa.Pl

/-- t is the least tolerance with which there are n pairs -/
def IsT (l : List Tm) (n t : Int) : Prop := 0 ≤ t ∧ t ≤ 1000 ∧ n ≤ ((mt l t).length : Int) ∧ ∀ s, 0 ≤ s → s < t → ((mt l s).length : Int) < n
/-- what Tolerance returns -/
def Tp (l : List Tm) (n t e : Int) : Prop :=
  (vs l = false ∧ t = 0 ∧ e = 40) ∨ (vs l = true ∧ n < 0 ∧ t = 0 ∧ e = 2) ∨ (vs l = true ∧ 0 ≤ n ∧ ((mt l 1000).length : Int) < n ∧ t = 0 ∧ e = 4) ∨ (vs l = true ∧ 0 ≤ n ∧ IsT l n t ∧ e = 0)
theorem isT_one {l : List Tm} {n t t' : Int} (h : IsT l n t) (h' : IsT l n t') : t = t' := by
  rcases Int.lt_trichotomy t t' with e | e | e
  · have := h'.2.2.2 t h.1 e; have := h.2.2.1; omega
  · exact e
  · have := h.2.2.2 t' h'.1 e; have := h'.2.2.1; omega
theorem isT_not {l : List Tm} (ho : Ok l) {n t : Int} (h : IsT l n t) : ¬ ((mt l 1000).length : Int) < n := by
  have h1 := mt_tol ho h.2.1
  have := h.2.2.1
  omega
theorem tp_one {l : List Tm} {n t e t' e' : Int} (h : Tp l n t e) (h' : Tp l n t' e') : t = t' ∧ e = e' := by
  rcases h with ⟨h1, rfl, rfl⟩ | ⟨h1, h2, rfl, rfl⟩ | ⟨h1, h2, h3, rfl, rfl⟩ | ⟨h1, h2, h3, rfl⟩ <;>
  rcases h' with ⟨k1, rfl, rfl⟩ | ⟨k1, k2, rfl, rfl⟩ | ⟨k1, k2, k3, rfl, rfl⟩ | ⟨k1, k2, k3, rfl⟩ <;>
  first
  | exact ⟨rfl, rfl⟩
  | (rw [h1] at k1; exact absurd k1 (by decide))
  | (exfalso; omega)
  | exact absurd k3 (isT_not (ok_of h1) h3)
  | exact absurd h3 (isT_not (ok_of h1) k3)
  | exact ⟨isT_one h3 k3, rfl⟩
theorem tp_ok {l : List Tm} {n t : Int} (h : Tp l n t 0) : vs l = true ∧ IsT l n t := by
  rcases h with ⟨_, _, h⟩ | ⟨_, _, _, h⟩ | ⟨_, _, _, _, h⟩ | ⟨h1, _, h2, _⟩
  · cases h
  · cases h
  · cases h
  · exact ⟨h1, h2⟩
/-- of a search -/
theorem isT_of {l : List Tm} {n : Int} {t : Nat} (ht : t < 1001) (h1 : ∀ s : Nat, s < t → decide (n ≤ ((mt l s).length : Int)) = false) (h2 : ∀ s : Nat, t ≤ s → s < 1001 → decide (n ≤ ((mt l s).length : Int)) = true) : IsT l n t :=
  ⟨by omega, by omega, of_decide_eq_true (h2 t (Nat.le_refl _) ht), fun s hs hst => by
    have := of_decide_eq_false (h1 s.toNat (by omega))
    rw [Int.toNat_of_nonneg hs] at this
    omega⟩
/-- how far apart -/
def ap (a b : Tm) : Int := max (a.len - b.len) (b.len - a.len)
theorem ap_comm (a b : Tm) : ap a b = ap b a := by unfold ap; omega
theorem ap_can {a b : Tm} {tol : Int} : can a b tol = true ↔ a.side ≠ b.side ∧ a.col = b.col ∧ ap a b ≤ tol := by
  unfold can ap
  rw [Bool.and_eq_true, Bool.and_eq_true, decide_eq_true_iff, decide_eq_true_iff, inB_true]
  constructor
  · rintro ⟨⟨h1, h2⟩, h3⟩; exact ⟨h1, h2, by omega⟩
  · rintro ⟨h1, h2, h3⟩; exact ⟨⟨h1, h2⟩, by omega⟩
/-- the greatest of some numbers -/
theorem exists_max : ∀ (M : List (Nat × Nat)) (f : Nat × Nat → Int), M ≠ [] → ∃ e, e ∈ M ∧ ∀ x, x ∈ M → f x ≤ f e
  | [], _, h => absurd rfl h
  | [a], f, _ => ⟨a, by simp, fun x hx => by rw [List.mem_singleton.1 hx]; exact Int.le_refl _⟩
  | a :: b :: M, f, _ => by
    obtain ⟨e, he, hm⟩ := exists_max (b :: M) f (by simp)
    by_cases h : f e ≤ f a
    · exact ⟨a, by simp, fun x hx => by
        rcases List.mem_cons.1 hx with rfl | hx
        · exact Int.le_refl _
        · exact Int.le_trans (hm x hx) h⟩
    · exact ⟨e, List.mem_cons_of_mem _ he, fun x hx => by
        rcases List.mem_cons.1 hx with rfl | hx
        · omega
        · exact hm x hx⟩
/-- with fewer than n: the pair seen is of no use -/
def Bad (l : List Tm) (n best : Int) (a b : Nat) : Prop := (at' l a).side ≠ (at' l b).side → (at' l a).col = (at' l b).col → ap (at' l a) (at' l b) < best → ((mt l (ap (at' l a) (at' l b))).length : Int) < n
/-- the loops of Tolerance: what is known at i, k -/
structure Be (l : List Tm) (n best : Int) (i k : Nat) : Prop where
  le : 0 ≤ best ∧ best ≤ 1000
  all : n ≤ ((mt l best).length : Int)
  old : ∀ a b, a < l.length → b < a → (a < i ∨ (a = i ∧ b < k)) → Bad l n best a b
theorem ap_nonneg (a b : Tm) : 0 ≤ ap a b := by unfold ap; omega
section
variable {l : List Tm} {n best : Int} {i k : Nat}
theorem Be.start (h : n ≤ ((mt l 1000).length : Int)) : Be l n 1000 0 0 := ⟨⟨by omega, by omega⟩, h, fun a b _ _ h => by omega⟩
theorem Be.row (h : Be l n best i i) : Be l n best (i + 1) 0 := ⟨h.le, h.all, fun a b h1 h2 h3 => h.old a b h1 h2 (by omega)⟩
theorem Be.skip (h : Be l n best i k) (hb : Bad l n best i k) : Be l n best i (k + 1) := ⟨h.le, h.all, fun a b h1 h2 h3 => by
  by_cases e : a = i ∧ b = k
  · obtain ⟨rfl, rfl⟩ := e; exact hb
  · exact h.old a b h1 h2 (by omega)⟩
theorem Be.take (h : Be l n best i k) (hb : ap (at' l i) (at' l k) < best) (hn : n ≤ ((mt l (ap (at' l i) (at' l k))).length : Int)) : Be l n (ap (at' l i) (at' l k)) i (k + 1) :=
  ⟨⟨ap_nonneg _ _, by have := h.le; omega⟩, hn, fun a b h1 h2 h3 => by
    by_cases e : a = i ∧ b = k
    · obtain ⟨rfl, rfl⟩ := e; intro _ _ h; omega
    · intro h4 h5 h6; exact h.old a b h1 h2 (by omega) h4 h5 (by omega)⟩
theorem Be.fin (h : Be l n best l.length 0) (ho : Ok l) (hn : 1 ≤ n) : IsT l n best := by
  refine ⟨h.le.1, h.le.2, h.all, fun s hs hlt => ?_⟩
  apply Int.lt_of_not_ge
  intro hge
  have hM := mt_mch l s
  have hne : mt l s ≠ [] := by intro e; rw [e] at hge; simp at hge; omega
  obtain ⟨e, he, hm⟩ := exists_max (mt l s) (fun e => ap (at' l e.1) (at' l e.2)) hne
  have hE := hM.rel e he
  obtain ⟨c1, c2, c3⟩ := ap_can.1 hE.can
  have hup : (mt l s).length ≤ (mt l (ap (at' l e.1) (at' l e.2))).length := mt_max ho (hM.imp fun x hx hr => ⟨hr.a, hr.b, hr.s1, hr.s2, by
    obtain ⟨d1, d2, d3⟩ := ap_can.1 hr.can
    exact ap_can.2 ⟨d1, d2, hm x hx⟩⟩)
  have hd : ap (at' l e.1) (at' l e.2) < best := by omega
  rcases Nat.lt_trichotomy e.2 e.1 with o | o | o
  · have := h.old e.1 e.2 hE.a o (.inl hE.a) c1 c2 hd
    omega
  · rw [o] at c1; exact c1 rfl
  · have := h.old e.2 e.1 hE.b o (.inl hE.b) (fun e => c1 e.symm) c2.symm (by rw [ap_comm]; exact hd)
    rw [ap_comm] at this
    omega
end
end Go.Proofs.Ytmjnlmmjfbpogaa.Pl
