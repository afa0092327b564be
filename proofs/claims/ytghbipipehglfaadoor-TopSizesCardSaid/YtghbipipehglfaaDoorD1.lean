/- Covers and heads that are apart: the one are never fewer than the other; the cover with the fewest is one. -/
import Derived.Test.YtghbipipehglfaaDoorV2
import Derived.Test.YtghbipipehglfaaDoorC7
namespace Go.Proofs.YtghbipipehglfaaDoor
open Go.RowKit Go.Shelf

namespace Pl
theorem nodup_le {α : Type} [DecidableEq α] : ∀ {l m : List α}, l.Nodup → (∀ x ∈ l, x ∈ m) → l.length ≤ m.length
  | [], _, _, _ => Nat.zero_le _
  | a :: l, m, hn, hs => by
    rw [List.nodup_cons] at hn
    have ha : a ∈ m := hs a (by simp)
    have h := nodup_le (l := l) (m := m.erase a) hn.2 fun x hx => by
      have hne : x ≠ a := fun e => hn.1 (e ▸ hx)
      exact (List.mem_erase_of_ne hne).2 (hs x (List.mem_cons_of_mem _ hx))
    rw [List.length_erase_of_mem ha] at h
    have := List.length_pos_of_mem ha
    rw [List.length_cons]; omega
theorem nodup_map {α β : Type} {f : α → β} : ∀ {l : List α}, l.Nodup → (∀ x ∈ l, ∀ y ∈ l, f x = f y → x = y) → (l.map f).Nodup
  | [], _, _ => by simp
  | a :: l, hn, hf => by
    rw [List.nodup_cons] at hn
    rw [List.map_cons, List.nodup_cons]
    refine ⟨fun hm => ?_, nodup_map hn.2 fun x hx y hy => hf x (List.mem_cons_of_mem _ hx) y (List.mem_cons_of_mem _ hy)⟩
    obtain ⟨x, hx, e⟩ := List.mem_map.1 hm
    have := hf x (List.mem_cons_of_mem _ hx) a (by simp) e
    exact hn.1 (this ▸ hx)
/-- a list of different indexes less than n is one -/
theorem setL_nts {n : Nat} : ∀ (l : List Nat) (s : Nat), l.Nodup → (∀ i ∈ l, i < n ∧ s.testBit i = false) → ∃ m, setL n (l.map Int.ofNat) s = some m
  | [], s, _, _ => ⟨s, rfl⟩
  | i :: l, s, hn, h => by
    rw [List.nodup_cons] at hn
    obtain ⟨h1, h2⟩ := h i (by simp)
    rw [List.map_cons, setL]
    rw [if_pos (inB_true.2 ⟨by simp, by show (i : Int) ≤ _; omega⟩)]
    have e : (Int.ofNat i).toNat = i := rfl
    rw [e, if_neg (by rw [h2]; decide)]
    refine setL_nts l _ hn.2 fun j hj => ?_
    obtain ⟨h3, h4⟩ := h j (List.mem_cons_of_mem _ hj)
    refine ⟨h3, ?_⟩
    rw [Nat.testBit_or, h4, Nat.testBit_two_pow, Bool.false_or, decide_eq_false_iff_not]
    intro e2; subst e2; exact hn.1 hj
theorem cnt_mkl (l : List Nat) : cnt (mkl l) ≤ l.length := by
  unfold cnt
  refine nodup_le (els_nodup _ _) fun x hx => ?_
  have := (mem_els.1 hx).2
  rw [mkl_bit] at this
  simpa using this
end Pl
theorem fwB_min {ss : List Pl.Sz} {hs : List Pl.Hd} (hn : ss.length ≤ 12) {l : List Nat} (hl : ∀ i ∈ l, i < ss.length) (hc : Pl.cv ss hs l = true) : (Pl.els (fwB ss hs) ss.length).length ≤ l.length := by
  have hp := pow12 hn
  have hlt := Pl.mkl_lt hl
  have hcm : cvC ss hs (Pl.mkl l) = true := by
    unfold cvC
    rw [← hc]
    refine Pl.cv_congr fun i => ?_
    rw [Pl.mem_els, Pl.mkl_bit, decide_eq_true_eq]
    exact ⟨fun h => h.2, fun h => ⟨hl i h, h⟩⟩
  have hm : Pl.prec (Pl.mkl l) (fwB ss hs) = false := Pl.fwk_min (C := cvC ss hs) (all := 2 ^ ss.length - 1) (by omega) (2 ^ ss.length - 1) (Nat.le_refl _) (Pl.mkl l) (by omega) hcm
  have hb := fwB_lt ss hs hn
  have h1 := Pl.cnt_mkl l
  have h2 : Pl.cnt (fwB ss hs) = (Pl.els (fwB ss hs) ss.length).length := by unfold Pl.cnt; rw [Pl.els_lt hb (show ss.length ≤ 64 by omega)]
  rw [← h2]
  apply Nat.le_of_not_lt
  intro hlt2
  have := (Pl.prec_iff (s := Pl.mkl l) (t := fwB ss hs) (by omega) (by omega)).2 (.inl (by omega))
  rw [hm] at this
  cases this
theorem fwB_cv {ss : List Pl.Sz} {hs : List Pl.Hd} (hc : Pl.cv ss hs (List.range ss.length) = true) : Pl.cv ss hs (Pl.els (fwB ss hs) ss.length) = true := by
  have := Pl.fwk_C (C := cvC ss hs) (all := 2 ^ ss.length - 1) (by unfold cvC; rw [Pl.els_full]; exact hc) (2 ^ ss.length - 1)
  exact this
/-- a list of indexes that Covers takes, and says yes to -/
theorem cover_nts {ss : List Pl.Sz} {hs : List Pl.Hd} (hb : bothE ss hs = 0) {l : List Nat} (hn : l.Nodup) (hl : ∀ i ∈ l, i < ss.length) : cvE ss hs (nts l) = 0 ∧ cvV ss hs (nts l) = Pl.cv ss hs l := by
  obtain ⟨m, hm⟩ := Pl.setL_nts (n := ss.length) l 0 hn fun i hi => ⟨hl i hi, by simp⟩
  have e : cvE ss hs (nts l) = 0 := by
    unfold cvE
    rw [if_pos hb, show Pl.setL ss.length (nts l) 0 = some m from hm]
    rfl
  exact ⟨e, by unfold cvV; rw [if_pos e, nats_nts]⟩
/-- what Covers says yes to -/
theorem cover_yes {ss : List Pl.Sz} {hs : List Pl.Hd} {l : List Int} (hv : cvV ss hs l = true) : bothE ss hs = 0 ∧ (∀ i ∈ nats l, i < ss.length) ∧ Pl.cv ss hs (nats l) = true ∧ (nats l).length = l.length := by
  rcases cvE_three ss hs l with ⟨h1, h2, h3⟩ | ⟨h1, h2, h3, h4⟩ | ⟨m, h1, h2, h3, h4⟩
  · rw [hv] at h3; cases h3
  · rw [hv] at h4; cases h4
  · obtain ⟨k1, k2, k3, k4⟩ := Pl.setL_ok h2
    refine ⟨h1, fun i hi => ?_, by rw [← h4]; exact hv, by unfold nats; exact List.length_map ..⟩
    unfold nats at hi
    obtain ⟨x, hx, rfl⟩ := List.mem_map.1 hi
    have := k3 x hx
    omega
/-- a cover has at least as many sizes as heads are apart -/
theorem cover_apart {ss : List Pl.Sz} {hs : List Pl.Hd} {l : List Nat} {m : List Int} (hl : ∀ i ∈ l, i < ss.length) (hc : Pl.cv ss hs l = true) (hv : apV ss hs m = true) : m.length ≤ l.length := by
  rcases apE_three ss hs m with ⟨h1, h2, h3⟩ | ⟨h1, h2, h3, h4⟩ | ⟨M, h1, h2, h3, h4⟩
  · rw [hv] at h3; cases h3
  · rw [hv] at h4; cases h4
  · rw [hv] at h4
    obtain ⟨_, ⟨h40, _⟩⟩ := bothE_ok h1
    obtain ⟨k1, k2, k3, k4⟩ := Pl.setL_ok h2
    have hF := isF_sets ss hs
    have ex : ∀ x ∈ m, ∃ q ∈ l, Pl.fit (ss.getD q Pl.zsz) (hs.getD x.toNat zhd) = true := fun x hx => by
      obtain ⟨a0, a1⟩ := k3 x hx
      unfold Pl.cv at hc
      rw [List.all_eq_true] at hc
      have := hc x.toNat (List.mem_range.2 (by omega))
      unfold Pl.cvb at this
      rw [List.any_eq_true] at this
      exact this
    let f : Int → Nat := fun x => if h : x ∈ m then (ex x h).choose else 0
    have hf : ∀ x (h : x ∈ m), f x ∈ l ∧ Pl.fit (ss.getD (f x) Pl.zsz) (hs.getD x.toNat zhd) = true := fun x h => by
      have e : f x = (ex x h).choose := dif_pos h
      rw [e]
      exact (ex x h).choose_spec
    have hnd : (m.map f).Nodup := Pl.nodup_map k4 fun x hx y hy e => by
      apply Decidable.byContradiction
      intro hne
      obtain ⟨f1, f2⟩ := hf x hx
      obtain ⟨f3, f4⟩ := hf y hy
      rw [← e] at f4
      obtain ⟨a0, a1⟩ := k3 x hx
      obtain ⟨b0, b1⟩ := k3 y hy
      have h5 := Pl.two_cnt hF h40 (m := M) (q := f x) (x := x.toNat) (y := y.toNat) (by omega) (by omega) (by omega) (by rw [k2, Int.toNat_of_nonneg a0]; simpa using hx) (by rw [k2, Int.toNat_of_nonneg b0]; simpa using hy)
        (by unfold Pl.two; rw [f2]; exact f4)
      have h6 := Pl.apm_true.1 h4.symm (f x) (hl _ f1)
      exact absurd h5 (Nat.not_lt.2 h6)
    have := Pl.nodup_le hnd fun z hz => by
      obtain ⟨x, hx, rfl⟩ := List.mem_map.1 hz
      exact (hf x hx).1
    rwa [List.length_map] at this
theorem co_gr {ss : List Pl.Sz} {hs : List Pl.Hd} (h : coE ss hs = 0) : bothE ss hs = 0 ∧ ss.length ≤ 12 ∧ grE ss hs = 0 ∧ coL ss hs = Pl.els (fwB ss hs) ss.length ∧ Pl.cv ss hs (coL ss hs) = true ∧ (coL ss hs).Nodup ∧ ∀ i ∈ coL ss hs, i < ss.length := by
  rcases coE_four ss hs with ⟨hb, he, _⟩ | ⟨_, _, he, _⟩ | ⟨_, _, _, he, _⟩ | ⟨hb, hn, hc, _, hl⟩
  · rw [h] at he; exact absurd he.symm hb
  · rw [h] at he; cases he
  · rw [h] at he; cases he
  · refine ⟨hb, hn, ?_, hl, ?_, ?_, ?_⟩
    · unfold grE; rw [if_pos hb, if_pos hc]
    · rw [hl]; exact fwB_cv hc
    · rw [hl]; exact Pl.els_nodup _ _
    · rw [hl]; exact fun i hi => (Pl.mem_els.1 hi).1
end Go.Proofs.YtghbipipehglfaaDoor
