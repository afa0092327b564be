/- Apart, the program's and the document's. -/
import Derived.Test.YtghbipipehglfaaDoorC6
namespace Go.Proofs.YtghbipipehglfaaDoor
open Go.RowKit Go.Shelf

/-- what Apart gives -/
def apE (ss : List Pl.Sz) (hs : List Pl.Hd) (l : List Int) : Int := if bothE ss hs = 0 then (if (Pl.setL hs.length l 0).isSome = true then 0 else 2) else bothE ss hs
def apB (ss : List Pl.Sz) (hs : List Pl.Hd) (l : List Int) : Bool := Pl.apm (sets ss hs) ss.length ((Pl.setL hs.length l 0).getD 0)
def apV (ss : List Pl.Sz) (hs : List Pl.Hd) (l : List Int) : Bool := if apE ss hs l = 0 then apB ss hs l else false
theorem apE_three (ss : List Pl.Sz) (hs : List Pl.Hd) (l : List Int) : (bothE ss hs ≠ 0 ∧ apE ss hs l = bothE ss hs ∧ apV ss hs l = false) ∨ (bothE ss hs = 0 ∧ Pl.setL hs.length l 0 = none ∧ apE ss hs l = 2 ∧ apV ss hs l = false) ∨
    (∃ m, bothE ss hs = 0 ∧ Pl.setL hs.length l 0 = some m ∧ apE ss hs l = 0 ∧ apV ss hs l = Pl.apm (sets ss hs) ss.length m) := by
  by_cases h : bothE ss hs = 0
  · cases hm : Pl.setL hs.length l 0 with
    | none =>
      have e : apE ss hs l = 2 := by unfold apE; rw [if_pos h, hm]; rfl
      exact .inr (.inl ⟨h, rfl, e, if_neg (by rw [e]; decide)⟩)
    | some m =>
      have e : apE ss hs l = 0 := by unfold apE; rw [if_pos h, hm]; rfl
      refine .inr (.inr ⟨m, h, rfl, e, ?_⟩)
      unfold apV apB
      rw [if_pos e, hm]; rfl
  · have e : apE ss hs l = bothE ss hs := if_neg h
    exact .inl ⟨h, e, if_neg (by rw [e]; exact h)⟩

set_option maxRecDepth 100000 in
set_option maxHeartbeats 4000000 in
theorem Apart_any (A B Al : Option Addr) (ss : List Pl.Sz) (hs : List Pl.Hd) (l : List Int) (c d cl : Nat) (w : World) (hmax : l.length ≤ 9223372036854775807) (hI : Szs w A ss) (hJ : Hds w B hs) (hL : Ints w Al l) :
    Calls Tryd.prog 21 #[.slice A ss.length c, .slice B hs.length d, .slice Al l.length cl] w fun e w' => e = .returned (.tuple #[.bool (apV ss hs l), .int .i64 (apE ss hs l)]) ∧ Below w.heap.size w w' := by
  have H1 := Lib.hid (fitted_any A B ss hs c d w hI hJ)
  rcases apE_three ss hs l with ⟨hb, he, hv⟩ | ⟨hb, hm, he, hv⟩ | ⟨m, hb, hm, he, hv⟩
  · rw [he, hv]
    have hne : (bothE ss hs != 0) = true := bne_iff_ne.2 hb
    have HB := Lib.hid hb
    clear hb he hv
    generalize bothE ss hs = E at *
    go_enter Tryd.func21, Tryd.ntmps21
    go_wp2_with (go_at_call 39; refine H1.out.mono ?_; rintro e w1 ⟨v, rfl, _, hv, hb1⟩; obtain rfl := hv HB.out)
    go_ret2
    exact ⟨rfl, hb1⟩
  · obtain ⟨_, ⟨h1, h2⟩⟩ := bothE_ok hb
    rw [he, hv]
    rw [hb] at H1
    have H2 := Lib.hid (fun (w' : World) (hbb : Below w.heap.size w w') => setOf_any Al l cl hs.length (by omega) hmax w' (hL.below hbb))
    rw [hm] at H2
    clear hb he hv hm hI hJ hL h2
    go_enter Tryd.func21, Tryd.ntmps21
    go_wp2_with (first | (go_at_call 39; refine H1.out.mono ?_; rintro e w1 ⟨v, rfl, hv, _, hb1⟩; obtain ⟨g, rfl, hg, hst⟩ := hv rfl) | (go_at_call 52; refine (H2.out _ hb1).mono ?_; rintro e w' ⟨rfl, hw'⟩; obtain rfl : w1 = w' := hw'.symm; unfold setV))
    go_ret2
    have hz := hb1.size
    first | exact ⟨rfl, hb1.alloc hz _⟩ | exact ⟨rfl, (hb1.alloc hz _).setCell (by simpa using hz) _⟩
  · obtain ⟨⟨s1, _⟩, ⟨h1, h2⟩⟩ := bothE_ok hb
    rw [he, hv]
    rw [hb] at H1
    have H2 := Lib.hid (fun (w' : World) (hbb : Below w.heap.size w w') => setOf_any Al l cl hs.length (by omega) hmax w' (hL.below hbb))
    rw [hm] at H2
    have hm60 : m < 2 ^ 60 := Nat.lt_of_lt_of_le (Pl.setL_ok hm).1 (Nat.pow_le_pow_right (by omega) (by omega))
    have HK := Lib.hid (fun (g bm : Nat) (w' : World) (hst : StA w' g ss.length (sets ss hs)) (hc : w'.cell? ⟨bm, 0, none⟩ = some (.int .u64 m)) => containsfn_any g ss.length ss.length bm m (sets ss hs) (by omega) hm60 (sets_40 ss hs h1) w' hst hc)
    clear hb he hv hm hI hJ hL h2 hm60
    generalize Pl.apm (sets ss hs) ss.length m = R at *
    go_enter Tryd.func21, Tryd.ntmps21
    go_wp2_with (first | (go_at_call 39; refine H1.out.mono ?_; rintro e w1 ⟨v, rfl, hv, _, hb1⟩; obtain ⟨g, rfl, hg, hst⟩ := hv rfl) | (go_at_call 52; refine (H2.out _ hb1).mono ?_; rintro e w' ⟨rfl, hw'⟩; obtain rfl : w1 = w' := hw'.symm; unfold setV) | (go_at_call 59; refine (HK.out g _ _ (hst.alloc _) ((Blk.new _ _ _).cell 0)).mono ?_; rintro e w' ⟨rfl, rfl⟩))
    go_ret2
    have hz := hb1.size
    exact ⟨by simp, hb1.alloc hz _⟩

namespace Pl
theorem ap_false {ss : List Sz} {hs : List Hd} {l : List Int} {m : Nat} (hm : setL hs.length l 0 = some m) (h40 : hs.length ≤ 40) {i j q : Nat} (hi : i < l.length) (hj : j < i) (hq : q < ss.length)
    (h : two ss hs q (l.getD i 0).toNat (l.getD j 0).toNat = true) : apm (fun q => setF ss hs q hs.length) ss.length m = false := by
  obtain ⟨k1, k2, k3, k4⟩ := setL_ok hm
  obtain ⟨a0, a1⟩ := k3 _ (getD_in (z := 0) hi)
  obtain ⟨b0, b1⟩ := k3 _ (getD_in (z := 0) (show j < l.length by omega))
  have hne : l.getD i 0 ≠ l.getD j 0 := by
    have := (List.pairwise_iff_getElem.1 k4) j i (by omega) hi hj
    rw [List.getD_eq_getElem?_getD, List.getD_eq_getElem?_getD, List.getElem?_eq_getElem hi, List.getElem?_eq_getElem (show j < l.length by omega)]
    exact fun e => this e.symm
  have hF : IsF ss hs (fun q => setF ss hs q hs.length) := isF_sets ss hs
  have h2 := two_cnt hF h40 (m := m) (q := q) (x := (l.getD i 0).toNat) (y := (l.getD j 0).toNat) (by omega) (by omega) (by omega)
    (by rw [k2, Int.toNat_of_nonneg a0]; simpa using getD_in (z := 0) hi) (by rw [k2, Int.toNat_of_nonneg b0]; simpa using getD_in (z := 0) (show j < l.length by omega)) h
  cases e : apm (fun q => setF ss hs q hs.length) ss.length m with
  | false => rfl
  | true =>
    have := apm_true.1 e q hq
    exact absurd h2 (Nat.not_lt.2 this)
theorem mem_idx {l : List Int} {x : Int} (h : x ∈ l) : ∃ i, i < l.length ∧ l.getD i 0 = x := by
  obtain ⟨i, hi, e⟩ := List.getElem_of_mem h
  exact ⟨i, hi, by rw [List.getD_eq_getElem?_getD, List.getElem?_eq_getElem hi]; exact e⟩
theorem ap_true {ss : List Sz} {hs : List Hd} {l : List Int} {m : Nat} (hm : setL hs.length l 0 = some m) (h40 : hs.length ≤ 40)
    (h : ∀ i, i < l.length → ∀ j, j < i → ∀ q, q < ss.length → two ss hs q (l.getD i 0).toNat (l.getD j 0).toNat = false) : apm (fun q => setF ss hs q hs.length) ss.length m = true := by
  obtain ⟨k1, k2, k3, k4⟩ := setL_ok hm
  have hF : IsF ss hs (fun q => setF ss hs q hs.length) := isF_sets ss hs
  rw [apm_true]
  intro q hq
  apply Nat.le_of_not_lt
  intro hc
  obtain ⟨x, y, hne, hx, hy, mx, my, ht⟩ := cnt_two' hF h40 hc
  rw [k2, decide_eq_true_eq] at mx my
  obtain ⟨i, hi, ei⟩ := mem_idx mx
  obtain ⟨j, hj, ej⟩ := mem_idx my
  have hij : i ≠ j := fun e => by subst e; rw [ei] at ej; omega
  have sym : ∀ a b, two ss hs q a b = two ss hs q b a := fun a b => by unfold two; rw [Bool.and_comm]
  rcases Nat.lt_or_ge j i with hlt | hge
  · have := h i hi j hlt q hq
    rw [ei, ej, Int.toNat_natCast, Int.toNat_natCast, ht] at this
    cases this
  · have := h j hj i (by omega) q hq
    rw [ei, ej, Int.toNat_natCast, Int.toNat_natCast, sym, ht] at this
    cases this
end Pl
end Go.Proofs.YtghbipipehglfaaDoor
