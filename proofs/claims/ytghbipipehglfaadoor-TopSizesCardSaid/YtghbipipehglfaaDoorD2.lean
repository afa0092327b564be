/- One more size, one more head; lists that are made longer by one. -/
import Derived.Test.YtghbipipehglfaaDoorD1
import Derived.Deep.RegionHeld
import Derived.Laws.AppendOwnNone
namespace Go.Proofs.YtghbipipehglfaaDoor
open Go.RowKit Go.Shelf

theorem getD_app {α : Type} {l : List α} {a z : α} {i : Nat} (h : i < l.length) : (l ++ [a]).getD i z = l.getD i z := by
  rw [List.getD_eq_getElem?_getD, List.getD_eq_getElem?_getD, List.getElem?_append_left h]
theorem getD_last {α : Type} (l : List α) (a z : α) : (l ++ [a]).getD l.length z = a := by
  rw [List.getD_eq_getElem?_getD, List.getElem?_append_right (Nat.le_refl _)]; simp
theorem cv_size {ss : List Pl.Sz} {hs : List Pl.Hd} {s : Pl.Sz} {l : List Nat} (hl : ∀ i ∈ l, i < ss.length) : Pl.cv (ss ++ [s]) hs l = Pl.cv ss hs l := by
  unfold Pl.cv
  congr 1
  funext j
  unfold Pl.cvb
  rw [Bool.eq_iff_iff, List.any_eq_true, List.any_eq_true]
  constructor
  · rintro ⟨i, hi, hf⟩; exact ⟨i, hi, by rw [getD_app (hl i hi)] at hf; exact hf⟩
  · rintro ⟨i, hi, hf⟩; exact ⟨i, hi, by rw [getD_app (hl i hi)]; exact hf⟩
theorem cv_head {ss : List Pl.Sz} {hs : List Pl.Hd} {h : Pl.Hd} {l : List Nat} (hc : Pl.cv ss (hs ++ [h]) l = true) : Pl.cv ss hs l = true := by
  unfold Pl.cv at *
  rw [List.all_eq_true] at *
  intro j hj
  rw [List.mem_range] at hj
  have := hc j (List.mem_range.2 (by simp; omega))
  rwa [getD_app hj] at this
/-- one more size never makes a cover longer -/
theorem more_size {ss : List Pl.Sz} {hs : List Pl.Hd} (s : Pl.Sz) (h : coE ss hs = 0) : coE (ss ++ [s]) hs ≠ 32 ∧ (coE (ss ++ [s]) hs = 0 → (coL (ss ++ [s]) hs).length ≤ (coL ss hs).length) := by
  obtain ⟨b1, b2, b3, b4, b5, b6, b7⟩ := co_gr h
  refine ⟨fun e => ?_, fun e => ?_⟩
  · rcases coE_four (ss ++ [s]) hs with ⟨hb, he, _⟩ | ⟨_, _, he, _⟩ | ⟨_, _, hc, _, _⟩ | ⟨_, _, _, he, _⟩
    · rw [e] at he
      unfold bothE at he
      split at he
      · split at he <;> cases he
      · cases he
    · rw [e] at he; cases he
    · have := Pl.cv_mono (m := List.range (ss ++ [s]).length) (fun i hi => List.mem_range.2 (by have := b7 i hi; simp; omega)) (show Pl.cv (ss ++ [s]) hs (coL ss hs) = true by rw [cv_size b7]; exact b5)
      rw [hc] at this; cases this
    · rw [e] at he; cases he
  · obtain ⟨c1, c2, c3, c4, _⟩ := co_gr e
    rw [c4]
    exact fwB_min c2 (fun i hi => by have := b7 i hi; simp; omega) (by rw [cv_size b7]; exact b5)
/-- one more head never makes a cover shorter -/
theorem more_head {ss : List Pl.Sz} {hs : List Pl.Hd} (x : Pl.Hd) (h : coE ss hs = 0) (h2 : coE ss (hs ++ [x]) = 0) : (coL ss hs).length ≤ (coL ss (hs ++ [x])).length := by
  obtain ⟨b1, b2, b3, b4, _⟩ := co_gr h
  obtain ⟨c1, c2, c3, c4, c5, c6, c7⟩ := co_gr h2
  rw [b4]
  exact fwB_min b2 c7 (cv_head c5)

/-- the cells of a list of sizes, of heads -/
def szF (l : List Pl.Sz) : List Value := l.flatMap fun s => (szA s).toList
def hdF (l : List Pl.Hd) : List Value := l.flatMap fun s => (hdA s).toList
section
variable {α : Type} (f : α → List Value) (k : Nat) (hk : ∀ x, (f x).length = k)
include hk
theorem flat_len (l : List α) : (l.flatMap f).length = l.length * k := by
  induction l with
  | nil => simp
  | cons a l ih => rw [List.flatMap_cons, List.length_append, ih, hk, List.length_cons]; rw [Nat.add_mul]; omega
theorem flat_get (z : α) (l : List α) (i j : Nat) (hi : i < l.length) (hj : j < k) : (l.flatMap f)[i * k + j]? = (f (l.getD i z))[j]? := by
  induction l generalizing i with
  | nil => simp at hi
  | cons a l ih =>
    rw [List.flatMap_cons]
    cases i with
    | zero =>
      rw [Nat.zero_mul, Nat.zero_add, List.getElem?_append_left (by rw [hk]; exact hj)]
      rfl
    | succ i =>
      rw [List.getElem?_append_right (by rw [hk, Nat.add_mul]; omega), hk, show (i + 1) * k + j - k = i * k + j by rw [Nat.add_mul]; omega, ih i (by simpa using hi)]
      rfl
end
theorem flat_cells {α : Type} {f : α → List Value} {k : Nat} (hk : ∀ x, (f x).length = k) (hk0 : 0 < k) (z : α) {W : World} {A : Option Addr} {l : List α}
    (h : l = [] ∨ ∃ b off, A = some ⟨b, off, none⟩ ∧ b < W.heap.size ∧ ∀ i, i < l.length → W.rangeAt b (off + i * k) (f (l.getD i z))) {ad : Addr} (hA : A = some ad) : ∀ j u, (l.flatMap f)[j]? = some u → W.cell? (ad.add j) = some u := by
  intro j u hj
  have hjl : j < l.length * k := by
    rw [← flat_len f k hk]
    rcases Nat.lt_or_ge j (l.flatMap f).length with e | e
    · exact e
    · rw [List.getElem?_eq_none e] at hj; cases hj
  rcases h with h | ⟨b, off, h1, _, h3⟩
  · rw [h] at hj; simp at hj
  · rw [hA] at h1
    cases h1
    have hi : j / k < l.length := by rw [Nat.div_lt_iff_lt_mul hk0]; exact hjl
    have hm : j % k < k := Nat.mod_lt _ hk0
    have e : j = j / k * k + j % k := by rw [Nat.mul_comm]; exact (Nat.div_add_mod j k).symm
    rw [e, flat_get f k hk z l _ _ hi hm] at hj
    have := h3 (j / k) hi (j % k) u hj
    rw [Go.WideShapes.add_plain]
    have e2 : off + j = off + j / k * k + j % k := by omega
    rw [e2]; exact this
theorem infoSz : (Tryd.prog.info? 46).map (fun i => (i.zero, i.size, i.bytes)) = some (some (.agg (szA Pl.zsz)), 17, 136) := by kernel_rfl
theorem infoHd : (Tryd.prog.info? 34).map (fun i => (i.zero, i.size, i.bytes)) = some (some (.agg (hdA zhd)), 6, 48) := by kernel_rfl

theorem szF_one (l : List Pl.Sz) : ∀ u ∈ szF l, u.oneCell' = true := by
  intro u hu
  obtain ⟨s, _, hs⟩ := List.mem_flatMap.1 hu
  simp at hs
  rcases hs with h | h | h | h | h | h | h | h | h | h | h | h | h | h | h | h | h <;> rw [h] <;> rfl
theorem hdF_one (l : List Pl.Hd) : ∀ u ∈ hdF l, u.oneCell' = true := by
  intro u hu
  obtain ⟨s, _, hs⟩ := List.mem_flatMap.1 hu
  simp at hs
  rcases hs with h | h | h | h | h | h <;> rw [h] <;> rfl

theorem app_sz (w : World) (A : Option Addr) (l : List Pl.Sz) (c : Nat) (hz : A = none → l.length = 0 ∧ c = 0) (hl : l.length ≤ 300) (hA : Szs w A l) (g B : Nat) (hown : w.ownsRow B 46 17 (.slice (some ⟨g, 0, none⟩) 0 0) 0 []) (hB : B ≤ w.heap.size) :
    ∃ v' w', (Builtin.append_ #[22, 22] 22 #[.slice (some ⟨g, 0, none⟩) 0 0, .slice A l.length c]).run Tryd.prog w = .ok v' w' ∧ w'.ownsRow B 46 17 v' l.length (szF l) ∧ w.grownBy w' (some g) := by
  obtain ⟨i0, hi0, hz0, hn0, hy0⟩ := info_parts infoSz
  cases A with
  | none =>
    obtain ⟨h0, rfl⟩ := hz rfl
    obtain rfl : l = [] := List.length_eq_zero_iff.1 h0
    exact ⟨_, w, run_append_owned_none (P := Tryd.prog) w B 22 22 46 i0 17 Tryd.underlying22 hi0 _ 0 [] hown, hown, rfl, rfl, rfl, Nat.le_refl _, fun _ _ _ => rfl⟩
  | some a =>
    obtain ⟨v', w', h1, h2, h3, _⟩ := run_append_own (P := Tryd.prog) w B 22 22 46 i0 _ 17 136 Tryd.underlying22 hi0 hz0 hn0 hy0 rfl (by decide) _ 0 [] hown a l.length c (szF l) (flat_len (fun s => (szA s).toList) 17 (fun _ => rfl) l) (flat_cells (f := fun s : Pl.Sz => (szA s).toList) (k := 17) (fun _ => rfl) (by decide) Pl.zsz hA rfl) (szF_one l) (by unfold maxLen; omega) (by omega) hB
    exact ⟨v', w', h1, by simpa using h2, h3⟩
theorem own_sz {W : World} {B : Nat} {v : Value} {l : List Pl.Sz} (h : W.ownsRow B 46 17 v l.length (szF l)) : ∃ A c, v = .slice A l.length c ∧ Szs W A l := by
  have hh := h
  rcases h with ⟨_, ⟨rfl, h0⟩ | ⟨g, cap, cur, rfl, hg, hcell, _⟩⟩
  · exact ⟨none, 0, by rw [h0], .inl (List.length_eq_zero_iff.1 h0)⟩
  · refine ⟨some ⟨g, 0, none⟩, cap, rfl, .inr ⟨g, 0, rfl, (Array.getElem?_eq_some_iff.1 hcell).1, fun i hi j u hj => ?_⟩⟩
    have hjk : j < 17 := by
      rcases Nat.lt_or_ge j 17 with e | e
      · exact e
      · rw [List.getElem?_eq_none (by simpa using e)] at hj; cases hj
    have := hh.cellAt (i * 17 + j) (by omega)
    rw [show szF l = l.flatMap (fun s => (szA s).toList) from rfl, flat_get (fun s => (szA s).toList) 17 (fun _ => rfl) Pl.zsz l i j hi hjk] at this
    rw [show 0 + i * 17 + j = i * 17 + j by omega, this]
    exact hj
theorem app1_sz (w : World) (l : List Pl.Sz) (s : Pl.Sz) (v : Value) (B : Nat) (hown : w.ownsRow B 46 17 v l.length (szF l)) (hl : l.length ≤ 300) (g : Nat) (hb : Blk w g 46 (szA s)) (hB : B ≤ w.heap.size) :
    ∃ A' c' w', (Builtin.append_ #[22, 22] 22 #[v, .slice (some ⟨g, 0, none⟩) 1 1]).run Tryd.prog w = .ok (.slice A' (l ++ [s]).length c') w' ∧ Szs w' A' (l ++ [s]) ∧ Below B w w' := by
  obtain ⟨i0, hi0, hz0, hn0, hy0⟩ := info_parts infoSz
  obtain ⟨v', w', h1, h2, h3, _⟩ := run_append_own (P := Tryd.prog) w B 22 22 46 i0 _ 17 136 Tryd.underlying22 hi0 hz0 hn0 hy0 rfl (by decide) _ _ _ hown ⟨g, 0, none⟩ 1 1 (szA s).toList rfl (fun j u hj => by
    rw [Go.WideShapes.add_plain]
    have := hb.cell j
    rw [Nat.zero_add, this]
    simpa using hj) (fun u hu => szF_one [s] u (by simpa [szF] using hu)) (by unfold maxLen; omega) (by omega) hB
  obtain ⟨A', c', rfl, hS⟩ := own_sz (l := l ++ [s]) (by rw [List.length_append]; simpa [szF] using h2)
  exact ⟨A', c', w', h1, hS, (Below.refl B w).grown h3 hB (fun k e => (hown.lt k e).1)⟩

theorem app_hd (w : World) (A : Option Addr) (l : List Pl.Hd) (c : Nat) (hz : A = none → l.length = 0 ∧ c = 0) (hl : l.length ≤ 300) (hA : Hds w A l) (g B : Nat) (hown : w.ownsRow B 34 6 (.slice (some ⟨g, 0, none⟩) 0 0) 0 []) (hB : B ≤ w.heap.size) :
    ∃ v' w', (Builtin.append_ #[23, 23] 23 #[.slice (some ⟨g, 0, none⟩) 0 0, .slice A l.length c]).run Tryd.prog w = .ok v' w' ∧ w'.ownsRow B 34 6 v' l.length (hdF l) ∧ w.grownBy w' (some g) := by
  obtain ⟨i0, hi0, hz0, hn0, hy0⟩ := info_parts infoHd
  cases A with
  | none =>
    obtain ⟨h0, rfl⟩ := hz rfl
    obtain rfl : l = [] := List.length_eq_zero_iff.1 h0
    exact ⟨_, w, run_append_owned_none (P := Tryd.prog) w B 23 23 34 i0 6 Tryd.underlying23 hi0 _ 0 [] hown, hown, rfl, rfl, rfl, Nat.le_refl _, fun _ _ _ => rfl⟩
  | some a =>
    obtain ⟨v', w', h1, h2, h3, _⟩ := run_append_own (P := Tryd.prog) w B 23 23 34 i0 _ 6 48 Tryd.underlying23 hi0 hz0 hn0 hy0 rfl (by decide) _ 0 [] hown a l.length c (hdF l) (flat_len (fun s => (hdA s).toList) 6 (fun _ => rfl) l) (flat_cells (f := fun s : Pl.Hd => (hdA s).toList) (k := 6) (fun _ => rfl) (by decide) zhd hA rfl) (hdF_one l) (by unfold maxLen; omega) (by omega) hB
    exact ⟨v', w', h1, by simpa using h2, h3⟩
theorem own_hd {W : World} {B : Nat} {v : Value} {l : List Pl.Hd} (h : W.ownsRow B 34 6 v l.length (hdF l)) : ∃ A c, v = .slice A l.length c ∧ Hds W A l := by
  have hh := h
  rcases h with ⟨_, ⟨rfl, h0⟩ | ⟨g, cap, cur, rfl, hg, hcell, _⟩⟩
  · exact ⟨none, 0, by rw [h0], .inl (List.length_eq_zero_iff.1 h0)⟩
  · refine ⟨some ⟨g, 0, none⟩, cap, rfl, .inr ⟨g, 0, rfl, (Array.getElem?_eq_some_iff.1 hcell).1, fun i hi j u hj => ?_⟩⟩
    have hjk : j < 6 := by
      rcases Nat.lt_or_ge j 6 with e | e
      · exact e
      · rw [List.getElem?_eq_none (by simpa using e)] at hj; cases hj
    have := hh.cellAt (i * 6 + j) (by omega)
    rw [show hdF l = l.flatMap (fun s => (hdA s).toList) from rfl, flat_get (fun s => (hdA s).toList) 6 (fun _ => rfl) zhd l i j hi hjk] at this
    rw [show 0 + i * 6 + j = i * 6 + j by omega, this]
    exact hj
theorem app1_hd (w : World) (l : List Pl.Hd) (s : Pl.Hd) (v : Value) (B : Nat) (hown : w.ownsRow B 34 6 v l.length (hdF l)) (hl : l.length ≤ 300) (g : Nat) (hb : Blk w g 34 (hdA s)) (hB : B ≤ w.heap.size) :
    ∃ A' c' w', (Builtin.append_ #[23, 23] 23 #[v, .slice (some ⟨g, 0, none⟩) 1 1]).run Tryd.prog w = .ok (.slice A' (l ++ [s]).length c') w' ∧ Hds w' A' (l ++ [s]) ∧ Below B w w' := by
  obtain ⟨i0, hi0, hz0, hn0, hy0⟩ := info_parts infoHd
  obtain ⟨v', w', h1, h2, h3, _⟩ := run_append_own (P := Tryd.prog) w B 23 23 34 i0 _ 6 48 Tryd.underlying23 hi0 hz0 hn0 hy0 rfl (by decide) _ _ _ hown ⟨g, 0, none⟩ 1 1 (hdA s).toList rfl (fun j u hj => by
    rw [Go.WideShapes.add_plain]
    have := hb.cell j
    rw [Nat.zero_add, this]
    simpa using hj) (fun u hu => hdF_one [s] u (by simpa [hdF] using hu)) (by unfold maxLen; omega) (by omega) hB
  obtain ⟨A', c', rfl, hS⟩ := own_hd (l := l ++ [s]) (by rw [List.length_append]; simpa [hdF] using h2)
  exact ⟨A', c', w', h1, hS, (Below.refl B w).grown h3 hB (fun k e => (hown.lt k e).1)⟩
end Go.Proofs.YtghbipipehglfaaDoor
