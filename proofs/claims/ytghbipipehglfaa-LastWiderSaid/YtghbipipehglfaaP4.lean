/- Plain: a size which is wider. It imports nothing of the program. -/
import Derived.Test.YtghbipipehglfaaP2
namespace Go.Proofs.Ytghbipipehglfaa.Pl

/-- the size that is wider at i by n, in way c -/
def wid (s : Sz) (c i : Nat) (n : Int) : Sz :=
  if c = 0 then { s with fr := fun j => if j = i then max (s.fr i - n) 0 else s.fr j }
  else if c = 1 then { s with up := fun j => if j = i then min (s.up i + n) 3000 else s.up j }
  else if c = 2 then { s with bd := fun j => if j = i then min (s.bd i + n) 100 else s.bd j }
  else { s with tot := min (s.tot + n) 500 }
theorem wid_valid {s : Sz} (hs : vsz s = true) (c i : Nat) (hi : i < 5) {n : Int} (hn : 0 ≤ n) : vsz (wid s c i n) = true := by
  rw [vsz_true] at *
  obtain ⟨h1, h2, h3⟩ := hs
  have hh := h1 i hi
  unfold wid
  split
  · refine ⟨fun j hj => ?_, h2, h3⟩
    have := h1 j hj
    dsimp only
    by_cases e : j = i
    · rw [if_pos e]; subst e; omega
    · rw [if_neg e]; omega
  · split
    · refine ⟨fun j hj => ?_, h2, h3⟩
      have := h1 j hj
      dsimp only
      by_cases e : j = i
      · rw [if_pos e]; subst e; omega
      · rw [if_neg e]; omega
    · split
      · refine ⟨fun j hj => ?_, h2, h3⟩
        have := h1 j hj
        dsimp only
        by_cases e : j = i
        · rw [if_pos e]; subst e; omega
        · rw [if_neg e]; omega
      · refine ⟨h1, h2, ?_⟩
        dsimp only
        omega
theorem wid_fit {s : Sz} {h : Hd} (hs : vsz s = true) (hh : vh h = true) (c i : Nat) (hi : i < 5) {n : Int} (hn : 0 ≤ n) (hf : fit s h = true) : fit (wid s c i n) h = true := by
  have h1 := (vsz_true.1 hs).1
  have h3 := (vsz_true.1 hs).2.2
  have hm := (vh_true.1 hh).1
  unfold wid
  split
  · refine fit_mono (s := s) (fun j hj => ?_) (fun _ _ => Int.le_refl _) (Int.le_refl _) hf
    have := h1 j hj
    have := hm j hj
    dsimp only [nd]
    by_cases e : j = i
    · rw [if_pos e]; subst e; omega
    · rw [if_neg e]; omega
  · split
    · refine fit_mono (s := s) (fun j hj => ?_) (fun _ _ => Int.le_refl _) (Int.le_refl _) hf
      have := h1 j hj
      have := hm j hj
      dsimp only [nd]
      by_cases e : j = i
      · rw [if_pos e]; subst e; omega
      · rw [if_neg e]; omega
    · split
      · refine fit_mono (s := s) (fun _ _ => Int.le_refl _) (fun j hj => ?_) (Int.le_refl _) hf
        have := h1 j hj
        dsimp only
        by_cases e : j = i
        · rw [if_pos e]; subst e; omega
        · rw [if_neg e]; exact Int.le_refl _
      · refine fit_mono (s := s) (fun _ _ => Int.le_refl _) (fun _ _ => Int.le_refl _) ?_ hf
        dsimp only
        omega
end Go.Proofs.Ytghbipipehglfaa.Pl
