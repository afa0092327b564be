import Derived.Test.YtflkhjicgojcbaaH0
namespace Go.Proofs.Ytflkhjicgojcbaa.Geo

/-- what is left of a chain (its last place first) when those behind no left turn to p are off -/
def popK (p : XY) : List XY → List XY
  | b :: a :: r => if Cross a b p ≤ 0 then popK p (a :: r) else b :: a :: r
  | s => s
def push (s : List XY) (p : XY) : List XY := p :: popK p s

/-- a chain, its last place first: it rises, turns left alone, and has no place of seen to its right -/
def Chn (seen : List XY) : List XY → Prop
  | b :: a :: r => low a b ∧ (∀ x, x ∈ seen → 0 ≤ Cross a b x) ∧ (∀ z, r.head? = some z → 0 < Cross z a b) ∧ Chn seen (a :: r)
  | [_] => True
  | [] => False

theorem up_ge {u v d : XY} (hu : up u) (hv : up v) (hd : up d) (h1 : 0 ≤ cr v u) (h2 : 0 ≤ cr u d) : 0 ≤ cr v d := by
  refine Decidable.byContradiction fun hn => ?_
  have f := cr_flip v d
  have := hp_same (up_nz hu) (up_nz hd) (up_nz hv) ⟨fun _ => hd, fun _ => hu⟩ ⟨fun _ => hv, fun _ => hd⟩ h2 (by omega : 0 < cr d v)
  have := cr_flip v u
  omega

/-- one place of a chain off -/
theorem pop_inv {a b p x : XY} (hab : low a b) (hbp : ¬ low p b) (hx : 0 ≤ Cross a b x) (hp : Cross a b p ≤ 0) (hax : ¬ low x a) (hb : ¬ low x b → 0 ≤ Cross b p x) : 0 ≤ Cross a p x := by
  by_cases hc : low x b
  · rcases low_total x a with h | rfl | h
    · exact absurd h hax
    · rw [show Cross x p x = 0 by unfold Cross; grind]; omega
    · rcases low_total p b with h' | rfl | h'
      · exact absurd h' hbp
      · exact hx
      · rw [Cross_cr] at hx hp ⊢
        have hap : low a p := low_trans hab h'
        rw [low_up] at hab hap h
        exact up_ge hab hap h (by have := cr_flip (sub b a) (sub p a); omega) hx
  · have h1 := hb hc
    have e : Cross a p x = Cross a b x - Cross a b p + Cross b p x := by unfold Cross; grind
    omega

/-- behind the last turn: all that is seen lies left of the way to p -/
theorem left_of {z t p x : XY} (hzt : low z t) (hxt : low x t) (hx : 0 ≤ Cross z t x) (hp : 0 < Cross z t p) (htp : low t p) : 0 ≤ Cross t p x := by
  have e1 : Cross z t x = cr (sub t x) (sub t z) := by unfold Cross cr sub; grind
  have e2 : Cross z t p = cr (sub t z) (sub p t) := by unfold Cross cr sub; grind
  have e3 : Cross t p x = cr (sub t x) (sub p t) := by unfold Cross cr sub; grind
  rw [low_up] at hzt hxt htp
  rw [e1] at hx
  rw [e2] at hp
  rw [e3]
  have := hp_same (up_nz hxt) (up_nz hzt) (up_nz htp) ⟨fun _ => hzt, fun _ => hxt⟩ ⟨fun _ => htp, fun _ => hzt⟩ hx hp
  omega

/-- p lies left of all sides when it lies left of the last one -/
theorem chn_ext {seen : List XY} {p : XY} : ∀ (s : List XY), Chn seen s → (∀ t, s.head? = some t → ¬ low p t) → (∀ t z r, s = t :: z :: r → 0 < Cross z t p) → Chn (p :: seen) s
  | [], h, _, _ => h
  | [_], _, _, _ => trivial
  | b :: a :: r, h, hp, ht => by
    obtain ⟨h1, h2, h3, h4⟩ := h
    have c := ht b a r rfl
    have hpb := hp b rfl
    have hpa : low a p := by
      rcases low_total p b with k | rfl | k
      · exact absurd k hpb
      · exact h1
      · exact low_trans h1 k
    refine ⟨h1, fun x hx => ?_, h3, chn_ext (a :: r) h4 (fun t e => ?_) (fun t z r' e => ?_)⟩
    · rcases List.mem_cons.1 hx with rfl | hx
      · omega
      · exact h2 x hx
    · obtain rfl : a = t := by simpa using e
      intro k
      exact low_irrefl _ (low_trans k hpa)
    · cases e
      have k := h3 z rfl
      have h4' := h4.1
      rw [show Cross z a b = cr (sub a z) (sub b a) from by unfold Cross cr sub; grind] at k
      rw [Cross_cr] at c
      have e3 : Cross z a p = cr (sub a z) (sub p a) := by unfold Cross cr sub; grind
      rw [e3]
      rw [low_up] at h1 hpa h4'
      exact hp_same (up_nz h4') (up_nz h1) (up_nz hpa) ⟨fun _ => h1, fun _ => h4'⟩ ⟨fun _ => hpa, fun _ => h1⟩ (by omega) c

theorem pop_chn {seen : List XY} {p : XY} : ∀ (s : List XY), Chn seen s → (∀ x, x ∈ s → ¬ low p x) → (∀ b, s.head? = some b → ∀ x, x ∈ seen → ¬ low x b → 0 ≤ Cross b p x) →
    ∃ t r, popK p s = t :: r ∧ Chn seen (t :: r) ∧ (∀ x, x ∈ seen → ¬ low x t → 0 ≤ Cross t p x) ∧ (∀ z r', r = z :: r' → 0 < Cross z t p) ∧ (t :: r).getLast? = s.getLast? ∧ (∀ y, y ∈ t :: r → y ∈ s)
  | [], h, _, _ => h.elim
  | [b], h, _, hi => ⟨b, [], rfl, h, hi b rfl, (fun _ _ e => nomatch e), rfl, fun _ h => h⟩
  | b :: a :: r, h, hp, hi => by
    rw [popK]
    split
    · rename_i hc
      obtain ⟨h1, h2, h3, h4⟩ := h
      obtain ⟨t, r', e, k1, k2, k3, k4, k5⟩ := pop_chn (a :: r) h4 (fun x hx => hp x (List.mem_cons_of_mem _ hx)) (fun c e x hx hn => by
        obtain rfl : a = c := by simpa using e
        exact pop_inv h1 (hp b (List.mem_cons_self ..)) (h2 x hx) hc hn (hi b rfl x hx))
      exact ⟨t, r', e, k1, k2, k3, by rw [k4, List.getLast?_cons_cons], fun y hy => List.mem_cons_of_mem _ (k5 y hy)⟩
    · rename_i hc
      exact ⟨b, a :: r, rfl, h, hi b rfl, (fun z r' e => by cases e; omega), rfl, fun _ h => h⟩

/-- what a chain of rising places is -/
def Good (seen s : List XY) : Prop := (Chn seen s ∨ ∃ m, s = [m, m] ∧ ∀ x, x ∈ seen → x = m) ∧ s.head? = seen.head? ∧ s.getLast? = seen.getLast? ∧ (∀ y, y ∈ s → y ∈ seen)

/-- one more place on (the places seen: the last one first) -/
theorem good_push {p b : XY} {seen s : List XY} (hb : seen.head? = some b) (hs : ∀ x, x ∈ seen → ¬ low p x) (ht : ∀ x, x ∈ seen → ¬ low b x) (hm : ∀ m, seen.getLast? = some m → ∀ x, x ∈ seen → ¬ low x m) (h : Good seen s) : Good (p :: seen) (push s p) := by
  obtain ⟨h1, h2, h3, h4⟩ := h
  have hlast : (p :: seen).getLast? = seen.getLast? := by cases seen with
    | nil => simp at hb
    | cons c l => rw [List.getLast?_cons_cons]
  rcases h1 with h1 | ⟨m, rfl, hall⟩
  · obtain ⟨t, r, e, k1, k2, k3, k4, k5⟩ := pop_chn (p := p) s h1 (fun x hx => hs x (h4 x hx)) (fun c e x hx hn => by
      rw [h2, hb] at e
      cases e
      have : x = b := by
        rcases low_total x b with k | k | k
        · exact absurd k hn
        · exact k
        · exact absurd k (ht x hx)
      rw [this, show Cross b p b = 0 by unfold Cross; grind]; omega)
    unfold push
    rw [e]
    have hts : t ∈ seen := h4 t (k5 t (List.mem_cons_self ..))
    have htp : ¬ low p t := hs t hts
    refine ⟨?_, by simp, ?_, fun y hy => ?_⟩
    · by_cases etp : t = p
      · cases r with
        | cons z r' => exact absurd (k3 z r' rfl) (by rw [etp, show Cross z p p = 0 by unfold Cross; grind]; omega)
        | nil =>
          subst etp
          refine .inr ⟨t, rfl, fun x hx => ?_⟩
          rcases List.mem_cons.1 hx with rfl | hx
          · rfl
          · have e1 : seen.getLast? = some t := by rw [← h3, ← k4]; rfl
            rcases low_total x t with k | k | k
            · exact absurd k (hm t e1 x hx)
            · exact k
            · exact absurd k (hs x hx)
      · have htl : low t p := by
          rcases low_total t p with k | k | k
          · exact k
          · exact absurd k etp
          · exact absurd k htp
        refine .inl ⟨htl, fun x hx => ?_, fun z e => ?_, chn_ext (t :: r) k1 (fun t' e => Option.some.inj e ▸ htp) (fun t' z r' e => by cases e; exact k3 z r' rfl)⟩
        · rcases List.mem_cons.1 hx with rfl | hx
          · rw [show Cross t x x = 0 by unfold Cross; grind]; omega
          · by_cases hc : low x t
            · cases r with
              | nil =>
                have e1 : seen.getLast? = some t := by rw [← h3, ← k4]; rfl
                exact absurd hc (hm t e1 x hx)
              | cons z r' =>
                obtain ⟨j1, j2, _, _⟩ := k1
                exact left_of j1 hc (j2 x hx) (k3 z r' rfl) htl
            · exact k2 x hx hc
        · cases r with
          | nil => simp at e
          | cons z' r' =>
            obtain rfl : z' = z := by simpa using e
            exact k3 z' r' rfl
    · rw [List.getLast?_cons_cons, k4, h3, hlast]
    · rcases List.mem_cons.1 hy with rfl | hy
      · exact List.mem_cons_self ..
      · exact List.mem_cons_of_mem _ (h4 y (k5 y hy))
  · have e : popK p [m, m] = [m] := by rw [popK, if_pos (by rw [show Cross m m p = 0 by unfold Cross; grind]; omega), popK]; simp
    unfold push
    rw [e]
    have hms : m ∈ seen := h4 m (List.mem_cons_self ..)
    refine ⟨?_, by simp, ?_, fun y hy => ?_⟩
    · by_cases em : m = p
      · subst em
        refine .inr ⟨m, rfl, fun x hx => ?_⟩
        rcases List.mem_cons.1 hx with rfl | hx
        · rfl
        · exact hall x hx
      · refine .inl ⟨?_, fun x hx => ?_, fun z e => by simp at e, trivial⟩
        · rcases low_total m p with k | k | k
          · exact k
          · exact absurd k em
          · exact absurd k (hs m hms)
        · rcases List.mem_cons.1 hx with rfl | hx
          · rw [show Cross m x x = 0 by unfold Cross; grind]; omega
          · rw [hall x hx, show Cross m p m = 0 by unfold Cross; grind]; omega
    · rw [hlast, ← h3]; simp
    · rcases List.mem_cons.1 hy with rfl | hy
      · exact List.mem_cons_self ..
      · obtain rfl : y = m := by simpa using hy
        exact List.mem_cons_of_mem _ hms
end Go.Proofs.Ytflkhjicgojcbaa.Geo
