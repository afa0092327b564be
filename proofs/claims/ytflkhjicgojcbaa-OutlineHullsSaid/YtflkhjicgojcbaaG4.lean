/- Plain geometry: two lists of steps, in the order of their directions, are made into one. It imports nothing of the program. -/
import Derived.Test.YtflkhjicgojcbaaG2
namespace Go.Proofs.Ytflkhjicgojcbaa.Geo

def neg (e : XY) : XY := (-e.1, -e.2)
def add (a b : XY) : XY := (a.1 + b.1, a.2 + b.2)
theorem cr_neg_l (a b : XY) : cr (neg a) b = - cr a b := by unfold cr neg; grind
theorem cr_neg_r (a b : XY) : cr a (neg b) = - cr a b := by unfold cr neg; grind
theorem cr_add_l (a b c : XY) : cr (add a b) c = cr a c + cr b c := by unfold cr add; grind
theorem cr_add_r (a b c : XY) : cr c (add a b) = cr c a + cr c b := by unfold cr add; grind
def Nz (e : XY) : Prop := e ≠ (0, 0)
theorem Nz.neg {e : XY} (h : Nz e) : Nz (neg e) := by
  intro he; apply h
  obtain ⟨a, b⟩ := e
  simp [Geo.neg] at he
  ext <;> simp <;> omega
theorem up_neg {e : XY} (h : Nz e) : up (neg e) ↔ ¬ up e := ⟨fun h1 h2 => up_not_neg h2 h1, fun h1 => up_or h h1⟩
theorem up_nz {e : XY} (h : up e) : Nz e := by
  rintro rfl; unfold up at h; simp at h
/-- of one half-plane: a ahead of b, b not behind c -/
theorem hp_same' {a b c : XY} (na : Nz a) (nb : Nz b) (nc : Nz c) (hab : up a ↔ up b) (hbc : up b ↔ up c) (h1 : 0 < cr a b) (h2 : 0 ≤ cr b c) : 0 < cr a c := by
  refine Decidable.byContradiction fun hn => ?_
  have f1 := cr_flip a c
  have f2 := cr_flip b c
  have := hp_same nc na nb (hbc.symm.trans hab.symm) hab (by omega) h1
  omega
theorem hp_le {a b c : XY} (na : Nz a) (nb : Nz b) (nc : Nz c) (hab : up a ↔ up b) (hbc : up b ↔ up c) (h1 : 0 ≤ cr a b) (h2 : 0 ≤ cr b c) : 0 ≤ cr a c := by
  refine Decidable.byContradiction fun hn => ?_
  have f1 := cr_flip a c
  have f2 := cr_flip b c
  have := hp_same' nb nc na hbc (hbc.symm.trans hab.symm)
  have := hp_same nb nc na hbc (hbc.symm.trans hab.symm) h2 (by omega)
  have := cr_flip a b
  omega
theorem opp {x a b : XY} (nx : Nz x) (na : Nz a) (nb : Nz b) (hxa : up x ↔ up a) (hxb : up x ↔ ¬ up b) (h1 : 0 ≤ cr x a) (h2 : 0 < cr x b) : 0 < cr a b := by
  have e1 := cr_neg_l b x
  have e2 := cr_neg_l b a
  have f1 := cr_flip x b
  have f2 := cr_flip a b
  have := hp_same' nb.neg nx na ((up_neg nb).trans hxb.symm) hxa (by omega) h1
  omega
theorem opp3 {x a b : XY} (nx : Nz x) (na : Nz a) (nb : Nz b) (hxa : up x ↔ up a) (hxb : up x ↔ ¬ up b) (h1 : 0 ≤ cr a x) (h2 : 0 < cr b x) : 0 < cr b a := by
  have e1 := cr_neg_r x b
  have e2 := cr_neg_r a b
  have f1 := cr_flip x b
  have f2 := cr_flip a b
  have := hp_same na nx nb.neg hxa.symm (hxb.trans (up_neg nb).symm) h1 (by omega)
  omega

/-- the order of directions, from 0 to a whole turn -/
def ang (d e : XY) : Prop := (up d ∧ ¬ up e) ∨ ((up d ↔ up e) ∧ 0 < cr d e)
def ale (d e : XY) : Prop := (up d ∧ ¬ up e) ∨ ((up d ↔ up e) ∧ 0 ≤ cr d e)
theorem ang.le {d e : XY} (h : ang d e) : ale d e := h.elim .inl fun h => .inr ⟨h.1, by omega⟩
theorem ang_trans {a b c : XY} (na : Nz a) (nb : Nz b) (nc : Nz c) (h : ang a b) (k : ang b c) : ang a c := by
  rcases h with ⟨h1, h2⟩ | ⟨h1, h2⟩
  · rcases k with ⟨k1, _⟩ | ⟨k1, _⟩
    · exact absurd k1 h2
    · exact .inl ⟨h1, fun h => h2 (k1.2 h)⟩
  · rcases k with ⟨k1, k2⟩ | ⟨k1, k2⟩
    · exact .inl ⟨h1.2 k1, k2⟩
    · exact .inr ⟨h1.trans k1, hp_same na nb nc h1 k1 (by omega) k2⟩
theorem ale_ang {a b c : XY} (na : Nz a) (nb : Nz b) (nc : Nz c) (h : ale a b) (k : ang b c) : ang a c := by
  rcases h with ⟨h1, h2⟩ | ⟨h1, h2⟩
  · rcases k with ⟨k1, _⟩ | ⟨k1, _⟩
    · exact absurd k1 h2
    · exact .inl ⟨h1, fun h => h2 (k1.2 h)⟩
  · rcases k with ⟨k1, k2⟩ | ⟨k1, k2⟩
    · exact .inl ⟨h1.2 k1, k2⟩
    · exact .inr ⟨h1.trans k1, hp_same na nb nc h1 k1 h2 k2⟩
theorem up_add {a b : XY} (nb : Nz b) (h : up a ↔ up b) : up (add a b) ↔ up a := by
  obtain ⟨a1, a2⟩ := a
  obtain ⟨b1, b2⟩ := b
  have nb' : ¬ (b1 = 0 ∧ b2 = 0) := fun h => nb (by rw [h.1, h.2])
  unfold up add at *
  simp only at *
  omega
theorem nz_add {a b : XY} (na : Nz a) (nb : Nz b) (h : up a ↔ up b) : Nz (add a b) := by
  obtain ⟨a1, a2⟩ := a
  obtain ⟨b1, b2⟩ := b
  have na' : ¬ (a1 = 0 ∧ a2 = 0) := fun h => na (by rw [h.1, h.2])
  have nb' : ¬ (b1 = 0 ∧ b2 = 0) := fun h => nb (by rw [h.1, h.2])
  intro he
  unfold up add at *
  simp only [Prod.mk.injEq] at *
  omega
theorem ang_add_r {x a b : XY} (nb : Nz b) (h : up a ↔ up b) (h1 : ang x a) (h2 : ang x b) : ang x (add a b) := by
  have hu := up_add nb h
  rcases h1 with ⟨h1, k1⟩ | ⟨h1, k1⟩
  · exact .inl ⟨h1, fun h => k1 (hu.1 h)⟩
  · rcases h2 with ⟨h2, k2⟩ | ⟨h2, k2⟩
    · exact absurd (h.1 (h1.1 h2)) k2
    · exact .inr ⟨h1.trans hu.symm, by rw [cr_add_r]; omega⟩
theorem ang_add_l {x a b : XY} (nb : Nz b) (h : up a ↔ up b) (h1 : ang a x) (h2 : ang b x) : ang (add a b) x := by
  have hu := up_add nb h
  rcases h1 with ⟨h1, k1⟩ | ⟨h1, k1⟩
  · exact .inl ⟨hu.2 h1, k1⟩
  · rcases h2 with ⟨h2, k2⟩ | ⟨h2, k2⟩
    · exact absurd (h1.1 (h.2 h2)) k2
    · exact .inr ⟨hu.trans h1, by rw [cr_add_l]; omega⟩

/-- the steps of both, those of one direction as one -/
def merge : List XY → List XY → List XY
  | [], t => t
  | a :: s, [] => a :: s
  | a :: s, b :: t => if 0 < cr a b then a :: merge s (b :: t) else if cr a b < 0 then b :: merge (a :: s) t else add a b :: merge s t
termination_by s t => s.length + t.length
theorem merge_nil (s : List XY) : merge s [] = s := by cases s <;> rw [merge]

/-- each step turns left from the one before it -/
def Ch : List XY → Prop
  | a :: b :: l => 0 < cr a b ∧ Ch (b :: l)
  | _ => True
theorem Ch.tail {a : XY} {l : List XY} (h : Ch (a :: l)) : Ch l := by
  cases l with
  | nil => trivial
  | cons b l => exact h.2
/-- the first step of one list is less than half a turn from that of the other one -/
def Hd (s t : List XY) : Prop := ∀ a b, s.head? = some a → t.head? = some b → (up a → ¬ up b → 0 < cr a b) ∧ (up b → ¬ up a → 0 < cr b a)
structure Mg (s t : List XY) : Prop where
  ps : s.Pairwise ang
  pt : t.Pairwise ang
  cs : Ch s
  ct : Ch t
  ns : ∀ a, a ∈ s → Nz a
  nt : ∀ a, a ∈ t → Nz a
  hd : Hd s t
theorem Mg.symm {s t : List XY} (h : Mg s t) : Mg t s := ⟨h.pt, h.ps, h.ct, h.cs, h.nt, h.ns, fun a b ha hb => ⟨(h.hd b a hb ha).2, (h.hd b a hb ha).1⟩⟩

/-- heads whose cross is above 0 are in order -/
theorem Mg.lt {a b : XY} {s t : List XY} (h : Mg (a :: s) (b :: t)) (hc : 0 < cr a b) : ang a b := by
  have hd := h.hd a b rfl rfl
  by_cases ha : up a <;> by_cases hb : up b
  · exact .inr ⟨⟨fun _ => hb, fun _ => ha⟩, hc⟩
  · exact .inl ⟨ha, hb⟩
  · have := hd.2 hb ha
    have := cr_flip a b
    omega
  · exact .inr ⟨⟨fun h => absurd h ha, fun h => absurd h hb⟩, hc⟩
theorem Mg.eq {a b : XY} {s t : List XY} (h : Mg (a :: s) (b :: t)) (hc : cr a b = 0) : up a ↔ up b := by
  have hd := h.hd a b rfl rfl
  have f := cr_flip a b
  by_cases ha : up a <;> by_cases hb : up b
  · exact ⟨fun _ => hb, fun _ => ha⟩
  · have := hd.1 ha hb; omega
  · have := hd.2 hb ha; omega
  · exact ⟨fun h => absurd h ha, fun h => absurd h hb⟩
theorem Mg.step {a b : XY} {s t : List XY} (h : Mg (a :: s) (b :: t)) (hc : 0 < cr a b) : Mg s (b :: t) := by
  refine ⟨(List.pairwise_cons.1 h.ps).2, h.pt, h.cs.tail, h.ct, fun c hc => h.ns c (List.mem_cons_of_mem _ hc), h.nt, ?_⟩
  intro a' b' ha' hb'
  cases s with
  | nil => simp at ha'
  | cons a2 s =>
    simp at ha' hb'
    subst ha'; subst hb'
    have na := h.ns a (List.mem_cons_self ..)
    have na2 := h.ns a2 (List.mem_cons_of_mem _ (List.mem_cons_self ..))
    have nb := h.nt b (List.mem_cons_self ..)
    have hs : 0 < cr a a2 := h.cs.1
    have h12 : ang a a2 := (List.pairwise_cons.1 h.ps).1 a2 (List.mem_cons_self ..)
    constructor
    · intro u1 u2
      have ua : up a := by rcases h12 with ⟨h1, h2⟩ | ⟨h1, _⟩; exact absurd u1 h2; exact h1.2 u1
      exact opp na na2 nb ⟨fun _ => u1, fun _ => ua⟩ ⟨fun _ => u2, fun _ => ua⟩ (by omega) hc
    · intro u1 u2
      by_cases ua : up a
      · exact opp na nb na2 ⟨fun _ => u1, fun _ => ua⟩ ⟨fun _ => u2, fun _ => ua⟩ (by omega) hs
      · have := (h.hd a b rfl rfl).2 u1 ua
        have := cr_flip a b
        omega
theorem Mg.step2 {a b : XY} {s t : List XY} (h : Mg (a :: s) (b :: t)) (hc : cr a b < 0) : Mg (a :: s) t :=
  (h.symm.step (by have := cr_flip a b; omega)).symm
theorem Mg.both {a b : XY} {s t : List XY} (h : Mg (a :: s) (b :: t)) (hc : cr a b = 0) : Mg s t := by
  have hu := h.eq hc
  refine ⟨(List.pairwise_cons.1 h.ps).2, (List.pairwise_cons.1 h.pt).2, h.cs.tail, h.ct.tail, fun c hc => h.ns c (List.mem_cons_of_mem _ hc), fun c hc => h.nt c (List.mem_cons_of_mem _ hc), ?_⟩
  intro a' b' ha' hb'
  have f := cr_flip a b
  cases s with
  | nil => simp at ha'
  | cons a2 s =>
    cases t with
    | nil => simp at hb'
    | cons b2 t =>
      simp at ha' hb'
      subst ha'; subst hb'
      have na := h.ns a (List.mem_cons_self ..)
      have na2 := h.ns a2 (List.mem_cons_of_mem _ (List.mem_cons_self ..))
      have nb := h.nt b (List.mem_cons_self ..)
      have nb2 := h.nt b2 (List.mem_cons_of_mem _ (List.mem_cons_self ..))
      have hs : 0 < cr a a2 := h.cs.1
      have ht : 0 < cr b b2 := h.ct.1
      have h12 : ang a a2 := (List.pairwise_cons.1 h.ps).1 a2 (List.mem_cons_self ..)
      have k12 : ang b b2 := (List.pairwise_cons.1 h.pt).1 b2 (List.mem_cons_self ..)
      constructor
      · intro u1 u2
        have ua : up a := by rcases h12 with ⟨h1, h2⟩ | ⟨h1, _⟩; exact absurd u1 h2; exact h1.2 u1
        have ub := hu.1 ua
        have h1 := opp nb na nb2 ⟨fun _ => ua, fun _ => ub⟩ ⟨fun _ => u2, fun _ => ub⟩ (by omega) ht
        exact opp na na2 nb2 ⟨fun _ => u1, fun _ => ua⟩ ⟨fun _ => u2, fun _ => ua⟩ (by omega) h1
      · intro u1 u2
        have ub : up b := by rcases k12 with ⟨h1, h2⟩ | ⟨h1, _⟩; exact absurd u1 h2; exact h1.2 u1
        have ua := hu.2 ub
        have h1 := opp na nb na2 ⟨fun _ => ub, fun _ => ua⟩ ⟨fun _ => u2, fun _ => ua⟩ (by omega) hs
        exact opp nb nb2 na2 ⟨fun _ => u1, fun _ => ub⟩ ⟨fun _ => u2, fun _ => ub⟩ (by omega) h1
theorem par_ang {a b c : XY} (na : Nz a) (nb : Nz b) (nc : Nz c) (hu : up a ↔ up b) (hc : cr a b = 0) (h : ang a c) : ang b c :=
  ale_ang nb na nc (.inr ⟨hu.symm, by have := cr_flip a b; omega⟩) h
theorem merge_ang {s t : List XY} (h : Mg s t) {x : XY} (hs : ∀ a, a ∈ s → ang x a) (ht : ∀ b, b ∈ t → ang x b) : ∀ c, c ∈ merge s t → ang x c := by
  induction s, t using merge.induct with
  | case1 t => intro c hc; rw [merge] at hc; exact ht c hc
  | case2 a s => intro c hc; rw [merge] at hc; exact hs c hc
  | case3 a s b t hlt ih =>
    intro c hc
    rw [merge, if_pos hlt] at hc
    rcases List.mem_cons.1 hc with rfl | hc
    · exact hs _ (List.mem_cons_self ..)
    · exact ih (h.step hlt) (fun a ha => hs a (List.mem_cons_of_mem _ ha)) ht c hc
  | case4 a s b t hlt hgt ih =>
    intro c hc
    rw [merge, if_neg hlt, if_pos hgt] at hc
    rcases List.mem_cons.1 hc with rfl | hc
    · exact ht _ (List.mem_cons_self ..)
    · exact ih (h.step2 hgt) hs (fun a ha => ht a (List.mem_cons_of_mem _ ha)) c hc
  | case5 a s b t hlt hgt ih =>
    intro c hc
    have he : cr a b = 0 := by omega
    rw [merge, if_neg hlt, if_neg hgt] at hc
    rcases List.mem_cons.1 hc with rfl | hc
    · exact ang_add_r (h.nt _ (List.mem_cons_self ..)) (h.eq he) (hs _ (List.mem_cons_self ..)) (ht _ (List.mem_cons_self ..))
    · exact ih (h.both he) (fun a ha => hs a (List.mem_cons_of_mem _ ha)) (fun a ha => ht a (List.mem_cons_of_mem _ ha)) c hc
theorem merge_nz {s t : List XY} (h : Mg s t) : ∀ c, c ∈ merge s t → Nz c := by
  induction s, t using merge.induct with
  | case1 t => intro c hc; rw [merge] at hc; exact h.nt c hc
  | case2 a s => intro c hc; rw [merge] at hc; exact h.ns c hc
  | case3 a s b t hlt ih =>
    intro c hc
    rw [merge, if_pos hlt] at hc
    rcases List.mem_cons.1 hc with rfl | hc
    · exact h.ns _ (List.mem_cons_self ..)
    · exact ih (h.step hlt) c hc
  | case4 a s b t hlt hgt ih =>
    intro c hc
    rw [merge, if_neg hlt, if_pos hgt] at hc
    rcases List.mem_cons.1 hc with rfl | hc
    · exact h.nt _ (List.mem_cons_self ..)
    · exact ih (h.step2 hgt) c hc
  | case5 a s b t hlt hgt ih =>
    intro c hc
    have he : cr a b = 0 := by omega
    rw [merge, if_neg hlt, if_neg hgt] at hc
    rcases List.mem_cons.1 hc with rfl | hc
    · exact nz_add (h.ns _ (List.mem_cons_self ..)) (h.nt _ (List.mem_cons_self ..)) (h.eq he)
    · exact ih (h.both he) c hc
theorem merge_pw {s t : List XY} (h : Mg s t) : (merge s t).Pairwise ang := by
  induction s, t using merge.induct with
  | case1 t => rw [merge]; exact h.pt
  | case2 a s => rw [merge]; exact h.ps
  | case3 a s b t hlt ih =>
    rw [merge, if_pos hlt, List.pairwise_cons]
    have na := h.ns _ (List.mem_cons_self ..)
    have nb := h.nt _ (List.mem_cons_self ..)
    refine ⟨merge_ang (h.step hlt) (List.pairwise_cons.1 h.ps).1 (fun c hc => ?_), ih (h.step hlt)⟩
    rcases List.mem_cons.1 hc with rfl | hc'
    · exact h.lt hlt
    · exact ang_trans na nb (h.nt c hc) (h.lt hlt) ((List.pairwise_cons.1 h.pt).1 c hc')
  | case4 a s b t hlt hgt ih =>
    rw [merge, if_neg hlt, if_pos hgt, List.pairwise_cons]
    have na := h.ns _ (List.mem_cons_self ..)
    have nb := h.nt _ (List.mem_cons_self ..)
    have hba := h.symm.lt (by have := cr_flip a b; omega)
    refine ⟨merge_ang (h.step2 hgt) (fun c hc => ?_) (List.pairwise_cons.1 h.pt).1, ih (h.step2 hgt)⟩
    rcases List.mem_cons.1 hc with rfl | hc'
    · exact hba
    · exact ang_trans nb na (h.ns c hc) hba ((List.pairwise_cons.1 h.ps).1 c hc')
  | case5 a s b t hlt hgt ih =>
    have he : cr a b = 0 := by omega
    have na := h.ns _ (List.mem_cons_self ..)
    have nb := h.nt _ (List.mem_cons_self ..)
    have hu := h.eq he
    have fe := cr_flip a b
    rw [merge, if_neg hlt, if_neg hgt, List.pairwise_cons]
    refine ⟨merge_ang (h.both he) (fun c hc => ?_) (fun c hc => ?_), ih (h.both he)⟩
    · have h1 := (List.pairwise_cons.1 h.ps).1 c hc
      exact ang_add_l nb hu h1 (par_ang na nb (h.ns c (List.mem_cons_of_mem _ hc)) hu he h1)
    · have h1 := (List.pairwise_cons.1 h.pt).1 c hc
      exact ang_add_l nb hu (par_ang nb na (h.nt c (List.mem_cons_of_mem _ hc)) hu.symm (by omega) h1) h1
theorem Ch.cons {x : XY} {l : List XY} (h : ∀ c, l.head? = some c → 0 < cr x c) (hl : Ch l) : Ch (x :: l) := by
  cases l with
  | nil => trivial
  | cons c l => exact ⟨h c rfl, hl⟩
theorem par_pos {a b c : XY} (na : Nz a) (nb : Nz b) (hu : up a ↔ up b) (hc : cr a b = 0) (h : 0 < cr a c) : 0 < cr b c := by
  have nc : Nz c := (cr_ne h).2
  have f := cr_flip a b
  by_cases hac : up a ↔ up c
  · exact hp_same nb na nc hu.symm hac (by omega) h
  · refine opp na nb nc hu ⟨fun h1 h2 => hac ⟨fun _ => h2, fun _ => h1⟩, fun h1 => ?_⟩ (by omega) h
    exact Decidable.byContradiction fun h2 => hac ⟨fun h => absurd h h2, fun h => absurd h h1⟩
theorem merge_head {s t : List XY} (h : Mg s t) {x : XY} (hs : ∀ a, s.head? = some a → 0 < cr x a) (ht : ∀ a, t.head? = some a → 0 < cr x a) : ∀ c, (merge s t).head? = some c → 0 < cr x c := by
  intro c hc
  cases s with
  | nil => rw [merge] at hc; exact ht c hc
  | cons a s =>
    cases t with
    | nil => rw [merge] at hc; exact hs c hc
    | cons b t =>
      have h1 := hs a rfl
      have h2 := ht b rfl
      rw [merge] at hc
      split at hc
      · simp at hc; subst hc; exact h1
      · split at hc
        · simp at hc; subst hc; exact h2
        · simp at hc; subst hc; rw [cr_add_r]; omega
theorem Ch.head {a : XY} {s : List XY} (h : Ch (a :: s)) : ∀ c, s.head? = some c → 0 < cr a c := by
  intro c hc
  cases s with
  | nil => simp at hc
  | cons b s => simp at hc; subst hc; exact h.1
theorem merge_ch {s t : List XY} (h : Mg s t) : Ch (merge s t) := by
  induction s, t using merge.induct with
  | case1 t => rw [merge]; exact h.ct
  | case2 a s => rw [merge]; exact h.cs
  | case3 a s b t hlt ih =>
    rw [merge, if_pos hlt]
    exact Ch.cons (merge_head (h.step hlt) h.cs.head (fun c hc => by simp at hc; subst hc; exact hlt)) (ih (h.step hlt))
  | case4 a s b t hlt hgt ih =>
    rw [merge, if_neg hlt, if_pos hgt]
    exact Ch.cons (merge_head (h.step2 hgt) (fun c hc => by simp at hc; subst hc; have := cr_flip a b; omega) h.ct.head) (ih (h.step2 hgt))
  | case5 a s b t hlt hgt ih =>
    have he : cr a b = 0 := by omega
    have na := h.ns _ (List.mem_cons_self ..)
    have nb := h.nt _ (List.mem_cons_self ..)
    have hu := h.eq he
    have fe := cr_flip a b
    rw [merge, if_neg hlt, if_neg hgt]
    refine Ch.cons (merge_head (h.both he) (fun c hc => ?_) (fun c hc => ?_)) (ih (h.both he))
    · have h1 := h.cs.head c hc
      have := par_pos na nb hu he h1
      rw [cr_add_l]; omega
    · have h1 := h.ct.head c hc
      have := par_pos nb na hu.symm (by omega) h1
      rw [cr_add_l]; omega
end Go.Proofs.Ytflkhjicgojcbaa.Geo
