import Derived.Test.YticjhkfidgkecaaGreatDoorB7
import Derived.Test.YticjhkfidgkecaaGreatDoorB6
namespace Go.Proofs.YticjhkfidgkecaaGreatDoor
open Go.RowKit Pl

/-- what lies at a place is read in one way alone -/
theorem rd_one {w : World} : (∀ t : Tree, ∀ t' b o, RdT w t b o → RdT w t' b o → t = t') := by
  apply Tree.ind
  intro h ps ih t' b o h1 h2
  obtain ⟨A, c, hc, hr⟩ := h1.open
  obtain ⟨A', c', hc', hr'⟩ := h2.open
  obtain ⟨h', ps'⟩ := t'
  dsimp only [Tree.hd, Tree.ps] at hc hr hc' hr'
  have key : ∀ {i : Nat} {u v : Value}, w.cell? ⟨b, i, none⟩ = some u → w.cell? ⟨b, i, none⟩ = some v → u = v := fun a b => by rw [a] at b; exact Option.some.inj b
  obtain ⟨a0, a1, a2, a3, a4, a5, a6⟩ := hc
  obtain ⟨b0, b1, b2, b3, b4, b5, b6⟩ := hc'
  have e0 := key a0 b0
  have e1 := key a1 b1
  have e2 := key a2 b2
  have e3 := key a3 b3
  have e4 := key a4 b4
  have e5 := key a5 b5
  have e6 := key a6 b6
  simp only [Value.int.injEq, true_and] at e0 e1 e2 e3 e4 e5
  simp only [Value.slice.injEq] at e6
  obtain ⟨rfl, hl, rfl⟩ := e6
  have hh : h = h' := by
    cases h; cases h'
    simp only at e0 e1 e2 e3 e4 e5
    subst e0 e1 e2 e3 e4 e5
    rfl
  subst hh
  congr 1
  clear a0 a1 a2 a3 a4 a5 a6 b0 b1 b2 b3 b4 b5 b6 h1 h2 e0 e1 e2 e3 e4 e5
  induction ps generalizing A ps' with
  | nil => exact (List.eq_nil_of_length_eq_zero (by simpa using hl.symm)).symm
  | cons t ts ihl =>
    cases ps' with
    | nil => simp at hl
    | cons t' ts' =>
      rw [RdL] at hr hr'
      obtain ⟨b1, o1, rfl, x1, x2⟩ := hr
      obtain ⟨b2, o2, e, y1, y2⟩ := hr'
      cases e
      refine congr (congrArg List.cons (ih t (by simp) t' _ _ x1 y1)) ?_
      apply ihl (fun p hp => ih p (by simp [hp]))
      all_goals first | exact x2 | exact y2 | simpa using hl
theorem rdl_one {w : World} : ∀ {ps ps' : List Tree} {A : Option Addr}, RdL w ps A → RdL w ps' A → ps.length = ps'.length → ps = ps'
  | [], [], _, _, _, _ => rfl
  | t :: ts, t' :: ts', A, h, h', hl => by
    rw [RdL] at h h'
    obtain ⟨b1, o1, rfl, x1, x2⟩ := h
    obtain ⟨b2, o2, e, y1, y2⟩ := h'
    cases e
    rw [rd_one t t' _ _ x1 y1, rdl_one x2 y2 (by simpa using hl)]
  | [], _ :: _, _, _, _, hl => by simp at hl
  | _ :: _, [], _, _, _, hl => by simp at hl
/-- a list of parts that was gone through at a level -/
def Gone (w : World) (a : Addr) (n : Nat) (lv : Int) : Prop := Cl w a.block ∧ ∃ ps, ps.length = n ∧ RdLP (Cl w) w ps (some a) ∧ lv - 1 + depthL ps ≤ 16
def EntOk (w : World) (e : MapEntry) : Prop := ∃ a n lv, e.key = keyK a n ∧ e.val = .int .i64 lv ∧ Gone w a n lv
/-- the map 'seen' -/
def SeenOk (w : World) (r : Nat) : Prop := ∃ es clock, w.heap[r]? = some (.map es clock) ∧ ∀ e, e ∈ es.toList → EntOk w e
theorem Cl.ne {w : World} {b r : Nat} (h : Cl w b) (hs : SeenOk w r) : b ≠ r := by
  rintro rfl
  obtain ⟨cs, t, hc⟩ := h
  obtain ⟨es, k, hm, _⟩ := hs
  rw [hm] at hc; cases hc
theorem Cl.lt {w : World} {b : Nat} (h : Cl w b) : b < w.heap.size := by
  obtain ⟨cs, t, hc⟩ := h
  exact (Array.getElem?_eq_some_iff.1 hc).1
theorem rdl_fr {w w' : World} {r : Nat} (hs : SeenOk w r) (hf : Fr r w w') {ps : List Tree} {A : Option Addr} (h : RdLP (Cl w) w ps A) : RdLP (Cl w') w' ps A :=
  (rdp_map fun b hb hl => have e := hf.block b hl (hb.ne hs); ⟨hb.of e, e⟩).2 ps A h
theorem Gone.fr {w w' : World} {r : Nat} (hs : SeenOk w r) (hf : Fr r w w') {a : Addr} {n : Nat} {lv : Int} (h : Gone w a n lv) : Gone w' a n lv := by
  obtain ⟨hc, ps, hl, hr, hd⟩ := h
  exact ⟨hc.of (hf.block _ hc.lt (hc.ne hs)), ps, hl, rdl_fr hs hf hr, hd⟩
theorem EntOk.fr {w w' : World} {r : Nat} (hs : SeenOk w r) (hf : Fr r w w') {e : MapEntry} (h : EntOk w e) : EntOk w' e := by
  obtain ⟨a, n, lv, hk, hv, hg⟩ := h
  exact ⟨a, n, lv, hk, hv, hg.fr hs hf⟩
theorem SeenOk.below {w w' : World} {r : Nat} (hs : SeenOk w r) (hb : Below w.heap.size w w') : SeenOk w' r := by
  have hs0 := hs
  obtain ⟨es, k, hm, he⟩ := hs
  exact ⟨es, k, (hb.block r (Array.getElem?_eq_some_iff.1 hm).1).trans hm, fun e h => (he e h).fr hs0 (Fr.of hb)⟩

theorem find_asking (a : Addr) (n : Nat) (w : World) (ha : Cl w a.block) : ∀ (es : List MapEntry) (i : Nat), (∀ e, e ∈ es → EntOk w e) →
    ((Instr.findAsking 147 (keyK a n) es i).run Tryz.prog w = .ok none w) ∨ (∃ j e, (Instr.findAsking 147 (keyK a n) es i).run Tryz.prog w = .ok (some (i + j, e.val)) w ∧ es[j]? = some e ∧ e.key = keyK a n)
  | [], i, _ => .inl (by simp [Instr.findAsking])
  | e :: es, i, h => by
    obtain ⟨b, m, lv, hk, hv, hg⟩ := h e (by simp)
    have he := eq_key a b n m w ha hg.1
    rw [← hk] at he
    by_cases q : a = b ∧ n = m
    · right
      obtain ⟨rfl, rfl⟩ := q
      refine ⟨0, e, ?_, rfl, hk⟩
      simp only [Instr.findAsking, Sem.run_bind, he]
      simp
    · rcases find_asking a n w ha es (i + 1) (fun x hx => h x (by simp [hx])) with g | ⟨j, e', g, g2, g3⟩
      · left
        simp only [Instr.findAsking, Sem.run_bind, he]
        simp [q, g]
      · right
        refine ⟨j + 1, e', ?_, by simpa using g2, g3⟩
        simp only [Instr.findAsking, Sem.run_bind, he]
        simp [q, g]
        omega
end Go.Proofs.YticjhkfidgkecaaGreatDoor
