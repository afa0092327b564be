/- Plain: recipes as trees; which are formed, their extents, the colours of their cells, what they take. It imports nothing of the program. -/
namespace Go.Proofs.YticjhkfidgkecaaGreatDoor.Pl

structure Hd where
  op : Int
  ax : Int
  col : Int
  n0 : Int
  n1 : Int
  n2 : Int
deriving DecidableEq, Repr
inductive Tree where
  | node (h : Hd) (ps : List Tree)
deriving Repr
def Tree.hd : Tree → Hd
  | .node h _ => h
def Tree.ps : Tree → List Tree
  | .node _ ps => ps
theorem Tree.eta (t : Tree) : t = .node t.hd t.ps := by cases t; rfl

theorem Tree.ind {P : Tree → Prop} (h : ∀ hd ps, (∀ p, p ∈ ps → P p) → P (.node hd ps)) : ∀ t, P t :=
  fun t => Tree.rec (motive_1 := P) (motive_2 := fun l => ∀ p, p ∈ l → P p) (fun hd ps ih => h hd ps ih) (fun p hp => by cases hp)
    (fun a l ha hl p hp => by
      rcases List.mem_cons.1 hp with rfl | hp
      · exact ha
      · exact hl p hp) t

mutual
def depth : Tree → Nat
  | .node _ ps => depthL ps + 1
def depthL : List Tree → Nat
  | [] => 0
  | t :: ts => max (depth t) (depthL ts)
end
theorem depthL_le {l : List Tree} {n : Nat} : depthL l ≤ n ↔ ∀ p, p ∈ l → depth p ≤ n := by
  induction l with
  | nil => simp [depthL]
  | cons a l ih =>
    rw [depthL, Nat.max_le, ih]
    simp

/-- all fields of a block are as its Op asks -/
def FormedP (h : Hd) (np : Nat) : Prop :=
  (h.op = 1 ∧ np = 0 ∧ h.ax = 0 ∧ (97 ≤ h.col ∧ h.col ≤ 105) ∧ (1 ≤ h.n0 ∧ h.n0 ≤ 999) ∧ (1 ≤ h.n1 ∧ h.n1 ≤ 999) ∧ (1 ≤ h.n2 ∧ h.n2 ≤ 999)) ∨
  ((0 ≤ h.ax ∧ h.ax ≤ 2) ∧ h.col = 0 ∧ h.n2 = 0 ∧
    ((h.op = 2 ∧ np = 2 ∧ h.n0 = 0 ∧ h.n1 = 0) ∨ (h.op = 3 ∧ np = 1 ∧ h.n0 = 0 ∧ h.n1 = 0) ∨ (h.op = 4 ∧ np = 1 ∧ (0 ≤ h.n0 ∧ h.n0 ≤ 999) ∧ (1 ≤ h.n1 ∧ h.n1 ≤ 999)) ∨
     (h.op = 5 ∧ np = 1 ∧ h.n0 = 0 ∧ h.n1 = 0) ∨ (h.op = 6 ∧ np = 1 ∧ (1 ≤ h.n0 ∧ h.n0 ≤ 999) ∧ h.n1 = 0)))
instance (h : Hd) (np : Nat) : Decidable (FormedP h np) := by unfold FormedP; infer_instance
mutual
def Sound : Tree → Prop
  | .node h ps => FormedP h ps.length ∧ SoundL ps
def SoundL : List Tree → Prop
  | [] => True
  | t :: ts => Sound t ∧ SoundL ts
end
theorem soundL_iff {l : List Tree} : SoundL l ↔ ∀ p, p ∈ l → Sound p := by
  induction l with
  | nil => simp [SoundL]
  | cons a l ih => rw [SoundL, ih]; simp
mutual
def soundDec : (t : Tree) → Decidable (Sound t)
  | .node h ps => by
    have := soundLDec ps
    unfold Sound; infer_instance
def soundLDec : (l : List Tree) → Decidable (SoundL l)
  | [] => by unfold SoundL; infer_instance
  | t :: ts => by
    have := soundDec t
    have := soundLDec ts
    unfold SoundL; infer_instance
end
instance (t : Tree) : Decidable (Sound t) := soundDec t

/-- three numbers, one for each axis -/
structure E3 where
  x : Int
  y : Int
  z : Int
deriving DecidableEq, Repr
def E3.get (e : E3) (k : Int) : Int := if k = 0 then e.x else if k = 1 then e.y else e.z
def E3.set (e : E3) (k v : Int) : E3 := if k = 0 then ⟨v, e.y, e.z⟩ else if k = 1 then ⟨e.x, v, e.z⟩ else ⟨e.x, e.y, v⟩
def z3 : E3 := ⟨0, 0, 0⟩
/-- the two others of an axis exchanged -/
def exch (e : E3) (k : Int) : E3 := if k = 0 then ⟨e.x, e.z, e.y⟩ else if k = 1 then ⟨e.z, e.y, e.x⟩ else ⟨e.y, e.x, e.z⟩
def Fits (e : E3) : Prop := e.x ≤ 200 ∧ e.y ≤ 200 ∧ e.z ≤ 200 ∧ e.x * e.y * e.z ≤ 8000
instance (e : E3) : Decidable (Fits e) := by unfold Fits; infer_instance
def fit (e : E3) : E3 × Int := if Fits e then (e, 0) else (z3, 4)
/-- the extents of a block made of parts with these extents, or the error -/
def comb (h : Hd) (es : List E3) : E3 × Int :=
  let a := es.getD 0 z3
  let b := es.getD 1 z3
  if h.op = 1 then fit ⟨h.n0, h.n1, h.n2⟩
  else if h.op = 2 then (if (a.set h.ax 0) = (b.set h.ax 0) then fit (a.set h.ax (a.get h.ax + b.get h.ax)) else (z3, 21))
  else if h.op = 3 then fit (exch a h.ax)
  else if h.op = 4 then (if h.n0 + h.n1 ≤ a.get h.ax then fit (a.set h.ax h.n1) else (z3, 21))
  else if h.op = 5 then fit a
  else fit (a.set h.ax (a.get h.ax * h.n0))
mutual
def meas : Tree → E3 × Int
  | .node h ps => if (measL ps).2 = 0 then comb h (measL ps).1 else (z3, (measL ps).2)
/-- the extents of the parts up to the first that has none, and its error -/
def measL : List Tree → List E3 × Int
  | [] => ([], 0)
  | t :: ts => if (meas t).2 = 0 then ((meas t).1 :: (measL ts).1, (measL ts).2) else ([], (meas t).2)
end
/-- Extent: the extents, or the first error -/
def extV (t : Tree) : E3 × Int := if 16 < depth t then (z3, 4) else if Sound t then meas t else (z3, 20)
def Pos (e : E3) : Prop := 1 ≤ e.x ∧ 1 ≤ e.y ∧ 1 ≤ e.z
def Ok3 (e : E3) : Prop := Pos e ∧ Fits e
theorem fit_ok {e : E3} (hp : Pos e) (h : (fit e).2 = 0) : (fit e).1 = e ∧ Ok3 e := by
  unfold fit at *
  split at h
  · rename_i hf; rw [if_pos hf]; exact ⟨rfl, hp, hf⟩
  · simp at h
theorem fit_err (e : E3) : (fit e).2 = 0 ∨ (fit e).2 = 4 := by unfold fit; split <;> simp
theorem ax3 {k : Int} (h : 0 ≤ k ∧ k ≤ 2) : k = 0 ∨ k = 1 ∨ k = 2 := by omega
theorem get_pos {e : E3} (h : Pos e) (k : Int) : 1 ≤ e.get k := by
  obtain ⟨h1, h2, h3⟩ := h
  unfold E3.get; split
  · exact h1
  · split
    · exact h2
    · exact h3
theorem set_pos {e : E3} (h : Pos e) (k : Int) {v : Int} (hv : 1 ≤ v) : Pos (e.set k v) := by
  obtain ⟨h1, h2, h3⟩ := h
  unfold E3.set; split
  · exact ⟨hv, h2, h3⟩
  · split
    · exact ⟨h1, hv, h3⟩
    · exact ⟨h1, h2, hv⟩
theorem exch_pos {e : E3} (h : Pos e) (k : Int) : Pos (exch e k) := by
  obtain ⟨h1, h2, h3⟩ := h
  unfold exch; split
  · exact ⟨h1, h3, h2⟩
  · split
    · exact ⟨h3, h2, h1⟩
    · exact ⟨h2, h1, h3⟩
theorem measL_len {ps : List Tree} (h : (measL ps).2 = 0) : (measL ps).1.length = ps.length ∧ ∀ p, p ∈ ps → (meas p).2 = 0 := by
  induction ps with
  | nil => simp [measL]
  | cons t ts ih =>
    rw [measL] at h ⊢
    split at h
    · rename_i h0
      rw [if_pos h0]
      obtain ⟨i1, i2⟩ := ih h
      refine ⟨by simp [i1], fun p hp => ?_⟩
      rcases List.mem_cons.1 hp with rfl | hp
      · exact h0
      · exact i2 p hp
    · rename_i h0; exact absurd h h0
theorem measL_get {ps : List Tree} (h : (measL ps).2 = 0) : (measL ps).1 = ps.map fun p => (meas p).1 := by
  induction ps with
  | nil => rfl
  | cons t ts ih =>
    rw [measL] at h ⊢
    split at h
    · rename_i h0
      rw [if_pos h0, List.map_cons, ← ih h]
    · rename_i h0; exact absurd h h0
/-- a block that is made has positive extents that fit -/
theorem meas_ok : ∀ t, Sound t → (meas t).2 = 0 → Ok3 (meas t).1 := by
  apply Tree.ind
  intro h ps ih hs hm
  rw [Sound, soundL_iff] at hs
  obtain ⟨hf, hs⟩ := hs
  rw [meas] at hm ⊢
  split at hm
  · rename_i h0
    rw [if_pos h0]
    have hg := measL_get h0
    obtain ⟨_, hall⟩ := measL_len h0
    rw [hg] at hm ⊢
    have hp : ∀ p, p ∈ ps → Ok3 (meas p).1 := fun p hp => ih p hp (hs p hp) (hall p hp)
    unfold comb at hm ⊢
    dsimp only at hm ⊢
    rcases hf with ⟨e1, _, _, _, c1, c2, c3⟩ | ⟨_, _, _, hr⟩
    · rw [if_pos e1] at hm ⊢
      obtain ⟨k1, k2⟩ := fit_ok ⟨c1.1, c2.1, c3.1⟩ hm
      rw [k1]; exact k2
    · rcases hr with ⟨e, hl, _⟩ | ⟨e, hl, _⟩ | ⟨e, hl, _, hn⟩ | ⟨e, hl, _⟩ | ⟨e, hl, hn, _⟩
      · match ps, hl with
        | [p, q], _ =>
          rw [if_neg (by omega), if_pos e] at hm ⊢
          simp only [List.map_cons, List.getD_cons_zero, List.getD_cons_succ] at hm ⊢
          have a1 := hp p (by simp)
          have a2 := hp q (by simp)
          split at hm
          · rename_i hc
            rw [if_pos hc]
            have := get_pos a1.1 h.ax
            have := get_pos a2.1 h.ax
            obtain ⟨k1, k2⟩ := fit_ok (set_pos a1.1 h.ax (by omega)) hm
            rw [k1]; exact k2
          · simp at hm
      · match ps, hl with
        | [p], _ =>
          rw [if_neg (by omega), if_neg (by omega), if_pos e] at hm ⊢
          obtain ⟨k1, k2⟩ := fit_ok (exch_pos (hp p (by simp)).1 h.ax) hm
          simp only [List.map_cons, List.getD_cons_zero] at k1 k2 ⊢
          rw [k1]; exact k2
      · match ps, hl with
        | [p], _ =>
          rw [if_neg (by omega), if_neg (by omega), if_neg (by omega), if_pos e] at hm ⊢
          simp only [List.map_cons, List.getD_cons_zero] at hm ⊢
          split at hm
          · rename_i hc
            rw [if_pos hc]
            obtain ⟨k1, k2⟩ := fit_ok (set_pos (hp p (by simp)).1 h.ax hn.1) hm
            rw [k1]; exact k2
          · simp at hm
      · match ps, hl with
        | [p], _ =>
          rw [if_neg (by omega), if_neg (by omega), if_neg (by omega), if_neg (by omega), if_pos e] at hm ⊢
          obtain ⟨k1, k2⟩ := fit_ok (hp p (by simp)).1 hm
          simp only [List.map_cons, List.getD_cons_zero] at k1 k2 ⊢
          rw [k1]; exact k2
      · match ps, hl with
        | [p], _ =>
          rw [if_neg (by omega), if_neg (by omega), if_neg (by omega), if_neg (by omega), if_neg (by omega)] at hm ⊢
          have a1 := hp p (by simp)
          have := get_pos a1.1 h.ax
          simp only [List.map_cons, List.getD_cons_zero] at hm ⊢
          have hmul : 1 ≤ (meas p).1.get h.ax * h.n0 := by
            have := Int.mul_pos (show 0 < (meas p).1.get h.ax by omega) (show 0 < h.n0 by omega)
            omega
          obtain ⟨k1, k2⟩ := fit_ok (set_pos a1.1 h.ax hmul) hm
          rw [k1]; exact k2
  · rename_i h0; exact absurd hm h0
end Go.Proofs.YticjhkfidgkecaaGreatDoor.Pl
