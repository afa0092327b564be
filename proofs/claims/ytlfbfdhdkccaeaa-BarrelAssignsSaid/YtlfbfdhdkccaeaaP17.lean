/- Plain: nothing that is judged right ends before the bound. -/
import Derived.Test.YtlfbfdhdkccaeaaP16
namespace Go.Proofs.Ytlfbfdhdkccaeaa.Pl

/-- the hours of some batches -/
def hs (l : List Bt) : List Int → Int
  | [] => 0
  | i :: d => len (at' l i.toNat) + hs l d
theorem hs_append (l : List Bt) : ∀ a b, hs l (a ++ b) = hs l a + hs l b
  | [], b => by simp [hs]
  | i :: a, b => by rw [List.cons_append, hs, hs, hs_append l a b]; omega
theorem hs_erase (l : List Bt) {x : Int} : ∀ {d : List Int}, x ∈ d → hs l d = len (at' l x.toNat) + hs l (d.erase x)
  | [], h => absurd h List.not_mem_nil
  | i :: d, h => by
    by_cases e : i = x
    · subst e; rw [List.erase_cons_head]; rfl
    · rw [List.erase_cons_tail (by simpa using e), hs, hs]
      have := hs_erase l (d := d) (by
        rcases List.mem_cons.1 h with c | c
        · exact absurd c.symm e
        · exact c)
      omega
theorem hs_nn {l : List Bt} (h : Ok l) : ∀ {d : List Int}, (∀ x, x ∈ d → 0 ≤ x ∧ x < (l.length : Int)) → 0 ≤ hs l d
  | [], _ => Int.le_refl _
  | i :: d, hd => by
    have h1 := hd i (List.mem_cons_self ..)
    have h2 := (h.vb i.toNat (by omega)).len0
    have h3 := hs_nn h (d := d) (fun x hx => hd x (List.mem_cons_of_mem _ hx))
    rw [hs]; omega
/-- what has all indexes takes as long as all together, at least -/
theorem sk_hs {l : List Bt} (h : Ok l) : ∀ K (d : List Int), K ≤ l.length → d.Nodup → (∀ x, x ∈ d → 0 ≤ x ∧ x < (l.length : Int)) → (∀ q : Nat, q < K → (q : Int) ∈ d) → sk l K ≤ hs l d
  | 0, d, _, _, hi, _ => hs_nn h hi
  | K + 1, d, hK, hd, hi, hc => by
    have h1 := sk_hs h K (d.erase (K : Int)) (by omega) (hd.erase _) (fun x hx => hi x (List.mem_of_mem_erase hx)) (fun q hq => by
      rw [List.Nodup.mem_erase_iff hd]
      exact ⟨by omega, hc q (by omega)⟩)
    rw [hs_erase l (hc K (Nat.lt_succ_self K)), sk, show (K : Int).toNat = K from rfl]
    omega
/-- what is right about a run -/
structure Rg (l : List Bt) (cl : Int) (list : List Rn) (j : Nat) : Prop where
  b0 : 0 ≤ (list.getD j zr).b
  b1 : (list.getD j zr).b < (l.length : Int)
  f0 : 0 ≤ (list.getD j zr).f
  fit : (list.getD j zr).f ≤ (list.getD j zr).t ∧ (list.getD j zr).t - (list.getD j zr).f = hc (list.getD j zr).c cl + len (at' l (list.getD j zr).b.toNat)
  chain : 0 < j → (list.getD (j - 1) zr).t ≤ (list.getD j zr).f
  first : j = 0 → (list.getD j zr).c = true
  mays : 0 < j → (list.getD j zr).c = false → may (at' l (list.getD (j - 1) zr).b.toNat) (at' l (list.getD j zr).b.toNat) = true
theorem Rg.of {l : List Bt} {cl : Int} {done : List Int} {list : List Rn} {j : Nat} (h : jr l cl done list j = 0) : Rg l cl list j := by
  unfold jr at h
  split at h
  · cases h
  rename_i h1
  split at h
  · cases h
  split at h
  · cases h
  rename_i h3
  split at h
  · cases h
  rename_i h4
  have h1 := Classical.not_not.1 h1
  have h5 : er (at' l (list.getD j zr).b.toNat) (list.getD j zr) cl = true := by
    cases e : er (at' l (list.getD j zr).b.toNat) (list.getD j zr) cl
    · exact absurd (.inr e) h3
    · rfl
  refine ⟨h1.1.1, h1.1.2, h1.2, er_true.1 h5, fun h0 => ?_, fun h0 => ?_, fun h0 hc => ?_⟩
  · rcases Int.lt_or_le (list.getD j zr).f (list.getD (j - 1) zr).t with c | c
    · exact absurd (.inl ⟨h0, c⟩) h3
    · exact c
  · cases e : (list.getD j zr).c
    · exact absurd ⟨e, .inl h0⟩ h4
    · rfl
  · cases e : may (at' l (list.getD (j - 1) zr).b.toNat) (at' l (list.getD j zr).b.toNat)
    · exact absurd ⟨hc, .inr e⟩ h4
    · rfl
theorem Rg.jr {l : List Bt} {cl : Int} {done : List Int} {list : List Rn} {j : Nat} (h : Rg l cl list j) (hd : (list.getD j zr).b ∉ done) : jr l cl done list j = 0 := by
  refine jr_ok ⟨⟨h.b0, h.b1⟩, h.f0⟩ hd ?_ ?_
  · rintro (⟨h0, h1⟩ | h1)
    · have := h.chain h0; omega
    · rw [er_true.2 h.fit] at h1; cases h1
  · rintro ⟨h1, h2⟩
    rcases Nat.eq_zero_or_pos j with h0 | h0
    · rw [h.first h0] at h1; cases h1
    · rcases h2 with h2 | h2
      · omega
      · rw [h.mays h0 h1] at h2; cases h2
theorem take_getD {α : Type} {list : List α} {j : Nat} (z : α) (hj : j < list.length) : list.take (j + 1) = list.take j ++ [list.getD j z] := by
  rw [List.take_succ_eq_append_getElem hj, List.getD_eq_getElem?_getD, List.getElem?_eq_getElem hj]; rfl
/-- behind so many runs so many hours are over, and those of cleaning -/
theorem end_ge {l : List Bt} (ho : Ok l) {cl : Int} (h0 : 0 ≤ cl) {list : List Rn} (h : ∀ j, j < list.length → Rg l cl list j) : ∀ j, j < list.length → cl + hs l ((list.take (j + 1)).map (·.b)) ≤ (list.getD j zr).t
  | 0, hj => by
    have h1 := h 0 hj
    rw [take_getD zr hj]
    have h2 := h1.fit.2
    rw [h1.first rfl] at h2
    have h3 := h1.f0
    simp only [List.take_zero, List.nil_append, List.map_cons, List.map_nil, hs]
    unfold hc at h2
    simp only [if_true] at h2
    omega
  | j + 1, hj => by
    have ih := end_ge ho h0 h j (by omega)
    have h1 := h (j + 1) hj
    rw [take_getD zr hj, List.map_append, hs_append]
    have h2 := h1.fit.2
    have h3 := h1.chain (Nat.succ_pos j)
    rw [Nat.add_sub_cancel] at h3
    have h4 := hc_bd (c := (list.getD (j + 1) zr).c) h0 (cl := cl)
    have h5 : 0 ≤ hc (list.getD (j + 1) zr).c cl := by unfold hc; split <;> omega
    simp only [List.map_cons, List.map_nil, hs]
    omega
/-- the greatest end -/
def IsEnd (runs : List (List Rn)) (e : Int) : Prop :=
  (runs.flatten = [] ∧ e = 0) ∨ ((∃ r, r ∈ runs.flatten ∧ r.t = e) ∧ ∀ r, r ∈ runs.flatten → r.t ≤ e)
theorem IsEnd.uniq {runs : List (List Rn)} {e e' : Int} (h : IsEnd runs e) (h' : IsEnd runs e') : e = e' := by
  rcases h with ⟨h1, h2⟩ | ⟨⟨r, h1, h2⟩, h3⟩
  · rcases h' with ⟨g1, g2⟩ | ⟨⟨r', g1, g2⟩, g3⟩
    · omega
    · rw [h1] at g1; exact absurd g1 List.not_mem_nil
  · rcases h' with ⟨g1, g2⟩ | ⟨⟨r', g1, g2⟩, g3⟩
    · rw [g1] at h1; exact absurd h1 List.not_mem_nil
    · have := h3 r' g1
      have := g3 r h1
      omega
theorem getD_memR {α : Type} {row : List α} {j : Nat} (z : α) (hj : j < row.length) : row.getD j z ∈ row := by
  rw [List.getD_eq_getElem?_getD, List.getElem?_eq_getElem hj]; exact List.getElem_mem hj
theorem mem_runs {runs : List (List Rn)} {k j : Nat} (hk : k < runs.length) (hj : j < (runs.getD k []).length) : (runs.getD k []).getD j zr ∈ runs.flatten := by
  rw [List.getD_eq_getElem?_getD (l := runs), List.getElem?_eq_getElem hk] at hj ⊢
  simp only [Option.getD_some] at hj ⊢
  rw [List.getD_eq_getElem?_getD, List.getElem?_eq_getElem hj]
  exact List.mem_flatten.2 ⟨_, List.getElem_mem hk, List.getElem_mem hj⟩
theorem of_mem_runs {runs : List (List Rn)} {r : Rn} (h : r ∈ runs.flatten) : ∃ k j, k < runs.length ∧ j < (runs.getD k []).length ∧ (runs.getD k []).getD j zr = r := by
  obtain ⟨row, h1, h2⟩ := List.mem_flatten.1 h
  obtain ⟨k, hk, rfl⟩ := List.getElem_of_mem h1
  obtain ⟨j, hj, rfl⟩ := List.getElem_of_mem h2
  refine ⟨k, j, hk, ?_, ?_⟩ <;> rw [List.getD_eq_getElem?_getD (l := runs), List.getElem?_eq_getElem hk]
  · exact hj
  · simp [List.getD_eq_getElem?_getD, List.getElem?_eq_getElem hj]
theorem hs_one {l : List Bt} (ho : Ok l) {d : List Int} (hd : ∀ x, x ∈ d → 0 ≤ x ∧ x < (l.length : Int)) {x : Int} (hx : x ∈ d) : len (at' l x.toNat) ≤ hs l d := by
  rw [hs_erase l hx]
  have := hs_nn ho (d := d.erase x) (fun y hy => hd y (List.mem_of_mem_erase hy))
  omega
/-- how many of the first k barrels are used -/
def ub (runs : List (List Rn)) : Nat → Nat
  | 0 => 0
  | k + 1 => ub runs k + if (runs.getD k []).length = 0 then 0 else 1
theorem ub_le (runs : List (List Rn)) : ∀ k, ub runs k ≤ k
  | 0 => Nat.le_refl _
  | k + 1 => by have := ub_le runs k; rw [ub]; split <;> omega
theorem ub_db {runs : List (List Rn)} : ∀ k, k ≤ runs.length → ub runs k ≤ (db runs k 0).length
  | 0, _ => Nat.zero_le _
  | k + 1, hk => by
    have ih := ub_db (runs := runs) k (by omega)
    rw [← db_next (runs := runs) (k := k) (j := (runs.getD k []).length) (by omega) (Nat.le_refl _), ub]
    have e : (db runs k (runs.getD k []).length).length = (db runs k 0).length + (runs.getD k []).length := by simp [db]
    rw [e]
    split <;> omega
theorem mul_up {u : Nat} {D S h : Int} (h1 : S ≤ u * D) (h2 : h ≤ D) : S + h ≤ ((u + 1 : Nat) : Int) * D := by
  rw [Int.natCast_add, Int.add_mul]; omega
/-- the bound -/
theorem bound_le {l : List Bt} (hv : vs l = true) {b cl : Int} (hs' : shop b cl = true) {runs : List (List Rn)} (hb : (runs.length : Int) ≤ b) (hJ : Jok l cl runs runs.length 0) (hc : cov l.length (runs.flatten.map (·.b)) = true) {e : Int} (he : IsEnd runs e) : bdV l b cl ≤ e := by
  have ho := ok_of hv
  have hS := shop_true.1 hs'
  have hR : ∀ k, k < runs.length → ∀ j, j < (runs.getD k []).length → Rg l cl (runs.getD k []) j := fun k hk j hj => Rg.of (hJ k j hk hj (.inl hk))
  obtain ⟨hN, hI⟩ := Jok.done runs.length (Nat.le_refl _) 0 (.inr rfl) (Nat.zero_le _) hJ
  rw [db_end] at hN hI
  have hC : ∀ q : Nat, q < l.length → (q : Int) ∈ runs.flatten.map (·.b) := of_decide_eq_true hc
  have hix : ∀ k, k < runs.length → ∀ x, x ∈ ((runs.getD k []).map (·.b)) → 0 ≤ x ∧ x < (l.length : Int) := fun k hk x hx => by
    obtain ⟨r, hr, rfl⟩ := List.mem_map.1 hx
    obtain ⟨j, hj, rfl⟩ := List.getElem_of_mem hr
    have := hR k hk j hj
    have e1 : (runs.getD k []).getD j zr = (runs.getD k [])[j] := by rw [List.getD_eq_getElem?_getD, List.getElem?_eq_getElem hj]; rfl
    rw [← e1]; exact ⟨this.b0, this.b1⟩
  have hle : ∀ r, r ∈ runs.flatten → r.t ≤ e := fun r hr => by
    rcases he with ⟨h1, h2⟩ | ⟨_, h3⟩
    · rw [h1] at hr; exact absurd hr List.not_mem_nil
    · exact h3 r hr
  -- a barrel that is used
  have hbar : ∀ k, k < runs.length → 0 < (runs.getD k []).length → cl + hs l ((runs.getD k []).map (·.b)) ≤ e := fun k hk h0 => by
    have h1 := end_ge ho hS.2.1 (hR k hk) ((runs.getD k []).length - 1) (by omega)
    rw [show (runs.getD k []).length - 1 + 1 = (runs.getD k []).length from by omega, List.take_length] at h1
    have := hle _ (mem_runs hk (j := (runs.getD k []).length - 1) (by omega))
    omega
  unfold bdV
  rw [if_pos (bdE_ok hv hs')]
  have hbd := (sk_bd ho l.length (Nat.le_refl _))
  by_cases hz : us l b = 0
  · rw [if_pos hz]
    rcases he with ⟨h1, h2⟩ | ⟨⟨r, h1, h2⟩, h3⟩
    · omega
    · obtain ⟨k, j, hk, hj, rfl⟩ := of_mem_runs h1
      have := hR k hk j hj
      have := this.f0
      have := (hR k hk j hj).fit.1
      omega
  rw [if_neg hz]
  have hn : 0 < l.length := by unfold us at hz; omega
  -- each batch
  have hone : ∀ q, q < l.length → cl + len (at' l q) ≤ e := fun q hq => by
    obtain ⟨r, hr, hq2⟩ := List.mem_map.1 (hC q hq)
    obtain ⟨k, j, hk, hj, rfl⟩ := of_mem_runs hr
    have h1 := hbar k hk (by omega)
    have h2 := hs_one ho (hix k hk) (x := (q : Int)) (by
      rw [← hq2]
      exact List.mem_map.2 ⟨(runs.getD k []).getD j zr, getD_memR zr hj, rfl⟩)
    rw [show (q : Int).toNat = q from rfl] at h2
    omega
  have hmk : ∀ k, k ≤ l.length → 0 < k → cl + mk l k ≤ e := by
    intro k
    induction k with
    | zero => intro _ h; omega
    | succ k ih =>
      intro h1 _
      have h2 := hone k (by omega)
      rw [mk]
      rcases Nat.eq_zero_or_pos k with rfl | h0
      · have h3 := (ho.vb 0 (by omega)).len0
        simp only [mk]; omega
      · have := ih (by omega) h0; omega
  have hm := hmk l.length (Nat.le_refl _) hn
  -- all together
  have hall : ∀ k, k ≤ runs.length → hs l (db runs k 0) ≤ ub runs k * (e - cl) := by
    intro k
    induction k with
    | zero => intro _; rw [db_zero]; simp [ub, hs]
    | succ k ih =>
      intro hk
      have h1 := ih (by omega)
      have e1 : db runs (k + 1) 0 = db runs k 0 ++ (runs.getD k []).map (·.b) := by
        rw [← db_next (by omega) (Nat.le_refl _)]; simp [db]
      rw [e1, hs_append, ub]
      by_cases h0 : (runs.getD k []).length = 0
      · rw [if_pos h0, List.length_eq_zero_iff.1 h0]; simpa [hs] using h1
      · rw [if_neg h0]
        exact mul_up h1 (by have := hbar k (by omega) (by omega); omega)
  have h1 := hall runs.length (Nat.le_refl _)
  rw [db_end] at h1
  have h2 := sk_hs ho l.length (runs.flatten.map (·.b)) (Nat.le_refl _) hN hI hC
  have h3 := ub_le runs runs.length
  have h4 := ub_db (runs := runs) runs.length (Nat.le_refl _)
  rw [db_end] at h4
  have h5 : (runs.flatten.map (·.b)).length ≤ l.length := by
    have := List.Nodup.length_le_of_subset hN (l₂ := (List.range l.length).map (fun q : Nat => (q : Int))) (fun x hx => by
      obtain ⟨p0, p1⟩ := hI x hx
      exact List.mem_map.2 ⟨x.toNat, List.mem_range.2 (by omega), by omega⟩)
    simpa using this
  have hu : (ub runs runs.length : Int) ≤ us l b := by unfold us; omega
  have hD : 0 ≤ e - cl := by omega
  generalize ub runs runs.length = u at *
  generalize sk l l.length = S at *
  obtain ⟨D, rfl⟩ : ∃ D, e = cl + D := ⟨e - cl, by omega⟩
  rw [show cl + D - cl = D from by omega] at h1 hD
  have h6 : S ≤ us l b * D := by
    have := Int.mul_le_mul_of_nonneg_right hu hD
    omega
  have h7 : cd S (us l b) ≤ D := by
    unfold cd
    have hpos : 0 < us l b := by unfold us at hz ⊢; omega
    have hlt : S + us l b - 1 < us l b * (D + 1) := by rw [Int.mul_add]; omega
    have := Int.ediv_lt_of_lt_mul hpos (by rw [Int.mul_comm]; exact hlt)
    omega
  omega
end Go.Proofs.Ytlfbfdhdkccaeaa.Pl
