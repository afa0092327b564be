/- Plain: what is given to barrels is judged right. -/
import Derived.Test.YtlfbfdhdkccaeaaP17
namespace Go.Proofs.Ytlfbfdhdkccaeaa.Pl

theorem perm_set {α : Type} (r : α) : ∀ (out : List (List α)) (k : Nat), k < out.length → (out.set k (out.getD k [] ++ [r])).flatten.Perm (out.flatten ++ [r])
  | [], k, h => absurd h (Nat.not_lt_zero _)
  | a :: out, 0, _ => by
    show ((a ++ [r]) ++ out.flatten).Perm ((a ++ out.flatten) ++ [r])
    rw [List.append_assoc, List.append_assoc]
    exact List.Perm.append_left a List.perm_append_comm
  | a :: out, k + 1, h => by
    show (a ++ (out.set k (out.getD k [] ++ [r])).flatten).Perm ((a ++ out.flatten) ++ [r])
    rw [List.append_assoc]
    exact List.Perm.append_left a (perm_set r out k (by simpa using h))
theorem getD_snoc_lt {α : Type} {L : List α} {r z : α} {j : Nat} (h : j < L.length) : (L ++ [r]).getD j z = L.getD j z := by
  rw [List.getD_eq_getElem?_getD, List.getElem?_append_left h, ← List.getD_eq_getElem?_getD]
theorem getD_snoc_eq {α : Type} {L : List α} {r z : α} : (L ++ [r]).getD L.length z = r := by
  rw [List.getD_eq_getElem?_getD, List.getElem?_append_right (Nat.le_refl _), Nat.sub_self]; rfl
theorem Rg.snoc {l : List Bt} {cl : Int} {L : List Rn} {r : Rn} {j : Nat} (hj : j < L.length) (h : Rg l cl L j) : Rg l cl (L ++ [r]) j := by
  obtain ⟨a, b, c, d, e, f, g⟩ := h
  have e1 : (L ++ [r]).getD j zr = L.getD j zr := getD_snoc_lt hj
  have e2 : (L ++ [r]).getD (j - 1) zr = L.getD (j - 1) zr := getD_snoc_lt (by omega)
  constructor <;> simp only [e1, e2] <;> assumption
/-- how often is cleaned -/
def nc (runs : List (List Rn)) : Nat := (runs.flatten.filter (·.c)).length
/-- what is so while batches are given to barrels -/
structure Iv (l : List Bt) (cl : Int) (b : Nat) (f : Nat → Int) (out : List (List Rn)) (el : List Int) (m : Nat) : Prop where
  len : out.length = b
  rg : ∀ k, k < b → ∀ j, j < (out.getD k []).length → Rg l cl (out.getD k []) j
  fz : ∀ k, k < b → (out.getD k []).length = 0 → f k = 0
  fl : ∀ k, k < b → 0 < (out.getD k []).length → f k = ((out.getD k []).getD ((out.getD k []).length - 1) zr).t
  f0 : ∀ k, 0 ≤ f k
  pm : (out.flatten.map (·.b)).Perm el
  cnt : nc out = m
theorem Iv.step {l : List Bt} (ho : Ok l) {cl : Int} (h0 : 0 ≤ cl) {b : Nat} {f : Nat → Int} {out : List (List Rn)} {el : List Int} {m : Nat} (h : Iv l cl b f out el m) {k : Nat} (hk : k < b) {i : Int} (hi : 0 ≤ i ∧ i < (l.length : Int)) {c : Bool}
    (hc : c = false → 0 < (out.getD k []).length ∧ may (at' l ((out.getD k []).getD ((out.getD k []).length - 1) zr).b.toNat) (at' l i.toNat) = true) :
    Iv l cl b (fun q => if q = k then (mkr l cl (f k) i c).t else f q) (out.set k (out.getD k [] ++ [mkr l cl (f k) i c])) (el ++ [i]) (m + if c = true then 1 else 0) := by
  have hk' : k < out.length := by rw [h.len]; exact hk
  have hget : ∀ q, (out.set k (out.getD k [] ++ [mkr l cl (f k) i c])).getD q [] = if q = k then out.getD k [] ++ [mkr l cl (f k) i c] else out.getD q [] := fun q => by
    by_cases e : q = k
    · subst e; rw [if_pos rfl, List.getD_eq_getElem?_getD, List.getElem?_set_self hk']; rfl
    · rw [if_neg e, List.getD_eq_getElem?_getD, List.getElem?_set_ne (Ne.symm e), ← List.getD_eq_getElem?_getD]
  have hperm := perm_set (mkr l cl (f k) i c) out k hk'
  have hlen := (ho.vb i.toNat (by omega)).len0
  have hhc : 0 ≤ Pl.hc c cl := by unfold Pl.hc; split <;> omega
  refine ⟨by rw [List.length_set]; exact h.len, fun q hq j hj => ?_, fun q hq h1 => ?_, fun q hq h1 => ?_, fun q => ?_, ?_, ?_⟩
  · rw [hget q] at hj ⊢
    by_cases e : q = k
    · subst e
      rw [if_pos rfl] at hj ⊢
      have hrg := h.rg q hq
      have hfz := h.fz q hq
      have hfl := h.fl q hq
      have hf0 := h.f0 q
      generalize out.getD q [] = L at *
      rw [List.length_append, List.length_singleton] at hj
      rcases Nat.lt_succ_iff_lt_or_eq.1 hj with h1 | rfl
      · exact (hrg j h1).snoc h1
      · have e1 : (L ++ [mkr l cl (f q) i c]).getD L.length zr = mkr l cl (f q) i c := getD_snoc_eq
        constructor <;> simp only [e1]
        · exact hi.1
        · exact hi.2
        · exact hf0
        · show f q ≤ f q + (Pl.hc c cl + Pl.len (at' l i.toNat)) ∧ f q + (Pl.hc c cl + Pl.len (at' l i.toNat)) - f q = Pl.hc c cl + Pl.len (at' l i.toNat)
          omega
        · intro h2
          rw [getD_snoc_lt (by omega), ← hfl h2]; exact Int.le_refl _
        · intro h2
          cases c
          · have := (hc rfl).1; omega
          · rfl
        · intro h2 h3
          rw [getD_snoc_lt (by omega)]
          exact (hc h3).2
    · rw [if_neg e] at hj ⊢
      exact h.rg q hq j hj
  · rw [hget q] at h1
    by_cases e : q = k
    · rw [if_pos e] at h1; simp at h1
    · rw [if_neg e] at h1
      show (if q = k then _ else _) = _
      rw [if_neg e]; exact h.fz q hq h1
  · rw [hget q] at h1 ⊢
    show (if q = k then _ else _) = _
    by_cases e : q = k
    · rw [if_pos e, if_pos e, List.length_append, List.length_singleton, Nat.add_sub_cancel, getD_snoc_eq]
    · rw [if_neg e] at h1
      rw [if_neg e, if_neg e]; exact h.fl q hq h1
  · show 0 ≤ (if q = k then _ else _)
    split
    · have := h.f0 k
      show 0 ≤ f k + (Pl.hc c cl + Pl.len (at' l i.toNat))
      omega
    · exact h.f0 q
  · refine (hperm.map _).trans ?_
    rw [List.map_append]
    exact h.pm.append_right _
  · unfold nc
    rw [(hperm.filter _).length_eq, List.filter_append, List.length_append]
    have : (out.flatten.filter (·.c)).length = m := h.cnt
    rw [this]
    cases c <;> simp [mkr]
/-- the rows are right -/
structure Rr (l : List Bt) (rows : List (List Int)) : Prop where
  ix : ∀ m, m < rows.length → Ix l (rows.getD m [])
  ne : ∀ m, m < rows.length → 0 < (rows.getD m []).length
  my : ∀ m, m < rows.length → ∀ j, j < (rows.getD m []).length → 0 < j → may (at' l ((rows.getD m []).getD (j - 1) 0).toNat) (at' l ((rows.getD m []).getD j 0).toNat) = true
  nd : rows.flatten.Nodup
  cv : cov l.length rows.flatten = true
theorem Rr.of {l : List Bt} {rows : List (List Int)} (h : ckE l rows = 0) : vs l = true ∧ Rr l rows := by
  obtain ⟨hv, hi⟩ := ck_zero h
  refine ⟨hv, ?_⟩
  rw [ckE_ok hv] at h
  unfold ckR at h
  split at h
  · cases h
  split at h
  · cases h
  rename_i h2
  split at h
  · cases h
  rename_i h3
  split at h
  · cases h
  rename_i h4
  refine ⟨hi, fun m hm => ?_, fun m hm j hj h0 => ?_, Classical.not_not.1 h2, ?_⟩
  · rcases Nat.eq_zero_or_pos (rows.getD m []).length with e | e
    · exact absurd (.inr (any_one (p := fun r => decide (r.length = 0)) hm (decide_eq_true e))) h4
    · exact e
  · cases e : may (at' l ((rows.getD m []).getD (j - 1) 0).toNat) (at' l ((rows.getD m []).getD j 0).toNat)
    · exact absurd (any_one hm (dty_yes hj h0 e)) h3
    · rfl
  · cases e : cov l.length rows.flatten
    · exact absurd (.inl e) h4
    · rfl
/-- the state after j of row m -/
theorem iv_row {l : List Bt} (ho : Ok l) {cl : Int} (h0 : 0 ≤ cl) {b : Nat} {rows : List (List Int)} (hr : Rr l rows) {m : Nat} (hm : m < rows.length) {s : (Nat → Int) × List (List Rn)} {k : Nat} (hk : k < b) {el : List Int} {z : Nat} (h : Iv l cl b s.1 s.2 el z) :
    ∀ j, j ≤ (rows.getD m []).length → Iv l cl b (ar l cl s k (rows.getD m []) j).1 (ar l cl s k (rows.getD m []) j).2 (el ++ (rows.getD m []).take j) (z + if j = 0 then 0 else 1) ∧
      (0 < j → 0 < ((ar l cl s k (rows.getD m []) j).2.getD k []).length ∧ (((ar l cl s k (rows.getD m []) j).2.getD k []).getD (((ar l cl s k (rows.getD m []) j).2.getD k []).length - 1) zr).b = (rows.getD m []).getD (j - 1) 0)
  | 0, _ => by
    refine ⟨?_, fun h => absurd h (Nat.lt_irrefl _)⟩
    simpa [ar] using h
  | j + 1, hj => by
    obtain ⟨i1, i2⟩ := iv_row ho h0 hr hm hk h j (by omega)
    have hi := hr.ix m hm j (by omega)
    have hmy := hr.my m hm j (by omega)
    rw [ar]
    generalize ar l cl s k (rows.getD m []) j = p at *
    obtain ⟨f, out⟩ := p
    have st := i1.step ho h0 hk hi (c := decide (j = 0)) (fun hc => by
      have hj0 : 0 < j := by have := of_decide_eq_false hc; omega
      obtain ⟨a1, a2⟩ := i2 hj0
      refine ⟨a1, ?_⟩
      rw [a2]; exact hmy hj0)
    have hk' : k < out.length := by have := i1.len; simp only at this; omega
    refine ⟨?_, fun _ => ?_⟩
    · rw [take_getD 0 (by omega), ← List.append_assoc]
      have e : (z + if j = 0 then 0 else 1) + (if decide (j = 0) = true then 1 else 0) = z + if j + 1 = 0 then 0 else 1 := by
        by_cases c : j = 0 <;> simp [c]
      rw [← e]; exact st
    · show 0 < ((out.set k _).getD k []).length ∧ _
      have e : (out.set k (out.getD k [] ++ [mkr l cl (f k) ((rows.getD m []).getD j 0) (decide (j = 0))])).getD k [] = out.getD k [] ++ [mkr l cl (f k) ((rows.getD m []).getD j 0) (decide (j = 0))] := by
        rw [List.getD_eq_getElem?_getD, List.getElem?_set_self hk']; rfl
      rw [e]
      refine ⟨by simp, ?_⟩
      rw [List.length_append, List.length_singleton, Nat.add_sub_cancel, getD_snoc_eq]; rfl
theorem iv_all {l : List Bt} (ho : Ok l) {cl : Int} (h0 : 0 ≤ cl) {b : Nat} (hb : 0 < b) {rows : List (List Int)} (hr : Rr l rows) : ∀ m, m ≤ rows.length → Iv l cl b (asg l cl b rows m).1 (asg l cl b rows m).2 (fl rows m) m
  | 0, _ => by
    rw [asg, fl_zero]
    have e : ∀ k, (List.replicate b ([] : List Rn)).getD k [] = [] := fun k => by
      rw [List.getD_eq_getElem?_getD, List.getElem?_replicate]; split <;> rfl
    have e2 : (List.replicate b ([] : List Rn)).flatten = [] := by
      rw [List.flatten_eq_nil_iff]; intro x hx; exact (List.mem_replicate.1 hx).2
    refine ⟨by simp, fun k _ j hj => ?_, fun _ _ _ => rfl, fun k _ hk => ?_, fun _ => Int.le_refl _, ?_, ?_⟩
    · simp only [e] at hj; exact absurd hj (Nat.not_lt_zero _)
    · simp only [e] at hk; exact absurd hk (Nat.not_lt_zero _)
    · simp only [e2]; exact List.Perm.refl _
    · unfold nc; simp only [e2]; rfl
  | m + 1, hm => by
    have ih := iv_all ho h0 hb hr m (by omega)
    have h := (iv_row ho h0 hr (m := m) (by omega) (fm_spec (asg l cl b rows m).1 b hb).1 ih _ (Nat.le_refl _)).1
    rw [List.take_length, if_neg (by have := hr.ne m (by omega); omega), ← fl_succ (by omega)] at h
    rw [asg]; exact h
theorem db_sub {runs : List (List Rn)} {k j : Nat} (hk : k < runs.length) : List.Sublist (db runs k j) (runs.flatten.map (·.b)) := by
  unfold db
  refine List.Sublist.map _ ?_
  have e : runs.flatten = (runs.take k).flatten ++ ((runs.getD k []) ++ (runs.drop (k + 1)).flatten) := by
    have e1 : runs.getD k [] = runs[k] := by rw [List.getD_eq_getElem?_getD, List.getElem?_eq_getElem hk]; rfl
    rw [e1, ← List.flatten_cons, ← List.drop_eq_getElem_cons hk, ← List.flatten_append, List.take_append_drop]
  rw [e]
  exact List.Sublist.append (List.Sublist.refl _) ((List.take_sublist _ _).trans (List.sublist_append_left _ _))
/-- what is given to barrels is judged right, and cleaned as often as there are rows -/
theorem made_judged {l : List Bt} {rows : List (List Int)} {b cl : Int} (hck : ckE l rows = 0) (hs' : shop b cl = true) :
    (asV l rows b cl).length = b.toNat ∧ nc (asV l rows b cl) = rows.length ∧ cwd (asV l rows b cl) = false ∧ Jok l cl (asV l rows b cl) (asV l rows b cl).length 0 ∧ cov l.length ((asV l rows b cl).flatten.map (·.b)) = true ∧ (asV l rows b cl).flatten.length ≤ l.length := by
  obtain ⟨hv, hr⟩ := Rr.of hck
  have ho := ok_of hv
  have hS := shop_true.1 hs'
  have I := iv_all ho hS.2.1 (b := b.toNat) (by omega) hr rows.length (Nat.le_refl _)
  rw [fl_all] at I
  rw [asV_ok (asE_ok hck hs')]
  generalize (asg l cl b.toNat rows rows.length).2 = out at *
  have hN : (out.flatten.map (·.b)).Nodup := I.pm.nodup_iff.2 hr.nd
  have hix : ∀ x, x ∈ out.flatten.map (·.b) → 0 ≤ x ∧ x < (l.length : Int) := fun x hx => by
    obtain ⟨r, hr', rfl⟩ := List.mem_map.1 hx
    obtain ⟨k, j, hk, hj, rfl⟩ := of_mem_runs hr'
    have := I.rg k (by rw [← I.len]; exact hk) j hj
    exact ⟨this.b0, this.b1⟩
  have hlen : out.flatten.length ≤ l.length := by
    have := List.Nodup.length_le_of_subset hN (l₂ := (List.range l.length).map (fun q : Nat => (q : Int))) (fun x hx => by
      obtain ⟨p0, p1⟩ := hix x hx
      exact List.mem_map.2 ⟨x.toNat, List.mem_range.2 (by omega), by omega⟩)
    rw [List.length_map, List.length_map, List.length_range] at this; exact this
  refine ⟨I.len, I.cnt, ?_, fun k j hk hj _ => ?_, ?_, hlen⟩
  · unfold cwd
    rw [Bool.or_eq_false_iff]
    refine ⟨decide_eq_false (by rw [I.len]; omega), ?_⟩
    rw [List.any_eq_false]
    intro r hr'
    have h1 : r.length ≤ out.flatten.length := (List.sublist_flatten_of_mem hr').length_le
    have := ho.len
    simp only [decide_eq_true_eq]
    omega
  · refine (I.rg k (by rw [← I.len]; exact hk) j hj).jr ?_
    have h1 : (db out k (j + 1)).Nodup := hN.sublist (db_sub hk)
    rw [db_succ hj] at h1
    exact (nodup_snoc.1 h1).2
  · refine decide_eq_true fun q hq => ?_
    exact I.pm.mem_iff.2 ((of_decide_eq_true hr.cv) q hq)
end Go.Proofs.Ytlfbfdhdkccaeaa.Pl
