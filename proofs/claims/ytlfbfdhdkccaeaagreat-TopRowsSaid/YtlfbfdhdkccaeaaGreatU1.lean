/- Plain: what TopRows asks: the first batches; the hours of all barrels together. -/
import Derived.Test.YtlfbfdhdkccaeaaGreatPZ
namespace Go.Proofs.YtlfbfdhdkccaeaaGreat.Pl

theorem vs_take {l : List Bt} (h : vs l = true) (k : Nat) : vs (l.take k) = true := by
  obtain ⟨h1, h2, h3⟩ := vs_iff.1 h
  refine vs_iff.2 ⟨by have := List.length_take_le k l; have := List.length_take_le' k l; omega, fun t ht => h2 t (List.mem_of_mem_take ht), h3.sublist (List.take_sublist _ _)⟩
theorem nr_nil : nr [] = 0 := rfl
theorem nr_take {l : List Bt} (h : vs l = true) {k : Nat} (hk : k < l.length) : nr (l.take k) ≤ nr (l.take (k + 1)) ∧ nr (l.take (k + 1)) ≤ nr (l.take k) + 1 := by
  have e : l.take (k + 1) = l.take k ++ [l[k]] := List.take_succ_eq_append_getElem hk
  refine ⟨nr_mono (ok_of (vs_take h k)) (ok_of (vs_take h (k + 1))) (fun b hb => by rw [e]; exact List.mem_append_left _ hb), nr_more (m := l[k]) (ok_of (vs_take h k)) (ok_of (vs_take h (k + 1))) (fun b hb => ?_)⟩
  rw [e] at hb
  rcases List.mem_append.1 hb with c | c
  · exact .inl c
  · exact .inr (List.mem_singleton.1 c)
theorem Rg.up1 {l : List Bt} {cl : Int} {list : List Rn} (h : ∀ j, j < list.length → Rg l cl list j) {j : Nat} : ∀ i, j ≤ i → i < list.length → (list.getD j zr).t ≤ (list.getD i zr).t := by
  intro i hij
  induction i with
  | zero => intro _; obtain rfl : j = 0 := by omega
            exact Int.le_refl _
  | succ i ih =>
    intro hi
    rcases Nat.lt_or_ge i j with c | c
    · obtain rfl : j = i + 1 := by omega
      exact Int.le_refl _
    · have h1 := ih c (by omega)
      have h2 := (h (i + 1) hi).chain (Nat.succ_pos i)
      have h3 := (h (i + 1) hi).fit.1
      rw [Nat.add_sub_cancel] at h2
      omega
/-- the hours of b barrels together -/
def sf (f : Nat → Int) : Nat → Int
  | 0 => 0
  | b + 1 => sf f b + f b
theorem sf_upd {f : Nat → Int} {k : Nat} {x : Int} : ∀ b, sf (fun q => if q = k then x else f q) b = sf f b + if k < b then x - f k else 0
  | 0 => by simp [sf]
  | b + 1 => by
    rw [sf, sf, sf_upd b]
    rcases Nat.lt_trichotomy k b with h | h | h
    · rw [if_pos h, if_neg (show ¬ b = k by omega), if_pos (show k < b + 1 by omega)]; omega
    · subst h; rw [if_neg (Nat.lt_irrefl _), if_pos rfl, if_pos (Nat.lt_succ_self _)]; omega
    · rw [if_neg (show ¬ k < b by omega), if_neg (show ¬ b = k by omega), if_neg (show ¬ k < b + 1 by omega)]; omega
theorem sf_one {f : Nat → Int} (h : ∀ q, 0 ≤ f q) : ∀ b k, k < b → f k ≤ sf f b
  | b + 1, k, hk => by
    have h0 : ∀ b, 0 ≤ sf f b := fun b => by
      induction b with
      | zero => exact Int.le_refl _
      | succ b ih => rw [sf]; have := h b; omega
    rw [sf]
    rcases Nat.lt_succ_iff_lt_or_eq.1 hk with c | rfl
    · have := sf_one h b k c; have := h b; omega
    · have := h0 k; omega
theorem sf_zero : ∀ b, sf (fun _ => 0) b = 0
  | 0 => rfl
  | b + 1 => by rw [sf, sf_zero b]; rfl
theorem hs_snoc (l : List Bt) (d : List Int) (i : Int) : hs l (d ++ [i]) = hs l d + len (at' l i.toNat) := by rw [hs_append]; simp [hs]
theorem ar_sf {l : List Bt} {cl : Int} {s : (Nat → Int) × List (List Rn)} {k b : Nat} (hk : k < b) {row : List Int} : ∀ j, j ≤ row.length → sf (ar l cl s k row j).1 b = sf s.1 b + hs l (row.take j) + if j = 0 then 0 else cl
  | 0, _ => by simp [ar, hs]
  | j + 1, hj => by
    have ih := ar_sf (l := l) (cl := cl) (s := s) hk (row := row) j (by omega)
    rw [ar]
    show sf (fun q => if q = k then _ else _) b = _
    rw [sf_upd, if_pos hk, ih, take_getD (list := row) 0 (by omega), hs_snoc]
    show _ + ((ar l cl s k row j).1 k + (hc (decide (j = 0)) cl + len (at' l (row.getD j 0).toNat)) - (ar l cl s k row j).1 k) = _
    by_cases c : j = 0
    · subst c; simp [hc]; omega
    · simp [hc, c]; omega
theorem asg_sf {l : List Bt} {cl : Int} {b : Nat} (hb : 0 < b) {rows : List (List Int)} (hne : ∀ m, m < rows.length → 0 < (rows.getD m []).length) : ∀ m, m ≤ rows.length → sf (asg l cl b rows m).1 b = hs l (fl rows m) + m * cl
  | 0, _ => by rw [asg, fl_zero]; simp [sf_zero, hs]
  | m + 1, hm => by
    have ih := asg_sf (l := l) (cl := cl) hb hne m (by omega)
    have h := ar_sf (l := l) (cl := cl) (s := asg l cl b rows m) (fm_spec (asg l cl b rows m).1 b hb).1 (row := rows.getD m []) _ (Nat.le_refl _)
    rw [asg, h, ih, List.take_length, if_neg (by have := hne m (by omega); omega), fl_succ (by omega), hs_append]
    rw [Int.natCast_add, Int.add_mul]
    omega
theorem hs_perm (l : List Bt) {a b : List Int} (h : a.Perm b) : hs l a = hs l b := by
  induction h with
  | nil => rfl
  | cons x _ ih => rw [hs, hs, ih]
  | swap x y l' => rw [hs, hs, hs, hs]; omega
  | trans _ _ h1 h2 => rw [h1, h2]
theorem hs_range (l : List Bt) : ∀ n, hs l ((List.range n).map (fun q : Nat => (q : Int))) = sk l n
  | 0 => rfl
  | n + 1 => by rw [List.range_succ, List.map_append, hs_append, hs_range l n, sk]; simp [hs]
theorem hs_all {l : List Bt} {d : List Int} (hd : d.Nodup) (hi : ∀ x, x ∈ d → 0 ≤ x ∧ x < (l.length : Int)) (hc : ∀ q : Nat, q < l.length → (q : Int) ∈ d) : hs l d = sk l l.length := by
  rw [← hs_range]
  refine hs_perm l ?_
  have hr : ((List.range l.length).map (fun q : Nat => (q : Int))).Nodup := by
    rw [List.nodup_iff_pairwise_ne, List.pairwise_map]
    exact (List.nodup_iff_pairwise_ne.1 List.nodup_range).imp (fun h e => h (by omega))
  exact (List.perm_ext_iff_of_nodup hd hr).2 (fun x => by
    constructor
    · intro hx
      obtain ⟨p0, p1⟩ := hi x hx
      exact List.mem_map.2 ⟨x.toNat, List.mem_range.2 (by omega), by omega⟩
    · intro hx
      obtain ⟨q, hq, rfl⟩ := List.mem_map.1 hx
      exact hc q (List.mem_range.1 hq))
/-- the time of one barrel -/
def tot (l : List Bt) (cl : Int) (rows : List (List Int)) : Int := rows.length * cl + sk l l.length
theorem made_tot {l : List Bt} {rows : List (List Int)} {b cl : Int} (hck : ckE l rows = 0) (hs' : shop b cl = true) : (∀ r, r ∈ (asV l rows b cl).flatten → r.t ≤ tot l cl rows) ∧ (b = 1 → IsEnd (asV l rows b cl) (tot l cl rows)) := by
  obtain ⟨hv, hr⟩ := Rr.of hck
  have ho := ok_of hv
  have hS := shop_true.1 hs'
  have I := iv_all ho hS.2.1 (b := b.toNat) (by omega) hr rows.length (Nat.le_refl _)
  have hsum := asg_sf (l := l) (cl := cl) (b := b.toNat) (by omega) hr.ne rows.length (Nat.le_refl _)
  rw [fl_all] at I hsum
  have hmem : ∀ x, x ∈ rows.flatten → 0 ≤ x ∧ x < (l.length : Int) := fun x hx => by
    obtain ⟨row, h1, h2⟩ := List.mem_flatten.1 hx
    obtain ⟨m, hm, rfl⟩ := List.getElem_of_mem h1
    obtain ⟨j, hj, rfl⟩ := List.getElem_of_mem h2
    have := hr.ix m hm j (by rw [List.getD_eq_getElem?_getD, List.getElem?_eq_getElem hm]; exact hj)
    rw [List.getD_eq_getElem?_getD (l := rows), List.getElem?_eq_getElem hm] at this
    simpa [List.getD_eq_getElem?_getD, List.getElem?_eq_getElem hj] using this
  rw [hs_all hr.nd hmem (of_decide_eq_true hr.cv)] at hsum
  have htot : sf (asg l cl b.toNat rows rows.length).1 b.toNat = tot l cl rows := by rw [hsum]; unfold tot; omega
  rw [asV_ok (asE_ok hck hs')]
  generalize (asg l cl b.toNat rows rows.length).2 = out at *
  generalize (asg l cl b.toNat rows rows.length).1 = f at *
  have hle : ∀ k, k < b.toNat → ∀ j, j < (out.getD k []).length → ((out.getD k []).getD j zr).t ≤ f k := fun k hk j hj => by
    have h1 := Rg.up1 (I.rg k hk) (j := j) ((out.getD k []).length - 1) (by omega) (by omega)
    have h2 := I.fl k hk (by omega)
    omega
  refine ⟨fun r hr' => ?_, fun hb1 => ?_⟩
  · obtain ⟨k, j, hk, hj, rfl⟩ := of_mem_runs hr'
    have hk' : k < b.toNat := by rw [← I.len]; exact hk
    have h1 := hle k hk' j hj
    have h2 := sf_one I.f0 b.toNat k hk'
    omega
  · subst hb1
    have hl1 : out.length = 1 := I.len
    have hf0 : f 0 = tot l cl rows := by
      have : sf f 1 = f 0 := by simp [sf]
      rw [← htot]; exact this.symm
    rcases Nat.eq_zero_or_pos (out.getD 0 []).length with h0 | h0
    · refine .inl ⟨?_, ?_⟩
      · match out, hl1 with
        | [a], _ => simpa using List.length_eq_zero_iff.1 h0
      · rw [← hf0]; exact I.fz 0 (by decide) h0
    · refine .inr ⟨⟨(out.getD 0 []).getD ((out.getD 0 []).length - 1) zr, mem_runs (by omega) (by omega), ?_⟩, fun r hr' => ?_⟩
      · rw [← I.fl 0 (by decide) h0, hf0]
      · obtain ⟨k, j, hk, hj, rfl⟩ := of_mem_runs hr'
        obtain rfl : k = 0 := by omega
        have := hle 0 (by decide) j hj
        omega
end Go.Proofs.YtlfbfdhdkccaeaaGreat.Pl

