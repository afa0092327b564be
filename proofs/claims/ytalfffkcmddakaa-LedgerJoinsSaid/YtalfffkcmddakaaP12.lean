/- Plain: the entries of two books in the document's order; what the document's loops gather. -/
import Derived.Test.YtalfffkcmddakaaP9
namespace Go.Proofs.Ytalfffkcmddakaa.Pl

def evl (a b : List En) (k : Nat) : List En := a ++ (b.take k).filter fun e => decide (nm e ∉ a.map nm)
theorem evl_zero (a b : List En) : evl a b 0 = a := by unfold evl; simp
theorem evl_len (a b : List En) (k : Nat) : (evl a b k).length ≤ a.length + k := by
  unfold evl
  rw [List.length_append]
  have := List.length_filter_le (fun e => decide (nm e ∉ a.map nm)) (b.take k)
  rw [List.length_take] at this
  omega
theorem evl_take {a b : List En} {k : Nat} (hk : k < b.length) : evl a b (k + 1) = if (fnd a (nm b[k])).isSome then evl a b k else evl a b k ++ [b[k]] := by
  unfold evl
  rw [List.take_succ_eq_append_getElem hk, List.filter_append]
  cases h : fnd a (nm b[k]) with
  | none =>
    have h1 := fnd_none'.1 h
    rw [List.filter_cons_of_pos (by simpa using h1)]
    simp
  | some y =>
    have h1 : nm b[k] ∈ a.map nm := by
      obtain ⟨h2, h3⟩ := fnd_some h
      exact List.mem_map.2 ⟨y, h2, h3⟩
    rw [List.filter_cons_of_neg (by simpa using h1)]
    simp
/-- the entries of both, each name once -/
def evr (a b : List En) : List En := srt (evl a b b.length)
theorem evr_mem {a b : List En} {e : En} : e ∈ evr a b ↔ e ∈ a ∨ (e ∈ b ∧ nm e ∉ a.map nm) := by
  unfold evr evl
  rw [srt_mem, List.take_length, List.mem_append, List.mem_filter, decide_eq_true_iff]
theorem evr_asc {a b : List En} (ha : Vb a) (hb : Vb b) : Asc (evr a b) := by
  refine srt_asc ?_
  unfold evl
  rw [List.take_length, List.map_append, List.nodup_append]
  refine ⟨ha.dif, hb.dif.sublist (List.filter_sublist.map nm), fun x hx y hy e => ?_⟩
  obtain ⟨p, hp, rfl⟩ := List.mem_map.1 hy
  have := of_decide_eq_true (List.mem_filter.1 hp).2
  exact this (e ▸ hx)
theorem evr_nm {a b : List En} {n : Nm} : n ∈ (evr a b).map nm ↔ n ∈ a.map nm ∨ n ∈ b.map nm := by
  constructor
  · intro h
    obtain ⟨e, he, rfl⟩ := List.mem_map.1 h
    exact (evr_mem.1 he).imp (fun h => List.mem_map.2 ⟨e, h, rfl⟩) (fun h => List.mem_map.2 ⟨e, h.1, rfl⟩)
  · intro h
    by_cases h2 : n ∈ a.map nm
    · obtain ⟨e, he, rfl⟩ := List.mem_map.1 h2
      exact List.mem_map.2 ⟨e, evr_mem.2 (.inl he), rfl⟩
    · obtain ⟨e, he, rfl⟩ := List.mem_map.1 (h.resolve_left h2)
      exact List.mem_map.2 ⟨e, evr_mem.2 (.inr ⟨he, h2⟩), rfl⟩
theorem evr_dif {a b : List En} (ha : Vb a) (hb : Vb b) : difl a b (evr a b) = dif a b := by
  have h : (evr a b).map nm = (al a b).map nm := nms_uniq (asc_nm (evr_asc ha hb)) (asc_nm (al_asc a b)) fun n => by rw [evr_nm, al_nm ha hb]
  rw [dif_names, ← h, List.filterMap_map]
  rfl
theorem evr_len (a b : List En) : (evr a b).length ≤ a.length + b.length := by unfold evr; rw [srt_len]; exact evl_len a b b.length
/-- a round of the document's Compare -/
theorem cmp_round {a b L : List En} (ha : Vb a) (hb : Vb b) {k : Nat} (hk : k < L.length) (hn : nm L[k] ∈ a.map nm ∨ nm L[k] ∈ b.map nm) :
    ((fnd b (nm L[k])).isSome = false → difl a b (L.take (k + 1)) = difl a b (L.take k) ++ [⟨1, gt a (nm L[k]), z0⟩]) ∧
    ((fnd b (nm L[k])).isSome = true → (fnd a (nm L[k])).isSome = false → difl a b (L.take (k + 1)) = difl a b (L.take k) ++ [⟨2, z0, gt b (nm L[k])⟩]) ∧
    ((fnd b (nm L[k])).isSome = true → (fnd a (nm L[k])).isSome = true → difl a b (L.take (k + 1)) = if gt a (nm L[k]) = gt b (nm L[k]) then difl a b (L.take k) else difl a b (L.take k) ++ [⟨3, gt a (nm L[k]), gt b (nm L[k])⟩]) := by
  rw [difl_take hk]
  have hs : ∀ {l : List En} {n : Nm}, (fnd l n).isSome = true ↔ n ∈ l.map nm := fun {l n} => by
    cases h : fnd l n with
    | none => have := fnd_none'.1 h; simpa using this
    | some y =>
      obtain ⟨h2, h3⟩ := fnd_some h
      simp only [Option.isSome_some, true_iff]
      exact List.mem_map.2 ⟨y, h2, h3⟩
  have hf : ∀ {l : List En} {n : Nm}, (fnd l n).isSome = false ↔ n ∉ l.map nm := fun {l n} => by rw [← hs, Bool.not_eq_true]
  refine ⟨fun h => ?_, fun h1 h2 => ?_, fun h1 h2 => ?_⟩
  · have g1 := gt_none (hf.1 h)
    have g2 : gt a (nm L[k]) ≠ z0 := fun e => (gt_z0 ha).1 e (hn.resolve_right (hf.1 h))
    rw [g1, if_neg g2]
    unfold kd; rw [if_pos rfl]
  · have g1 := gt_none (hf.1 h2)
    have g2 : gt b (nm L[k]) ≠ z0 := fun e => (gt_z0 hb).1 e (hs.1 h1)
    rw [g1, if_neg (fun e => g2 e.symm)]
    unfold kd; rw [if_neg g2, if_pos rfl]
  · by_cases he : gt a (nm L[k]) = gt b (nm L[k])
    · rw [if_pos he, if_pos he]
    · rw [if_neg he, if_neg he]
      unfold kd
      rw [if_neg (fun e => (gt_z0 hb).1 e (hs.1 h1)), if_neg (fun e => (gt_z0 ha).1 e (hs.1 h2))]
/-- entries that the document's Agreed and Since gather -/
def agl (b L : List En) : List En := L.filter fun e => decide (gt b (nm e) = e)
def snl (o L : List En) : List En := L.filter fun e => !decide (gt o (nm e) = e)
theorem agl_take {b L : List En} {k : Nat} (hk : k < L.length) : agl b (L.take (k + 1)) = if gt b (nm L[k]) = L[k] then agl b (L.take k) ++ [L[k]] else agl b (L.take k) := by
  unfold agl
  rw [List.take_succ_eq_append_getElem hk, List.filter_append]
  by_cases h : gt b (nm L[k]) = L[k]
  · rw [if_pos h, List.filter_cons_of_pos (by simpa using h), List.filter_nil]
  · rw [if_neg h, List.filter_cons_of_neg (by simpa using h), List.filter_nil, List.append_nil]
theorem snl_take {o L : List En} {k : Nat} (hk : k < L.length) : snl o (L.take (k + 1)) = if gt o (nm L[k]) = L[k] then snl o (L.take k) else snl o (L.take k) ++ [L[k]] := by
  unfold snl
  rw [List.take_succ_eq_append_getElem hk, List.filter_append]
  by_cases h : gt o (nm L[k]) = L[k]
  · rw [if_pos h, List.filter_cons_of_neg (by simpa using h), List.filter_nil, List.append_nil]
  · rw [if_neg h, List.filter_cons_of_pos (by simpa using h), List.filter_nil]
theorem agl_len (b L : List En) (k : Nat) : (agl b (L.take k)).length ≤ k := by
  unfold agl
  have := List.length_filter_le (fun e => decide (gt b (nm e) = e)) (L.take k)
  rw [List.length_take] at this
  omega
theorem snl_len (b L : List En) (k : Nat) : (snl b (L.take k)).length ≤ k := by
  unfold snl
  have := List.length_filter_le (fun e => !decide (gt b (nm e) = e)) (L.take k)
  rw [List.length_take] at this
  omega
/-- the zero entry is no valid one -/
theorem gt_not {l : List En} {e : En} (he : vE e = true) (h : (fnd l (nm e)).isSome = false) : gt l (nm e) ≠ e := by
  unfold gt
  cases hf : fnd l (nm e) with
  | none => exact fun h => ve_z0 he h.symm
  | some y => rw [hf] at h; cases h
/-- differences of the third kind, gathered -/
def ot3 (L : List Df) : List Df := L.filter fun d => decide (d.k = 3)
theorem ot3_take {L : List Df} {k : Nat} (hk : k < L.length) : ot3 (L.take (k + 1)) = if L[k].k = 3 then ot3 (L.take k) ++ [L[k]] else ot3 (L.take k) := by
  unfold ot3
  rw [List.take_succ_eq_append_getElem hk, List.filter_append]
  by_cases h : L[k].k = 3
  · rw [if_pos h, List.filter_cons_of_pos (by simpa using h), List.filter_nil]
  · rw [if_neg h, List.filter_cons_of_neg (by simpa using h), List.filter_nil, List.append_nil]
theorem ot3_len (L : List Df) (k : Nat) : (ot3 (L.take k)).length ≤ k := by
  unfold ot3
  have := List.length_filter_le (fun d : Df => decide (d.k = 3)) (L.take k)
  rw [List.length_take] at this
  omega
/-- whether a name stands among the first differences -/
def apt (O : List Df) (n : Nm) : Bool := decide (n ∈ O.map fun d => nm d.m)
theorem apt_take {O : List Df} {n : Nm} {k : Nat} (hk : k < O.length) : apt (O.take (k + 1)) n = (apt (O.take k) n || decide (n = nm O[k].m)) := by
  unfold apt
  rw [List.take_succ_eq_append_getElem hk, List.map_append, List.map_singleton, ← Bool.decide_or, decide_eq_decide, List.mem_append, List.mem_singleton]
theorem rst_take {L : List En} {O : List Df} {k : Nat} (hk : k < L.length) : rest (L.take (k + 1)) O = if apt O (nm L[k]) = true then rest (L.take k) O else rest (L.take k) O ++ [L[k]] := by
  unfold rest apt
  rw [List.take_succ_eq_append_getElem hk, List.filter_append]
  by_cases h : nm L[k] ∈ O.map fun d => nm d.m
  · rw [if_pos (decide_eq_true h), List.filter_cons_of_neg (by simpa using h), List.filter_nil, List.append_nil]
  · rw [if_neg (by simpa using h), List.filter_cons_of_pos (by simpa using h), List.filter_nil]
theorem rst_len (L : List En) (O : List Df) (k : Nat) : (rest (L.take k) O).length ≤ k := by
  unfold rest
  have := List.length_filter_le (fun e => decide (nm e ∉ O.map fun d => nm d.m)) (L.take k)
  rw [List.length_take] at this
  omega
/-- what the document's Join makes is what the program's makes -/
theorem rst_jn {a b : List En} (ha : Vb a) (hb : Vb b) : rest (evr a b) (oth a b) = jn a b := by
  refine asc_ext ?_ (jn_asc a b) fun e => ?_
  · unfold rest; exact List.Pairwise.filter _ (evr_asc ha hb)
  · unfold rest
    rw [List.mem_filter, decide_eq_true_iff, oth_nm ha hb, Classical.not_not, jn_mem ha hb, evr_mem]
    constructor
    · rintro ⟨h | h, h2⟩
      · exact ⟨.inl h, h2⟩
      · exact ⟨.inr h.1, h2⟩
    · rintro ⟨h | h, h2⟩
      · exact ⟨.inl h, h2⟩
      · by_cases hn : nm e ∈ a.map nm
        · obtain ⟨x, hx, e1⟩ := List.mem_map.1 hn
          have := h2 x hx e h e1 rfl
          subst this
          exact ⟨.inl hx, h2⟩
        · exact ⟨.inr ⟨h, hn⟩, h2⟩
end Go.Proofs.Ytalfffkcmddakaa.Pl
