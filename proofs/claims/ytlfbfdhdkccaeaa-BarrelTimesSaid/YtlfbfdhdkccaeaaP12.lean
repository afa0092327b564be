/- Plain: the proof in order; the rows that are made pass Check; what Check and Apart pass keeps the bounds. -/
import Derived.Test.YtlfbfdhdkccaeaaP11
import Derived.Test.YtlfbfdhdkccaeaaP3
import Derived.Test.YtlfbfdhdkccaeaaP4
namespace Go.Proofs.Ytlfbfdhdkccaeaa.Pl

/-- the proof, in order -/
def srt (l : List Bt) : List Nat := (pf l).mergeSort (fun a b => decide (a ≤ b))
theorem srt_perm (l : List Bt) : (srt l).Perm (pf l) := List.mergeSort_perm ..
theorem srt_len {l : List Bt} (h : Ok l) : (srt l).length = nr l := by rw [(srt_perm l).length_eq, (pf_ok h).len]
theorem srt_up {l : List Bt} (h : Ok l) : (srt l).Pairwise (· < ·) := by
  have h1 := List.pairwise_mergeSort (le := fun a b : Nat => decide (a ≤ b)) (fun a b c h1 h2 => by simp at *; omega) (fun a b => by simp; omega) (pf l)
  have h2 : (srt l).Nodup := (srt_perm l).nodup_iff.2 (pf_ok h).nodup
  exact (h1.and h2).imp fun {a b} hab => by
    have := of_decide_eq_true hab.1
    have := hab.2
    omega
theorem srt_lt {l : List Bt} (h : Ok l) {x : Nat} (hx : x ∈ srt l) : x < l.length := (pf_ok h).lt x ((srt_perm l).mem_iff.1 hx)
theorem srt_ap {l : List Bt} (h : Ok l) : (srt l).Pairwise fun a b => apt (at' l a) (at' l b) = true :=
  ((srt_perm l).pairwise_iff (fun {x y} hxy => by rw [apt_symm]; exact hxy)).2 (pf_ok h).ap
/-- as numbers -/
def zI (xs : List Nat) : List Int := xs.map fun n : Nat => (n : Int)
theorem zI_len (xs : List Nat) : (zI xs).length = xs.length := List.length_map _
theorem zI_get {xs : List Nat} {i : Nat} (h : i < xs.length) : (zI xs).getD i 0 = (xs[i] : Nat) := by
  unfold zI; rw [List.getD_eq_getElem?_getD, List.getElem?_map, List.getElem?_eq_getElem h]; rfl
theorem zI_at {xs : List Nat} {i : Nat} (h : i < (zI xs).length) : (zI xs)[i] = ((xs[i]'(by rw [zI_len] at h; exact h) : Nat) : Int) := by simp [zI]
theorem bx_zI {l : List Bt} {xs : List Nat} {i : Nat} (h : i < xs.length) : bx l (zI xs) i = at' l xs[i] := by unfold bx; rw [zI_get h]; rfl
theorem zI_nodup {xs : List Nat} (h : xs.Nodup) : (zI xs).Nodup := by
  unfold zI List.Nodup
  rw [List.pairwise_map]
  exact h.imp fun {a b} hab e => hab (by omega)
theorem srt_cho {l : List Bt} (h : Ok l) : cho l.length (zI (srt l)) = true := by
  rw [cho_iff]
  refine ⟨fun x hx => ?_, zI_nodup ((srt_up h).imp fun {a b} hab e => by omega)⟩
  obtain ⟨q, hq, rfl⟩ := List.mem_map.1 hx
  have := srt_lt h hq
  omega
theorem srt_apB {l : List Bt} (h : Ok l) : apB l (zI (srt l)) = true := by
  unfold apB
  refine decide_eq_true fun i hi j hj => ?_
  rw [zI_len] at hi
  rw [bx_zI hi, bx_zI (show j < _ by omega), apt_symm]
  exact List.pairwise_iff_getElem.1 (srt_ap h) j i (by omega) hi hj
theorem srt_int (l : List Bt) : (zI (pf l)).mergeSort (fun x y => decide (x ≤ y)) = zI (srt l) := by
  symm
  unfold zI srt
  apply List.map_mergeSort
  intro a _ b _
  rw [decide_eq_decide]; omega
/-- batches that Apart passes are no more than the rows -/
theorem list_le {l : List Bt} (h : Ok l) {xs : List Int} (hc : cho l.length xs = true) (ha : apB l xs = true) : xs.length ≤ nr l := by
  have hk := of_decide_eq_true ha
  have := ap_nr h (bs := (List.range xs.length).map (bx l xs)) (fun b hb => by
    obtain ⟨i, hi, rfl⟩ := List.mem_map.1 hb
    rw [List.mem_range] at hi
    obtain ⟨q, h1, h2⟩ := idx_lt hc hi
    rw [bx_eq hi h1]
    exact at_mem h2) (by
    unfold Ap
    rw [List.pairwise_map]
    refine List.Pairwise.imp_of_mem (fun {a b} hA hB hab => ?_) List.pairwise_lt_range
    rw [apt_symm]
    exact hk b (List.mem_range.1 hB) a hab)
  simpa using this
theorem ck_zero0 {l : List Bt} {rows : List (List Int)} (h : ckR l rows = 0) : rows.any (nix l.length) = false ∧ rows.flatten.Nodup ∧ rows.any (dty l) = false ∧ cov l.length rows.flatten = true ∧ emp rows = false := by
  unfold ckR at h
  cases h1 : rows.any (nix l.length)
  · rw [h1] at h
    by_cases h2 : rows.flatten.Nodup
    · rw [if_neg (by simp), if_neg (fun h' => h' h2)] at h
      cases h3 : rows.any (dty l)
      · rw [h3, if_neg (by simp)] at h
        cases h4 : cov l.length rows.flatten
        · rw [h4, if_pos (.inl rfl)] at h; cases h
        · cases h5 : emp rows
          · exact ⟨rfl, h2, rfl, rfl, rfl⟩
          · rw [h5, if_pos (.inr rfl)] at h; cases h
      · rw [h3, if_pos rfl] at h; cases h
    · rw [if_neg (by simp), if_pos h2] at h; cases h
  · rw [h1, if_pos rfl] at h; cases h
theorem dty_pair {l : List Bt} {row : List Int} (h : dty l row = false) : ∀ q p, p ≤ q → q < row.length → may (bx l row p) (bx l row q) = true := by
  have hd : ∀ k, k < row.length → 0 < k → may (bx l row (k - 1)) (bx l row k) = true := by
    unfold dty at h
    rw [Bool.not_eq_false'] at h
    exact of_decide_eq_true h
  intro q
  induction q with
  | zero => intro p hp _; obtain rfl : p = 0 := by omega
            exact may_refl _
  | succ q ih =>
    intro p hp hq
    rcases Nat.lt_succ_iff_lt_or_eq.1 (Nat.lt_succ_of_le hp) with h1 | rfl
    · exact may_trans (ih p (by omega) (by omega)) (hd (q + 1) hq (by omega))
    · exact may_refl _
/-- rows that Check passes are no fewer -/
theorem rows_le {l : List Bt} (h : Ok l) {rows : List (List Int)} (hc : ckR l rows = 0) : nr l ≤ rows.length := by
  obtain ⟨h1, _, h3, h4, _⟩ := ck_zero0 hc
  have hp := (pf_ok h).batches
  rw [← hp.2.2]
  have hg : ∀ j, (rows.map (·.map Int.toNat)).getD j [] = (rows.getD j []).map Int.toNat := fun j => by
    rw [List.getD_eq_getElem?_getD, List.getD_eq_getElem?_getD, List.getElem?_map]
    cases rows[j]? <;> rfl
  have := ap_le (l := l) (rows := rows.map (·.map Int.toNat)) (fun i hi => by
    have h5 := of_decide_eq_true h4 i hi
    obtain ⟨r, hr, hir⟩ := List.mem_flatten.1 h5
    obtain ⟨j, hj, rfl⟩ := List.getElem_of_mem hr
    refine ⟨j, by simpa using hj, ?_⟩
    rw [hg, List.getD_eq_getElem?_getD, List.getElem?_eq_getElem hj]
    exact List.mem_map.2 ⟨_, hir, rfl⟩) (fun j i i' hi hi' => by
    rw [hg] at hi hi'
    obtain ⟨x, hx, rfl⟩ := List.mem_map.1 hi
    obtain ⟨y, hy, rfl⟩ := List.mem_map.1 hi'
    obtain ⟨p, hp, rfl⟩ := List.getElem_of_mem hx
    obtain ⟨q, hq, rfl⟩ := List.getElem_of_mem hy
    have hd : dty l (rows.getD j []) = false := by
      rcases Nat.lt_or_ge j rows.length with hj | hj
      · have := List.any_eq_false.1 h3 (rows.getD j []) (by rw [List.getD_eq_getElem?_getD, List.getElem?_eq_getElem hj]; exact List.getElem_mem hj)
        simpa using this
      · rw [List.getD_eq_getElem?_getD, List.getElem?_eq_none hj] at hp
        exact absurd hp (Nat.not_lt_zero _)
    have e1 : ∀ (p : Nat) (hp : p < (rows.getD j []).length), bx l (rows.getD j []) p = at' l ((rows.getD j [])[p]).toNat := fun p hp => by
      unfold bx; rw [List.getD_eq_getElem?_getD (l := rows.getD j []), List.getElem?_eq_getElem hp]; rfl
    rw [← e1 p hp, ← e1 q hq]
    rcases Nat.le_total p q with h | h
    · exact .inl (dty_pair hd q p h hq)
    · exact .inr (dty_pair hd p q h hp)) hp.1 hp.2.1
  simpa using this
/-- the rows that are made, as numbers -/
def rI (l : List Bt) : List (List Int) := (Rs l).map zI
theorem getD_zI (rows : List (List Nat)) (j : Nat) : (rows.map zI).getD j [] = zI (rows.getD j []) := by
  rw [List.getD_eq_getElem?_getD, List.getD_eq_getElem?_getD, List.getElem?_map]
  cases rows[j]? <;> rfl
theorem flat_zI : ∀ rows : List (List Nat), (rows.map zI).flatten = zI rows.flatten
  | [] => rfl
  | r :: rs => by rw [List.map_cons, List.flatten_cons, List.flatten_cons, flat_zI rs]; unfold zI; rw [List.map_append]
/-- the rows that are made pass Check -/
theorem ck_made {l : List Bt} (hv : vs l = true) : ckE l (rI l) = 0 := by
  have h := ok_of hv
  have G := gd h
  rw [ckE_ok hv]
  have e : rI l = (R l).map zI := by unfold rI; rw [Rs_ok hv]
  rw [e]
  have h1 : ((R l).map zI).any (nix l.length) = false := any_all fun i hi => by
    rw [getD_zI]
    refine nix_all fun k hk => ?_
    have hk' : k < ((R l).getD i []).length := by rw [zI_len] at hk; exact hk
    have := row_idx h (List.getElem_mem hk')
    refine decide_eq_true ?_
    rw [zI_at hk]
    omega
  have h2 : ((R l).map zI).flatten.Nodup := by
    rw [flat_zI]
    refine zI_nodup ?_
    rw [List.Nodup, List.pairwise_flatten]
    constructor
    · intro r hr
      obtain ⟨j, hj, rfl⟩ := List.getElem_of_mem hr
      have := G.nd j
      change ((R l).getD j []).Nodup at this
      rw [List.getD_eq_getElem?_getD, List.getElem?_eq_getElem hj] at this
      exact this
    · rw [List.pairwise_iff_getElem]
      intro i j hi hj hij x hx y hy exy
      subst exy
      have e1 : x ∈ row l l.length i := by show x ∈ (R l).getD i []; rw [List.getD_eq_getElem?_getD, List.getElem?_eq_getElem hi]; exact hx
      have e2 : x ∈ row l l.length j := by show x ∈ (R l).getD j []; rw [List.getD_eq_getElem?_getD, List.getElem?_eq_getElem hj]; exact hy
      have := G.one x i j e1 e2
      omega
  have h3 : ((R l).map zI).any (dty l) = false := any_all fun i hi => by
    rw [getD_zI]
    refine dty_no fun k hk h0 => ?_
    rw [zI_len] at hk
    rw [bx_zI hk, bx_zI (show k - 1 < _ by omega)]
    exact List.pairwise_iff_getElem.1 (G.chain i) (k - 1) k (by show k - 1 < ((R l).getD i []).length; omega) hk (by omega)
  have h4 : cov l.length ((R l).map zI).flatten = true := decide_eq_true fun q hq => by
    rw [flat_zI]
    obtain ⟨j, hj, hm⟩ := every h hq
    refine List.mem_map.2 ⟨q, List.mem_flatten.2 ⟨(R l).getD j [], ?_, hm⟩, rfl⟩
    rw [List.getD_eq_getElem?_getD, List.getElem?_eq_getElem hj]
    exact List.getElem_mem hj
  have h5 : emp ((R l).map zI) = false := any_all (p := fun r => decide (r.length = 0)) fun i hi => by
    rw [List.length_map] at hi
    rw [getD_zI, zI_len]
    exact decide_eq_false fun e => G.ne i hi (List.eq_nil_of_length_eq_zero e)
  unfold ckR
  rw [if_neg (by rw [h1]; simp), if_neg (fun h' => h' h2), if_neg (by rw [h3]; simp), if_neg (by rw [h4, h5]; simp)]
end Go.Proofs.Ytlfbfdhdkccaeaa.Pl
