/- Plain: the rows that are made of the batches from the lightest on, and what each batch is barred by. -/
import Derived.Test.YtlfbfdhdkccaeaaP1
namespace Go.Proofs.Ytlfbfdhdkccaeaa.Pl

/-- the last of a row -/
def lst (r : List Nat) : Nat := r.getLast?.getD 0
theorem lst_snoc (r : List Nat) (i : Nat) : lst (r ++ [i]) = i := by simp [lst]
theorem lst_mem {r : List Nat} (h : r ≠ []) : lst r ∈ r := by
  unfold lst
  rw [List.getLast?_eq_some_getLast h]
  exact List.getLast_mem h
/-- the last batch of row k -/
def le (l : List Bt) (rows : List (List Nat)) (k : Nat) : Bt := at' l (lst (rows.getD k []))
/-- the row for a batch, among the first k, and the Grain of its last batch -/
def rfs (l : List Bt) (rows : List (List Nat)) (b : Bt) : Nat → Nat × Int
  | 0 => (rows.length, -1)
  | k + 1 => if may (le l rows k) b = true ∧ (rfs l rows b k).2 < (le l rows k).grain then (k, (le l rows k).grain) else rfs l rows b k
def rf (l : List Bt) (rows : List (List Nat)) (b : Bt) : Nat := (rfs l rows b rows.length).1
/-- a batch is put at the end of row k, or begins a row -/
def put (rows : List (List Nat)) (k i : Nat) : List (List Nat) := if k < rows.length then rows.set k (rows.getD k [] ++ [i]) else rows ++ [[i]]
/-- the rows behind the first k batches -/
def gr (l : List Bt) : Nat → List (List Nat)
  | 0 => []
  | k + 1 => put (gr l k) (rf l (gr l k) (at' l ((ord l).getD k 0))) ((ord l).getD k 0)
/-- the batch number k of the order, and its row -/
def nx (l : List Bt) (k : Nat) : Nat := (ord l).getD k 0
def rw (l : List Bt) (k : Nat) : Nat := rf l (gr l k) (at' l (nx l k))
theorem gr_succ (l : List Bt) (k : Nat) : gr l (k + 1) = put (gr l k) (rw l k) (nx l k) := rfl
/-- by what the batches are barred, behind the first k -/
def br (l : List Bt) : Nat → Nat → Option Nat
  | 0 => fun _ => none
  | k + 1 => fun j => if 0 < rw l k ∧ j = nx l k then some (lst ((gr l (k + 1)).getD (rw l k - 1) [])) else br l k j

/-- what rf finds -/
theorem rfs_spec {l : List Bt} {rows : List (List Nat)} {b : Bt} (hd : ∀ k, k < rows.length → (le l rows k).dark ≤ b.dark ∧ 0 ≤ (le l rows k).grain)
    (hg : ∀ j k, j < k → k < rows.length → (le l rows k).grain < (le l rows j).grain) : ∀ k, k ≤ rows.length →
    (rfs l rows b k = (rows.length, -1) ∧ ∀ a, a < k → b.grain < (le l rows a).grain) ∨
    (∃ p, p < k ∧ rfs l rows b k = (p, (le l rows p).grain) ∧ (le l rows p).grain ≤ b.grain ∧ ∀ a, a < p → b.grain < (le l rows a).grain)
  | 0, _ => .inl ⟨rfl, fun a h => absurd h (Nat.not_lt_zero _)⟩
  | k + 1, hk => by
    obtain ⟨h1, h2⟩ := hd k (by omega)
    rcases rfs_spec hd hg k (by omega) with ⟨e, ha⟩ | ⟨p, hp, e, hl, ha⟩
    · rw [rfs, e]
      by_cases c : (le l rows k).grain ≤ b.grain
      · refine .inr ⟨k, by omega, ?_, c, ha⟩
        rw [if_pos ⟨may_true.2 ⟨h1, c⟩, by simp; omega⟩]
      · refine .inl ⟨if_neg (fun h => c (may_true.1 h.1).2), fun a h => ?_⟩
        rcases Nat.lt_succ_iff_lt_or_eq.1 h with h | rfl
        · exact ha a h
        · omega
    · refine .inr ⟨p, by omega, ?_, hl, ha⟩
      rw [rfs, e, if_neg]
      rintro ⟨_, h⟩
      have := hg p k hp (by omega)
      simp at h
      omega
structure RfOk (l : List Bt) (rows : List (List Nat)) (b : Bt) (r : Nat) : Prop where
  len : r ≤ rows.length
  up : ∀ a, a < r → b.grain < (le l rows a).grain
  at' : r < rows.length → (le l rows r).grain ≤ b.grain
theorem rf_spec {l : List Bt} {rows : List (List Nat)} {b : Bt} (hd : ∀ k, k < rows.length → (le l rows k).dark ≤ b.dark ∧ 0 ≤ (le l rows k).grain)
    (hg : ∀ j k, j < k → k < rows.length → (le l rows k).grain < (le l rows j).grain) : RfOk l rows b (rf l rows b) := by
  unfold rf
  rcases rfs_spec hd hg rows.length (Nat.le_refl _) with ⟨e, ha⟩ | ⟨p, hp, e, hl, ha⟩
  · rw [e]; exact ⟨Nat.le_refl _, ha, fun h => absurd h (Nat.lt_irrefl _)⟩
  · rw [e]; exact ⟨Nat.le_of_lt hp, ha, fun _ => hl⟩

theorem put_len (rows : List (List Nat)) (k i : Nat) : (put rows k i).length = if k < rows.length then rows.length else rows.length + 1 := by
  unfold put; split <;> simp
theorem put_get {rows : List (List Nat)} {k i : Nat} (hk : k ≤ rows.length) (j : Nat) : (put rows k i).getD j [] = if j = k then rows.getD k [] ++ [i] else rows.getD j [] := by
  unfold put
  by_cases c : k < rows.length
  · rw [if_pos c, List.getD_eq_getElem?_getD, List.getElem?_set]
    by_cases e : j = k
    · subst e; simp [c]
    · rw [if_neg (fun h => e h.symm), if_neg e, List.getD_eq_getElem?_getD]
  · rw [if_neg c, List.getD_eq_getElem?_getD, List.getElem?_append]
    obtain rfl : k = rows.length := by omega
    by_cases e : j = rows.length
    · subst e; simp
    · rw [if_neg e]
      by_cases e2 : j < rows.length
      · rw [if_pos e2, List.getD_eq_getElem?_getD]
      · rw [if_neg e2, List.getD_eq_getElem?_getD, List.getElem?_eq_none (by simp; omega), List.getElem?_eq_none (by omega)]

/-- row j -/
abbrev row (l : List Bt) (k j : Nat) : List Nat := (gr l k).getD j []
/-- what holds of the rows behind the first k batches -/
structure Gd (l : List Bt) (k : Nat) : Prop where
  ne : ∀ j, j < (gr l k).length → row l k j ≠ []
  mem : ∀ i, (∃ j, j < (gr l k).length ∧ i ∈ row l k j) ↔ i ∈ (ord l).take k
  one : ∀ i j j', i ∈ row l k j → i ∈ row l k j' → j = j'
  chain : ∀ j, (row l k j).Pairwise (fun a b => may (at' l a) (at' l b) = true)
  nd : ∀ j, (row l k j).Nodup
  dec : ∀ i j, i < j → j < (gr l k).length → (le l (gr l k) j).grain < (le l (gr l k) i).grain
  b0 : ∀ i, i ∈ row l k 0 → br l k i = none
  bs : ∀ i j, 0 < j → i ∈ row l k j → ∃ p, br l k i = some p ∧ p ∈ row l k (j - 1) ∧ (at' l p).dark < (at' l i).dark ∧ (at' l i).grain < (at' l p).grain
  up : ∀ i i' j j', i ∈ row l k j → i' ∈ row l k j' → (at' l i).dark < (at' l i').dark → (at' l i').grain < (at' l i).grain → j < j'
theorem row_lt {l : List Bt} {k j i : Nat} (h : i ∈ row l k j) : j < (gr l k).length := by
  rcases Nat.lt_or_ge j (gr l k).length with h' | h'
  · exact h'
  · unfold row at h
    rw [List.getD_eq_getElem?_getD, List.getElem?_eq_none h'] at h
    cases h
theorem chain_lst {l : List Bt} {r : List Nat} (h : r.Pairwise (fun a b => may (at' l a) (at' l b) = true)) {i : Nat} (hi : i ∈ r) : may (at' l i) (at' l (lst r)) = true := by
  rcases List.eq_nil_or_concat r with rfl | ⟨s, x, rfl⟩
  · cases hi
  · rw [List.concat_eq_append] at *
    rw [lst_snoc]
    rw [List.mem_append, List.mem_singleton] at hi
    rcases hi with hi | rfl
    · exact (List.pairwise_append.1 h).2.2 i hi x (by simp)
    · exact may_refl _
theorem Gd.zero (l : List Bt) : Gd l 0 where
  ne j h := absurd h (Nat.not_lt_zero _)
  mem i := by simp [gr]
  one i j j' h := by simp [row, gr] at h
  chain j := by simp [row, gr]
  nd j := by simp [row, gr]
  dec i j _ h := absurd h (Nat.not_lt_zero _)
  b0 i h := by simp [row, gr] at h
  bs i j _ h := by simp [row, gr] at h
  up i i' j j' h := by simp [row, gr] at h
theorem nx_take {l : List Bt} {k : Nat} (hk : k < l.length) : (ord l).take (k + 1) = (ord l).take k ++ [nx l k] := by
  have h : k < (ord l).length := by rw [ord_len]; exact hk
  rw [List.take_succ_eq_append_getElem h]
  unfold nx
  rw [List.getD_eq_getElem?_getD, List.getElem?_eq_getElem h]; rfl
theorem nx_lt {l : List Bt} {k : Nat} (hk : k < l.length) : nx l k < l.length := by
  have h : k < (ord l).length := by rw [ord_len]; exact hk
  have : nx l k ∈ ord l := by
    unfold nx
    rw [List.getD_eq_getElem?_getD, List.getElem?_eq_getElem h]
    exact List.getElem_mem h
  exact ord_mem.1 this
theorem nx_low {l : List Bt} (h : Ok l) {k : Nat} (hk : k < l.length) {i : Nat} (hi : i ∈ (ord l).take k) : Low (at' l i) (at' l (nx l k)) := by
  have h1 : ((ord l).take (k + 1)).Pairwise (fun i j => Low (at' l i) (at' l j)) := (ord_rise h).sublist (List.take_sublist _ _)
  rw [nx_take hk] at h1
  exact (List.pairwise_append.1 h1).2.2 i hi _ (by simp)
theorem nx_new {l : List Bt} {k : Nat} (hk : k < l.length) : nx l k ∉ (ord l).take k := by
  have h1 : ((ord l).take (k + 1)).Nodup := (ord_nodup l).sublist (List.take_sublist _ _)
  rw [nx_take hk] at h1
  exact fun hm => (List.nodup_append.1 h1).2.2 _ hm _ (by simp) rfl
theorem Gd.rfok {l : List Bt} (h : Ok l) {k : Nat} (hk : k < l.length) (G : Gd l k) : RfOk l (gr l k) (at' l (nx l k)) (rw l k) := by
  refine rf_spec (fun j hj => ?_) G.dec
  have hm : lst (row l k j) ∈ row l k j := lst_mem (G.ne j hj)
  have h1 := (G.mem _).1 ⟨j, hj, hm⟩
  have h2 := nx_low h hk h1
  have h3 := h.vb _ (ord_mem.1 (List.mem_of_mem_take h1))
  refine ⟨?_, h3.g1⟩
  show (at' l (lst (row l k j))).dark ≤ _
  unfold Low at h2
  omega
theorem row_succ {l : List Bt} (h : Ok l) {k : Nat} (hk : k < l.length) (G : Gd l k) (j : Nat) : row l (k + 1) j = if j = rw l k then row l k j ++ [nx l k] else row l k j := by
  unfold row
  rw [gr_succ, put_get (G.rfok h hk).len]
  split
  · rename_i e; subst e; rfl
  · rfl
theorem Gd.step {l : List Bt} (h : Ok l) {k : Nat} (hk : k < l.length) (G : Gd l k) : Gd l (k + 1) := by
  have R := G.rfok h hk
  have HR := row_succ h hk G
  have hlen : (gr l (k + 1)).length = if rw l k < (gr l k).length then (gr l k).length else (gr l k).length + 1 := by rw [gr_succ, put_len]
  have hrl := R.len
  have hmem : ∀ {i j}, i ∈ row l (k + 1) j → i ∈ row l k j ∨ (i = nx l k ∧ j = rw l k) := fun {i j} hi => by
    rw [HR] at hi
    split at hi
    · rcases List.mem_append.1 hi with hi | hi
      · exact .inl hi
      · exact .inr ⟨List.mem_singleton.1 hi, by assumption⟩
    · exact .inl hi
  have hold : ∀ {i j}, i ∈ row l k j → i ∈ row l (k + 1) j := fun {i j} hi => by
    rw [HR]; split
    · exact List.mem_append_left _ hi
    · exact hi
  have hin : ∀ {i j}, i ∈ row l k j → i ∈ (ord l).take k := fun {i j} hi => (G.mem i).1 ⟨j, row_lt hi, hi⟩
  have hnew := nx_new hk
  have hle : ∀ j, le l (gr l (k + 1)) j = if j = rw l k then at' l (nx l k) else le l (gr l k) j := fun j => by
    show at' l (lst (row l (k + 1) j)) = _
    rw [HR]
    split
    · rw [lst_snoc]
    · rfl
  have hgr : ∀ {i j}, i ∈ row l k j → (at' l i).grain ≤ (le l (gr l k) j).grain := fun {i j} hi => (may_true.1 (chain_lst (G.chain j) hi)).2
  have hbr : ∀ i, i ≠ nx l k → br l (k + 1) i = br l k i := fun i hi => if_neg (fun e => hi e.2)
  have hni : ∀ {i j}, i ∈ row l k j → i ≠ nx l k := fun hi e => hnew (e ▸ hin hi)
  refine ⟨fun j hj => ?_, fun i => ?_, fun i j j' h1 h2 => ?_, fun j => ?_, fun j => ?_, fun i j hij hj => ?_, fun i hi => ?_, fun i j h0 hi => ?_, fun i i' j j' h1 h2 hd hg => ?_⟩
  · rw [HR]
    split
    · simp
    · rename_i e
      refine G.ne j ?_
      rw [hlen] at hj
      split at hj <;> omega
  · rw [nx_take hk, List.mem_append, List.mem_singleton, ← G.mem]
    constructor
    · rintro ⟨j, hj, hi⟩
      rcases hmem hi with h1 | ⟨h1, _⟩
      · exact .inl ⟨j, row_lt h1, h1⟩
      · exact .inr h1
    · rintro (⟨j, hj, hi⟩ | rfl)
      · exact ⟨j, row_lt (hold hi), hold hi⟩
      · have : nx l k ∈ row l (k + 1) (rw l k) := by rw [HR, if_pos rfl]; simp
        exact ⟨_, row_lt this, this⟩
  · rcases hmem h1 with a | ⟨a, a'⟩ <;> rcases hmem h2 with b | ⟨b, b'⟩
    · exact G.one i j j' a b
    · exact absurd b (hni a)
    · exact absurd a (hni b)
    · omega
  · rw [HR]
    split
    · rename_i e
      subst e
      rw [List.pairwise_append]
      refine ⟨G.chain _, by simp, fun a ha b hb => ?_⟩
      rw [List.mem_singleton] at hb
      subst hb
      have h1 := hgr ha
      have h2 := R.at' (row_lt ha)
      have h3 := nx_low h hk (hin ha)
      unfold Low at h3
      exact may_true.2 (by omega)
    · exact G.chain j
  · rw [HR]
    split
    · rw [List.nodup_append]
      exact ⟨G.nd _, by simp, fun a ha b hb e => hni ha (by rw [e]; exact List.mem_singleton.1 hb)⟩
    · exact G.nd j
  · rw [hle, hle]
    have hj' : j < (gr l k).length ∨ j = rw l k ∧ j = (gr l k).length := by
      rw [hlen] at hj
      split at hj
      · exact .inl hj
      · omega
    by_cases e : j = rw l k
    · rw [if_pos e, if_neg (by omega)]
      exact R.up i (by omega)
    · have hjl : j < (gr l k).length := by omega
      rw [if_neg e]
      by_cases e2 : i = rw l k
      · rw [if_pos e2]
        have h1 := R.at' (by omega)
        have h2 := G.dec i j hij hjl
        subst e2
        omega
      · rw [if_neg e2]
        exact G.dec i j hij hjl
  · rcases hmem hi with a | ⟨a, a'⟩
    · rw [hbr i (hni a)]; exact G.b0 i a
    · subst a
      show (if 0 < rw l k ∧ nx l k = nx l k then _ else br l k (nx l k)) = none
      rw [if_neg (by omega)]
      have : ∀ m, m ≤ k → br l m (nx l k) = none := fun m => by
        induction m with
        | zero => intro _; rfl
        | succ m ih =>
          intro hm
          have hne : nx l k ≠ nx l m := fun e => hnew (by
            rw [e]
            have h1 : nx l m ∈ (ord l).take (m + 1) := by rw [nx_take (by omega)]; simp
            exact List.take_subset_take_left _ hm h1)
          show (if 0 < rw l m ∧ nx l k = nx l m then _ else br l m (nx l k)) = none
          rw [if_neg (fun e => hne e.2)]
          exact ih (by omega)
      exact this k (Nat.le_refl _)
  · rcases hmem hi with a | ⟨a, a'⟩
    · obtain ⟨p, h1, h2, h3⟩ := G.bs i j h0 a
      exact ⟨p, by rw [hbr i (hni a)]; exact h1, hold h2, h3⟩
    · subst a a'
      have hj1 : rw l k - 1 < (gr l k).length := by omega
      have hrow : row l (k + 1) (rw l k - 1) = row l k (rw l k - 1) := by rw [HR, if_neg (by omega)]
      refine ⟨_, if_pos ⟨h0, rfl⟩, ?_, ?_⟩
      · show lst (row l (k + 1) (rw l k - 1)) ∈ _
        rw [hrow]
        exact lst_mem (G.ne _ hj1)
      · show (at' l (lst (row l (k + 1) (rw l k - 1)))).dark < _ ∧ _ < (at' l (lst (row l (k + 1) (rw l k - 1)))).grain
        rw [hrow]
        have h1 := nx_low h hk (hin (lst_mem (G.ne _ hj1)))
        have h2 := R.up _ (show rw l k - 1 < rw l k by omega)
        change _ < (at' l (lst (row l k (rw l k - 1)))).grain at h2
        unfold Low at h1
        omega
  · rcases hmem h1 with a | ⟨a, a'⟩ <;> rcases hmem h2 with b | ⟨b, b'⟩
    · exact G.up i i' j j' a b hd hg
    · subst b b'
      rcases Nat.lt_or_ge j (rw l k) with c | c
      · exact c
      · have h3 := hgr a
        have h4 := row_lt a
        have h5 := R.at' (by omega)
        rcases Nat.lt_or_eq_of_le c with c | c
        · have := G.dec _ _ c h4
          omega
        · rw [← c] at h3; omega
    · subst a a'
      have := nx_low h hk (hin b)
      unfold Low at this
      omega
    · subst a b; omega
theorem Gd.all {l : List Bt} (h : Ok l) : ∀ k, k ≤ l.length → Gd l k
  | 0, _ => Gd.zero l
  | k + 1, hk => (Gd.all h k (by omega)).step h hk
end Go.Proofs.Ytlfbfdhdkccaeaa.Pl
