/- Plain: entries, books, their order, and the map of a list's entries by their names. It imports nothing of the program. -/
namespace Go.Proofs.Ytalfffkcmddakab.Pl

def inB (a x b : Int) : Bool := decide (a ≤ x) && decide (x ≤ b)
theorem inB_true {a x b : Int} : inB a x b = true ↔ a ≤ x ∧ x ≤ b := by unfold inB; rw [Bool.and_eq_true, decide_eq_true_iff, decide_eq_true_iff]
theorem inB_false {a x b : Int} : inB a x b = false ↔ ¬ (a ≤ x ∧ x ≤ b) := by rw [← inB_true, Bool.not_eq_true]

/-- an entry -/
structure En where
  k : Int
  r : Int
  d : Int
  c : Int
deriving DecidableEq
def z0 : En := ⟨0, 0, 0, 0⟩
instance : Inhabited En := ⟨z0⟩
abbrev Nm := Int × Int
/-- the name of an entry -/
def nm (e : En) : Nm := (e.k, e.r)
theorem nm_eq {e f : En} : nm e = nm f ↔ e.k = f.k ∧ e.r = f.r := by unfold nm; rw [Prod.mk.injEq]
def vC (e : En) : Bool := inB 1 e.k 3 && inB 1 e.c 1000000000 || decide (e.k = 4) && decide (e.c = 0)
/-- a valid entry -/
def vE (e : En) : Bool := inB 1 e.r 1000000000 && inB 0 e.d 100000 && vC e
structure Ve (e : En) : Prop where
  k1 : 1 ≤ e.k
  k4 : e.k ≤ 4
  r1 : 1 ≤ e.r
  r9 : e.r ≤ 1000000000
  d0 : 0 ≤ e.d
  d1 : e.d ≤ 100000
  c0 : 0 ≤ e.c
  c9 : e.c ≤ 1000000000
  c1 : e.k ≠ 4 → 1 ≤ e.c
  c4 : e.k = 4 → e.c = 0
theorem ve_iff {e : En} : vE e = true ↔ Ve e := by
  unfold vE vC
  simp only [Bool.and_eq_true, Bool.or_eq_true, inB_true, decide_eq_true_iff]
  constructor
  · rintro ⟨⟨h1, h2⟩, h3⟩
    constructor <;> omega
  · intro h
    have := h.k1; have := h.k4; have := h.r1; have := h.r9; have := h.d0; have := h.d1; have := h.c0; have := h.c9; have := h.c1; have := h.c4
    refine ⟨⟨by omega, by omega⟩, by omega⟩
theorem ve_z0 {e : En} (h : vE e = true) : e ≠ z0 := by
  rintro rfl
  have := (ve_iff.1 h).k1
  simp [z0] at this

/-- ahead in the order of entries -/
def lt (e f : En) : Bool := decide (e.k < f.k) || decide (e.k = f.k) && decide (e.r < f.r)
theorem lt_iff {e f : En} : lt e f = true ↔ e.k < f.k ∨ e.k = f.k ∧ e.r < f.r := by unfold lt; simp [Bool.or_eq_true]
theorem lt_iff' {e f : En} : lt e f = false ↔ ¬ (e.k < f.k ∨ e.k = f.k ∧ e.r < f.r) := by rw [← lt_iff, Bool.not_eq_true]
theorem lt_total {e f : En} (h : nm e ≠ nm f) : lt e f = true ∨ lt f e = true := by
  rw [lt_iff, lt_iff]
  have : ¬ (e.k = f.k ∧ e.r = f.r) := fun h' => h (nm_eq.2 h')
  omega
abbrev Asc (l : List En) : Prop := l.Pairwise fun x y => lt x y = true
def put : List En → En → List En
  | [], e => [e]
  | x :: l, e => if lt x e then x :: put l e else e :: x :: l
theorem put_at : ∀ (l : List En) (e : En) (k : Nat), k ≤ l.length → (∀ (i : Nat) (hi : i < l.length), i < k → lt l[i] e = true) → (∀ h : k < l.length, lt l[k] e = false) → put l e = l.take k ++ e :: l.drop k
  | [], e, k, _, _, _ => by simp [put]
  | x :: l, e, 0, _, _, h2 => by
    have := h2 (by simp)
    simp at this
    simp [put, this]
  | x :: l, e, k + 1, hk, h1, h2 => by
    have h0 := h1 0 (by simp) (by omega)
    simp at h0
    have := put_at l e k (by simpa using hk) (fun i hi hik => by have := h1 (i + 1) (by simp; omega) (by omega); rwa [List.getElem_cons_succ] at this) (fun h => by have := h2 (by simp; omega); rwa [List.getElem_cons_succ] at this)
    simp [put, h0, this]
theorem put_perm : ∀ (l : List En) (e : En), (put l e).Perm (e :: l)
  | [], e => .refl _
  | x :: l, e => by
    unfold put
    split
    · exact ((put_perm l e).cons x).trans (.swap _ _ _)
    · exact .refl _
theorem put_len (l : List En) (e : En) : (put l e).length = l.length + 1 := (put_perm l e).length_eq
theorem put_mem {l : List En} {e x : En} : x ∈ put l e ↔ x = e ∨ x ∈ l := by rw [(put_perm l e).mem_iff, List.mem_cons]
theorem put_asc : ∀ (l : List En) (e : En), Asc l → (∀ x, x ∈ l → nm x ≠ nm e) → Asc (put l e)
  | [], e, _, _ => by simp [put, Asc]
  | x :: l, e, h, hn => by
    unfold put
    obtain ⟨h1, h2⟩ := List.pairwise_cons.1 h
    by_cases hx : lt x e = true
    · rw [if_pos hx]
      refine List.pairwise_cons.2 ⟨fun y hy => ?_, put_asc l e h2 fun y hy => hn y (List.mem_cons_of_mem _ hy)⟩
      rcases put_mem.1 hy with rfl | hy
      · exact hx
      · exact h1 y hy
    · rw [if_neg hx]
      have hex : lt e x = true := (lt_total (hn x (List.mem_cons_self ..))).resolve_left hx
      refine List.pairwise_cons.2 ⟨fun y hy => ?_, h⟩
      rcases List.mem_cons.1 hy with rfl | hy
      · exact hex
      · have := h1 y hy
        rw [lt_iff] at *
        omega
/-- a list in the order of entries -/
def srt (l : List En) : List En := l.foldl put []
theorem foldl_put_perm : ∀ (l acc : List En), (l.foldl put acc).Perm (l ++ acc)
  | [], acc => .refl _
  | e :: l, acc => by
    rw [List.foldl_cons]
    exact (foldl_put_perm l (put acc e)).trans (((put_perm acc e).append_left l).trans List.perm_middle)
theorem srt_perm (l : List En) : (srt l).Perm l := by
  have := foldl_put_perm l []
  rwa [List.append_nil] at this
theorem srt_len (l : List En) : (srt l).length = l.length := (srt_perm l).length_eq
theorem srt_mem {l : List En} {x : En} : x ∈ srt l ↔ x ∈ l := (srt_perm l).mem_iff
theorem foldl_put_asc : ∀ (l acc : List En), Asc acc → ((acc ++ l).map nm).Nodup → Asc (l.foldl put acc)
  | [], acc, h, _ => h
  | e :: l, acc, h, hn => by
    rw [List.foldl_cons]
    have hp : ((acc ++ e :: l).map nm).Perm ((put acc e ++ l).map nm) := by
      refine List.Perm.map nm ?_
      refine List.perm_middle.trans ?_
      have := (put_perm acc e).symm.append_right l
      exact this
    refine foldl_put_asc l _ (put_asc acc e h fun x hx he => ?_) ((hp.nodup_iff).1 hn)
    rw [List.map_append, List.map_cons] at hn
    have := (List.nodup_append.1 hn).2.2 (nm x) (List.mem_map.2 ⟨x, hx, rfl⟩) (nm e) (List.mem_cons_self ..)
    exact this he
theorem srt_asc {l : List En} (h : (l.map nm).Nodup) : Asc (srt l) := foldl_put_asc l [] List.Pairwise.nil (by simpa using h)
theorem asc_uniq : ∀ {a b : List En}, Asc a → Asc b → a.Perm b → a = b
  | [], b, _, _, h => (List.nil_perm.1 h).symm
  | x :: a, [], _, _, h => absurd h.length_eq (by simp)
  | x :: a, y :: b, ha, hb, h => by
    obtain ⟨ha1, ha2⟩ := List.pairwise_cons.1 ha
    obtain ⟨hb1, hb2⟩ := List.pairwise_cons.1 hb
    have hxy : x = y := by
      have h1 : x ∈ y :: b := h.mem_iff.1 (List.mem_cons_self ..)
      have h2 : y ∈ x :: a := h.mem_iff.2 (List.mem_cons_self ..)
      rcases List.mem_cons.1 h1 with e | h1
      · exact e
      · rcases List.mem_cons.1 h2 with e | h2
        · exact e.symm
        · have k1 := ha1 y h2
          have k2 := hb1 x h1
          rw [lt_iff] at k1 k2
          omega
    subst hxy
    rw [asc_uniq ha2 hb2 (List.Perm.cons_inv h)]
theorem asc_nodup {l : List En} (h : Asc l) : (l.map nm).Nodup := by
  rw [List.Nodup, List.pairwise_map]
  refine h.imp fun {x y} hxy e => ?_
  have := nm_eq.1 e
  rw [lt_iff] at hxy
  omega
theorem srt_of_perm {a b : List En} (h : (b.map nm).Nodup) (hp : a.Perm b) : srt a = srt b := by
  have ha : (a.map nm).Nodup := ((hp.map nm).nodup_iff).2 h
  exact asc_uniq (srt_asc ha) (srt_asc h) ((srt_perm a).trans (hp.trans (srt_perm b).symm))
theorem asc_srt {l : List En} (h : Asc l) : srt l = l := asc_uniq (srt_asc (asc_nodup h)) h (srt_perm l)
theorem srt_idem {l : List En} (h : (l.map nm).Nodup) : srt (srt l) = srt l := asc_srt (srt_asc h)
theorem srt_snoc (l : List En) (e : En) : srt (l ++ [e]) = put (srt l) e := by unfold srt; rw [List.foldl_append]; rfl

/-- the entry with a name -/
def fnd (l : List En) (n : Nm) : Option En := l.find? fun x => decide (nm x = n)
theorem fnd_nil (n : Nm) : fnd [] n = none := rfl
theorem fnd_some {l : List En} {n : Nm} {e : En} (h : fnd l n = some e) : e ∈ l ∧ nm e = n := ⟨List.mem_of_find?_eq_some h, by simpa using List.find?_some h⟩
theorem fnd_none {l : List En} {n : Nm} : fnd l n = none ↔ ∀ x, x ∈ l → nm x ≠ n := by unfold fnd; rw [List.find?_eq_none]; simp
theorem fnd_none' {l : List En} {n : Nm} : fnd l n = none ↔ n ∉ l.map nm := by
  rw [fnd_none]
  constructor
  · intro h hm
    obtain ⟨x, hx, e⟩ := List.mem_map.1 hm
    exact h x hx e
  · intro h x hx e
    exact h (List.mem_map.2 ⟨x, hx, e⟩)
theorem fnd_append (a b : List En) (n : Nm) : fnd (a ++ b) n = (fnd a n).or (fnd b n) := by unfold fnd; exact List.find?_append
theorem fnd_one (e : En) (n : Nm) : fnd [e] n = if nm e = n then some e else none := by unfold fnd; simp [List.find?_cons]; split <;> simp_all
theorem fnd_self {l : List En} (h : (l.map nm).Nodup) {e : En} (he : e ∈ l) : fnd l (nm e) = some e := by
  induction l with
  | nil => cases he
  | cons x l ih =>
    rw [List.map_cons, List.nodup_cons] at h
    unfold fnd
    rw [List.find?_cons]
    rcases List.mem_cons.1 he with rfl | he
    · simp
    · have : nm x ≠ nm e := fun e' => h.1 (e' ▸ List.mem_map.2 ⟨e, he, rfl⟩)
      simp [this]
      exact ih h.2 he
theorem fnd_perm {a b : List En} (h : (a.map nm).Nodup) (hp : a.Perm b) (n : Nm) : fnd a n = fnd b n := by
  have hb : (b.map nm).Nodup := ((hp.map nm).nodup_iff).1 h
  cases hA : fnd a n with
  | none => exact (fnd_none.2 fun x hx => fnd_none.1 hA x (hp.mem_iff.2 hx)).symm
  | some e =>
    obtain ⟨h1, rfl⟩ := fnd_some hA
    exact (fnd_self hb (hp.mem_iff.1 h1)).symm

/-- a map of entries by their names, with one more -/
def ups (S : List En) (e : En) : List En := S.filter (fun x => decide (nm x ≠ nm e)) ++ [e]
theorem ups_new {S : List En} {e : En} (h : fnd S (nm e) = none) : ups S e = S ++ [e] := by
  unfold ups
  rw [List.filter_eq_self.2 fun x hx => by simpa using fnd_none.1 h x hx]
theorem ups_nodup {S : List En} (h : (S.map nm).Nodup) (e : En) : ((ups S e).map nm).Nodup := by
  unfold ups
  rw [List.map_append, List.nodup_append]
  refine ⟨?_, by simp, ?_⟩
  · exact List.Pairwise.sublist ((List.filter_sublist (l := S)).map nm) h
  · intro a ha b hb
    simp at hb
    subst hb
    obtain ⟨x, hx, rfl⟩ := List.mem_map.1 ha
    have := (List.mem_filter.1 hx).2
    simpa using this
theorem fnd_ups (S : List En) (e : En) (n : Nm) : fnd (ups S e) n = if nm e = n then some e else fnd S n := by
  unfold ups
  rw [fnd_append, fnd_one]
  by_cases h : nm e = n
  · rw [if_pos h, if_pos h, fnd_none.2, Option.none_or]
    intro x hx
    have := (List.mem_filter.1 hx).2
    rw [← h]
    simpa using this
  · rw [if_neg h, if_neg h, Option.or_none]
    unfold fnd
    rw [List.find?_filter]
    congr 1
    funext x
    by_cases hx : nm x = n
    · have : nm x ≠ nm e := fun h' => h (h'.symm.trans hx)
      simp [hx, Ne.symm h]
    · simp [hx]
theorem ups_len {S : List En} {e : En} (h : fnd S (nm e) ≠ none) : (ups S e).length ≤ S.length := by
  unfold ups
  have : (S.filter fun x => decide (nm x ≠ nm e)).length < S.length := by
    refine List.length_filter_lt_length_iff_exists.2 ?_
    cases hf : fnd S (nm e) with
    | none => exact absurd hf h
    | some y =>
      obtain ⟨h1, h2⟩ := fnd_some hf
      exact ⟨y, h1, by simpa using h2⟩
  rw [List.length_append, List.length_singleton]
  exact this
/-- the map of a list -/
def gm (l : List En) : List En := l.foldl ups []
theorem gm_nil : gm [] = [] := rfl
theorem gm_snoc (l : List En) (e : En) : gm (l ++ [e]) = ups (gm l) e := by unfold gm; rw [List.foldl_append]; rfl
theorem fold_nodup : ∀ (l S : List En), (S.map nm).Nodup → ((l.foldl ups S).map nm).Nodup
  | [], _, h => h
  | e :: l, _, h => fold_nodup l _ (ups_nodup h e)
theorem gm_nodup (l : List En) : ((gm l).map nm).Nodup := fold_nodup l [] List.nodup_nil
theorem fold_len : ∀ (l S : List En), (S.map nm).Nodup → (l.foldl ups S).length ≤ S.length + l.length ∧ ((l.foldl ups S).length = S.length + l.length ↔ ((S ++ l).map nm).Nodup)
  | [], S, h => by simp [h]
  | e :: l, S, h => by
    rw [List.foldl_cons, List.length_cons]
    obtain ⟨h1, h2⟩ := fold_len l (ups S e) (ups_nodup h e)
    by_cases hf : fnd S (nm e) = none
    · rw [ups_new hf] at *
      rw [List.length_append, List.length_singleton] at h1 h2
      rw [List.append_assoc] at h2
      exact ⟨by omega, by rw [← show S.length + 1 + l.length = S.length + (l.length + 1) by omega]; exact h2⟩
    · have hl := ups_len hf
      refine ⟨by omega, ⟨fun h' => by omega, fun hn => ?_⟩⟩
      exfalso
      rw [List.map_append, List.map_cons, List.nodup_append] at hn
      refine hf (fnd_none'.2 fun hm => ?_)
      exact hn.2.2 _ hm _ (List.mem_cons_self ..) rfl
theorem gm_len (l : List En) : (gm l).length ≤ l.length ∧ ((gm l).length = l.length ↔ (l.map nm).Nodup) := by
  have := fold_len l [] List.nodup_nil
  simpa [gm] using this
theorem fold_app : ∀ (l S : List En), (S.map nm).Nodup → (l.map nm).Nodup → l.foldl ups S = S.filter (fun x => decide (nm x ∉ l.map nm)) ++ l
  | [], S, _, _ => by
    rw [List.foldl_nil, List.append_nil, List.filter_eq_self.2 (fun x _ => by simp)]
  | e :: l, S, h, hl => by
    rw [List.map_cons, List.nodup_cons] at hl
    rw [List.foldl_cons, fold_app l _ (ups_nodup h e) hl.2]
    unfold ups
    rw [List.filter_append, List.filter_filter, List.append_assoc]
    congr 1
    · congr 1
      funext x
      simp only [List.map_cons, List.mem_cons, not_or]
      by_cases h1 : nm x = nm e <;> by_cases h2 : nm x ∈ l.map nm <;> simp [h1, h2]
    · have : decide (nm e ∉ l.map nm) = true := decide_eq_true hl.1
      rw [List.filter_cons, if_pos this]; rfl
theorem gm_id {l : List En} (h : (l.map nm).Nodup) : gm l = l := by
  have := fold_app l [] List.nodup_nil h
  simpa [gm] using this
theorem gm_app {a b : List En} (ha : (a.map nm).Nodup) (hb : (b.map nm).Nodup) : gm (a ++ b) = a.filter (fun x => decide (nm x ∉ b.map nm)) ++ b := by
  have := fold_app b a ha hb
  unfold gm
  rw [List.foldl_append]
  rw [show a.foldl ups [] = a from gm_id ha]
  exact this

/-- a valid book -/
def vB (l : List En) : Bool := decide (l.length ≤ 200) && l.all vE && decide ((l.map nm).Nodup)
structure Vb (l : List En) : Prop where
  len : l.length ≤ 200
  each : ∀ e, e ∈ l → vE e = true
  dif : (l.map nm).Nodup
theorem vb_iff {l : List En} : vB l = true ↔ Vb l := by
  unfold vB
  rw [Bool.and_eq_true, Bool.and_eq_true, decide_eq_true_iff, decide_eq_true_iff, List.all_eq_true]
  exact ⟨fun ⟨⟨h1, h2⟩, h3⟩ => ⟨h1, h2, h3⟩, fun h => ⟨⟨h.len, h.each⟩, h.dif⟩⟩
theorem Vb.perm {a b : List En} (h : Vb a) (hp : a.Perm b) : Vb b :=
  ⟨by rw [← hp.length_eq]; exact h.len, fun e he => h.each e (hp.mem_iff.2 he), ((hp.map nm).nodup_iff).1 h.dif⟩
theorem Vb.srt {a : List En} (h : Vb a) : Vb (srt a) := h.perm (srt_perm a).symm
/-- what Sorted answers -/
def soE (b : List En) : Int := if vB b then 0 else 90
def soV (b : List En) : List En := if vB b then srt b else []
/-- what Add answers -/
def adE (b : List En) (e : En) : Int := if !vB b || !vE e then 90 else if (fnd b (nm e)).isSome then 6 else if b.length = 200 then 4 else 0
def adV (b : List En) (e : En) : List En := if adE b e = 0 then srt (b ++ [e]) else []
theorem ad_ok {b : List En} {e : En} : adE b e = 0 ↔ vB b = true ∧ vE e = true ∧ fnd b (nm e) = none ∧ b.length < 200 := by
  unfold adE
  cases h1 : vB b <;> cases h2 : vE e <;> simp
  have := (vb_iff.1 h1).len
  cases h3 : fnd b (nm e) <;> simp
  omega
theorem ad_vb {b : List En} {e : En} (h : adE b e = 0) : Vb (b ++ [e]) := by
  obtain ⟨h1, h2, h3, h4⟩ := ad_ok.1 h
  have hb := vb_iff.1 h1
  refine ⟨by simp; omega, fun x hx => ?_, ?_⟩
  · rcases List.mem_append.1 hx with hx | hx
    · exact hb.each x hx
    · simp at hx; subst hx; exact h2
  · rw [← ups_new h3]
    exact ups_nodup hb.dif e
end Go.Proofs.Ytalfffkcmddakab.Pl
