/- Plain: lines of the same thing as one. -/
import Derived.Test.YtdihnbjmeppbcaaDoorP11
namespace Go.Proofs.YtdihnbjmeppbcaaDoor.Pl

/-- two lines are of the same thing -/
def sk (x y : Ln) : Bool := decide (x.md = y.md) && (decide (x.col = y.col) && decide (x.siz = y.siz))
theorem sk_true {x y : Ln} : sk x y = true ↔ x.md = y.md ∧ x.col = y.col ∧ x.siz = y.siz := by
  unfold sk
  rw [Bool.and_eq_true, Bool.and_eq_true, decide_eq_true_iff, decide_eq_true_iff, decide_eq_true_iff]
theorem sk_comm {x y : Ln} (h : sk x y = true) : sk y x = true := by
  rw [sk_true] at h ⊢
  exact ⟨h.1.symm, h.2.1.symm, h.2.2.symm⟩
theorem sk_trans {x y z : Ln} (h : sk x y = true) (h2 : sk x z = true) : sk y z = true := by
  rw [sk_true] at h h2 ⊢
  exact ⟨h.1.symm.trans h2.1, h.2.1.symm.trans h2.2.1, h.2.2.symm.trans h2.2.2⟩
/-- y, with x's pieces if it is of the same thing -/
def bump (x y : Ln) : Ln := if sk x y = true then ⟨y.md, y.col, y.siz, y.cnt + x.cnt⟩ else y
/-- one more line -/
def put (acc : List Ln) (x : Ln) : List Ln := if acc.any (sk x) = true then acc.map (bump x) else acc ++ [x]
/-- the first k lines, merged -/
def mg (ls : List Ln) : Nat → List Ln
  | 0 => []
  | k + 1 => put (mg ls k) (ls.getD k default)
/-- the sum of the counts, each times what g gives for its model -/
def tot (g : ByteArray → Int) : List Ln → Int
  | [] => 0
  | y :: ys => g y.md * y.cnt + tot g ys
/-- no two are of the same thing -/
def Un (l : List Ln) : Prop := l.Pairwise (fun x y => sk x y = false)
theorem bump_sk (x y z : Ln) : sk z (bump x y) = sk z y := by
  unfold bump
  split <;> rfl
theorem sk_bump (x y z : Ln) : sk (bump x y) z = sk y z := by
  unfold bump
  split <;> rfl
theorem tot_append (g : ByteArray → Int) (l : List Ln) (x : Ln) : tot g (l ++ [x]) = tot g l + g x.md * x.cnt := by
  induction l with
  | nil => simp [tot]
  | cons y ys ih => rw [List.cons_append, tot, tot, ih]; omega
theorem map_bump_none {x : Ln} : ∀ {l : List Ln}, (∀ y, y ∈ l → sk x y = false) → l.map (bump x) = l
  | [], _ => rfl
  | y :: ys, h => by
    rw [List.map_cons, map_bump_none (fun z hz => h z (List.mem_cons_of_mem _ hz))]
    unfold bump
    rw [if_neg (by rw [h y List.mem_cons_self]; decide)]
theorem tot_bump (g : ByteArray → Int) {x : Ln} : ∀ {l : List Ln}, Un l → l.any (sk x) = true → tot g (l.map (bump x)) = tot g l + g x.md * x.cnt
  | [], _, h => by cases h
  | y :: ys, hu, h => by
    unfold Un at hu
    rw [List.pairwise_cons] at hu
    by_cases hxy : sk x y = true
    · have hn : ∀ z, z ∈ ys → sk x z = false := fun z hz => by
        rw [← Bool.not_eq_true]
        intro hxz
        have := hu.1 z hz
        rw [sk_trans hxy hxz] at this
        cases this
      rw [List.map_cons, map_bump_none hn, tot, tot]
      have e : bump x y = ⟨y.md, y.col, y.siz, y.cnt + x.cnt⟩ := if_pos hxy
      rw [e, (sk_true.1 hxy).1]
      show g y.md * (y.cnt + x.cnt) + tot g ys = g y.md * y.cnt + tot g ys + g y.md * x.cnt
      rw [Int.mul_add]
      omega
    · have h2 : ys.any (sk x) = true := by
        rw [List.any_cons, Bool.or_eq_true] at h
        exact h.resolve_left hxy
      have ih := tot_bump g hu.2 h2
      have e : bump x y = y := if_neg hxy
      rw [List.map_cons, tot, tot, ih, e]
      omega
theorem Un.put {l : List Ln} (h : Un l) (x : Ln) : Un (put l x) := by
  unfold Pl.put
  split
  · unfold Un at h ⊢
    rw [List.pairwise_map]
    exact h.imp (fun {a b} hab => by rw [sk_bump, bump_sk]; exact hab)
  · rename_i hx
    unfold Un at h ⊢
    rw [List.pairwise_append]
    refine ⟨h, List.pairwise_singleton _ _, fun a ha b hb => ?_⟩
    rw [List.mem_singleton.1 hb, ← Bool.not_eq_true]
    intro hax
    exact hx (List.any_eq_true.2 ⟨a, ha, sk_comm hax⟩)
theorem mg_un (ls : List Ln) : ∀ k, Un (mg ls k)
  | 0 => List.Pairwise.nil
  | k + 1 => (mg_un ls k).put _
theorem tot_put (g : ByteArray → Int) {l : List Ln} (h : Un l) (x : Ln) : tot g (put l x) = tot g l + g x.md * x.cnt := by
  unfold put
  split
  · rename_i hx; exact tot_bump g h hx
  · exact tot_append g l x
/-- merging keeps every sum that looks at the model alone -/
theorem tot_mg (g : ByteArray → Int) (ls : List Ln) : ∀ k, tot g (mg ls k) = sm (fun i => g (ls.getD i default).md * (ls.getD i default).cnt) k
  | 0 => rfl
  | k + 1 => by
    rw [mg, tot_put g (mg_un ls k), tot_mg g ls k]
    rfl
theorem tot_sm (g : ByteArray → Int) (l : List Ln) : tot g l = sm (fun i => g (l.getD i default).md * (l.getD i default).cnt) l.length := by
  have hg : ∀ (p q : List Ln), sm (fun i => g ((p ++ q).getD i default).md * ((p ++ q).getD i default).cnt) p.length = sm (fun i => g (p.getD i default).md * (p.getD i default).cnt) p.length := fun p q => sm_ext (fun i hi => by
    rw [List.getD_eq_getElem?_getD, List.getD_eq_getElem?_getD, List.getElem?_append_left hi])
  have : ∀ n (l : List Ln), l.length = n → tot g l = sm (fun i => g (l.getD i default).md * (l.getD i default).cnt) l.length := by
    intro n
    induction n with
    | zero => intro l hl; rw [List.eq_nil_of_length_eq_zero hl]; rfl
    | succ n ih =>
      intro l hl
      obtain ⟨p, x, rfl⟩ : ∃ p x, l = p ++ [x] := ⟨l.dropLast, l.getLast (by intro h; rw [h] at hl; cases hl), (List.dropLast_concat_getLast _).symm⟩
      have hp : p.length = n := by simpa using hl
      have e : (p ++ [x]).length = p.length + 1 := by simp
      rw [tot_append, ih p hp, e]
      show _ = sm _ p.length + _
      rw [hg]
      have e2 : (p ++ [x]).getD p.length default = x := by simp
      show _ = _ + g ((p ++ [x]).getD p.length default).md * ((p ++ [x]).getD p.length default).cnt
      rw [e2]
  exact this _ l rfl
theorem pcs_tot (l : List Ln) (m : ByteArray) : pcs l m l.length = tot (fun d => if d = m then 1 else 0) l := by
  rw [pcs_sm, tot_sm]
  refine sm_ext (fun i _ => ?_)
  show (if (l.getD i default).md = m then (l.getD i default).cnt else 0) = (if (l.getD i default).md = m then 1 else 0) * (l.getD i default).cnt
  split
  · rw [Int.one_mul]
  · rw [Int.zero_mul]
/-- merging keeps the pieces of every model -/
theorem pcs_mg (ls : List Ln) (m : ByteArray) : pcs (mg ls ls.length) m (mg ls ls.length).length = pcs ls m ls.length := by
  rw [pcs_tot, tot_mg, pcs_tot, tot_sm]
end Go.Proofs.YtdihnbjmeppbcaaDoor.Pl
