/- Plain: pieces of a model, the amount of a line, Line and Invoice. -/
import Derived.Test.YtdihnbjmeppbcaaDoorP5
namespace Go.Proofs.YtdihnbjmeppbcaaDoor.Pl

/-- how many pieces of a model the first k lines have -/
def pcs (ls : List Ln) (m : ByteArray) : Nat → Int
  | 0 => 0
  | k + 1 => if (ls.getD k default).md = m then pcs ls m k + (ls.getD k default).cnt else pcs ls m k
theorem pcs_step {ls : List Ln} {m : ByteArray} {k : Nat} (hk : k < ls.length) : pcs ls m (k + 1) = if ls[k].md = m then pcs ls m k + ls[k].cnt else pcs ls m k := by
  rw [pcs, List.getD_eq_getElem?_getD, List.getElem?_eq_getElem hk]; rfl
theorem pcs_in {ls : List Ln} (h : ∀ x, x ∈ ls → 1 ≤ x.cnt ∧ x.cnt ≤ 1000) (m : ByteArray) : ∀ {k : Nat}, k ≤ ls.length → 0 ≤ pcs ls m k ∧ pcs ls m k ≤ 1000 * (k : Int)
  | 0, _ => by simp [pcs]
  | k + 1, hk => by
    have h1 := h _ (List.getElem_mem (show k < ls.length by omega))
    have h2 := pcs_in h m (k := k) (by omega)
    rw [pcs_step (by omega)]
    split <;> omega
theorem pcs_mono {ls : List Ln} (h : ∀ x, x ∈ ls → 1 ≤ x.cnt ∧ x.cnt ≤ 1000) (m : ByteArray) {j : Nat} : ∀ {k : Nat}, k ≤ ls.length → j ≤ k → pcs ls m j ≤ pcs ls m k
  | 0, _, hj => by obtain rfl : j = 0 := by omega
                   exact Int.le_refl _
  | k + 1, hk, hj => by
    rcases Nat.lt_or_eq_of_le hj with h' | rfl
    · have h1 := h _ (List.getElem_mem (show k < ls.length by omega))
      have h2 := pcs_mono h m (k := k) (j := j) (by omega) (by omega)
      rw [pcs_step (by omega)]
      split <;> omega
    · exact Int.le_refl _
/-- a line's own model has a piece at least -/
theorem pcs_pos {ls : List Ln} (h : ∀ x, x ∈ ls → 1 ≤ x.cnt ∧ x.cnt ≤ 1000) {x : Ln} (hx : x ∈ ls) : 1 ≤ pcs ls x.md ls.length := by
  obtain ⟨i, hi, rfl⟩ := List.getElem_of_mem hx
  have h1 := pcs_mono h ls[i].md (j := i + 1) (k := ls.length) (Nat.le_refl _) hi
  rw [pcs_step hi, if_pos rfl] at h1
  have h2 := h _ (List.getElem_mem hi)
  have h3 := pcs_in h ls[i].md (k := i) (by omega)
  omega
/-- the price of one piece of a model in a form -/
def amR (l : List Pr) (f : Fm) (x : Ln) : Option Nat := lt (l.map pk) x.md f.d l.length
def amP (l : List Pr) (f : Fm) (x : Ln) : Int := cen (fnd l (amR l f x)).st (pcs f.ls x.md f.ls.length) (fnd l (amR l f x)).st.length
/-- the amount of a line, and what is wrong -/
def amE (l : List Pr) (r : List Rt) (f : Fm) (x : Ln) : Int := match amR l f x with | none => 82 | some _ => cE r f.cur f.d (amP l f x * x.cnt)
def amV (l : List Pr) (r : List Rt) (f : Fm) (x : Ln) : Int := match amR l f x with | none => 0 | some _ => cV r f.cur f.d (amP l f x * x.cnt)
/-- what is wrong with what an invoice is made of -/
def ckE (l : List Pr) (r : List Rt) (f : Fm) : Int := if vps l = true then (if vrs r = true then (if vf f = true then 0 else 3) else 81) else 80
def liE (l : List Pr) (r : List Rt) (f : Fm) (i : Int) : Int := if ckE l r f = 0 then (if 0 ≤ i ∧ i < (f.ls.length : Int) then amE l r f (f.ls.getD i.toNat default) else 2) else ckE l r f
def liV (l : List Pr) (r : List Rt) (f : Fm) (i : Int) : Int := if ckE l r f = 0 then (if 0 ≤ i ∧ i < (f.ls.length : Int) then amV l r f (f.ls.getD i.toNat default) else 0) else 0
/-- the first that is not 0 -/
def fe (g : Nat → Int) : Nat → Int
  | 0 => 0
  | k + 1 => if fe g k = 0 then g k else fe g k
theorem fe_zero {g : Nat → Int} : ∀ {n : Nat}, (∀ i, i < n → g i = 0) → fe g n = 0
  | 0, _ => rfl
  | n + 1, h => by rw [fe, fe_zero (fun i hi => h i (by omega)), if_pos rfl]; exact h n (by omega)
theorem fe_hit {g : Nat → Int} {k : Nat} (h : ∀ i, i < k → g i = 0) (hk : g k ≠ 0) : ∀ {n : Nat}, k < n → fe g n = g k
  | 0, hn => by omega
  | n + 1, hn => by
    rcases Nat.lt_succ_iff_lt_or_eq.1 hn with h' | rfl
    · rw [fe, fe_hit h hk h', if_neg hk]
    · rw [fe, fe_zero h, if_pos rfl]
theorem fe_all {g : Nat → Int} : ∀ {n : Nat}, fe g n = 0 → ∀ i, i < n → g i = 0
  | 0, _, i, hi => by omega
  | n + 1, h, i, hi => by
    rw [fe] at h
    split at h
    · rename_i h0
      rcases Nat.lt_succ_iff_lt_or_eq.1 hi with h' | rfl
      · exact fe_all h0 i h'
      · exact h
    · rename_i h0; exact absurd h h0
/-- the amount and the error of line i -/
def lnE (l : List Pr) (r : List Rt) (f : Fm) (i : Nat) : Int := amE l r f (f.ls.getD i default)
def lnV (l : List Pr) (r : List Rt) (f : Fm) (i : Nat) : Int := amV l r f (f.ls.getD i default)
/-- Invoice -/
def ivE (l : List Pr) (r : List Rt) (f : Fm) : Int := if ckE l r f = 0 then fe (lnE l r f) f.ls.length else ckE l r f
def ivV (l : List Pr) (r : List Rt) (f : Fm) : List Int := if ivE l r f = 0 then tab (lnV l r f) f.ls.length else []
def ivS (l : List Pr) (r : List Rt) (f : Fm) : Int := if ivE l r f = 0 then sm (lnV l r f) f.ls.length else 0
structure Ck (l : List Pr) (r : List Rt) (f : Fm) : Prop where
  p : vps l = true
  r : vrs r = true
  f : vf f = true
theorem ck_ok {l : List Pr} {r : List Rt} {f : Fm} (h : ckE l r f = 0) : Ck l r f := by
  unfold ckE at h
  split at h
  · split at h
    · split at h
      · exact ⟨by assumption, by assumption, by assumption⟩
      · omega
    · omega
  · omega
theorem Ck.e {l : List Pr} {r : List Rt} {f : Fm} (h : Ck l r f) : ckE l r f = 0 := by
  unfold ckE; rw [if_pos h.p, if_pos h.r, if_pos h.f]
theorem cnts {f : Fm} (h : Vf f) : ∀ x, x ∈ f.ls → 1 ≤ x.cnt ∧ x.cnt ≤ 1000 := fun x hx => ⟨(h.ls x hx).n0, (h.ls x hx).n1⟩
theorem pcs_ok {f : Fm} (h : Vf f) {x : Ln} (hx : x ∈ f.ls) : 1 ≤ pcs f.ls x.md f.ls.length ∧ pcs f.ls x.md f.ls.length ≤ 40000 := by
  have h1 := pcs_pos (cnts h) hx
  have h2 := pcs_in (cnts h) x.md (k := f.ls.length) (Nat.le_refl _)
  have h3 := h.n1
  omega
theorem fnd_st {l : List Pr} (h : vps l = true) {n : ByteArray} {d : Int} : Vst (fnd l (lt (l.map pk) n d l.length)).st ∨ fnd l (lt (l.map pk) n d l.length) = default := by
  rcases fnd_mem (l := l) (ks := l.map pk) (n := n) (d := d) with h' | h'
  · exact .inr h'
  · refine .inl ?_
    rw [vps_eq, vls_true] at h
    obtain ⟨i, hi, e⟩ := List.getElem_of_mem h'
    have := h.2.1 i hi
    rw [e] at this
    exact vst_true.1 (vp_true.1 this).st
theorem amP_in {l : List Pr} (h : vps l = true) (f : Fm) (x : Ln) : 0 ≤ amP l f x ∧ amP l f x ≤ 10000000 := by
  unfold amP amR
  rcases fnd_st h (n := x.md) (d := f.d) with h' | h'
  · exact cen_in h'.ok _ (Nat.le_refl _)
  · rw [h']; show 0 ≤ (0 : Int) ∧ (0 : Int) ≤ 10000000; omega
theorem amQ_in {l : List Pr} {f : Fm} {x : Ln} (h : vps l = true) (hx : 1 ≤ x.cnt ∧ x.cnt ≤ 1000) : 0 ≤ amP l f x * x.cnt ∧ amP l f x * x.cnt ≤ 10000000000 := by
  have h1 := amP_in h f x
  have h2 := mul_le (A := 10000000) (B := 1000) (show -10000000 ≤ amP l f x by omega) h1.2 (show 0 ≤ x.cnt by omega) hx.2 (by decide)
  have h3 : 0 ≤ amP l f x * x.cnt := Int.mul_nonneg h1.1 (by omega)
  omega
/-- what is converted is an amount, or 0 -/
theorem cV_in {r : List Rt} {cur : ByteArray} {d a : Int} (ha : -1099511627776 ≤ a ∧ a ≤ 1099511627776) : -1099511627776 ≤ cV r cur d a ∧ cV r cur d a ≤ 1099511627776 := by
  unfold cV
  split
  · exact ha
  · split
    · omega
    · split
      · rename_i h; exact inB_true.1 h
      · omega
theorem amV_in {l : List Pr} {r : List Rt} {f : Fm} {x : Ln} (h : vps l = true) (hx : 1 ≤ x.cnt ∧ x.cnt ≤ 1000) : -1099511627776 ≤ amV l r f x ∧ amV l r f x ≤ 1099511627776 := by
  have h1 := amQ_in (f := f) h hx
  unfold amV
  split
  · omega
  · exact cV_in (by omega)
/-- the document's Price of a line -/
theorem prU_line {l : List Pr} {r : List Rt} {f : Fm} (hc : Ck l r f) {x : Ln} (hx : x ∈ f.ls) : prG l x.md f.d (pcs f.ls x.md f.ls.length) = soE (amR l f x) ∧ prU l x.md f.d (pcs f.ls x.md f.ls.length) = amP l f x := by
  have hf := vf_true.1 hc.f
  have hp := pcs_ok hf hx
  have h1 : (dy f.d && inB 1 (pcs f.ls x.md f.ls.length) 100000) = true := by
    rw [Bool.and_eq_true, inB_true]
    exact ⟨inB_true.2 ⟨hf.d0, hf.d1⟩, by omega, by omega⟩
  constructor
  · unfold prG; rw [if_pos hc.p, if_pos h1]; rfl
  · unfold prU prF; rw [if_pos hc.p, if_pos h1]; rfl
/-- the document's Convert of a line -/
theorem co_line {l : List Pr} {r : List Rt} {f : Fm} (hc : Ck l r f) {a : Int} (ha : 0 ≤ a ∧ a ≤ 10000000000) : coV r f.cur f.d a = cV r f.cur f.d a ∧ coE r f.cur f.d a = cE r f.cur f.d a := by
  have hf := vf_true.1 hc.f
  have h1 : (cyB f.cur && (dy f.d && am a)) = true := by
    rw [Bool.and_eq_true, Bool.and_eq_true]
    exact ⟨hf.cur, inB_true.2 ⟨hf.d0, hf.d1⟩, inB_true.2 (by omega)⟩
  unfold coV coE
  rw [if_pos hc.r, if_pos hc.r, if_pos h1, if_pos h1]
  exact ⟨rfl, rfl⟩
/-- the sum of a table -/
theorem cu_tab (g : Nat → Int) {n : Nat} : ∀ k, k ≤ n → cu (tab g n) k = sm g k := fun k hk => by
  unfold cu
  refine sm_ext (fun i hi => ?_)
  unfold el
  exact tab_getD g 0 (by omega)
theorem lnV_sum {l : List Pr} {r : List Rt} {f : Fm} (hc : Ck l r f) {k : Nat} (hk : k ≤ f.ls.length) : -50000000000000 ≤ sm (lnV l r f) k ∧ sm (lnV l r f) k ≤ 50000000000000 := by
  have hf := vf_true.1 hc.f
  have h1 := sm_bound (f := lnV l r f) (n := k) (lo := -1099511627776) (hi := 1099511627776) (fun i hi => by
    have hi' : i < f.ls.length := by omega
    have e : f.ls.getD i default = f.ls[i] := by rw [List.getD_eq_getElem?_getD, List.getElem?_eq_getElem hi']; rfl
    unfold lnV
    rw [e]
    exact amV_in hc.p (cnts hf _ (List.getElem_mem hi')))
  have h2 := hf.n1
  omega
end Go.Proofs.YtdihnbjmeppbcaaDoor.Pl
