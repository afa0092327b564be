/- Merged: P5 P6 P8 P9 P10 P11 P12 P13. -/
import Derived.Test.YtbdnocijhbkclaaGreatDoorPC
/- Plain: the price that is found, and what Price and Cheapest answer. -/
namespace Go.Proofs.YtbdnocijhbkclaaGreatDoor.Pl

/-- what is wrong when nothing was found -/
def soE : Option Nat → Int
  | none => 82
  | some _ => 0
/-- the price that Price and Cheapest look at -/
def prF (l : List Pr) (m : ByteArray) (d n : Int) : Pr := if vps l = true then (if (dy d && inB 1 n 100000) = true then fnd l (lt (l.map pk) m d l.length) else default) else default
def prG (l : List Pr) (m : ByteArray) (d n : Int) : Int := if vps l = true then (if (dy d && inB 1 n 100000) = true then soE (lt (l.map pk) m d l.length) else 2) else 80
/-- Price -/
def prU (l : List Pr) (m : ByteArray) (d n : Int) : Int := cen (prF l m d n).st n (prF l m d n).st.length
/-- Cheapest -/
def chN (l : List Pr) (m : ByteArray) (d n : Int) : Int := if prG l m d n = 0 then (chp (prF l m d n).st n (prF l m d n).st.length).1 else 0
def chS (l : List Pr) (m : ByteArray) (d n : Int) : Int := if prG l m d n = 0 then (chp (prF l m d n).st n (prF l m d n).st.length).2 else 0
theorem fnd_mem {α : Type} [Inhabited α] {l : List α} {ks : List Ky} {n : ByteArray} {d : Int} : fnd l (lt ks n d l.length) = default ∨ fnd l (lt ks n d l.length) ∈ l := by
  cases e : lt ks n d l.length with
  | none => exact .inl rfl
  | some j =>
    have hj := lt_lt e
    refine .inr ?_
    rw [fnd_some hj]
    exact List.getElem_mem hj
theorem prF_mem (l : List Pr) (m : ByteArray) (d n : Int) : prF l m d n = default ∨ prF l m d n ∈ l := by
  unfold prF
  split
  · split
    · exact fnd_mem
    · exact .inl rfl
  · exact .inl rfl
theorem prG_ok {l : List Pr} {m : ByteArray} {d n : Int} (h : prG l m d n = 0) : vps l = true ∧ 1 ≤ n ∧ n ≤ 100000 ∧ prF l m d n ∈ l ∧ ∃ j, lt (l.map pk) m d l.length = some j := by
  unfold prG at h
  unfold prF
  split at h
  · rename_i h1
    split at h
    · rename_i h2
      rw [if_pos h1, if_pos h2]
      rw [Bool.and_eq_true, inB_true] at h2
      cases e : lt (l.map pk) m d l.length with
      | none => rw [e] at h; cases h
      | some j =>
        have hj := lt_lt e
        refine ⟨h1, h2.2.1, h2.2.2, ?_, j, rfl⟩
        rw [fnd_some hj]
        exact List.getElem_mem hj
    · omega
  · omega
theorem prF_no {l : List Pr} {m : ByteArray} {d n : Int} (h : prG l m d n ≠ 0) : prF l m d n = default := by
  unfold prG at h
  unfold prF
  split
  · rename_i h1
    rw [if_pos h1] at h
    split
    · rename_i h2
      rw [if_pos h2] at h
      cases e : lt (l.map pk) m d l.length with
      | none => rfl
      | some j => rw [e] at h; exact absurd rfl h
    · rfl
  · rfl
theorem prU_no {l : List Pr} {m : ByteArray} {d n : Int} (h : prG l m d n ≠ 0) : prU l m d n = 0 := by
  unfold prU; rw [prF_no h]; rfl
theorem prF_st {l : List Pr} {m : ByteArray} {d n : Int} (h : prG l m d n = 0) : Vst (prF l m d n).st := by
  obtain ⟨h1, _, _, h4, _⟩ := prG_ok h
  rw [vps_eq, vls_true] at h1
  obtain ⟨i, hi, e⟩ := List.getElem_of_mem h4
  have := h1.2.1 i hi
  rw [e] at this
  exact vst_true.1 (vp_true.1 this).st
theorem chp_step {l : List Stp} {n : Int} {k : Nat} (hk : k < l.length) : chp l n (k + 1) = if n < l[k].c ∧ l[k].c * l[k].m < (chp l n k).2 then (l[k].c, l[k].c * l[k].m) else chp l n k := by
  rw [chp, List.getD_eq_getElem?_getD, List.getElem?_eq_getElem hk]; rfl
theorem cen_step {l : List Stp} {n : Int} {k : Nat} (hk : k < l.length) : cen l n (k + 1) = if l[k].c ≤ n then l[k].m else cen l n k := by
  rw [cen, List.getD_eq_getElem?_getD, List.getElem?_eq_getElem hk]; rfl
theorem sok_in {l : List Stp} (h : Vst l) : ∀ (k : Nat) (hk : k < l.length), 1 ≤ l[k].c ∧ l[k].c ≤ 100000 ∧ 0 ≤ l[k].m ∧ l[k].m ≤ 10000000
  | 0, hk => by
    have h1 := h.ok 0 hk
    unfold sok at h1
    rw [Bool.and_eq_true, inB_true, inB_true, List.getD_eq_getElem?_getD, List.getElem?_eq_getElem hk] at h1
    simp only [sb, Option.getD_some] at h1
    omega
  | k + 1, hk => by
    have h0 := sok_in h k (by omega)
    have h1 := h.ok (k + 1) hk
    unfold sok at h1
    rw [Bool.and_eq_true, inB_true, inB_true, List.getD_eq_getElem?_getD, List.getElem?_eq_getElem hk] at h1
    simp only [sb, Option.getD_some, List.getD_eq_getElem?_getD, List.getElem?_eq_getElem (show k < l.length by omega)] at h1
    omega
theorem prod_in {a b : Int} (h1 : 1 ≤ a ∧ a ≤ 100000 ∧ 0 ≤ b ∧ b ≤ 10000000) : 0 ≤ a * b ∧ a * b ≤ 1000000000000 := by
  have h2 := mul_le (A := 100000) (B := 10000000) (show -100000 ≤ a by omega) h1.2.1 h1.2.2.1 h1.2.2.2 (by decide)
  have h3 : 0 ≤ a * b := Int.mul_nonneg (by omega) h1.2.2.1
  omega
end Go.Proofs.YtbdnocijhbkclaaGreatDoor.Pl
/- Plain: pieces of a model, the amount of a line, Line and Invoice. -/
namespace Go.Proofs.YtbdnocijhbkclaaGreatDoor.Pl

/-- how many pieces of a model the first k lines have -/
def pcs (ls : List Ln) (m : ByteArray) : Nat → Int
  | 0 => 0
  | k + 1 => if (ls.getD k default).md = m then pcs ls m k + (ls.getD k default).cnt else pcs ls m k
theorem pcs_step {ls : List Ln} {m : ByteArray} {k : Nat} (hk : k < ls.length) : pcs ls m (k + 1) = if ls[k].md = m then pcs ls m k + ls[k].cnt else pcs ls m k := by
  rw [pcs, List.getD_eq_getElem?_getD, List.getElem?_eq_getElem hk]; rfl
theorem pcs_in {ls : List Ln} (h : ∀ x, x ∈ ls → 1 ≤ x.cnt ∧ x.cnt ≤ 1000) (m : ByteArray) : ∀ {k : Nat}, k ≤ ls.length → 0 ≤ pcs ls m k ∧ pcs ls m k ≤ 1000 * (k : Int)
  | 0, _ => by simp [pcs]
  | k + 1, hk => by
    have h1 := h _ (List.getElem_mem (show k < ls.length by omega))
    have h2 := pcs_in h m (k := k) (by omega)
    rw [pcs_step (by omega)]
    split <;> omega
theorem pcs_mono {ls : List Ln} (h : ∀ x, x ∈ ls → 1 ≤ x.cnt ∧ x.cnt ≤ 1000) (m : ByteArray) {j : Nat} : ∀ {k : Nat}, k ≤ ls.length → j ≤ k → pcs ls m j ≤ pcs ls m k
  | 0, _, hj => by obtain rfl : j = 0 := by omega
                   exact Int.le_refl _
  | k + 1, hk, hj => by
    rcases Nat.lt_or_eq_of_le hj with h' | rfl
    · have h1 := h _ (List.getElem_mem (show k < ls.length by omega))
      have h2 := pcs_mono h m (k := k) (j := j) (by omega) (by omega)
      rw [pcs_step (by omega)]
      split <;> omega
    · exact Int.le_refl _
/-- a line's own model has a piece at least -/
theorem pcs_pos {ls : List Ln} (h : ∀ x, x ∈ ls → 1 ≤ x.cnt ∧ x.cnt ≤ 1000) {x : Ln} (hx : x ∈ ls) : 1 ≤ pcs ls x.md ls.length := by
  obtain ⟨i, hi, rfl⟩ := List.getElem_of_mem hx
  have h1 := pcs_mono h ls[i].md (j := i + 1) (k := ls.length) (Nat.le_refl _) hi
  rw [pcs_step hi, if_pos rfl] at h1
  have h2 := h _ (List.getElem_mem hi)
  have h3 := pcs_in h ls[i].md (k := i) (by omega)
  omega
/-- the price of one piece of a model in a form -/
def amR (l : List Pr) (f : Fm) (x : Ln) : Option Nat := lt (l.map pk) x.md f.d l.length
def amP (l : List Pr) (f : Fm) (x : Ln) : Int := cen (fnd l (amR l f x)).st (pcs f.ls x.md f.ls.length) (fnd l (amR l f x)).st.length
/-- the amount of a line, and what is wrong -/
def amE (l : List Pr) (r : List Rt) (f : Fm) (x : Ln) : Int := match amR l f x with | none => 82 | some _ => cE r f.cur f.d (amP l f x * x.cnt)
def amV (l : List Pr) (r : List Rt) (f : Fm) (x : Ln) : Int := match amR l f x with | none => 0 | some _ => cV r f.cur f.d (amP l f x * x.cnt)
/-- what is wrong with what an invoice is made of -/
def ckE (l : List Pr) (r : List Rt) (f : Fm) : Int := if vps l = true then (if vrs r = true then (if vf f = true then 0 else 3) else 81) else 80
def liE (l : List Pr) (r : List Rt) (f : Fm) (i : Int) : Int := if ckE l r f = 0 then (if 0 ≤ i ∧ i < (f.ls.length : Int) then amE l r f (f.ls.getD i.toNat default) else 2) else ckE l r f
def liV (l : List Pr) (r : List Rt) (f : Fm) (i : Int) : Int := if ckE l r f = 0 then (if 0 ≤ i ∧ i < (f.ls.length : Int) then amV l r f (f.ls.getD i.toNat default) else 0) else 0
/-- the first that is not 0 -/
def fe (g : Nat → Int) : Nat → Int
  | 0 => 0
  | k + 1 => if fe g k = 0 then g k else fe g k
theorem fe_zero {g : Nat → Int} : ∀ {n : Nat}, (∀ i, i < n → g i = 0) → fe g n = 0
  | 0, _ => rfl
  | n + 1, h => by rw [fe, fe_zero (fun i hi => h i (by omega)), if_pos rfl]; exact h n (by omega)
theorem fe_hit {g : Nat → Int} {k : Nat} (h : ∀ i, i < k → g i = 0) (hk : g k ≠ 0) : ∀ {n : Nat}, k < n → fe g n = g k
  | 0, hn => by omega
  | n + 1, hn => by
    rcases Nat.lt_succ_iff_lt_or_eq.1 hn with h' | rfl
    · rw [fe, fe_hit h hk h', if_neg hk]
    · rw [fe, fe_zero h, if_pos rfl]
theorem fe_all {g : Nat → Int} : ∀ {n : Nat}, fe g n = 0 → ∀ i, i < n → g i = 0
  | 0, _, i, hi => by omega
  | n + 1, h, i, hi => by
    rw [fe] at h
    split at h
    · rename_i h0
      rcases Nat.lt_succ_iff_lt_or_eq.1 hi with h' | rfl
      · exact fe_all h0 i h'
      · exact h
    · rename_i h0; exact absurd h h0
/-- the amount and the error of line i -/
def lnE (l : List Pr) (r : List Rt) (f : Fm) (i : Nat) : Int := amE l r f (f.ls.getD i default)
def lnV (l : List Pr) (r : List Rt) (f : Fm) (i : Nat) : Int := amV l r f (f.ls.getD i default)
/-- Invoice -/
def ivE (l : List Pr) (r : List Rt) (f : Fm) : Int := if ckE l r f = 0 then fe (lnE l r f) f.ls.length else ckE l r f
def ivV (l : List Pr) (r : List Rt) (f : Fm) : List Int := if ivE l r f = 0 then tab (lnV l r f) f.ls.length else []
def ivS (l : List Pr) (r : List Rt) (f : Fm) : Int := if ivE l r f = 0 then sm (lnV l r f) f.ls.length else 0
structure Ck (l : List Pr) (r : List Rt) (f : Fm) : Prop where
  p : vps l = true
  r : vrs r = true
  f : vf f = true
theorem ck_ok {l : List Pr} {r : List Rt} {f : Fm} (h : ckE l r f = 0) : Ck l r f := by
  unfold ckE at h
  split at h
  · split at h
    · split at h
      · exact ⟨by assumption, by assumption, by assumption⟩
      · omega
    · omega
  · omega
theorem Ck.e {l : List Pr} {r : List Rt} {f : Fm} (h : Ck l r f) : ckE l r f = 0 := by
  unfold ckE; rw [if_pos h.p, if_pos h.r, if_pos h.f]
theorem cnts {f : Fm} (h : Vf f) : ∀ x, x ∈ f.ls → 1 ≤ x.cnt ∧ x.cnt ≤ 1000 := fun x hx => ⟨(h.ls x hx).n0, (h.ls x hx).n1⟩
theorem pcs_ok {f : Fm} (h : Vf f) {x : Ln} (hx : x ∈ f.ls) : 1 ≤ pcs f.ls x.md f.ls.length ∧ pcs f.ls x.md f.ls.length ≤ 40000 := by
  have h1 := pcs_pos (cnts h) hx
  have h2 := pcs_in (cnts h) x.md (k := f.ls.length) (Nat.le_refl _)
  have h3 := h.n1
  omega
theorem fnd_st {l : List Pr} (h : vps l = true) {n : ByteArray} {d : Int} : Vst (fnd l (lt (l.map pk) n d l.length)).st ∨ fnd l (lt (l.map pk) n d l.length) = default := by
  rcases fnd_mem (l := l) (ks := l.map pk) (n := n) (d := d) with h' | h'
  · exact .inr h'
  · refine .inl ?_
    rw [vps_eq, vls_true] at h
    obtain ⟨i, hi, e⟩ := List.getElem_of_mem h'
    have := h.2.1 i hi
    rw [e] at this
    exact vst_true.1 (vp_true.1 this).st
theorem amP_in {l : List Pr} (h : vps l = true) (f : Fm) (x : Ln) : 0 ≤ amP l f x ∧ amP l f x ≤ 10000000 := by
  unfold amP amR
  rcases fnd_st h (n := x.md) (d := f.d) with h' | h'
  · exact cen_in h'.ok _ (Nat.le_refl _)
  · rw [h']; show 0 ≤ (0 : Int) ∧ (0 : Int) ≤ 10000000; omega
theorem amQ_in {l : List Pr} {f : Fm} {x : Ln} (h : vps l = true) (hx : 1 ≤ x.cnt ∧ x.cnt ≤ 1000) : 0 ≤ amP l f x * x.cnt ∧ amP l f x * x.cnt ≤ 10000000000 := by
  have h1 := amP_in h f x
  have h2 := mul_le (A := 10000000) (B := 1000) (show -10000000 ≤ amP l f x by omega) h1.2 (show 0 ≤ x.cnt by omega) hx.2 (by decide)
  have h3 : 0 ≤ amP l f x * x.cnt := Int.mul_nonneg h1.1 (by omega)
  omega
/-- what is converted is an amount, or 0 -/
theorem cV_in {r : List Rt} {cur : ByteArray} {d a : Int} (ha : -1099511627776 ≤ a ∧ a ≤ 1099511627776) : -1099511627776 ≤ cV r cur d a ∧ cV r cur d a ≤ 1099511627776 := by
  unfold cV
  split
  · exact ha
  · split
    · omega
    · split
      · rename_i h; exact inB_true.1 h
      · omega
theorem amV_in {l : List Pr} {r : List Rt} {f : Fm} {x : Ln} (h : vps l = true) (hx : 1 ≤ x.cnt ∧ x.cnt ≤ 1000) : -1099511627776 ≤ amV l r f x ∧ amV l r f x ≤ 1099511627776 := by
  have h1 := amQ_in (f := f) h hx
  unfold amV
  split
  · omega
  · exact cV_in (by omega)
/-- the document's Price of a line -/
theorem prU_line {l : List Pr} {r : List Rt} {f : Fm} (hc : Ck l r f) {x : Ln} (hx : x ∈ f.ls) : prG l x.md f.d (pcs f.ls x.md f.ls.length) = soE (amR l f x) ∧ prU l x.md f.d (pcs f.ls x.md f.ls.length) = amP l f x := by
  have hf := vf_true.1 hc.f
  have hp := pcs_ok hf hx
  have h1 : (dy f.d && inB 1 (pcs f.ls x.md f.ls.length) 100000) = true := by
    rw [Bool.and_eq_true, inB_true]
    exact ⟨inB_true.2 ⟨hf.d0, hf.d1⟩, by omega, by omega⟩
  constructor
  · unfold prG; rw [if_pos hc.p, if_pos h1]; rfl
  · unfold prU prF; rw [if_pos hc.p, if_pos h1]; rfl
/-- the document's Convert of a line -/
theorem co_line {l : List Pr} {r : List Rt} {f : Fm} (hc : Ck l r f) {a : Int} (ha : 0 ≤ a ∧ a ≤ 10000000000) : coV r f.cur f.d a = cV r f.cur f.d a ∧ coE r f.cur f.d a = cE r f.cur f.d a := by
  have hf := vf_true.1 hc.f
  have h1 : (cyB f.cur && (dy f.d && am a)) = true := by
    rw [Bool.and_eq_true, Bool.and_eq_true]
    exact ⟨hf.cur, inB_true.2 ⟨hf.d0, hf.d1⟩, inB_true.2 (by omega)⟩
  unfold coV coE
  rw [if_pos hc.r, if_pos hc.r, if_pos h1, if_pos h1]
  exact ⟨rfl, rfl⟩
/-- the sum of a table -/
theorem cu_tab (g : Nat → Int) {n : Nat} : ∀ k, k ≤ n → cu (tab g n) k = sm g k := fun k hk => by
  unfold cu
  refine sm_ext (fun i hi => ?_)
  unfold el
  exact tab_getD g 0 (by omega)
theorem lnV_sum {l : List Pr} {r : List Rt} {f : Fm} (hc : Ck l r f) {k : Nat} (hk : k ≤ f.ls.length) : -50000000000000 ≤ sm (lnV l r f) k ∧ sm (lnV l r f) k ≤ 50000000000000 := by
  have hf := vf_true.1 hc.f
  have h1 := sm_bound (f := lnV l r f) (n := k) (lo := -1099511627776) (hi := 1099511627776) (fun i hi => by
    have hi' : i < f.ls.length := by omega
    have e : f.ls.getD i default = f.ls[i] := by rw [List.getD_eq_getElem?_getD, List.getElem?_eq_getElem hi']; rfl
    unfold lnV
    rw [e]
    exact amV_in hc.p (cnts hf _ (List.getElem_mem hi')))
  have h2 := hf.n1
  omega
end Go.Proofs.YtbdnocijhbkclaaGreatDoor.Pl
/- Plain: Credit. -/
namespace Go.Proofs.YtbdnocijhbkclaaGreatDoor.Pl

/-- the amounts are amounts -/
def crA (a : List Int) : Bool := a.all am
/-- no line is named twice -/
def crD (l : List Int) : Bool := decide (l.map id).Nodup
/-- the k-th is a line of the invoice -/
def crI (a l : List Int) (k : Nat) : Prop := 0 ≤ el l k ∧ el l k < (a.length : Int)
def crOk (a l : List Int) : Bool := crA a && (crD l && l.all (fun i => decide (0 ≤ i ∧ i < (a.length : Int))))
def crE (a l : List Int) : Int := if 40 < a.length ∨ 40 < l.length then 4 else if crOk a l = true then 0 else 2
/-- what is given back for the k-th -/
def crv (a l : List Int) (k : Nat) : Int := -(el a (el l k).toNat)
def crV (a l : List Int) : List Int := if crE a l = 0 then tab (crv a l) l.length else []
def crS (a l : List Int) : Int := if crE a l = 0 then sm (crv a l) l.length else 0
theorem crI_all {a l : List Int} : l.all (fun i => decide (0 ≤ i ∧ i < (a.length : Int))) = true ↔ ∀ k, k < l.length → crI a l k := by
  rw [List.all_eq_true]
  constructor
  · intro h k hk
    have := h _ (List.getElem_mem hk)
    unfold crI
    rw [el_get hk]
    exact of_decide_eq_true this
  · intro h x hx
    obtain ⟨k, hk, rfl⟩ := List.getElem_of_mem hx
    have := h k hk
    unfold crI at this
    rw [el_get hk] at this
    exact decide_eq_true this
theorem crE_big {a l : List Int} (h : 40 < a.length ∨ 40 < l.length) : crE a l = 4 := by unfold crE; rw [if_pos h]
theorem crE_no {a l : List Int} (h1 : a.length ≤ 40) (h2 : l.length ≤ 40) (h : crOk a l = false) : crE a l = 2 := by
  unfold crE
  rw [if_neg (by omega), h]; rfl
theorem crE_A {a l : List Int} (h1 : a.length ≤ 40) (h2 : l.length ≤ 40) (h : crA a = false) : crE a l = 2 := crE_no h1 h2 (by unfold crOk; rw [h]; rfl)
theorem crE_D {a l : List Int} (h1 : a.length ≤ 40) (h2 : l.length ≤ 40) (h : crD l = false) : crE a l = 2 := crE_no h1 h2 (by unfold crOk; rw [h, Bool.false_and, Bool.and_false])
theorem crE_I {a l : List Int} (h1 : a.length ≤ 40) (h2 : l.length ≤ 40) {k : Nat} (hk : k < l.length) (h : ¬ crI a l k) : crE a l = 2 := crE_no h1 h2 (by
  have e : l.all (fun i => decide (0 ≤ i ∧ i < (a.length : Int))) = false := by
    rw [← Bool.not_eq_true]
    exact fun hh => h (crI_all.1 hh k hk)
  unfold crOk
  rw [e, Bool.and_false, Bool.and_false])
theorem crE_ok {a l : List Int} (h1 : a.length ≤ 40) (h2 : l.length ≤ 40) (hA : crA a = true) (hD : crD l = true) (hI : ∀ k, k < l.length → crI a l k) : crE a l = 0 := by
  unfold crE
  rw [if_neg (by omega), if_pos]
  unfold crOk
  rw [hA, hD, crI_all.2 hI]
  rfl
theorem crV_no {a l : List Int} (h : crE a l ≠ 0) : crV a l = [] := if_neg h
theorem crS_no {a l : List Int} (h : crE a l ≠ 0) : crS a l = 0 := if_neg h
theorem crV_yes {a l : List Int} (h : crE a l = 0) : crV a l = tab (crv a l) l.length := if_pos h
theorem crS_yes {a l : List Int} (h : crE a l = 0) : crS a l = sm (crv a l) l.length := if_pos h
theorem crA_get {a : List Int} (h : crA a = true) {k : Nat} (hk : k < a.length) : -1099511627776 ≤ el a k ∧ el a k ≤ 1099511627776 := by
  rw [el_get hk]
  exact inB_true.1 (List.all_eq_true.1 h _ (List.getElem_mem hk))
theorem crv_in {a l : List Int} (h : crA a = true) {k : Nat} (hI : crI a l k) : -1099511627776 ≤ crv a l k ∧ crv a l k ≤ 1099511627776 := by
  unfold crI at hI
  have := crA_get h (k := (el l k).toNat) (by omega)
  unfold crv
  omega
theorem crv_sum {a l : List Int} (h : crA a = true) {k : Nat} (hk : k ≤ 40) (hI : ∀ i, i < k → crI a l i) : -50000000000000 ≤ sm (crv a l) k ∧ sm (crv a l) k ≤ 50000000000000 := by
  have h1 := sm_bound (f := crv a l) (n := k) (lo := -1099511627776) (hi := 1099511627776) (fun i hi => crv_in h (hI i hi))
  omega
end Go.Proofs.YtbdnocijhbkclaaGreatDoor.Pl
/- Plain: no line is named twice. -/
namespace Go.Proofs.YtbdnocijhbkclaaGreatDoor.Pl

/-- q is one of the first k -/
def us (l : List Int) (k q : Nat) : Bool := (List.range k).any (fun i => el l i == (q : Int))
theorem us_zero (l : List Int) (q : Nat) : us l 0 q = false := rfl
theorem us_succ (l : List Int) (k q : Nat) : us l (k + 1) q = (us l k q || (el l k == (q : Int))) := by
  unfold us
  rw [List.range_succ, List.any_append]
  simp
theorem us_true {l : List Int} {k q : Nat} : us l k q = true ↔ ∃ i, i < k ∧ el l i = (q : Int) := by
  unfold us
  rw [List.any_eq_true]
  constructor
  · rintro ⟨i, hi, h⟩
    exact ⟨i, List.mem_range.1 hi, by simpa using h⟩
  · rintro ⟨i, hi, h⟩
    exact ⟨i, List.mem_range.2 hi, by simpa using h⟩
theorem crD_iff {l : List Int} : crD l = true ↔ ∀ i k, i < k → k < l.length → el l i ≠ el l k := by
  unfold crD
  rw [decide_eq_true_iff, nodup_idx]
  constructor
  · intro h i k hik hk
    rw [el_get (show i < l.length by omega), el_get hk]
    exact h i k (by omega) hk hik
  · intro h i k hi hk hik
    have := h i k hik hk
    rw [el_get hi, el_get hk] at this
    exact this
theorem crD_no {l : List Int} {i k : Nat} (hik : i < k) (hk : k < l.length) (h : el l i = el l k) : crD l = false := by
  rw [← Bool.not_eq_true, crD_iff]
  exact fun hh => hh i k hik hk h
end Go.Proofs.YtbdnocijhbkclaaGreatDoor.Pl
/- Plain: notes of two parts, and of all lines. -/
namespace Go.Proofs.YtbdnocijhbkclaaGreatDoor.Pl

theorem cr_of {a l : List Int} (h : crE a l = 0) : a.length ≤ 40 ∧ l.length ≤ 40 ∧ crA a = true ∧ crD l = true ∧ ∀ k, k < l.length → crI a l k := by
  unfold crE at h
  split at h
  · cases h
  · rename_i h1
    split at h
    · rename_i h2
      unfold crOk at h2
      rw [Bool.and_eq_true, Bool.and_eq_true] at h2
      exact ⟨by omega, by omega, h2.1, h2.2.1, crI_all.1 h2.2.2⟩
    · cases h
theorem el_take {l : List Int} {q k : Nat} (h : k < q) : el (l.take q) k = el l k := by
  unfold el
  rw [List.getD_eq_getElem?_getD, List.getD_eq_getElem?_getD, List.getElem?_take, if_pos h]
theorem el_drop {l : List Int} {q k : Nat} : el (l.drop q) k = el l (q + k) := by
  unfold el
  rw [List.getD_eq_getElem?_getD, List.getD_eq_getElem?_getD, List.getElem?_drop]
theorem cr_take {a l : List Int} (h : crE a l = 0) {q : Nat} (hq : q ≤ l.length) : crE a (l.take q) = 0 ∧ crS a (l.take q) = sm (crv a l) q := by
  obtain ⟨h1, h2, h3, h4, h5⟩ := cr_of h
  have hl : (l.take q).length = q := by rw [List.length_take]; omega
  have e0 : crE a (l.take q) = 0 := by
    refine crE_ok h1 (by omega) h3 (crD_iff.2 fun i k hik hk => ?_) (fun k hk => ?_)
    · rw [hl] at hk
      rw [el_take (by omega), el_take hk]
      exact crD_iff.1 h4 i k hik (by omega)
    · rw [hl] at hk
      have := h5 k (by omega)
      unfold crI at this ⊢
      rw [el_take hk]
      exact this
  refine ⟨e0, ?_⟩
  rw [crS_yes e0, hl]
  refine sm_ext (fun i hi => ?_)
  unfold crv
  rw [el_take hi]
theorem sm_parts {f : Nat → Int} {q : Nat} : ∀ r, sm f (q + r) = sm f q + sm (fun i => f (q + i)) r
  | 0 => by simp [sm]
  | r + 1 => by
    have ih := sm_parts (f := f) (q := q) r
    have e1 : sm f (q + (r + 1)) = sm f (q + r) + f (q + r) := rfl
    have e2 : sm (fun i => f (q + i)) (r + 1) = sm (fun i => f (q + i)) r + f (q + r) := rfl
    omega
theorem cr_drop {a l : List Int} (h : crE a l = 0) {q : Nat} (hq : q ≤ l.length) : crE a (l.drop q) = 0 ∧ sm (crv a l) q + crS a (l.drop q) = crS a l := by
  obtain ⟨h1, h2, h3, h4, h5⟩ := cr_of h
  have hl : (l.drop q).length = l.length - q := by rw [List.length_drop]
  have e0 : crE a (l.drop q) = 0 := by
    refine crE_ok h1 (by omega) h3 (crD_iff.2 fun i k hik hk => ?_) (fun k hk => ?_)
    · rw [hl] at hk
      rw [el_drop, el_drop]
      exact crD_iff.1 h4 (q + i) (q + k) (by omega) (by omega)
    · rw [hl] at hk
      have := h5 (q + k) (by omega)
      unfold crI at this ⊢
      rw [el_drop]
      exact this
  refine ⟨e0, ?_⟩
  rw [crS_yes e0, crS_yes h, hl]
  have e1 : sm (crv a (l.drop q)) (l.length - q) = sm (fun i => crv a l (q + i)) (l.length - q) := sm_ext (fun i hi => by unfold crv; rw [el_drop])
  rw [e1, ← sm_parts]
  congr 1
  omega
/-- all lines -/
def every (m : Nat) : List Int := tab (fun i => (i : Int)) m
theorem every_len (m : Nat) : (every m).length = m := tab_len _ _
theorem every_succ (m : Nat) : every (m + 1) = every m ++ [(m : Int)] := tab_succ _ _
theorem el_every {m k : Nat} (h : k < m) : el (every m) k = (k : Int) := tab_getD _ 0 h
theorem cr_every {a l : List Int} (h : crE a l = 0) : crE a (every a.length) = 0 ∧ (∀ k, k < a.length → crv a (every a.length) k = -(el a k)) ∧ crS a (every a.length) = -(sm (el a) a.length) := by
  obtain ⟨h1, h2, h3, h4, h5⟩ := cr_of h
  have e0 : crE a (every a.length) = 0 := by
    refine crE_ok h1 (by rw [every_len]; exact h1) h3 (crD_iff.2 fun i k hik hk => ?_) (fun k hk => ?_)
    · rw [every_len] at hk
      rw [el_every (by omega), el_every hk]
      omega
    · rw [every_len] at hk
      unfold crI
      rw [el_every hk]
      omega
  have e1 : ∀ k, k < a.length → crv a (every a.length) k = -(el a k) := fun k hk => by
    unfold crv
    rw [el_every hk, Int.toNat_natCast]
  refine ⟨e0, e1, ?_⟩
  rw [crS_yes e0, every_len]
  have : ∀ n, n ≤ a.length → sm (crv a (every a.length)) n = -(sm (el a) n) := by
    intro n
    induction n with
    | zero => intro _; rfl
    | succ n ih =>
      intro hn
      have e2 : sm (crv a (every a.length)) (n + 1) = sm (crv a (every a.length)) n + crv a (every a.length) n := rfl
      have e3 : sm (el a) (n + 1) = sm (el a) n + el a n := rfl
      rw [e2, e3, ih (by omega), e1 n (by omega)]
      omega
  exact this _ (Nat.le_refl _)
theorem sm_el_in {a : List Int} (h : crA a = true) (h1 : a.length ≤ 40) {k : Nat} (hk : k ≤ a.length) : -50000000000000 ≤ sm (el a) k ∧ sm (el a) k ≤ 50000000000000 := by
  have h2 := sm_bound (f := el a) (n := k) (lo := -1099511627776) (hi := 1099511627776) (fun i hi => crA_get h (by omega))
  omega
theorem every_wf {m : Nat} (hm : m ≤ 40) : ∀ x, x ∈ every m → 0 ≤ x ∧ x ≤ 40 := fun x hx => by
  obtain ⟨k, hk, rfl⟩ := List.getElem_of_mem hx
  rw [every_len] at hk
  have e : (every m)[k] = (k : Int) := by
    have := el_every hk
    rw [el_get (by rw [every_len]; exact hk)] at this
    exact this
  rw [e]
  omega
end Go.Proofs.YtbdnocijhbkclaaGreatDoor.Pl
/- Plain: the lines of a form, turned. -/
namespace Go.Proofs.YtbdnocijhbkclaaGreatDoor.Pl

theorem sm_rot {F : Nat → Int} {n z : Nat} (h0 : 0 < n) : sm (fun i => F ((i + z) % n)) n = sm F n := by
  obtain ⟨q, hq⟩ : ∃ q, z % n = q := ⟨_, rfl⟩
  have hqn : q < n := by rw [← hq]; exact Nat.mod_lt _ h0
  have hG : ∀ i, (i + z) % n = (i + q) % n := fun i => by rw [← hq, Nat.add_mod_mod]
  have e1 : sm (fun i => F ((i + z) % n)) n = sm (fun i => F ((i + q) % n)) n := sm_ext (fun i _ => by rw [hG i])
  have e2 : sm (fun i => F ((i + q) % n)) n = sm (fun i => F ((i + q) % n)) (n - q) + sm (fun j => F ((n - q + j + q) % n)) q := by
    rw [← sm_parts]
    congr 1
    omega
  have e3 : sm F n = sm F q + sm (fun i => F (q + i)) (n - q) := by
    rw [← sm_parts]
    congr 1
    omega
  have e4 : sm (fun i => F ((i + q) % n)) (n - q) = sm (fun i => F (q + i)) (n - q) := sm_ext (fun i hi => by
    show F ((i + q) % n) = F (q + i)
    rw [Nat.mod_eq_of_lt (by omega), Nat.add_comm])
  have e5 : sm (fun j => F ((n - q + j + q) % n)) q = sm F q := sm_ext (fun j hj => by
    show F ((n - q + j + q) % n) = F j
    rw [show n - q + j + q = j + n by omega, Nat.add_mod_right, Nat.mod_eq_of_lt (by omega)])
  omega
/-- the lines, turned by z -/
def rot (ls : List Ln) (z : Nat) : List Ln := tab (fun i => ls.getD ((i + z) % ls.length) default) ls.length
theorem rot_len (ls : List Ln) (z : Nat) : (rot ls z).length = ls.length := tab_len _ _
theorem rot_get {ls : List Ln} {z i : Nat} (hi : i < ls.length) : (rot ls z).getD i default = ls.getD ((i + z) % ls.length) default := tab_getD _ _ hi
theorem mem_rot {ls : List Ln} {z : Nat} {x : Ln} : x ∈ rot ls z ↔ x ∈ ls := by
  rcases Nat.eq_zero_or_pos ls.length with h | h
  · rw [List.eq_nil_of_length_eq_zero h]
    exact Iff.rfl
  have hg : ∀ j, j < ls.length → ls.getD j default = ls[j]! := fun j hj => by simp [List.getD_eq_getElem?_getD, hj]
  constructor
  · intro hx
    obtain ⟨i, hi, rfl⟩ := List.getElem_of_mem hx
    rw [rot_len] at hi
    have e : (rot ls z)[i]'(by rw [rot_len]; exact hi) = ls.getD ((i + z) % ls.length) default := tab_get _ _
    have hm : (i + z) % ls.length < ls.length := Nat.mod_lt _ h
    rw [e, List.getD_eq_getElem?_getD, List.getElem?_eq_getElem hm]
    exact List.getElem_mem hm
  · intro hx
    obtain ⟨j, hj, rfl⟩ := List.getElem_of_mem hx
    have hz := Nat.mod_lt z h
    have hi : (j + (ls.length - z % ls.length)) % ls.length < (rot ls z).length := by rw [rot_len]; exact Nat.mod_lt _ h
    have e : (rot ls z)[(j + (ls.length - z % ls.length)) % ls.length] = ls.getD (((j + (ls.length - z % ls.length)) % ls.length + z) % ls.length) default := tab_get _ _
    have e2 : ((j + (ls.length - z % ls.length)) % ls.length + z) % ls.length = j := by
      rw [Nat.mod_add_mod, ← Nat.add_mod_mod, show j + (ls.length - z % ls.length) + z % ls.length = j + ls.length by omega, Nat.add_mod_right, Nat.mod_eq_of_lt hj]
    rw [e2, List.getD_eq_getElem?_getD, List.getElem?_eq_getElem hj] at e
    have := List.getElem_mem hi
    rw [e] at this
    exact this
theorem pcs_sm (ls : List Ln) (m : ByteArray) : ∀ k, pcs ls m k = sm (fun i => if (ls.getD i default).md = m then (ls.getD i default).cnt else 0) k
  | 0 => rfl
  | k + 1 => by
    rw [pcs, pcs_sm ls m k]
    have e : sm (fun i => if (ls.getD i default).md = m then (ls.getD i default).cnt else 0) (k + 1) = sm (fun i => if (ls.getD i default).md = m then (ls.getD i default).cnt else 0) k + (if (ls.getD k default).md = m then (ls.getD k default).cnt else 0) := rfl
    rw [e]
    split
    · rfl
    · omega
theorem pcs_rot {ls : List Ln} {z : Nat} (m : ByteArray) (h0 : 0 < ls.length) : pcs (rot ls z) m ls.length = pcs ls m ls.length := by
  rw [pcs_sm, pcs_sm]
  have e : sm (fun i => if ((rot ls z).getD i default).md = m then ((rot ls z).getD i default).cnt else 0) ls.length = sm (fun i => (fun j => if (ls.getD j default).md = m then (ls.getD j default).cnt else 0) ((i + z) % ls.length)) ls.length := sm_ext (fun i hi => by rw [rot_get hi])
  rw [e]
  exact sm_rot (F := fun j => if (ls.getD j default).md = m then (ls.getD j default).cnt else 0) h0
/-- the form with its lines turned, wherever they lie -/
def turned (f : Fm) (z : Nat) (A : Option Addr) (k : Nat) : Fm := ⟨f.cus, f.d, f.cur, rot f.ls z, A, k⟩
section
variable {l : List Pr} {r : List Rt} {f : Fm} {z : Nat} {A : Option Addr} {k : Nat}
theorem vf_turned : vf (turned f z A k) = vf f := by
  rw [Bool.eq_iff_iff, vf_true, vf_true]
  have hl : (turned f z A k).ls.length = f.ls.length := rot_len _ _
  constructor
  · intro h
    exact ⟨h.cus, h.d0, h.d1, h.cur, by have := h.n0; omega, by have := h.n1; omega, fun x hx => h.ls x (mem_rot.2 hx)⟩
  · intro h
    exact ⟨h.cus, h.d0, h.d1, h.cur, by have := h.n0; omega, by have := h.n1; omega, fun x hx => h.ls x (mem_rot.1 hx)⟩
theorem ck_turned : ckE l r (turned f z A k) = ckE l r f := by unfold ckE; rw [vf_turned]
theorem am_turned (h0 : 0 < f.ls.length) (x : Ln) : amE l r (turned f z A k) x = amE l r f x ∧ amV l r (turned f z A k) x = amV l r f x := by
  have e1 : amR l (turned f z A k) x = amR l f x := rfl
  have e2 : amP l (turned f z A k) x = amP l f x := by
    have e3 : pcs (turned f z A k).ls x.md (turned f z A k).ls.length = pcs f.ls x.md f.ls.length := by
      show pcs (rot f.ls z) x.md (rot f.ls z).length = _
      rw [rot_len, pcs_rot _ h0]
    unfold amP
    rw [e1, e3]
  refine ⟨?_, ?_⟩
  · unfold amE
    rw [e1, e2]; rfl
  · unfold amV
    rw [e1, e2]; rfl
theorem ln_turned (h0 : 0 < f.ls.length) {i : Nat} (hi : i < f.ls.length) : lnE l r (turned f z A k) i = lnE l r f ((i + z) % f.ls.length) ∧ lnV l r (turned f z A k) i = lnV l r f ((i + z) % f.ls.length) := by
  have e : (turned f z A k).ls.getD i default = f.ls.getD ((i + z) % f.ls.length) default := rot_get hi
  unfold lnE lnV
  rw [e]
  exact am_turned h0 _
theorem ivE_iff : ivE l r f = 0 ↔ ckE l r f = 0 ∧ ∀ i, i < f.ls.length → lnE l r f i = 0 := by
  unfold ivE
  split
  · rename_i h
    exact ⟨fun h2 => ⟨h, fe_all h2⟩, fun h2 => fe_zero h2.2⟩
  · rename_i h
    exact ⟨fun h2 => absurd h2 h, fun h2 => absurd h2.1 h⟩
theorem iv_turned (h0 : 0 < f.ls.length) : ivE l r (turned f z A k) = 0 ↔ ivE l r f = 0 := by
  have hl : (turned f z A k).ls.length = f.ls.length := rot_len _ _
  rw [ivE_iff, ivE_iff, ck_turned, hl]
  refine and_congr Iff.rfl ⟨fun h i hi => ?_, fun h i hi => ?_⟩
  · have hz := Nat.mod_lt z h0
    have e2 : ((i + (f.ls.length - z % f.ls.length)) % f.ls.length + z) % f.ls.length = i := by
      rw [Nat.mod_add_mod, ← Nat.add_mod_mod, show i + (f.ls.length - z % f.ls.length) + z % f.ls.length = i + f.ls.length by omega, Nat.add_mod_right, Nat.mod_eq_of_lt hi]
    have hm : (i + (f.ls.length - z % f.ls.length)) % f.ls.length < f.ls.length := Nat.mod_lt _ h0
    have := h _ hm
    rw [(ln_turned h0 hm).1, e2] at this
    exact this
  · rw [(ln_turned h0 hi).1]
    exact h _ (Nat.mod_lt _ h0)
theorem ivS_turned (h0 : 0 < f.ls.length) (h : ivE l r f = 0) : ivS l r (turned f z A k) = ivS l r f := by
  have hl : (turned f z A k).ls.length = f.ls.length := rot_len _ _
  have e1 : ivS l r (turned f z A k) = sm (lnV l r (turned f z A k)) (turned f z A k).ls.length := if_pos ((iv_turned h0).2 h)
  have e2 : ivS l r f = sm (lnV l r f) f.ls.length := if_pos h
  rw [e1, e2, hl, sm_ext (g := fun i => lnV l r f ((i + z) % f.ls.length)) (fun i hi => (ln_turned h0 hi).2)]
  exact sm_rot (F := lnV l r f) h0
end
end Go.Proofs.YtbdnocijhbkclaaGreatDoor.Pl
/- Plain: lines of the same thing as one. -/
namespace Go.Proofs.YtbdnocijhbkclaaGreatDoor.Pl

/-- two lines are of the same thing -/
def sk (x y : Ln) : Bool := decide (x.md = y.md) && (decide (x.col = y.col) && decide (x.siz = y.siz))
theorem sk_true {x y : Ln} : sk x y = true ↔ x.md = y.md ∧ x.col = y.col ∧ x.siz = y.siz := by
  unfold sk
  rw [Bool.and_eq_true, Bool.and_eq_true, decide_eq_true_iff, decide_eq_true_iff, decide_eq_true_iff]
theorem sk_comm {x y : Ln} (h : sk x y = true) : sk y x = true := by
  rw [sk_true] at h ⊢
  exact ⟨h.1.symm, h.2.1.symm, h.2.2.symm⟩
theorem sk_trans {x y z : Ln} (h : sk x y = true) (h2 : sk x z = true) : sk y z = true := by
  rw [sk_true] at h h2 ⊢
  exact ⟨h.1.symm.trans h2.1, h.2.1.symm.trans h2.2.1, h.2.2.symm.trans h2.2.2⟩
/-- y, with x's pieces if it is of the same thing -/
def bump (x y : Ln) : Ln := if sk x y = true then ⟨y.md, y.col, y.siz, y.cnt + x.cnt⟩ else y
/-- one more line -/
def put (acc : List Ln) (x : Ln) : List Ln := if acc.any (sk x) = true then acc.map (bump x) else acc ++ [x]
/-- the first k lines, merged -/
def mg (ls : List Ln) : Nat → List Ln
  | 0 => []
  | k + 1 => put (mg ls k) (ls.getD k default)
/-- the sum of the counts, each times what g gives for its model -/
def tot (g : ByteArray → Int) : List Ln → Int
  | [] => 0
  | y :: ys => g y.md * y.cnt + tot g ys
/-- no two are of the same thing -/
def Un (l : List Ln) : Prop := l.Pairwise (fun x y => sk x y = false)
theorem bump_sk (x y z : Ln) : sk z (bump x y) = sk z y := by
  unfold bump
  split <;> rfl
theorem sk_bump (x y z : Ln) : sk (bump x y) z = sk y z := by
  unfold bump
  split <;> rfl
theorem tot_append (g : ByteArray → Int) (l : List Ln) (x : Ln) : tot g (l ++ [x]) = tot g l + g x.md * x.cnt := by
  induction l with
  | nil => simp [tot]
  | cons y ys ih => rw [List.cons_append, tot, tot, ih]; omega
theorem map_bump_none {x : Ln} : ∀ {l : List Ln}, (∀ y, y ∈ l → sk x y = false) → l.map (bump x) = l
  | [], _ => rfl
  | y :: ys, h => by
    rw [List.map_cons, map_bump_none (fun z hz => h z (List.mem_cons_of_mem _ hz))]
    unfold bump
    rw [if_neg (by rw [h y List.mem_cons_self]; decide)]
theorem tot_bump (g : ByteArray → Int) {x : Ln} : ∀ {l : List Ln}, Un l → l.any (sk x) = true → tot g (l.map (bump x)) = tot g l + g x.md * x.cnt
  | [], _, h => by cases h
  | y :: ys, hu, h => by
    unfold Un at hu
    rw [List.pairwise_cons] at hu
    by_cases hxy : sk x y = true
    · have hn : ∀ z, z ∈ ys → sk x z = false := fun z hz => by
        rw [← Bool.not_eq_true]
        intro hxz
        have := hu.1 z hz
        rw [sk_trans hxy hxz] at this
        cases this
      rw [List.map_cons, map_bump_none hn, tot, tot]
      have e : bump x y = ⟨y.md, y.col, y.siz, y.cnt + x.cnt⟩ := if_pos hxy
      rw [e, (sk_true.1 hxy).1]
      show g y.md * (y.cnt + x.cnt) + tot g ys = g y.md * y.cnt + tot g ys + g y.md * x.cnt
      rw [Int.mul_add]
      omega
    · have h2 : ys.any (sk x) = true := by
        rw [List.any_cons, Bool.or_eq_true] at h
        exact h.resolve_left hxy
      have ih := tot_bump g hu.2 h2
      have e : bump x y = y := if_neg hxy
      rw [List.map_cons, tot, tot, ih, e]
      omega
theorem Un.put {l : List Ln} (h : Un l) (x : Ln) : Un (put l x) := by
  unfold Pl.put
  split
  · unfold Un at h ⊢
    rw [List.pairwise_map]
    exact h.imp (fun {a b} hab => by rw [sk_bump, bump_sk]; exact hab)
  · rename_i hx
    unfold Un at h ⊢
    rw [List.pairwise_append]
    refine ⟨h, List.pairwise_singleton _ _, fun a ha b hb => ?_⟩
    rw [List.mem_singleton.1 hb, ← Bool.not_eq_true]
    intro hax
    exact hx (List.any_eq_true.2 ⟨a, ha, sk_comm hax⟩)
theorem mg_un (ls : List Ln) : ∀ k, Un (mg ls k)
  | 0 => List.Pairwise.nil
  | k + 1 => (mg_un ls k).put _
theorem tot_put (g : ByteArray → Int) {l : List Ln} (h : Un l) (x : Ln) : tot g (put l x) = tot g l + g x.md * x.cnt := by
  unfold put
  split
  · rename_i hx; exact tot_bump g h hx
  · exact tot_append g l x
/-- merging keeps every sum that looks at the model alone -/
theorem tot_mg (g : ByteArray → Int) (ls : List Ln) : ∀ k, tot g (mg ls k) = sm (fun i => g (ls.getD i default).md * (ls.getD i default).cnt) k
  | 0 => rfl
  | k + 1 => by
    rw [mg, tot_put g (mg_un ls k), tot_mg g ls k]
    rfl
theorem tot_sm (g : ByteArray → Int) (l : List Ln) : tot g l = sm (fun i => g (l.getD i default).md * (l.getD i default).cnt) l.length := by
  have hg : ∀ (p q : List Ln), sm (fun i => g ((p ++ q).getD i default).md * ((p ++ q).getD i default).cnt) p.length = sm (fun i => g (p.getD i default).md * (p.getD i default).cnt) p.length := fun p q => sm_ext (fun i hi => by
    rw [List.getD_eq_getElem?_getD, List.getD_eq_getElem?_getD, List.getElem?_append_left hi])
  have : ∀ n (l : List Ln), l.length = n → tot g l = sm (fun i => g (l.getD i default).md * (l.getD i default).cnt) l.length := by
    intro n
    induction n with
    | zero => intro l hl; rw [List.eq_nil_of_length_eq_zero hl]; rfl
    | succ n ih =>
      intro l hl
      obtain ⟨p, x, rfl⟩ : ∃ p x, l = p ++ [x] := ⟨l.dropLast, l.getLast (by intro h; rw [h] at hl; cases hl), (List.dropLast_concat_getLast _).symm⟩
      have hp : p.length = n := by simpa using hl
      have e : (p ++ [x]).length = p.length + 1 := by simp
      rw [tot_append, ih p hp, e]
      show _ = sm _ p.length + _
      rw [hg]
      have e2 : (p ++ [x]).getD p.length default = x := by simp
      show _ = _ + g ((p ++ [x]).getD p.length default).md * ((p ++ [x]).getD p.length default).cnt
      rw [e2]
  exact this _ l rfl
theorem pcs_tot (l : List Ln) (m : ByteArray) : pcs l m l.length = tot (fun d => if d = m then 1 else 0) l := by
  rw [pcs_sm, tot_sm]
  refine sm_ext (fun i _ => ?_)
  show (if (l.getD i default).md = m then (l.getD i default).cnt else 0) = (if (l.getD i default).md = m then 1 else 0) * (l.getD i default).cnt
  split
  · rw [Int.one_mul]
  · rw [Int.zero_mul]
/-- merging keeps the pieces of every model -/
theorem pcs_mg (ls : List Ln) (m : ByteArray) : pcs (mg ls ls.length) m (mg ls ls.length).length = pcs ls m ls.length := by
  rw [pcs_tot, tot_mg, pcs_tot, tot_sm]
end Go.Proofs.YtbdnocijhbkclaaGreatDoor.Pl
/- Plain: lines merged, as the walk needs it; the invoice of the merged form. -/
namespace Go.Proofs.YtbdnocijhbkclaaGreatDoor.Pl

/-- the place of the first line of the same thing -/
def fi (acc : List Ln) (x : Ln) : Option Nat := acc.findIdx? (sk x)
theorem fi_none {acc : List Ln} {x : Ln} (h : fi acc x = none) : acc.any (sk x) = false := by
  unfold fi at h
  rw [List.findIdx?_eq_none_iff] at h
  rw [List.any_eq_false]
  intro y hy
  rw [h y hy]
  decide
theorem fi_some {acc : List Ln} {x : Ln} {p : Nat} (h : fi acc x = some p) : ∃ hp : p < acc.length, sk x acc[p] = true := by
  unfold fi at h
  rw [List.findIdx?_eq_some_iff_getElem] at h
  exact ⟨h.1, h.2.1⟩
theorem put_new {acc : List Ln} {x : Ln} (h : fi acc x = none) : put acc x = acc ++ [x] := by
  unfold put
  rw [if_neg (by rw [fi_none h]; decide)]
/-- x's pieces at place p -/
def more (acc : List Ln) (p : Nat) (x : Ln) : Ln := ⟨(acc.getD p default).md, (acc.getD p default).col, (acc.getD p default).siz, (acc.getD p default).cnt + x.cnt⟩
theorem put_old {acc : List Ln} {x : Ln} {p : Nat} (hu : Un acc) (h : fi acc x = some p) : put acc x = acc.set p (more acc p x) := by
  obtain ⟨hp, hs⟩ := fi_some h
  unfold put
  rw [if_pos (List.any_eq_true.2 ⟨_, List.getElem_mem hp, hs⟩)]
  refine List.ext_getElem (by simp) (fun i h1 h2 => ?_)
  have hi : i < acc.length := by simpa using h1
  rw [List.getElem_map, List.getElem_set]
  have e : acc.getD p default = acc[p] := by rw [List.getD_eq_getElem?_getD, List.getElem?_eq_getElem hp]; rfl
  by_cases hpi : p = i
  · subst hpi
    rw [if_pos rfl]
    unfold bump more
    rw [if_pos hs, e]
  · rw [if_neg hpi]
    unfold bump
    rw [if_neg]
    intro hx
    unfold Un at hu
    rw [List.pairwise_iff_getElem] at hu
    rcases Nat.lt_or_gt_of_ne hpi with hlt | hgt
    · have := hu p i hp hi hlt
      rw [sk_trans hs hx] at this
      cases this
    · have := hu i p hi hp hgt
      rw [sk_trans hx hs] at this
      cases this
theorem fi_old {acc : List Ln} {x : Ln} {p : Nat} (h : fi acc x = some p) (y : Ln) : fi (put acc x) y = fi acc y := by
  obtain ⟨hp, hs⟩ := fi_some h
  unfold put
  rw [if_pos (List.any_eq_true.2 ⟨_, List.getElem_mem hp, hs⟩)]
  unfold fi
  rw [List.findIdx?_map]
  congr 1
  funext z
  exact bump_sk x z y
theorem fi_new {acc : List Ln} {x : Ln} (h : fi acc x = none) (y : Ln) : fi (put acc x) y = if sk y x = true then some acc.length else fi acc y := by
  rw [put_new h]
  unfold fi at h ⊢
  rw [List.findIdx?_append]
  by_cases hy : sk y x = true
  · rw [if_pos hy]
    have : acc.findIdx? (sk y) = none := by
      rw [List.findIdx?_eq_none_iff] at h ⊢
      intro z hz
      have := h z hz
      rw [← Bool.not_eq_true] at this ⊢
      exact fun hyz => this (sk_trans hy hyz)
    rw [this]
    simp [List.findIdx?_cons, hy]
  · rw [if_neg hy]
    simp [List.findIdx?_cons, hy]
/-- the thing of a line -/
def th (x : Ln) : Ln := ⟨x.md, x.col, x.siz, 0⟩
theorem fi_th (acc : List Ln) (x : Ln) : fi acc (th x) = fi acc x := rfl
theorem sk_th {m : ByteArray} {c s : Int} {x : Ln} : sk ⟨m, c, s, 0⟩ x = true ↔ m = x.md ∧ c = x.col ∧ s = x.siz := sk_true
theorem mg_len (ls : List Ln) : ∀ k, (mg ls k).length ≤ k
  | 0 => Nat.le_refl _
  | k + 1 => by
    have := mg_len ls k
    rw [mg]
    unfold put
    split
    · rw [List.length_map]; omega
    · rw [List.length_append]; simp; omega
theorem mg_pos (ls : List Ln) : ∀ k, 0 < k → 0 < (mg ls k).length
  | k + 1, _ => by
    rw [mg]
    unfold put
    split
    · rename_i h
      rw [List.length_map]
      obtain ⟨z, hz, _⟩ := List.any_eq_true.1 h
      exact List.length_pos_of_mem hz
    · rw [List.length_append]; simp
/-- what lines in the merged list look like -/
theorem mg_from {ls : List Ln} (h : ∀ x, x ∈ ls → 1 ≤ x.cnt ∧ x.cnt ≤ 1000) : ∀ {k : Nat}, k ≤ ls.length → ∀ y, y ∈ mg ls k → (∃ x, x ∈ ls ∧ y.md = x.md ∧ y.col = x.col ∧ y.siz = x.siz) ∧ 1 ≤ y.cnt ∧ y.cnt ≤ 1000 * (k : Int)
  | 0, _, y, hy => by cases hy
  | k + 1, hk, y, hy => by
    have ih := mg_from h (k := k) (by omega)
    have ex : ls.getD k default = ls[k] := by rw [List.getD_eq_getElem?_getD, List.getElem?_eq_getElem (show k < ls.length by omega)]; rfl
    have hx : ls[k] ∈ ls := List.getElem_mem (by omega)
    have h1 := h _ hx
    rw [mg, ex] at hy
    unfold put at hy
    split at hy
    · obtain ⟨z, hz, rfl⟩ := List.mem_map.1 hy
      obtain ⟨h2, h3, h4⟩ := ih z hz
      unfold bump
      split
      · exact ⟨h2, by show 1 ≤ z.cnt + ls[k].cnt; omega, by show z.cnt + ls[k].cnt ≤ _; omega⟩
      · exact ⟨h2, h3, by omega⟩
    · rcases List.mem_append.1 hy with hy | hy
      · obtain ⟨h2, h3, h4⟩ := ih y hy
        exact ⟨h2, h3, by omega⟩
      · rw [List.mem_singleton.1 hy]
        exact ⟨⟨_, hx, rfl, rfl, rfl⟩, h1.1, by omega⟩
/-- all lines of a form merged -/
def mgd (f : Fm) : List Ln := mg f.ls f.ls.length
/-- what is wrong with merging -/
def mgE (f : Fm) : Int := if vf f = true then (if (mgd f).all vl = true then 0 else 4) else 3
/-- the merged form, wherever its lines lie; or none -/
def mgF (f : Fm) (A : Option Addr) (k : Nat) : Fm := if mgE f = 0 then ⟨f.cus, f.d, f.cur, mgd f, A, k⟩ else ⟨⟨#[]⟩, 0, ⟨#[]⟩, [], none, 0⟩
theorem mgE_yes {f : Fm} (h : mgE f = 0) : vf f = true ∧ (mgd f).all vl = true := by
  unfold mgE at h
  split at h
  · split at h
    · exact ⟨by assumption, by assumption⟩
    · cases h
  · cases h
theorem vf_mgd {f : Fm} (h : vf f = true) (A : Option Addr) (k : Nat) : vf ⟨f.cus, f.d, f.cur, mgd f, A, k⟩ = (mgd f).all vl := by
  have hf := vf_true.1 h
  have h1 := mg_len f.ls f.ls.length
  have h2 := mg_pos f.ls f.ls.length (by have := hf.n0; omega)
  rw [Bool.eq_iff_iff, vf_true, List.all_eq_true]
  constructor
  · intro g x hx
    exact vl_true.2 (g.ls x hx)
  · intro g
    exact ⟨hf.cus, hf.d0, hf.d1, hf.cur, by show 1 ≤ (mg f.ls f.ls.length).length; omega, by have := hf.n1; show (mg f.ls f.ls.length).length ≤ 40; omega, fun x hx => vl_true.1 (g x hx)⟩
theorem iv_mgd {l : List Pr} {r : List Rt} {f : Fm} (hi : ivE l r f = 0) (he : f.cur = eurB) (hm : mgE f = 0) (A : Option Addr) (k : Nat) :
    ivE l r (mgF f A k) = 0 ∧ ivS l r (mgF f A k) = ivS l r f := by
  obtain ⟨hv, ha⟩ := mgE_yes hm
  have hf := vf_true.1 hv
  have hg : mgF f A k = ⟨f.cus, f.d, f.cur, mgd f, A, k⟩ := if_pos hm
  have hc := hi
  rw [ivE_iff] at hc
  have ck := ck_ok hc.1
  have hck : ckE l r (mgF f A k) = 0 := (Ck.mk ck.p ck.r (by rw [hg, vf_mgd hv, ha])).e
  -- what a line costs hangs on its model and its count alone
  have hP : ∀ x, amP l (mgF f A k) x = amP l f x := fun x => by
    rw [hg]
    unfold amP
    have e : pcs (mgd f) x.md (mgd f).length = pcs f.ls x.md f.ls.length := pcs_mg f.ls x.md
    show cen (fnd l (amR l f x)).st (pcs (mgd f) x.md (mgd f).length) _ = _
    rw [e]
    rfl
  have hR : ∀ x, amR l (mgF f A k) x = amR l f x := fun x => by rw [hg]; rfl
  have hfrom := mg_from (cnts hf) (k := f.ls.length) (Nat.le_refl _)
  have hat : ∀ (ls : List Ln) i, i < ls.length → ls.getD i default ∈ ls := fun ls i hi => by
    rw [List.getD_eq_getElem?_getD, List.getElem?_eq_getElem hi]; exact List.getElem_mem hi
  have hsome : ∀ x, x ∈ f.ls → ∃ j, amR l f x = some j := fun x hx => by
    obtain ⟨i, hi2, rfl⟩ := List.getElem_of_mem hx
    have := hc.2 i hi2
    unfold lnE amE at this
    rw [List.getD_eq_getElem?_getD, List.getElem?_eq_getElem hi2] at this
    cases e : amR l f f.ls[i] with
    | some j => exact ⟨j, rfl⟩
    | none => simp only [Option.getD_some] at this; rw [e] at this; cases this
  have hsome2 : ∀ y, y ∈ mgd f → ∃ j, amR l f y = some j := fun y hy => by
    obtain ⟨⟨x, hx, e1, _⟩, _⟩ := hfrom y hy
    obtain ⟨j, hj⟩ := hsome x hx
    refine ⟨j, ?_⟩
    rw [← hj]
    unfold amR
    rw [e1]
  have hls : (mgF f A k).ls = mgd f := by rw [hg]
  have hcur : (mgF f A k).cur = eurB := by rw [hg]; exact he
  have hE : ivE l r (mgF f A k) = 0 := by
    rw [ivE_iff]
    refine ⟨hck, fun i hi2 => ?_⟩
    rw [hls] at hi2
    obtain ⟨j, hj⟩ := hsome2 _ (hat _ i hi2)
    unfold lnE amE
    rw [hls, hR, hj]
    show cE r (mgF f A k).cur _ _ = 0
    unfold cE
    rw [if_pos hcur]
  refine ⟨hE, ?_⟩
  have e1 : ivS l r (mgF f A k) = sm (lnV l r (mgF f A k)) (mgd f).length := by rw [← hls]; exact if_pos hE
  have e2 : ivS l r f = sm (lnV l r f) f.ls.length := if_pos hi
  have e3 : sm (lnV l r (mgF f A k)) (mgd f).length = sm (fun i => (fun m => amP l f ⟨m, 0, 0, 0⟩) ((mgd f).getD i default).md * ((mgd f).getD i default).cnt) (mgd f).length := sm_ext (fun i hi2 => by
    obtain ⟨j, hj⟩ := hsome2 _ (hat _ i hi2)
    unfold lnV amV
    rw [hls, hR, hj, hP]
    show cV r (mgF f A k).cur _ _ = _
    unfold cV
    rw [if_pos hcur]
    rfl)
  have e4 : sm (lnV l r f) f.ls.length = sm (fun i => (fun m => amP l f ⟨m, 0, 0, 0⟩) (f.ls.getD i default).md * (f.ls.getD i default).cnt) f.ls.length := sm_ext (fun i hi2 => by
    obtain ⟨j, hj⟩ := hsome _ (hat _ i hi2)
    unfold lnV amV
    rw [hj]
    show cV r f.cur _ _ = _
    unfold cV
    rw [if_pos he]
    rfl)
  rw [e1, e2, e3, e4, ← tot_sm (fun m => amP l f ⟨m, 0, 0, 0⟩), ← tot_mg (fun m => amP l f ⟨m, 0, 0, 0⟩)]
  rfl
end Go.Proofs.YtbdnocijhbkclaaGreatDoor.Pl
namespace Go.Proofs.YtbdnocijhbkclaaGreatDoor.Pl
/-- whether the first k lines have one of the same thing; the lines when k of them have been looked at -/
def tk (acc : List Ln) (x : Ln) (k : Nat) : Bool := match fi acc x with | none => false | some p => decide (p < k)
def Lk (acc : List Ln) (x : Ln) (k : Nat) : List Ln := if tk acc x k = true then put acc x else acc
theorem Lk_len (acc : List Ln) (x : Ln) (k : Nat) : (Lk acc x k).length = acc.length := by
  unfold Lk
  split
  · rename_i h
    unfold tk at h
    cases e : fi acc x with
    | none => rw [e] at h; cases h
    | some p =>
      obtain ⟨hp, hs⟩ := fi_some e
      unfold put
      rw [if_pos (List.any_eq_true.2 ⟨_, List.getElem_mem hp, hs⟩), List.length_map]
  · rfl
theorem same_iff {acc : List Ln} (hu : Un acc) {x : Ln} {k : Nat} (hk : k < acc.length) : (acc[k].md = x.md ∧ acc[k].col = x.col ∧ acc[k].siz = x.siz) ↔ fi acc x = some k := by
  constructor
  · rintro ⟨h1, h2, h3⟩
    have hs : sk x acc[k] = true := sk_true.2 ⟨h1.symm, h2.symm, h3.symm⟩
    cases e : fi acc x with
    | none =>
      have := fi_none e
      rw [List.any_eq_false] at this
      exact absurd hs (this _ (List.getElem_mem hk))
    | some p =>
      obtain ⟨hp, hsp⟩ := fi_some e
      unfold Un at hu
      rw [List.pairwise_iff_getElem] at hu
      rcases Nat.lt_trichotomy p k with h | h | h
      · have := hu p k hp hk h
        rw [sk_trans hsp hs] at this
        cases this
      · rw [h]
      · have := hu k p hk hp h
        rw [sk_trans hs hsp] at this
        cases this
  · intro h
    obtain ⟨_, hs⟩ := fi_some h
    obtain ⟨h1, h2, h3⟩ := sk_true.1 hs
    exact ⟨h1.symm, h2.symm, h3.symm⟩
theorem Lk_get {acc : List Ln} (hu : Un acc) {x : Ln} {k : Nat} (hk : k < acc.length) : (Lk acc x k)[k]'(by rw [Lk_len]; exact hk) = acc[k] := by
  have h : ∀ L, L = Lk acc x k → ∀ h, L[k]'h = acc[k] := by
    rintro L rfl h
    have e : Lk acc x k = Lk acc x k := rfl
    unfold Lk at h ⊢
    by_cases ht : tk acc x k = true
    · simp only [if_pos ht]
      unfold tk at ht
      cases e : fi acc x with
      | none => rw [e] at ht; cases ht
      | some p =>
        rw [e] at ht
        have hpk : p < k := of_decide_eq_true ht
        have e2 := put_old hu e
        simp only [e2]
        exact List.getElem_set_ne (by omega) _
    · simp only [if_neg ht]
  exact h _ rfl _
theorem tk_yes {acc : List Ln} (hu : Un acc) {x : Ln} {k : Nat} (h : fi acc x = some k) : tk acc x k = false ∧ tk acc x (k + 1) = true ∧ Lk acc x k = acc ∧ Lk acc x (k + 1) = acc.set k (more acc k x) := by
  have h1 : tk acc x k = false := by unfold tk; rw [h]; simp
  have h2 : tk acc x (k + 1) = true := by unfold tk; rw [h]; simp
  refine ⟨h1, h2, ?_, ?_⟩
  · unfold Lk; rw [h1]; rfl
  · unfold Lk; rw [h2, if_pos rfl]; exact put_old hu h
theorem tk_no {acc : List Ln} {x : Ln} {k : Nat} (h : fi acc x ≠ some k) : tk acc x (k + 1) = tk acc x k ∧ Lk acc x (k + 1) = Lk acc x k := by
  have h1 : tk acc x (k + 1) = tk acc x k := by
    unfold tk
    cases e : fi acc x with
    | none => rfl
    | some p =>
      have : p ≠ k := fun e2 => h (by rw [e, e2])
      simp only [decide_eq_decide]
      omega
  exact ⟨h1, by unfold Lk; rw [h1]⟩
theorem tk_zero (acc : List Ln) (x : Ln) : tk acc x 0 = false ∧ Lk acc x 0 = acc := by
  have h1 : tk acc x 0 = false := by unfold tk; cases fi acc x <;> simp
  exact ⟨h1, by unfold Lk; rw [h1]; rfl⟩
theorem tk_end {acc : List Ln} {x : Ln} : (tk acc x acc.length = true → Lk acc x acc.length = put acc x) ∧ (tk acc x acc.length = false → Lk acc x acc.length = acc ∧ put acc x = acc ++ [x]) := by
  constructor
  · intro h; unfold Lk; rw [h, if_pos rfl]
  · intro h
    refine ⟨by unfold Lk; rw [h]; rfl, ?_⟩
    unfold tk at h
    cases e : fi acc x with
    | none => exact put_new e
    | some p =>
      rw [e] at h
      obtain ⟨hp, _⟩ := fi_some e
      have := of_decide_eq_false h
      exact absurd hp this
end Go.Proofs.YtbdnocijhbkclaaGreatDoor.Pl
