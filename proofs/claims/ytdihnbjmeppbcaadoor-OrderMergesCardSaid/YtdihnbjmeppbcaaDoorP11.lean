/- Plain: the lines of a form, turned. -/
import Derived.Test.YtdihnbjmeppbcaaDoorP6
import Derived.Test.YtdihnbjmeppbcaaDoorP10
namespace Go.Proofs.YtdihnbjmeppbcaaDoor.Pl

theorem sm_rot {F : Nat → Int} {n z : Nat} (h0 : 0 < n) : sm (fun i => F ((i + z) % n)) n = sm F n := by
  obtain ⟨q, hq⟩ : ∃ q, z % n = q := ⟨_, rfl⟩
  have hqn : q < n := by rw [← hq]; exact Nat.mod_lt _ h0
  have hG : ∀ i, (i + z) % n = (i + q) % n := fun i => by rw [← hq, Nat.add_mod_mod]
  have e1 : sm (fun i => F ((i + z) % n)) n = sm (fun i => F ((i + q) % n)) n := sm_ext (fun i _ => by rw [hG i])
  have e2 : sm (fun i => F ((i + q) % n)) n = sm (fun i => F ((i + q) % n)) (n - q) + sm (fun j => F ((n - q + j + q) % n)) q := by
    rw [← sm_parts]
    congr 1
    omega
  have e3 : sm F n = sm F q + sm (fun i => F (q + i)) (n - q) := by
    rw [← sm_parts]
    congr 1
    omega
  have e4 : sm (fun i => F ((i + q) % n)) (n - q) = sm (fun i => F (q + i)) (n - q) := sm_ext (fun i hi => by
    show F ((i + q) % n) = F (q + i)
    rw [Nat.mod_eq_of_lt (by omega), Nat.add_comm])
  have e5 : sm (fun j => F ((n - q + j + q) % n)) q = sm F q := sm_ext (fun j hj => by
    show F ((n - q + j + q) % n) = F j
    rw [show n - q + j + q = j + n by omega, Nat.add_mod_right, Nat.mod_eq_of_lt (by omega)])
  omega
/-- the lines, turned by z -/
def rot (ls : List Ln) (z : Nat) : List Ln := tab (fun i => ls.getD ((i + z) % ls.length) default) ls.length
theorem rot_len (ls : List Ln) (z : Nat) : (rot ls z).length = ls.length := tab_len _ _
theorem rot_get {ls : List Ln} {z i : Nat} (hi : i < ls.length) : (rot ls z).getD i default = ls.getD ((i + z) % ls.length) default := tab_getD _ _ hi
theorem mem_rot {ls : List Ln} {z : Nat} {x : Ln} : x ∈ rot ls z ↔ x ∈ ls := by
  rcases Nat.eq_zero_or_pos ls.length with h | h
  · rw [List.eq_nil_of_length_eq_zero h]
    exact Iff.rfl
  have hg : ∀ j, j < ls.length → ls.getD j default = ls[j]! := fun j hj => by simp [List.getD_eq_getElem?_getD, hj]
  constructor
  · intro hx
    obtain ⟨i, hi, rfl⟩ := List.getElem_of_mem hx
    rw [rot_len] at hi
    have e : (rot ls z)[i]'(by rw [rot_len]; exact hi) = ls.getD ((i + z) % ls.length) default := tab_get _ _
    have hm : (i + z) % ls.length < ls.length := Nat.mod_lt _ h
    rw [e, List.getD_eq_getElem?_getD, List.getElem?_eq_getElem hm]
    exact List.getElem_mem hm
  · intro hx
    obtain ⟨j, hj, rfl⟩ := List.getElem_of_mem hx
    have hz := Nat.mod_lt z h
    have hi : (j + (ls.length - z % ls.length)) % ls.length < (rot ls z).length := by rw [rot_len]; exact Nat.mod_lt _ h
    have e : (rot ls z)[(j + (ls.length - z % ls.length)) % ls.length] = ls.getD (((j + (ls.length - z % ls.length)) % ls.length + z) % ls.length) default := tab_get _ _
    have e2 : ((j + (ls.length - z % ls.length)) % ls.length + z) % ls.length = j := by
      rw [Nat.mod_add_mod, ← Nat.add_mod_mod, show j + (ls.length - z % ls.length) + z % ls.length = j + ls.length by omega, Nat.add_mod_right, Nat.mod_eq_of_lt hj]
    rw [e2, List.getD_eq_getElem?_getD, List.getElem?_eq_getElem hj] at e
    have := List.getElem_mem hi
    rw [e] at this
    exact this
theorem pcs_sm (ls : List Ln) (m : ByteArray) : ∀ k, pcs ls m k = sm (fun i => if (ls.getD i default).md = m then (ls.getD i default).cnt else 0) k
  | 0 => rfl
  | k + 1 => by
    rw [pcs, pcs_sm ls m k]
    have e : sm (fun i => if (ls.getD i default).md = m then (ls.getD i default).cnt else 0) (k + 1) = sm (fun i => if (ls.getD i default).md = m then (ls.getD i default).cnt else 0) k + (if (ls.getD k default).md = m then (ls.getD k default).cnt else 0) := rfl
    rw [e]
    split
    · rfl
    · omega
theorem pcs_rot {ls : List Ln} {z : Nat} (m : ByteArray) (h0 : 0 < ls.length) : pcs (rot ls z) m ls.length = pcs ls m ls.length := by
  rw [pcs_sm, pcs_sm]
  have e : sm (fun i => if ((rot ls z).getD i default).md = m then ((rot ls z).getD i default).cnt else 0) ls.length = sm (fun i => (fun j => if (ls.getD j default).md = m then (ls.getD j default).cnt else 0) ((i + z) % ls.length)) ls.length := sm_ext (fun i hi => by rw [rot_get hi])
  rw [e]
  exact sm_rot (F := fun j => if (ls.getD j default).md = m then (ls.getD j default).cnt else 0) h0
/-- the form with its lines turned, wherever they lie -/
def turned (f : Fm) (z : Nat) (A : Option Addr) (k : Nat) : Fm := ⟨f.cus, f.d, f.cur, rot f.ls z, A, k⟩
section
variable {l : List Pr} {r : List Rt} {f : Fm} {z : Nat} {A : Option Addr} {k : Nat}
theorem vf_turned : vf (turned f z A k) = vf f := by
  rw [Bool.eq_iff_iff, vf_true, vf_true]
  have hl : (turned f z A k).ls.length = f.ls.length := rot_len _ _
  constructor
  · intro h
    exact ⟨h.cus, h.d0, h.d1, h.cur, by have := h.n0; omega, by have := h.n1; omega, fun x hx => h.ls x (mem_rot.2 hx)⟩
  · intro h
    exact ⟨h.cus, h.d0, h.d1, h.cur, by have := h.n0; omega, by have := h.n1; omega, fun x hx => h.ls x (mem_rot.1 hx)⟩
theorem ck_turned : ckE l r (turned f z A k) = ckE l r f := by unfold ckE; rw [vf_turned]
theorem am_turned (h0 : 0 < f.ls.length) (x : Ln) : amE l r (turned f z A k) x = amE l r f x ∧ amV l r (turned f z A k) x = amV l r f x := by
  have e1 : amR l (turned f z A k) x = amR l f x := rfl
  have e2 : amP l (turned f z A k) x = amP l f x := by
    have e3 : pcs (turned f z A k).ls x.md (turned f z A k).ls.length = pcs f.ls x.md f.ls.length := by
      show pcs (rot f.ls z) x.md (rot f.ls z).length = _
      rw [rot_len, pcs_rot _ h0]
    unfold amP
    rw [e1, e3]
  refine ⟨?_, ?_⟩
  · unfold amE
    rw [e1, e2]; rfl
  · unfold amV
    rw [e1, e2]; rfl
theorem ln_turned (h0 : 0 < f.ls.length) {i : Nat} (hi : i < f.ls.length) : lnE l r (turned f z A k) i = lnE l r f ((i + z) % f.ls.length) ∧ lnV l r (turned f z A k) i = lnV l r f ((i + z) % f.ls.length) := by
  have e : (turned f z A k).ls.getD i default = f.ls.getD ((i + z) % f.ls.length) default := rot_get hi
  unfold lnE lnV
  rw [e]
  exact am_turned h0 _
theorem ivE_iff : ivE l r f = 0 ↔ ckE l r f = 0 ∧ ∀ i, i < f.ls.length → lnE l r f i = 0 := by
  unfold ivE
  split
  · rename_i h
    exact ⟨fun h2 => ⟨h, fe_all h2⟩, fun h2 => fe_zero h2.2⟩
  · rename_i h
    exact ⟨fun h2 => absurd h2 h, fun h2 => absurd h2.1 h⟩
theorem iv_turned (h0 : 0 < f.ls.length) : ivE l r (turned f z A k) = 0 ↔ ivE l r f = 0 := by
  have hl : (turned f z A k).ls.length = f.ls.length := rot_len _ _
  rw [ivE_iff, ivE_iff, ck_turned, hl]
  refine and_congr Iff.rfl ⟨fun h i hi => ?_, fun h i hi => ?_⟩
  · have hz := Nat.mod_lt z h0
    have e2 : ((i + (f.ls.length - z % f.ls.length)) % f.ls.length + z) % f.ls.length = i := by
      rw [Nat.mod_add_mod, ← Nat.add_mod_mod, show i + (f.ls.length - z % f.ls.length) + z % f.ls.length = i + f.ls.length by omega, Nat.add_mod_right, Nat.mod_eq_of_lt hi]
    have hm : (i + (f.ls.length - z % f.ls.length)) % f.ls.length < f.ls.length := Nat.mod_lt _ h0
    have := h _ hm
    rw [(ln_turned h0 hm).1, e2] at this
    exact this
  · rw [(ln_turned h0 hi).1]
    exact h _ (Nat.mod_lt _ h0)
theorem ivS_turned (h0 : 0 < f.ls.length) (h : ivE l r f = 0) : ivS l r (turned f z A k) = ivS l r f := by
  have hl : (turned f z A k).ls.length = f.ls.length := rot_len _ _
  have e1 : ivS l r (turned f z A k) = sm (lnV l r (turned f z A k)) (turned f z A k).ls.length := if_pos ((iv_turned h0).2 h)
  have e2 : ivS l r f = sm (lnV l r f) f.ls.length := if_pos h
  rw [e1, e2, hl, sm_ext (g := fun i => lnV l r f ((i + z) % f.ls.length)) (fun i hi => (ln_turned h0 hi).2)]
  exact sm_rot (F := lnV l r f) h0
end
end Go.Proofs.YtdihnbjmeppbcaaDoor.Pl
