/- Texts of TopJournal in one (mergeb.py): S1 S2 S6. -/
import Derived.Test.YtalfffkcmddakabF5
import Derived.Test.YtalfffkcmddakabE1
import Derived.Test.YtalfffkcmddakabJQ
import Derived.Lib.AppendZeros
namespace Go.Proofs.Ytalfffkcmddakab
open Go.RowKit Go.Shelf

/-- what IndexFunc answers -/
def Hit {α : Type} (p : α → Bool) (l : List α) (r : Int) : Prop := (r = -1 ∧ ∀ x, x ∈ l → p x = false) ∨ ∃ k, ∃ h : k < l.length, r = (k : Int) ∧ p l[k] = true ∧ ∀ (j : Nat) (hj : j < l.length), j < k → p l[j] = false
/-- a row in the midst of a deletion -/
structure Kp {α : Type} (p : α → Bool) (l X : List α) (i j : Nat) : Prop where
  len : X.length = l.length
  lt : i < j
  le : j ≤ l.length
  fst : X.take i = (l.take j).filter fun x => !p x
  rst : X.drop j = l.drop j
theorem Kp.start {α : Type} {p : α → Bool} {l : List α} {k : Nat} (hk : k < l.length) (h1 : p l[k] = true) (h2 : ∀ (j : Nat) (hj : j < l.length), j < k → p l[j] = false) : Kp p l l k (k + 1) where
  len := rfl
  lt := Nat.lt_succ_self k
  le := hk
  fst := by
    rw [List.take_succ_eq_append_getElem hk, List.filter_append, List.filter_cons_of_neg (by simp [h1]), List.filter_nil, List.append_nil, List.filter_eq_self.2]
    intro x hx
    obtain ⟨i, hi, rfl⟩ := List.getElem_of_mem hx
    rw [List.length_take] at hi
    rw [List.getElem_take, h2 i (by omega) (by omega)]; rfl
  rst := rfl
section
variable {α : Type} {p : α → Bool} {l X : List α} {i j : Nat}
theorem Kp.at (h : Kp p l X i j) (hj : j < l.length) : X[j]'(by rw [h.len]; exact hj) = l[j] := by
  have h1 : (X.drop j)[0]'(by rw [List.length_drop, h.len]; omega) = (l.drop j)[0]'(by rw [List.length_drop]; omega) := by simp only [h.rst]
  simpa using h1
theorem Kp.rest (h : Kp p l X i j) : X.drop (j + 1) = l.drop (j + 1) := by
  rw [← List.drop_drop, ← List.drop_drop, h.rst]
theorem Kp.skip (h : Kp p l X i j) (hj : j < l.length) (hp : p l[j] = true) : Kp p l X i (j + 1) where
  len := h.len
  lt := Nat.lt_succ_of_lt h.lt
  le := hj
  fst := by rw [List.take_succ_eq_append_getElem hj, List.filter_append, List.filter_cons_of_neg (by simp [hp]), List.filter_nil, List.append_nil, h.fst]
  rst := h.rest
theorem Kp.keep (h : Kp p l X i j) (hj : j < l.length) (hp : p l[j] = false) : Kp p l (X.set i l[j]) (i + 1) (j + 1) where
  len := by rw [List.length_set, h.len]
  lt := Nat.succ_lt_succ h.lt
  le := hj
  fst := by
    have hi : i < X.length := by rw [h.len]; exact Nat.lt_of_lt_of_le h.lt h.le
    rw [List.take_succ_eq_append_getElem hj, List.filter_append, List.filter_cons_of_pos (by simp [hp]), List.filter_nil, ← h.fst]
    rw [List.take_succ_eq_append_getElem (by rw [List.length_set]; exact hi), List.getElem_set_self, List.take_set_of_le (Nat.le_refl _)]
  rst := by rw [List.drop_set_of_lt (Nat.lt_succ_of_lt h.lt), h.rest]
theorem Kp.done (h : Kp p l X i j) (hj : j = l.length) : X.take i = l.filter fun x => !p x := by
  rw [h.fst, List.take_of_length_le (by omega)]
theorem Kp.cnt (h : Kp p l X i j) (hj : j = l.length) : (l.filter fun x => !p x).length = i := by
  rw [← h.done hj, List.length_take, h.len]
  have := h.lt
  omega
end
abbrev zdf : Array Value := #[.int .i64 0, .int .i64 0, .int .i64 0, .int .i64 0, .int .i64 0, .int .i64 0, .int .i64 0, .int .i64 0, .int .i64 0]
abbrev zen' : Array Value := #[.int .i64 0, .int .i64 0, .int .i64 0, .int .i64 0]
theorem zeroEn4 (w : World) : (zeroValue 72).run Try.prog w = .ok (.agg zen') w := by kernel_rfl
theorem slice_k (t e : TypeId) (k : Nat) (ht : Try.prog.underlying t = some (.slice e)) (hz : ∀ W, (Go.sizeOf e).run Try.prog W = .ok k W) (g o n c i : Nat) (hi : i ≤ n) (hc : i < c) (W : World) :
    (Instr.slice t (.slice (some ⟨g, o, none⟩) n c) (some (.int .i64 (i : Int))) none none).run Try.prog W = .ok (.slice (some ⟨g, o + i * k, none⟩) (n - i) (c - i)) W := by
  have ht' : Try.prog.underlying t = some (.slice (Try.prog.elem t)) := by simp [Program.elem, ht]
  rw [run_slice_l W t _ _ _ ht' .i64 _ (by omega) (by omega)]
  have he : Try.prog.elem t = e := by simp [Program.elem, ht]
  rw [he, hz W]
  have h1 : ¬ c = i := by omega
  by_cases hz0 : i * k = 0 <;> simp [Result.andThen, sliced, Addr.add, h1, hz0]
theorem slice_h' (t e : TypeId) (k : Nat) (ht : Try.prog.underlying t = some (.slice e)) (hz : ∀ W, (Go.sizeOf e).run Try.prog W = .ok k W) (g o n c i : Nat) (hi : i ≤ c) (W : World) :
    (Instr.slice t (.slice (some ⟨g, o, none⟩) n c) none (some (.int .i64 (i : Int))) none).run Try.prog W = .ok (.slice (some ⟨g, o, none⟩) i c) W := by
  have ht' : Try.prog.underlying t = some (.slice (Try.prog.elem t)) := by simp [Program.elem, ht]
  rw [run_slice_h W t _ _ _ ht' .i64 _ (by omega) (by omega)]
  have he : Try.prog.elem t = e := by simp [Program.elem, ht]
  rw [he, hz W]
  by_cases h : c = 0 <;> simp [Result.andThen, sliced, Addr.add, h]

set_option maxRecDepth 100000 in
set_option maxHeartbeats 4000000 in
theorem idxf_e (F : Nat) (cb : Array Value) (A : Option Addr) (l : List Pl.En) (c m : Nat) (hm : l.length = m) (hm6 : m ≤ 1000) (p : Pl.En → Bool) (w0 : World) (hI : Rows enL 4 w0 A l)
    (hf : ∀ x, x ∈ l → ∀ W, Below w0.heap.size w0 W → Calls Try.prog F (#[(.agg (enA x))] ++ cb) W fun e W' => e = .returned (.bool (p x)) ∧ Below W.heap.size W W')
    (eg : ∀ args w, (callFunc F args).run Try.prog w = .ok (.enter F args) w) :
    Calls Try.prog 84 #[.slice A m c, .func (.func F) #[] cb] w0 fun e w' => ∃ r : Int, e = .returned (.int .i64 r) ∧ Hit p l r ∧ Below w0.heap.size w0 w' := by
  have HF := Lib.hid hf
  have HI := Lib.hid hI
  have HM := Lib.hid hm
  clear hf hI hm
  go_enter Try.func84, Try.ntmps84
  go_wp2
  go_loopw [5, 8] (fun _ i wr => ∃ k : Nat, k ≤ m ∧ i = .int .i64 k ∧ Hid (∀ (i : Nat) (hi : i < l.length), i < k → p l[i] = false) ∧ Below w0.heap.size w0 wr) (fun _ i _ => m - (intOf i).toNat)
  case atStart => exact ⟨0, Nat.zero_le _, rfl, Lib.hid (fun i _ hi => absurd hi (Nat.not_lt_zero _)), Below.refl _ _⟩
  case round =>
    obtain ⟨k, hk, rfl, hall, hW⟩ := hrel
    obtain ⟨wo, rfl⟩ : ∃ wo, wo = wr := ⟨_, rfl⟩
    by_cases hlt : k < m
    · have hltI : (k : Int) < (m : Int) := by omega
      have hkx : k < l.length := by rw [HM.out]; exact hlt
      obtain ⟨bx, ox, rfl, hbx, hcx⟩ := HI.out.open (by omega)
      have hr := row_at hbx hcx hW hkx
      have hcl := HF.out l[k] (List.getElem_mem hkx) wo hW
      have HY : Hid (∀ (i : Nat) (hi : i < l.length), i = k → p l[i] = p l[k]) := Lib.hid (fun i hi e => by subst e; rfl)
      have HH : Hid (p l[k] = true → Hit p l (k : Int)) := Lib.hid (fun h => .inr ⟨k, hkx, rfl, h, hall.out⟩)
      clear hcx
      generalize l[k] = x at *
      obtain ⟨y, hy⟩ : ∃ y, p x = y := ⟨_, rfl⟩
      rw [hy] at hcl HY HH
      have HC := Lib.hid hcl
      clear hcl hy
      cases y with
      | true =>
        have HT := Lib.hid (HH.out rfl)
        go_wp2_with (have h9 := hr; refine ldm_en hr rfl _ rfl rfl ?_; clear h9)
        refine HC.out.mono ?_
        rintro e w' ⟨rfl, hb1⟩
        have hB2 := hW.trans (hb1.mono hW.size)
        go_wp2
        go_ret
        exact ⟨_, rfl, HT.out, hB2⟩
      | false =>
        go_wp2_with (have h9 := hr; refine ldm_en hr rfl _ rfl rfl ?_; clear h9)
        refine HC.out.mono ?_
        rintro e w' ⟨rfl, hb1⟩
        have hB2 := hW.trans (hb1.mono hW.size)
        go_wp2
        go_roundw
        case rel => exact ⟨k + 1, by omega, by go_num, Lib.hid (fun i hi hik => by
          rcases Nat.lt_succ_iff_lt_or_eq.1 hik with h' | h'
          · exact hall.out i hi h'
          · exact HY.out i hi h'), hB2⟩
        case measure => simp [intOf]; omega
    · obtain rfl : k = m := by omega
      have HE : Hid (Hit p l (-1)) := Lib.hid (.inl ⟨rfl, fun x hx => by
        obtain ⟨i, hi, rfl⟩ := List.getElem_of_mem hx
        exact hall.out i hi (by rw [← HM.out]; exact hi)⟩)
      go_wp2
      go_ret
      exact ⟨_, rfl, HE.out, hW⟩
end Go.Proofs.Ytalfffkcmddakab

namespace Go.Proofs.Ytalfffkcmddakab
open Go.RowKit Go.Shelf

theorem run_eqEn (x y : Pl.En) (r : Bool) (hr : decide (x = y) = r) (w : World) : (Op.equalIn 10000 72 (.agg (enA x)) (.agg (enA y))).run Try.prog w = .ok r w := by
  subst hr
  have u3 := Try.underlying3
  have a3 := Try.isAgg3
  have q3 := Try.sizeOf3
  rw [show (10000 : Nat) = 9999 + 1 from rfl]
  obtain ⟨a, b, c, d⟩ := x
  obtain ⟨e, f, g, h⟩ := y
  go_simp
  by_cases h1 : a = e <;> by_cases h2 : b = f <;> by_cases h3 : c = g <;> by_cases h4 : d = h <;> simp [h1, h2, h3, h4]
theorem df_m {W : World} {b o : Nat} {d : Pl.Df} (h : W.rangeAt b o (dfL d)) : W.rangeAt b (o + 1) (enL d.m) := fun j v hv => by
  have := h (1 + j) v (by rw [Nat.add_comm]; match j, hv with | 0, hv => exact hv | 1, hv => exact hv | 2, hv => exact hv | 3, hv => exact hv)
  rwa [← Nat.add_assoc] at this
theorem df_t {W : World} {b o : Nat} {d : Pl.Df} (h : W.rangeAt b o (dfL d)) : W.rangeAt b (o + 5) (enL d.t) := fun j v hv => by
  have := h (5 + j) v (by rw [Nat.add_comm]; match j, hv with | 0, hv => exact hv | 1, hv => exact hv | 2, hv => exact hv | 3, hv => exact hv)
  rwa [← Nat.add_assoc] at this
theorem df_k {W : World} {b o : Nat} {d : Pl.Df} (h : W.rangeAt b o (dfL d)) : W.cell? ⟨b, o, none⟩ = some (.int .i64 d.k) := h 0 _ rfl
/-- what the first k of two lists have -/
def cat (a b : List Pl.En) : Nat → List Pl.En
  | 0 => []
  | 1 => a
  | _ => a ++ b
end Go.Proofs.Ytalfffkcmddakab

namespace Go.Proofs.Ytalfffkcmddakab
open Go.RowKit Go.Shelf

set_option maxRecDepth 100000 in
set_option maxHeartbeats 8000000 in
theorem dSame_b (A B : Option Addr) (xs ys : List Pl.En) (c d n m : Nat) (hn : xs.length = n) (hm : ys.length = m) (hn4 : n ≤ 1000) (hm4 : m ≤ 1000) (v : Bool) (hv : decide (xs = ys) = v) (w : World) (hA : Rows enL 4 w A xs) (hB : Rows enL 4 w B ys) :
    Calls Try.prog 36 #[.slice A n c, .slice B m d] w fun e w' => e = .returned (.bool v) ∧ Below w.heap.size w w' := by
  by_cases hnm : n = m
  case neg =>
    have h1 : ((n : Int) != (m : Int)) = true := by simp; omega
    have HV : Hid (v = false) := Lib.hid (by rw [← hv]; exact decide_eq_false fun e => hnm (by rw [← hn, ← hm, e]))
    clear hA hB hn hm hv hnm
    go_enter Try.func36, Try.ntmps36
    go_wp2
    go_ret
    exact ⟨by rw [HV.out]; rfl, Below.refl _ _⟩
  case pos =>
  subst hnm
  have HA := Lib.hid hA
  have HBB := Lib.hid hB
  have HN := Lib.hid hn
  have HM := Lib.hid hm
  have HV := Lib.hid hv
  clear hA hB hn hm hv
  go_enter Try.func36, Try.ntmps36
  go_wp2
  go_loopw [5, 13] (fun _ i wr => ∃ k : Nat, k ≤ n ∧ i = .int .i64 k ∧ Hid (∀ (i : Nat) (h1 : i < xs.length) (h2 : i < ys.length), i < k → xs[i] = ys[i]) ∧ Below w.heap.size w wr) (fun _ i _ => n - (intOf i).toNat)
  case atStart => exact ⟨0, Nat.zero_le _, rfl, Lib.hid (fun i _ _ h => absurd h (Nat.not_lt_zero _)), Below.refl _ _⟩
  case round =>
    obtain ⟨k, hk, rfl, HE, hW⟩ := hrel
    obtain ⟨wo, rfl⟩ : ∃ wo, wo = wr := ⟨_, rfl⟩
    by_cases hlt : k < n
    · have hltI : (k : Int) < (n : Int) := by omega
      have hkx : k < xs.length := by rw [HN.out]; exact hlt
      have hky : k < ys.length := by rw [HM.out]; exact hlt
      obtain ⟨ba, oa, rfl, hba, hca⟩ := HA.out.open (by omega)
      obtain ⟨bb, ob, rfl, hbb, hcb⟩ := HBB.out.open (by omega)
      have rx := row_at hba hca hW hkx
      have ry := row_at hbb hcb hW hky
      have hbx : ba < wo.heap.size := Nat.lt_of_lt_of_le hba hW.size
      have hby : bb < wo.heap.size := Nat.lt_of_lt_of_le hbb hW.size
      have HNE : Hid (xs[k] ≠ ys[k] → v = false) := Lib.hid (fun h => by rw [← HV.out]; exact decide_eq_false fun e => h (by subst e; rfl))
      have HST : Hid (xs[k] = ys[k] → ∀ (i : Nat) (h1 : i < xs.length) (h2 : i < ys.length), i < k + 1 → xs[i] = ys[i]) := Lib.hid (fun h i h1 h2 hi => by
        by_cases e : i = k
        · subst e; exact h
        · exact HE.out i h1 h2 (by omega))
      clear hca hcb
      generalize xs[k] = r at *
      generalize ys[k] = s at *
      have a0 := fun s : Ext wo => (en_cells (ext_range s rx hbx)).1
      have a1 := fun s : Ext wo => (en_cells (ext_range s rx hbx)).2.1
      have a2 := fun s : Ext wo => (en_cells (ext_range s rx hbx)).2.2.1
      have a3 := fun s : Ext wo => (en_cells (ext_range s rx hbx)).2.2.2
      have b0 := fun s : Ext wo => (en_cells (ext_range s ry hby)).1
      have b1 := fun s : Ext wo => (en_cells (ext_range s ry hby)).2.1
      have b2 := fun s : Ext wo => (en_cells (ext_range s ry hby)).2.2.1
      have b3 := fun s : Ext wo => (en_cells (ext_range s ry hby)).2.2.2
      clear rx ry
      by_cases hrs : r = s
      · have heq := fun w => run_eqEn r s true (decide_eq_true hrs) w
        have HS2 := Lib.hid (HST.out hrs)
        clear hrs hkx hky
        go_wp2
        refine wp_region_ext (by kernel_rfl) (by kernel_rfl) ?_
        repeat (go_big_quiet_step (fail))
        refine wpQuiet_nil ?_
        rintro _ ⟨s, rfl⟩
        go_wp2
        go_roundw
        case rel => exact ⟨k + 1, by omega, by go_num, HS2, hW.trans (s.h.mono hW.size)⟩
        case measure => simp [intOf]; omega
      · have heq := fun w => run_eqEn r s false (decide_eq_false hrs) w
        have HF := Lib.hid (HNE.out hrs)
        clear hrs hkx hky
        go_wp2
        refine wp_region_ext (by kernel_rfl) (by kernel_rfl) ?_
        repeat (go_big_quiet_step (fail))
        refine wpQuiet_nil ?_
        rintro _ ⟨s, rfl⟩
        go_wp2
        go_ret
        exact ⟨by rw [HF.out]; rfl, hW.trans (s.h.mono hW.size)⟩
    · obtain rfl : k = n := by omega
      have HT : Hid (v = true) := Lib.hid (by
        rw [← HV.out]
        exact decide_eq_true (List.ext_getElem (by rw [HN.out, HM.out]) fun i h1 h2 => HE.out i h1 h2 (by rw [← HN.out]; exact h1)))
      go_wp2
      go_ret
      exact ⟨by rw [HT.out]; rfl, hW⟩
set_option maxRecDepth 100000 in
theorem run_eqEnN (k : Nat) (r : Pl.En) (w : World) : (Op.equalIn (k + 1 + 1) 72 (.agg (enA r)) (.agg (enA r))).run Try.prog w = .ok true w := by
  have u3 := Try.underlying3
  have a3 := Try.isAgg3
  have q3 := Try.sizeOf3
  go_simp
/-- the cells of a difference -/
structure DfC (W : World) (b o : Nat) (d : Pl.Df) : Prop where
  c0 : W.cell? ⟨b, o, none⟩ = some (.int .i64 d.k)
  c1 : W.cell? ⟨b, o + 1, none⟩ = some (.int .i64 d.m.k)
  c2 : W.cell? ⟨b, o + 2, none⟩ = some (.int .i64 d.m.r)
  c3 : W.cell? ⟨b, o + 3, none⟩ = some (.int .i64 d.m.d)
  c4 : W.cell? ⟨b, o + 4, none⟩ = some (.int .i64 d.m.c)
  c5 : W.cell? ⟨b, o + 5, none⟩ = some (.int .i64 d.t.k)
  c6 : W.cell? ⟨b, o + 6, none⟩ = some (.int .i64 d.t.r)
  c7 : W.cell? ⟨b, o + 7, none⟩ = some (.int .i64 d.t.d)
  c8 : W.cell? ⟨b, o + 8, none⟩ = some (.int .i64 d.t.c)
theorem df_cells {W : World} {b o : Nat} {d : Pl.Df} (h : W.rangeAt b o (dfL d)) : DfC W b o d := ⟨h 0 _ rfl, h 1 _ rfl, h 2 _ rfl, h 3 _ rfl, h 4 _ rfl, h 5 _ rfl, h 6 _ rfl, h 7 _ rfl, h 8 _ rfl⟩
end Go.Proofs.Ytalfffkcmddakab

