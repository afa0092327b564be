/- Texts of TopJournal in one (mergeb.py): Q1 Q2 Q4 Q3 Q5. -/
import Derived.Test.YtalfffkcmddakabE2
import Derived.Test.YtalfffkcmddakabE3
import Derived.Test.YtalfffkcmddakabE6
import Derived.Test.YtalfffkcmddakabE7
import Derived.Laws.AppendOwnNone
namespace Go.Proofs.Ytalfffkcmddakab
open Go.RowKit Go.Shelf

theorem ve_no {e : Pl.En} {v : Bool} (hv : Pl.vE e = v) (h : ¬ Pl.Ve e) : v = false := by
  cases v
  · rfl
  · exact absurd (Pl.ve_iff.1 hv) h
end Go.Proofs.Ytalfffkcmddakab

namespace Go.Proofs.Ytalfffkcmddakab
open Go.RowKit Go.Shelf

theorem results_cell2 {P : Program} {fn : Func} {p q : Tmp} {ty : TypeId} (h : fn.results = #[.cell p ty, .tmp q]) (tmps : Array Value) (w : World) (g : Nat) (t : TypeId) (cs : Array Value) (fr : Nat × Nat) (d : TypeDesc)
    (hp : tmps.getD p undef = .pointer (some ⟨g, 0, none⟩)) (hg : w.heap[g]? = some (.cells cs t fr)) (v : Value) (hq : tmps.getD q undef = v)
    (hu : P.underlying ty = some d) (hd : (match d with | .struct _ | .array _ _ => true | _ => false) = true) (hi : (P.info? ty).map (·.size) = some cs.size) :
    (results fn tmps).run P w = .ok (.tuple #[.agg cs, v]) w := by
  have hp' : tmps[p]?.getD undef = .pointer (some ⟨g, 0, none⟩) := by simpa using hp
  have hq' : tmps[q]?.getD undef = v := by simpa using hq
  have hl := run_loadVar_row w g t ty cs fr d hg hu hd hi
  simp [results, h, hp', hq', asAddr, hl]
theorem Pl.fnd_hit {l : List Pl.En} {m : Pl.Nm} {k : Nat} (hk : k < l.length) (h : Pl.fnd (l.take k) m = none) (he : Pl.nm l[k] = m) : Pl.fnd l m = some l[k] := by
  conv => lhs; rw [← List.take_append_drop k l]
  rw [Pl.fnd_append, h, Option.none_or, List.drop_eq_getElem_cons hk]
  unfold Pl.fnd
  rw [List.find?_cons_of_pos (by simpa using he)]
theorem Pl.fnd_step {l : List Pl.En} {m : Pl.Nm} {k : Nat} (hk : k < l.length) (h : Pl.fnd (l.take k) m = none) (he : Pl.nm l[k] ≠ m) : Pl.fnd (l.take (k + 1)) m = none := by
  rw [List.take_succ_eq_append_getElem hk, Pl.fnd_append, h, Option.none_or, Pl.fnd_one, if_neg he]
end Go.Proofs.Ytalfffkcmddakab

namespace Go.Proofs.Ytalfffkcmddakab
open Go.RowKit Go.Shelf

theorem Pl.vb_bad1 {l : List Pl.En} {k : Nat} (hk : k < l.length) (h : Pl.vE l[k] = false) : Pl.vB l = false := by
  cases e : Pl.vB l
  · rfl
  · have := (Pl.vb_iff.1 e).each _ (List.getElem_mem hk)
    rw [this] at h; cases h
theorem Pl.vb_bad2 {l : List Pl.En} {k : Nat} (hk : k < l.length) (h : (Pl.fnd (l.take k) (Pl.nm l[k])).isSome = true) : Pl.vB l = false := by
  cases e : Pl.vB l
  · rfl
  · exfalso
    have hd := (Pl.vb_iff.1 e).dif
    cases hf : Pl.fnd (l.take k) (Pl.nm l[k]) with
    | none => rw [hf] at h; cases h
    | some y =>
      obtain ⟨h1, h2⟩ := Pl.fnd_some hf
      rw [← List.take_append_drop k l, List.drop_eq_getElem_cons hk, List.map_append, List.map_cons, List.nodup_append] at hd
      exact hd.2.2 _ (List.mem_map.2 ⟨y, h1, rfl⟩) _ (List.mem_cons_self ..) h2
/-- a list of valid entries whose names differ -/
structure PV (l : List Pl.En) : Prop where
  each : l.all Pl.vE = true
  dif : (l.map Pl.nm).Nodup
theorem PV.nil : PV [] := ⟨rfl, List.nodup_nil⟩
theorem PV.step {l : List Pl.En} {k : Nat} (hk : k < l.length) (h : PV (l.take k)) (hv : Pl.vE l[k] = true) (hf : (Pl.fnd (l.take k) (Pl.nm l[k])).isSome = false) : PV (l.take (k + 1)) := by
  rw [List.take_succ_eq_append_getElem hk]
  have hf' : Pl.fnd (l.take k) (Pl.nm l[k]) = none := by cases e : Pl.fnd (l.take k) (Pl.nm l[k]) <;> simp_all
  refine ⟨by rw [List.all_append, h.each]; simpa using hv, ?_⟩
  rw [← Pl.ups_new hf']
  exact Pl.ups_nodup h.dif _
theorem PV.vb {l : List Pl.En} (h : PV l) : Pl.vB l = decide (l.length ≤ 200) := by
  unfold Pl.vB
  rw [h.each, decide_eq_true h.dif]; simp
theorem take_rows {w : World} {A : Option Addr} {l : List Pl.En} (m : Nat) (h : Rows enL 4 w A l) : Rows enL 4 w A (l.take m) := by
  rcases h with rfl | ⟨b, off, e, hb, hc⟩
  · left; simp
  · refine .inr ⟨b, off, e, hb, fun i hi => ?_⟩
    have hi' : i < l.length := by rw [List.length_take] at hi; omega
    have := hc i hi'
    rwa [show (l.take m)[i] = l[i] from by simp]
theorem slice_hE (A : Option Addr) (n c m : Nat) (hm : m ≤ c) (W : World) : (Instr.slice 70 (.slice A n c) none (some (.int .i64 (m : Int))) none).run Try.prog W = .ok (.slice A m c) W := by
  have ht : Try.prog.underlying 70 = some (.slice (Try.prog.elem 70)) := by simp [Program.elem, Try.underlying70]
  rw [run_slice_h W 70 _ _ _ ht .i64 _ (by omega) (by omega)]
  have he : Try.prog.elem 70 = 72 := by simp [Program.elem, Try.underlying70]
  rw [he]
  have hz : (Go.sizeOf 72).run Try.prog W = .ok 4 W := by kernel_rfl
  rw [hz]
  cases A with
  | none => simp [Result.andThen, sliced]
  | some a => by_cases h : c = 0 <;> simp [Result.andThen, sliced, Addr.add, h]
end Go.Proofs.Ytalfffkcmddakab

namespace Go.Proofs.Ytalfffkcmddakab
open Go.RowKit Go.Shelf

theorem en_self (r : Pl.En) (w : World) : (Op.equalIn 10000 72 (.agg (enA r)) (.agg (enA r))).run Try.prog w = .ok true w := by
  have u3 := Try.underlying3
  have a3 := Try.isAgg3
  have q3 := Try.sizeOf3
  rw [show (10000 : Nat) = 9999 + 1 from rfl]
  go_simp
theorem ext_range {w0 : World} (s : Ext w0) {b off : Nat} {cs : List Value} (h : w0.rangeAt b off cs) (hb : b < w0.heap.size) : s.w.rangeAt b off cs := rangeAt_below h hb s.h
theorem en_cells {W : World} {b o : Nat} {r : Pl.En} (h : W.rangeAt b o (enL r)) : W.cell? ⟨b, o, none⟩ = some (.int .i64 r.k) ∧ W.cell? ⟨b, o + 1, none⟩ = some (.int .i64 r.r) ∧ W.cell? ⟨b, o + 2, none⟩ = some (.int .i64 r.d) ∧ W.cell? ⟨b, o + 3, none⟩ = some (.int .i64 r.c) :=
  ⟨h 0 _ rfl, h 1 _ rfl, h 2 _ rfl, h 3 _ rfl⟩
set_option maxRecDepth 100000 in
set_option maxHeartbeats 4000000 in
theorem dSame_eq (A B : Option Addr) (xs : List Pl.En) (c d n : Nat) (hn : xs.length = n) (hn4 : n ≤ 1000) (w : World) (hA : Rows enL 4 w A xs) (hB : Rows enL 4 w B xs) :
    Calls Try.prog 36 #[.slice A n c, .slice B n d] w fun e w' => e = .returned (.bool true) ∧ Below w.heap.size w w' := by
  have HA := Lib.hid hA
  have HBB := Lib.hid hB
  have HN := Lib.hid hn
  clear hA hB hn
  go_enter Try.func36, Try.ntmps36
  go_wp2
  go_loopw [5, 13] (fun _ i wr => ∃ k : Nat, k ≤ n ∧ i = .int .i64 k ∧ Below w.heap.size w wr) (fun _ i _ => n - (intOf i).toNat)
  case atStart => exact ⟨0, Nat.zero_le _, rfl, Below.refl _ _⟩
  case round =>
    obtain ⟨k, hk, rfl, hW⟩ := hrel
    obtain ⟨wo, rfl⟩ : ∃ wo, wo = wr := ⟨_, rfl⟩
    by_cases hlt : k < n
    · have hltI : (k : Int) < (n : Int) := by omega
      have hkx : k < xs.length := by rw [HN.out]; exact hlt
      obtain ⟨ba, oa, rfl, hba, hca⟩ := HA.out.open (by omega)
      obtain ⟨bb, ob, rfl, hbb, hcb⟩ := HBB.out.open (by omega)
      have rx := row_at hba hca hW hkx
      have ry := row_at hbb hcb hW hkx
      have hbx : ba < wo.heap.size := Nat.lt_of_lt_of_le hba hW.size
      have hby : bb < wo.heap.size := Nat.lt_of_lt_of_le hbb hW.size
      clear hca hcb
      generalize xs[k] = r at *
      have a0 := fun s : Ext wo => (en_cells (ext_range s rx hbx)).1
      have a1 := fun s : Ext wo => (en_cells (ext_range s rx hbx)).2.1
      have a2 := fun s : Ext wo => (en_cells (ext_range s rx hbx)).2.2.1
      have a3 := fun s : Ext wo => (en_cells (ext_range s rx hbx)).2.2.2
      have b0 := fun s : Ext wo => (en_cells (ext_range s ry hby)).1
      have b1 := fun s : Ext wo => (en_cells (ext_range s ry hby)).2.1
      have b2 := fun s : Ext wo => (en_cells (ext_range s ry hby)).2.2.1
      have b3 := fun s : Ext wo => (en_cells (ext_range s ry hby)).2.2.2
      have heq := fun w => en_self r w
      clear rx ry
      go_wp2
      refine wp_region_ext (by kernel_rfl) (by kernel_rfl) ?_
      repeat (go_big_quiet_step (fail))
      refine wpQuiet_nil ?_
      rintro _ ⟨s, rfl⟩
      go_wp2
      go_roundw
      case rel => exact ⟨k + 1, by omega, by go_num, hW.trans (s.h.mono hW.size)⟩
      case measure => simp [intOf]; omega
    · obtain rfl : k = n := by omega
      go_wp2
      go_ret
      exact ⟨rfl, hW⟩
end Go.Proofs.Ytalfffkcmddakab

namespace Go.Proofs.Ytalfffkcmddakab
open Go.RowKit Go.Shelf

theorem wpList_appE {ops : Array Oper} {rest : List Oper} {o : Oper} {a : Act} {w : World} {Q : Exit → Act → World → Prop} (hgd : o.guard = none) (s x : Operand)
    (ho : o.op = .call { callee := .builtin .append, args := #[s, x], argTypes := #[70, 70] }) (B : Nat) (v : Value) (k : Nat) (xs : List Value) (hs : a.eval s = v) (hO : w.ownsRow B 72 4 v k xs) (hB : B ≤ w.heap.size)
    (A : Option Addr) (l : List Pl.En) (n c : Nat) (hn : l.length = n) (hx : a.eval x = .slice A n c) (hR : Rows enL 4 w A l) (hnil : A = none → c = 0) (hk : k + n ≤ 1000000)
    (h : ∀ v' w', w'.ownsRow B 72 4 v' (k + n) (xs ++ flt enL l) → Below B w w' → wpList Try.prog ops Q rest (a.put o.dst v') w') : wpList Try.prog ops Q (o :: rest) a w := by
  obtain ⟨i0, hi, hz0, hz1, hz2⟩ := info_parts infoEn3
  subst hn
  cases A with
  | none =>
    obtain rfl := hnil rfl
    have hl : l = [] := by
      rcases hR with h | ⟨b, off, h1, _⟩
      · exact h
      · cases h1
    subst hl
    refine wpList_append_own_none hgd s x _ ho B _ i0 4 Try.underlying70 hi v k xs hs hO hx (h _ _ ?_ (Below.refl _ _))
    simpa [flt] using hO
  | some ad =>
    have hcells : ∀ j u, (flt enL l)[j]? = some u → w.cell? (ad.add j) = some u := by
      rcases hR with h | ⟨b, off, h1, h2, h3⟩
      · intro j u hj; rw [h] at hj; simp [flt] at hj
      · cases h1; exact rows_cells encEn h3
    refine wpList_append_own _ hgd s x _ ho B 72 i0 _ 4 32 Try.underlying70 hi hz0 hz1 hz2 rfl (by decide) v k xs hs hO ad l.length c (flt enL l) hx (flt_len encEn l) hcells (flt_one' encEn l) (by unfold maxLen; omega) (by omega) hB ?_
    intro v' w' ho' hg _
    exact h v' w' ho' ((Below.refl _ _).grown hg hB (fun s e => (hO.lt s e).1))
theorem rows_drop4 {W : World} {b off : Nat} {l : List Pl.En} {D : Nat} (h : Rows enL 4 W (some ⟨b, off, none⟩) l) : Rows enL 4 W (some ⟨b, off + D * 4, none⟩) (l.drop D) := by
  rcases h with h | ⟨b', off', h1, h2, h3⟩
  · rw [h]; exact .inl List.drop_nil
  · cases h1
    refine .inr ⟨b, off + D * 4, rfl, h2, fun i hi => ?_⟩
    rw [List.length_drop] at hi
    have := h3 (D + i) (by omega)
    rw [List.getElem_drop, show off + D * 4 + i * 4 = off + (D + i) * 4 from by omega]
    exact this
theorem slice_lE (A : Option Addr) (l : List Pl.En) (n c k : Nat) (hn : l.length = n) (hnc : n ≤ c) (hk : k ≤ n) :
    ∃ A', (∀ W : World, (Instr.slice 70 (.slice A n c) (some (.int .i64 (k : Int))) none none).run Try.prog W = .ok (.slice A' (n - k) (c - k)) W) ∧ (∀ W, Rows enL 4 W A l → Rows enL 4 W A' (l.drop k)) ∧ (A' = none → (A = none → c = 0) → c - k = 0) := by
  refine ⟨if c = k then A else A.map (·.add (k * 4)), fun W => ?_, fun W hI => ?_, fun h1 h2 => ?_⟩
  · have ht : Try.prog.underlying 70 = some (.slice (Try.prog.elem 70)) := by simp [Program.elem, Try.underlying70]
    rw [run_slice_l W 70 _ _ _ ht .i64 _ (by omega) (by omega)]
    have he : Try.prog.elem 70 = 72 := by simp [Program.elem, Try.underlying70]
    rw [he]
    have hz : (Go.sizeOf 72).run Try.prog W = .ok 4 W := by kernel_rfl
    rw [hz]
    simp [Result.andThen, sliced]
  · by_cases h : c = k
    · rw [if_pos h, List.drop_eq_nil_of_le (by omega)]; exact Rows.nil _ _
    · rw [if_neg h]
      cases A with
      | none =>
        rcases hI with h' | ⟨b, off, h1, _⟩
        · rw [h', List.drop_nil]; exact Rows.nil _ _
        · cases h1
      | some ad =>
        rcases hI with h' | ⟨b, off, h1, h2, h3⟩
        · rw [h', List.drop_nil]; exact Rows.nil _ _
        · cases h1
          have e : ((⟨b, off, none⟩ : Addr).add (k * 4)) = ⟨b, off + k * 4, none⟩ := by cases k <;> simp [Addr.add]
          simp only [Option.map_some, e]
          exact rows_drop4 (.inr ⟨b, off, rfl, h2, h3⟩)
  · by_cases h : c = k
    · omega
    · rw [if_neg h] at h1
      cases A with
      | none => have := h2 rfl; omega
      | some a => cases h1
theorem rows_own2 {W : World} {base : Nat} {v : Value} {xs : List Pl.En} {n : Nat} (hn : xs.length = n) (h : W.ownsRow base 72 4 v n (flt enL xs)) :
    ∃ A c, v = .slice A n c ∧ Rows enL 4 W A xs ∧ n ≤ c ∧ c ≤ maxLen ∧ (A = none → c = 0) := by
  subst hn
  have hh := h
  rcases h with ⟨_, ⟨rfl, h0⟩ | ⟨g, cap, cur, rfl, hg, hcell, hle, hcm, _⟩⟩
  · exact ⟨none, 0, by rw [h0], .inl (List.length_eq_zero_iff.1 h0), by omega, by unfold maxLen; omega, fun _ => rfl⟩
  · obtain ⟨A, c, e, h1, h2, h3⟩ := rows_of_owns encEn hh
    cases e
    exact ⟨_, _, rfl, h1, h2, h3, fun h => by cases h⟩
theorem keepB {B g : Nat} {t : TypeId} {cs : Array Value} {w w' : World} (h : Below B w w') (b : Blk w g t cs) (hg : g < B) : Blk w' g t cs := (h.block g hg).trans b
end Go.Proofs.Ytalfffkcmddakab

