/- IndexFunc and DeleteFunc over rows that a call owns, at entries and at differences, for any closure. -/
import Derived.Test.YtalfffkcmddakaaF5
import Derived.Test.YtalfffkcmddakaaE1
namespace Go.Proofs.Ytalfffkcmddakaa
open Go.RowKit Go.Shelf

/-- what IndexFunc answers -/
def Hit {α : Type} (p : α → Bool) (l : List α) (r : Int) : Prop := (r = -1 ∧ ∀ x, x ∈ l → p x = false) ∨ ∃ k, ∃ h : k < l.length, r = (k : Int) ∧ p l[k] = true ∧ ∀ (j : Nat) (hj : j < l.length), j < k → p l[j] = false
/-- a row in the midst of a deletion -/
structure Kp {α : Type} (p : α → Bool) (l X : List α) (i j : Nat) : Prop where
  len : X.length = l.length
  lt : i < j
  le : j ≤ l.length
  fst : X.take i = (l.take j).filter fun x => !p x
  rst : X.drop j = l.drop j
theorem Kp.start {α : Type} {p : α → Bool} {l : List α} {k : Nat} (hk : k < l.length) (h1 : p l[k] = true) (h2 : ∀ (j : Nat) (hj : j < l.length), j < k → p l[j] = false) : Kp p l l k (k + 1) where
  len := rfl
  lt := Nat.lt_succ_self k
  le := hk
  fst := by
    rw [List.take_succ_eq_append_getElem hk, List.filter_append, List.filter_cons_of_neg (by simp [h1]), List.filter_nil, List.append_nil, List.filter_eq_self.2]
    intro x hx
    obtain ⟨i, hi, rfl⟩ := List.getElem_of_mem hx
    rw [List.length_take] at hi
    rw [List.getElem_take, h2 i (by omega) (by omega)]; rfl
  rst := rfl
section
variable {α : Type} {p : α → Bool} {l X : List α} {i j : Nat}
theorem Kp.at (h : Kp p l X i j) (hj : j < l.length) : X[j]'(by rw [h.len]; exact hj) = l[j] := by
  have h1 : (X.drop j)[0]'(by rw [List.length_drop, h.len]; omega) = (l.drop j)[0]'(by rw [List.length_drop]; omega) := by simp only [h.rst]
  simpa using h1
theorem Kp.rest (h : Kp p l X i j) : X.drop (j + 1) = l.drop (j + 1) := by
  rw [← List.drop_drop, ← List.drop_drop, h.rst]
theorem Kp.skip (h : Kp p l X i j) (hj : j < l.length) (hp : p l[j] = true) : Kp p l X i (j + 1) where
  len := h.len
  lt := Nat.lt_succ_of_lt h.lt
  le := hj
  fst := by rw [List.take_succ_eq_append_getElem hj, List.filter_append, List.filter_cons_of_neg (by simp [hp]), List.filter_nil, List.append_nil, h.fst]
  rst := h.rest
theorem Kp.keep (h : Kp p l X i j) (hj : j < l.length) (hp : p l[j] = false) : Kp p l (X.set i l[j]) (i + 1) (j + 1) where
  len := by rw [List.length_set, h.len]
  lt := Nat.succ_lt_succ h.lt
  le := hj
  fst := by
    have hi : i < X.length := by rw [h.len]; exact Nat.lt_of_lt_of_le h.lt h.le
    rw [List.take_succ_eq_append_getElem hj, List.filter_append, List.filter_cons_of_pos (by simp [hp]), List.filter_nil, ← h.fst]
    rw [List.take_succ_eq_append_getElem (by rw [List.length_set]; exact hi), List.getElem_set_self, List.take_set_of_le (Nat.le_refl _)]
  rst := by rw [List.drop_set_of_lt (Nat.lt_succ_of_lt h.lt), h.rest]
theorem Kp.done (h : Kp p l X i j) (hj : j = l.length) : X.take i = l.filter fun x => !p x := by
  rw [h.fst, List.take_of_length_le (by omega)]
theorem Kp.cnt (h : Kp p l X i j) (hj : j = l.length) : (l.filter fun x => !p x).length = i := by
  rw [← h.done hj, List.length_take, h.len]
  have := h.lt
  omega
end
abbrev zdf : Array Value := #[.int .i64 0, .int .i64 0, .int .i64 0, .int .i64 0, .int .i64 0, .int .i64 0, .int .i64 0, .int .i64 0, .int .i64 0]
abbrev zen' : Array Value := #[.int .i64 0, .int .i64 0, .int .i64 0, .int .i64 0]
theorem zeroEn4 (w : World) : (zeroValue 24).run Try.prog w = .ok (.agg zen') w := by kernel_rfl
theorem zeroDf9 (w : World) : (zeroValue 61).run Try.prog w = .ok (.agg zdf) w := by kernel_rfl
theorem slice_k (t e : TypeId) (k : Nat) (ht : Try.prog.underlying t = some (.slice e)) (hz : ∀ W, (Go.sizeOf e).run Try.prog W = .ok k W) (g o n c i : Nat) (hi : i ≤ n) (hc : i < c) (W : World) :
    (Instr.slice t (.slice (some ⟨g, o, none⟩) n c) (some (.int .i64 (i : Int))) none none).run Try.prog W = .ok (.slice (some ⟨g, o + i * k, none⟩) (n - i) (c - i)) W := by
  have ht' : Try.prog.underlying t = some (.slice (Try.prog.elem t)) := by simp [Program.elem, ht]
  rw [run_slice_l W t _ _ _ ht' .i64 _ (by omega) (by omega)]
  have he : Try.prog.elem t = e := by simp [Program.elem, ht]
  rw [he, hz W]
  have h1 : ¬ c = i := by omega
  by_cases hz0 : i * k = 0 <;> simp [Result.andThen, sliced, Addr.add, h1, hz0]
theorem slice_h' (t e : TypeId) (k : Nat) (ht : Try.prog.underlying t = some (.slice e)) (hz : ∀ W, (Go.sizeOf e).run Try.prog W = .ok k W) (g o n c i : Nat) (hi : i ≤ c) (W : World) :
    (Instr.slice t (.slice (some ⟨g, o, none⟩) n c) none (some (.int .i64 (i : Int))) none).run Try.prog W = .ok (.slice (some ⟨g, o, none⟩) i c) W := by
  have ht' : Try.prog.underlying t = some (.slice (Try.prog.elem t)) := by simp [Program.elem, ht]
  rw [run_slice_h W t _ _ _ ht' .i64 _ (by omega) (by omega)]
  have he : Try.prog.elem t = e := by simp [Program.elem, ht]
  rw [he, hz W]
  by_cases h : c = 0 <;> simp [Result.andThen, sliced, Addr.add, h]

set_option maxRecDepth 100000 in
set_option maxHeartbeats 4000000 in
theorem idxf_e (F : Nat) (cb : Array Value) (A : Option Addr) (l : List Pl.En) (c m : Nat) (hm : l.length = m) (hm6 : m ≤ 1000) (p : Pl.En → Bool) (w0 : World) (hI : Rows enL 4 w0 A l)
    (hf : ∀ x, x ∈ l → ∀ W, Below w0.heap.size w0 W → Calls Try.prog F (#[(.agg (enA x))] ++ cb) W fun e W' => e = .returned (.bool (p x)) ∧ Below W.heap.size W W')
    (eg : ∀ args w, (callFunc F args).run Try.prog w = .ok (.enter F args) w) :
    Calls Try.prog 112 #[.slice A m c, .func (.func F) #[] cb] w0 fun e w' => ∃ r : Int, e = .returned (.int .i64 r) ∧ Hit p l r ∧ Below w0.heap.size w0 w' := by
  have HF := Lib.hid hf
  have HI := Lib.hid hI
  have HM := Lib.hid hm
  clear hf hI hm
  go_enter Try.func112, Try.ntmps112
  go_wp2
  go_loopw [5, 8] (fun _ i wr => ∃ k : Nat, k ≤ m ∧ i = .int .i64 k ∧ Hid (∀ (i : Nat) (hi : i < l.length), i < k → p l[i] = false) ∧ Below w0.heap.size w0 wr) (fun _ i _ => m - (intOf i).toNat)
  case atStart => exact ⟨0, Nat.zero_le _, rfl, Lib.hid (fun i _ hi => absurd hi (Nat.not_lt_zero _)), Below.refl _ _⟩
  case round =>
    obtain ⟨k, hk, rfl, hall, hW⟩ := hrel
    obtain ⟨wo, rfl⟩ : ∃ wo, wo = wr := ⟨_, rfl⟩
    by_cases hlt : k < m
    · have hltI : (k : Int) < (m : Int) := by omega
      have hkx : k < l.length := by rw [HM.out]; exact hlt
      obtain ⟨bx, ox, rfl, hbx, hcx⟩ := HI.out.open (by omega)
      have hr := row_at hbx hcx hW hkx
      have hcl := HF.out l[k] (List.getElem_mem hkx) wo hW
      have HY : Hid (∀ (i : Nat) (hi : i < l.length), i = k → p l[i] = p l[k]) := Lib.hid (fun i hi e => by subst e; rfl)
      have HH : Hid (p l[k] = true → Hit p l (k : Int)) := Lib.hid (fun h => .inr ⟨k, hkx, rfl, h, hall.out⟩)
      clear hcx
      generalize l[k] = x at *
      obtain ⟨y, hy⟩ : ∃ y, p x = y := ⟨_, rfl⟩
      rw [hy] at hcl HY HH
      have HC := Lib.hid hcl
      clear hcl hy
      cases y with
      | true =>
        have HT := Lib.hid (HH.out rfl)
        go_wp2_with (have h9 := hr; refine ldm_en hr rfl _ rfl rfl ?_; clear h9)
        refine HC.out.mono ?_
        rintro e w' ⟨rfl, hb1⟩
        have hB2 := hW.trans (hb1.mono hW.size)
        go_wp2
        go_ret
        exact ⟨_, rfl, HT.out, hB2⟩
      | false =>
        go_wp2_with (have h9 := hr; refine ldm_en hr rfl _ rfl rfl ?_; clear h9)
        refine HC.out.mono ?_
        rintro e w' ⟨rfl, hb1⟩
        have hB2 := hW.trans (hb1.mono hW.size)
        go_wp2
        go_roundw
        case rel => exact ⟨k + 1, by omega, by go_num, Lib.hid (fun i hi hik => by
          rcases Nat.lt_succ_iff_lt_or_eq.1 hik with h' | h'
          · exact hall.out i hi h'
          · exact HY.out i hi h'), hB2⟩
        case measure => simp [intOf]; omega
    · obtain rfl : k = m := by omega
      have HE : Hid (Hit p l (-1)) := Lib.hid (.inl ⟨rfl, fun x hx => by
        obtain ⟨i, hi, rfl⟩ := List.getElem_of_mem hx
        exact hall.out i hi (by rw [← HM.out]; exact hi)⟩)
      go_wp2
      go_ret
      exact ⟨_, rfl, HE.out, hW⟩
set_option maxRecDepth 100000 in
set_option maxHeartbeats 8000000 in
theorem delc_e (F : Nat) (cb : Array Value) (eg : ∀ args w, (callFunc F args).run Try.prog w = .ok (.enter F args) w) (B g o : Nat) (ho : o = 0) (l : List Pl.En) (c n : Nat) (hn : l.length = n) (hm : n ≤ 1000) (p : Pl.En → Bool) (w0 w : World) (hB : Below B w0 w)
    (hown : w.ownsRow B 24 4 (.slice (some ⟨g, o, none⟩) n c) n (flt enL l))
    (hf : ∀ x, x ∈ l → ∀ W, Below B w0 W → Calls Try.prog F (#[(.agg (enA x))] ++ cb) W fun e W' => e = .returned (.bool (p x)) ∧ Below W.heap.size W W') :
    Calls Try.prog 99 #[.slice (some ⟨g, o, none⟩) n c, .func (.func F) #[] cb] w fun e w' => ∃ i, e = .returned (.slice (some ⟨g, o, none⟩) i c) ∧ (l.filter fun x => !p x).length = i ∧ w'.ownsRow B 24 4 (.slice (some ⟨g, o, none⟩) i c) i (flt enL (l.filter fun x => !p x)) ∧ Below B w0 w' := by
  have hgB : B ≤ g ∧ g < w.heap.size := hown.lt g rfl
  have hBw : B ≤ w.heap.size := by omega
  have hnc : n ≤ c ∧ c ≤ maxLen := by
    rcases hown.2 with ⟨h, _⟩ | ⟨g', cap, cur, h, _, _, h1, h2, _⟩
    · cases h
    · cases h; exact ⟨h1, h2⟩
  have hc63 : c ≤ 9223372036854775807 := by have := hnc.2; unfold maxLen at this; omega
  have hI : Rows enL 4 w (some ⟨g, o, none⟩) l := by
    subst ho
    obtain ⟨A, c', e, h, _, _⟩ := rows_of_owns encEn (show w.ownsRow B 24 4 (.slice (some ⟨g, 0, none⟩) n c) l.length (flt enL l) from by rw [hn]; exact hown)
    cases e
    exact h
  have HIX := Lib.hid (idxf_e F cb (some ⟨g, o, none⟩) l c n hn hm p w hI (fun x hx W hW => hf x hx W (hB.trans (hW.mono hBw))) eg)
  have HO := Lib.hid hown
  have HF := Lib.hid hf
  have HB := Lib.hid hB
  have HN := Lib.hid hn
  have HZ := Lib.hid ho
  have HGB := Lib.hid hgB
  have HNC := Lib.hid hnc
  clear hown hf hB hn ho hgB hI hBw hnc
  go_enter Try.func99, Try.ntmps99
  go_wp2_with fail
  refine HIX.out.mono ?_
  rintro e w1 ⟨r, rfl, hr, hb1⟩
  have HB1 := Lib.hid (HB.out.trans (hb1.mono (by have := HGB.out; omega)))
  have HO1 := Lib.hid (own_keep HO.out hb1)
  clear hb1 HIX HO HB
  rcases hr with ⟨rfl, hall⟩ | ⟨k0, hk0, rfl, ht, hall⟩
  · have HE : Hid ((l.filter fun x => !p x) = l) := Lib.hid (List.filter_eq_self.2 fun x hx => by rw [hall x hx]; rfl)
    clear hall
    go_wp2
    go_ret
    exact ⟨n, rfl, by rw [HE.out, HN.out], by rw [HE.out]; exact HO1.out, HB1.out⟩
  · have HK0 := Lib.hid (Kp.start hk0 ht hall)
    have hne1 : ((k0 : Int) == -1) = false := beq_eq_false_iff_ne.2 (by omega)
    have hk0n : k0 < n := by rw [← HN.out]; exact hk0
    clear ht hall hk0
    go_wp2
    go_loopw [5, 6] (fun s5 s6 wr => ∃ (i j : Nat) (X : List Pl.En), s5 = .int .i64 i ∧ s6 = .int .i64 j ∧ i < j ∧ j ≤ n ∧ Hid (Kp p l X i j) ∧ Hid (wr.ownsRow B 24 4 (.slice (some ⟨g, o, none⟩) n c) n (flt enL X)) ∧ Below B w0 wr) (fun _ s6 _ => n - (intOf s6).toNat)
    case atStart => exact ⟨k0, k0 + 1, l, rfl, by go_num, by omega, by omega, HK0, HO1, HB1.out⟩
    case round =>
      clear HO1 HB1 HK0
      obtain ⟨i, j, X, rfl, rfl, hij, hjn, HK, HO, hW⟩ := hrel
      obtain ⟨wo, rfl⟩ : ∃ wo, wo = wr := ⟨_, rfl⟩
      by_cases hlt : j < n
      · have hltI : (j : Int) < (n : Int) := by omega
        have hjl : j < l.length := by rw [HN.out]; exact hlt
        have hXn : X.length = n := by rw [HK.out.len, HN.out]
        have hO0 : wo.ownsRow B 24 4 (.slice (some ⟨g, 0, none⟩) n c) n (flt enL X) := by have := HO.out; rw [HZ.out] at this; exact this
        have hr := own_rangeAt encEn hO0 hXn hlt
        rw [HK.out.at hjl, ← Nat.zero_add (j * 4), show (0 : Nat) = o from HZ.out.symm] at hr
        have hcl := HF.out l[j] (List.getElem_mem hjl)
        have HSK := Lib.hid (HK.out.skip hjl)
        have HKE := Lib.hid (HK.out.keep hjl)
        have HXN := Lib.hid hXn
        clear hO0 hXn
        generalize l[j] = x at *
        obtain ⟨y, hy⟩ : ∃ y, p x = y := ⟨_, rfl⟩
        rw [hy] at hcl HSK HKE
        have HC := Lib.hid hcl
        have bz := Blk.new wo 24 zen'
        have HBz := Lib.hid ((Below.refl wo.heap.size wo).alloc (Nat.le_refl _) (.cells zen' 24))
        have HW := Lib.hid hW
        have hBo : B ≤ wo.heap.size := by have := (HO.out.lt g rfl); omega
        clear hcl hy hW hjl
        go_wp2_with (first
          | (have h9 := bz
             refine st_en (k := x) bz rfl rfl _ _ rfl rfl rfl ?_
             clear h9
             intro w3 bY hO3
             have hb3 : Below wo.heap.size wo w3 := HBz.out.trans (hO3.below (Nat.le_refl _))
             have hr7 := bY.range
             have HO3 := Lib.hid (own_keep HO.out hb3)
             have HW3 := Lib.hid (HW.out.trans (hb3.mono hBo))
             clear bz hO3 hb3 hr)
          | (have h9 := hr
             refine ldm_en hr rfl _ rfl rfl ?_
             clear h9)
          | (have h9 := hr7
             refine ldm_en hr7 rfl _ rfl rfl ?_
             clear h9))
        refine (HC.out w3 HW3.out).mono ?_
        rintro e w4 ⟨rfl, hb4⟩
        have hB3 : B ≤ w3.heap.size := by have := (HO3.out.lt g rfl); omega
        have HW4 := Lib.hid (HW3.out.trans (hb4.mono hB3))
        have HO4 := Lib.hid (own_keep HO3.out hb4)
        have bY4 := bY.below hb4 bY.lt
        clear hb4 hr7 bY HO HO3 HW HW3 HBz
        cases y with
        | true =>
          have HK2 := Lib.hid (HSK.out rfl)
          clear bY4
          go_wp2
          go_roundw
          case rel => exact ⟨i, j + 1, X, rfl, by go_num, by omega, by omega, HK2, HO4, HW4.out⟩
          case measure => simp [intOf]; omega
        | false =>
          have HK2 := Lib.hid (HKE.out rfl)
          have hr8 := bY4.range
          have hO0 : w4.ownsRow B 24 4 (.slice (some ⟨g, 0, none⟩) n c) n (flt enL X) := by have := HO4.out; rw [HZ.out] at this; exact this
          have hth : w4.there g (o + i * 4) (enA x).size := by
            rw [HZ.out, Nat.zero_add]
            exact own_there hO0 (by show i * 4 + 4 ≤ n * 4; omega)
          have HO5 : Hid ((w4.setCells g (o + i * 4) (enA x).toList).ownsRow B 24 4 (.slice (some ⟨g, o, none⟩) n c) n (flt enL (X.set i x))) := Lib.hid (by
            rw [HZ.out, Nat.zero_add]
            exact own_setK encEn hO0 HXN.out (by omega) x)
          have HW5 : Hid (Below B w0 (w4.setCells g (o + i * 4) (enA x).toList)) := Lib.hid (HW4.out.trans ((Only.setCells g _ _ w4).below HGB.out.1))
          clear hO0 bY4 HO4 HW4
          go_wp2_with (first
            | (have h9 := hr8
               refine ldm_en hr8 rfl _ rfl rfl ?_
               clear h9)
            | (have h9 := hth
               refine wpList_store_mid rfl 24 _ _ rfl g (o + i * 4) (enA x) rfl rfl hth infoEn (en_all x) ?_
               clear h9 hth hr8
               generalize w4.setCells g (o + i * 4) (enA x).toList = w5 at *))
          go_roundw
          case rel => exact ⟨i + 1, j + 1, X.set i x, by go_num, by go_num, by omega, by omega, HK2, HO5, HW5.out⟩
          case measure => simp [intOf]; omega
      · obtain rfl : j = n := by omega
        have hcc := HNC.out.1
        have hsl := slice_k 22 24 4 Try.underlying22 (fun W => by kernel_rfl) g o j c i (by omega) (by omega)
        have hsh := slice_h' 22 24 4 Try.underlying22 (fun W => by kernel_rfl) g o j c i (by omega)
        have hXn : X.length = j := by rw [HK.out.len, HN.out]
        have hO0 : wo.ownsRow B 24 4 (.slice (some ⟨g, 0, none⟩) j c) j (flt enL X) := by have := HO.out; rw [HZ.out] at this; exact this
        have hcl := fun ty => run_clear_ints (P := Try.prog) wo 22 24 ty zen' 4 Try.underlying22 zeroEn4 (by rfl) g (o + i * 4) (j - i) (c - i) (by omega) (by rw [HZ.out, Nat.zero_add]; exact own_there hO0 (by rw [Nat.sub_mul]; omega))
        have HD := Lib.hid (HK.out.done HN.out.symm)
        have HCN := Lib.hid (HK.out.cnt HN.out.symm)
        have HO5 : Hid ((wo.setCells g (o + i * 4) (List.replicate ((j - i) * 4) (.int .i64 0))).ownsRow B 24 4 (.slice (some ⟨g, o, none⟩) i c) i (flt enL (X.take i))) := Lib.hid (by
          rw [HZ.out, Nat.zero_add]
          exact own_behind (own_take encEn hO0 hXn (by omega)) _)
        have HW5 : Hid (Below B w0 (wo.setCells g (o + i * 4) (List.replicate ((j - i) * 4) (.int .i64 0)))) := Lib.hid (hW.trans ((Only.setCells g _ _ wo).below HGB.out.1))
        clear hO0 hXn HO HK hcc
        go_wp2
        go_ret
        exact ⟨i, rfl, HCN.out, by rw [← HD.out]; exact HO5.out, HW5.out⟩
theorem delf_e (F : Nat) (cb : Array Value) (eg : ∀ args w, (callFunc F args).run Try.prog w = .ok (.enter F args) w) (B : Nat) (v : Value) (l : List Pl.En) (n : Nat) (hn : l.length = n) (hm : n ≤ 1000) (p : Pl.En → Bool) (w0 w : World) (hB : Below B w0 w) (hBw : B ≤ w.heap.size)
    (hown : w.ownsRow B 24 4 v n (flt enL l))
    (hf : ∀ x, x ∈ l → ∀ W, Below B w0 W → Calls Try.prog F (#[(.agg (enA x))] ++ cb) W fun e W' => e = .returned (.bool (p x)) ∧ Below W.heap.size W W') :
    Calls Try.prog 99 #[v, .func (.func F) #[] cb] w fun e w' => ∃ v', e = .returned v' ∧ w'.ownsRow B 24 4 v' (l.filter fun x => !p x).length (flt enL (l.filter fun x => !p x)) ∧ Below B w0 w' := by
  have hh := hown
  rcases hown with ⟨h0, ⟨rfl, h1⟩ | ⟨g, cap, cur, rfl, _⟩⟩
  · subst h1
    have hl : l = [] := List.eq_nil_of_length_eq_zero hn
    subst hl
    have HIX := Lib.hid (idxf_e F cb none [] 0 0 rfl (by omega) p w (Rows.nil _ _) (fun x hx => by cases hx) eg)
    have HB := Lib.hid hB
    have HBW := Lib.hid hBw
    clear hh h0 hf hB hn hm hBw
    go_enter Try.func99, Try.ntmps99
    go_wp2_with fail
    refine HIX.out.mono ?_
    rintro e w1 ⟨r, rfl, hr, hb1⟩
    have HB1 := Lib.hid (HB.out.trans (hb1.mono HBW.out))
    clear hb1
    rcases hr with ⟨rfl, _⟩ | ⟨k0, hk0, _⟩
    · go_wp2
      go_ret
      exact ⟨_, rfl, World.ownsRow_nil _ _ _ _, HB1.out⟩
    · simp at hk0
  · refine (delc_e F cb eg B g 0 rfl l cap n hn hm p w0 w hB hh hf).mono ?_
    rintro e w' ⟨i, rfl, hi, hO, hb⟩
    exact ⟨_, rfl, by rw [hi]; exact hO, hb⟩

set_option maxRecDepth 100000 in
set_option maxHeartbeats 4000000 in
theorem idxf_d (F : Nat) (cb : Array Value) (A : Option Addr) (l : List Pl.Df) (c m : Nat) (hm : l.length = m) (hm6 : m ≤ 1000) (p : Pl.Df → Bool) (w0 : World) (hI : Rows dfL 9 w0 A l)
    (hf : ∀ x, x ∈ l → ∀ W, Below w0.heap.size w0 W → Calls Try.prog F (#[(.agg (dfA x))] ++ cb) W fun e W' => e = .returned (.bool (p x)) ∧ Below W.heap.size W W')
    (eg : ∀ args w, (callFunc F args).run Try.prog w = .ok (.enter F args) w) :
    Calls Try.prog 121 #[.slice A m c, .func (.func F) #[] cb] w0 fun e w' => ∃ r : Int, e = .returned (.int .i64 r) ∧ Hit p l r ∧ Below w0.heap.size w0 w' := by
  have HF := Lib.hid hf
  have HI := Lib.hid hI
  have HM := Lib.hid hm
  clear hf hI hm
  go_enter Try.func121, Try.ntmps121
  go_wp2
  go_loopw [5, 8] (fun _ i wr => ∃ k : Nat, k ≤ m ∧ i = .int .i64 k ∧ Hid (∀ (i : Nat) (hi : i < l.length), i < k → p l[i] = false) ∧ Below w0.heap.size w0 wr) (fun _ i _ => m - (intOf i).toNat)
  case atStart => exact ⟨0, Nat.zero_le _, rfl, Lib.hid (fun i _ hi => absurd hi (Nat.not_lt_zero _)), Below.refl _ _⟩
  case round =>
    obtain ⟨k, hk, rfl, hall, hW⟩ := hrel
    obtain ⟨wo, rfl⟩ : ∃ wo, wo = wr := ⟨_, rfl⟩
    by_cases hlt : k < m
    · have hltI : (k : Int) < (m : Int) := by omega
      have hkx : k < l.length := by rw [HM.out]; exact hlt
      obtain ⟨bx, ox, rfl, hbx, hcx⟩ := HI.out.open (by omega)
      have hr := row_at hbx hcx hW hkx
      have hcl := HF.out l[k] (List.getElem_mem hkx) wo hW
      have HY : Hid (∀ (i : Nat) (hi : i < l.length), i = k → p l[i] = p l[k]) := Lib.hid (fun i hi e => by subst e; rfl)
      have HH : Hid (p l[k] = true → Hit p l (k : Int)) := Lib.hid (fun h => .inr ⟨k, hkx, rfl, h, hall.out⟩)
      clear hcx
      generalize l[k] = x at *
      obtain ⟨y, hy⟩ : ∃ y, p x = y := ⟨_, rfl⟩
      rw [hy] at hcl HY HH
      have HC := Lib.hid hcl
      clear hcl hy
      cases y with
      | true =>
        have HT := Lib.hid (HH.out rfl)
        go_wp2_with (have h9 := hr; refine ldm_df hr rfl _ rfl rfl ?_; clear h9)
        refine HC.out.mono ?_
        rintro e w' ⟨rfl, hb1⟩
        have hB2 := hW.trans (hb1.mono hW.size)
        go_wp2
        go_ret
        exact ⟨_, rfl, HT.out, hB2⟩
      | false =>
        go_wp2_with (have h9 := hr; refine ldm_df hr rfl _ rfl rfl ?_; clear h9)
        refine HC.out.mono ?_
        rintro e w' ⟨rfl, hb1⟩
        have hB2 := hW.trans (hb1.mono hW.size)
        go_wp2
        go_roundw
        case rel => exact ⟨k + 1, by omega, by go_num, Lib.hid (fun i hi hik => by
          rcases Nat.lt_succ_iff_lt_or_eq.1 hik with h' | h'
          · exact hall.out i hi h'
          · exact HY.out i hi h'), hB2⟩
        case measure => simp [intOf]; omega
    · obtain rfl : k = m := by omega
      have HE : Hid (Hit p l (-1)) := Lib.hid (.inl ⟨rfl, fun x hx => by
        obtain ⟨i, hi, rfl⟩ := List.getElem_of_mem hx
        exact hall.out i hi (by rw [← HM.out]; exact hi)⟩)
      go_wp2
      go_ret
      exact ⟨_, rfl, HE.out, hW⟩
set_option maxRecDepth 100000 in
set_option maxHeartbeats 8000000 in
theorem delc_d (F : Nat) (cb : Array Value) (eg : ∀ args w, (callFunc F args).run Try.prog w = .ok (.enter F args) w) (B g o : Nat) (ho : o = 0) (l : List Pl.Df) (c n : Nat) (hn : l.length = n) (hm : n ≤ 1000) (p : Pl.Df → Bool) (w0 w : World) (hB : Below B w0 w)
    (hown : w.ownsRow B 61 9 (.slice (some ⟨g, o, none⟩) n c) n (flt dfL l))
    (hf : ∀ x, x ∈ l → ∀ W, Below B w0 W → Calls Try.prog F (#[(.agg (dfA x))] ++ cb) W fun e W' => e = .returned (.bool (p x)) ∧ Below W.heap.size W W') :
    Calls Try.prog 101 #[.slice (some ⟨g, o, none⟩) n c, .func (.func F) #[] cb] w fun e w' => ∃ i, e = .returned (.slice (some ⟨g, o, none⟩) i c) ∧ (l.filter fun x => !p x).length = i ∧ w'.ownsRow B 61 9 (.slice (some ⟨g, o, none⟩) i c) i (flt dfL (l.filter fun x => !p x)) ∧ Below B w0 w' := by
  have hgB : B ≤ g ∧ g < w.heap.size := hown.lt g rfl
  have hBw : B ≤ w.heap.size := by omega
  have hnc : n ≤ c ∧ c ≤ maxLen := by
    rcases hown.2 with ⟨h, _⟩ | ⟨g', cap, cur, h, _, _, h1, h2, _⟩
    · cases h
    · cases h; exact ⟨h1, h2⟩
  have hc63 : c ≤ 9223372036854775807 := by have := hnc.2; unfold maxLen at this; omega
  have hI : Rows dfL 9 w (some ⟨g, o, none⟩) l := by
    subst ho
    obtain ⟨A, c', e, h, _, _⟩ := rows_of_owns encDf (show w.ownsRow B 61 9 (.slice (some ⟨g, 0, none⟩) n c) l.length (flt dfL l) from by rw [hn]; exact hown)
    cases e
    exact h
  have HIX := Lib.hid (idxf_d F cb (some ⟨g, o, none⟩) l c n hn hm p w hI (fun x hx W hW => hf x hx W (hB.trans (hW.mono hBw))) eg)
  have HO := Lib.hid hown
  have HF := Lib.hid hf
  have HB := Lib.hid hB
  have HN := Lib.hid hn
  have HZ := Lib.hid ho
  have HGB := Lib.hid hgB
  have HNC := Lib.hid hnc
  clear hown hf hB hn ho hgB hI hBw hnc
  go_enter Try.func101, Try.ntmps101
  go_wp2_with fail
  refine HIX.out.mono ?_
  rintro e w1 ⟨r, rfl, hr, hb1⟩
  have HB1 := Lib.hid (HB.out.trans (hb1.mono (by have := HGB.out; omega)))
  have HO1 := Lib.hid (own_keep HO.out hb1)
  clear hb1 HIX HO HB
  rcases hr with ⟨rfl, hall⟩ | ⟨k0, hk0, rfl, ht, hall⟩
  · have HE : Hid ((l.filter fun x => !p x) = l) := Lib.hid (List.filter_eq_self.2 fun x hx => by rw [hall x hx]; rfl)
    clear hall
    go_wp2
    go_ret
    exact ⟨n, rfl, by rw [HE.out, HN.out], by rw [HE.out]; exact HO1.out, HB1.out⟩
  · have HK0 := Lib.hid (Kp.start hk0 ht hall)
    have hne1 : ((k0 : Int) == -1) = false := beq_eq_false_iff_ne.2 (by omega)
    have hk0n : k0 < n := by rw [← HN.out]; exact hk0
    clear ht hall hk0
    go_wp2
    go_loopw [5, 6] (fun s5 s6 wr => ∃ (i j : Nat) (X : List Pl.Df), s5 = .int .i64 i ∧ s6 = .int .i64 j ∧ i < j ∧ j ≤ n ∧ Hid (Kp p l X i j) ∧ Hid (wr.ownsRow B 61 9 (.slice (some ⟨g, o, none⟩) n c) n (flt dfL X)) ∧ Below B w0 wr) (fun _ s6 _ => n - (intOf s6).toNat)
    case atStart => exact ⟨k0, k0 + 1, l, rfl, by go_num, by omega, by omega, HK0, HO1, HB1.out⟩
    case round =>
      clear HO1 HB1 HK0
      obtain ⟨i, j, X, rfl, rfl, hij, hjn, HK, HO, hW⟩ := hrel
      obtain ⟨wo, rfl⟩ : ∃ wo, wo = wr := ⟨_, rfl⟩
      by_cases hlt : j < n
      · have hltI : (j : Int) < (n : Int) := by omega
        have hjl : j < l.length := by rw [HN.out]; exact hlt
        have hXn : X.length = n := by rw [HK.out.len, HN.out]
        have hO0 : wo.ownsRow B 61 9 (.slice (some ⟨g, 0, none⟩) n c) n (flt dfL X) := by have := HO.out; rw [HZ.out] at this; exact this
        have hr := own_rangeAt encDf hO0 hXn hlt
        rw [HK.out.at hjl, ← Nat.zero_add (j * 9), show (0 : Nat) = o from HZ.out.symm] at hr
        have hcl := HF.out l[j] (List.getElem_mem hjl)
        have HSK := Lib.hid (HK.out.skip hjl)
        have HKE := Lib.hid (HK.out.keep hjl)
        have HXN := Lib.hid hXn
        clear hO0 hXn
        generalize l[j] = x at *
        obtain ⟨y, hy⟩ : ∃ y, p x = y := ⟨_, rfl⟩
        rw [hy] at hcl HSK HKE
        have HC := Lib.hid hcl
        have bz := Blk.new wo 61 zdf
        have HBz := Lib.hid ((Below.refl wo.heap.size wo).alloc (Nat.le_refl _) (.cells zdf 61))
        have HW := Lib.hid hW
        have hBo : B ≤ wo.heap.size := by have := (HO.out.lt g rfl); omega
        clear hcl hy hW hjl
        go_wp2_with (first
          | (have h9 := bz
             refine st_df (k := x) bz rfl rfl _ _ rfl rfl rfl ?_
             clear h9
             intro w3 bY hO3
             have hb3 : Below wo.heap.size wo w3 := HBz.out.trans (hO3.below (Nat.le_refl _))
             have hr7 := bY.range
             have HO3 := Lib.hid (own_keep HO.out hb3)
             have HW3 := Lib.hid (HW.out.trans (hb3.mono hBo))
             clear bz hO3 hb3 hr)
          | (have h9 := hr
             refine ldm_df hr rfl _ rfl rfl ?_
             clear h9)
          | (have h9 := hr7
             refine ldm_df hr7 rfl _ rfl rfl ?_
             clear h9))
        refine (HC.out w3 HW3.out).mono ?_
        rintro e w4 ⟨rfl, hb4⟩
        have hB3 : B ≤ w3.heap.size := by have := (HO3.out.lt g rfl); omega
        have HW4 := Lib.hid (HW3.out.trans (hb4.mono hB3))
        have HO4 := Lib.hid (own_keep HO3.out hb4)
        have bY4 := bY.below hb4 bY.lt
        clear hb4 hr7 bY HO HO3 HW HW3 HBz
        cases y with
        | true =>
          have HK2 := Lib.hid (HSK.out rfl)
          clear bY4
          go_wp2
          go_roundw
          case rel => exact ⟨i, j + 1, X, rfl, by go_num, by omega, by omega, HK2, HO4, HW4.out⟩
          case measure => simp [intOf]; omega
        | false =>
          have HK2 := Lib.hid (HKE.out rfl)
          have hr8 := bY4.range
          have hO0 : w4.ownsRow B 61 9 (.slice (some ⟨g, 0, none⟩) n c) n (flt dfL X) := by have := HO4.out; rw [HZ.out] at this; exact this
          have hth : w4.there g (o + i * 9) (dfA x).size := by
            rw [HZ.out, Nat.zero_add]
            exact own_there hO0 (by show i * 9 + 9 ≤ n * 9; omega)
          have HO5 : Hid ((w4.setCells g (o + i * 9) (dfA x).toList).ownsRow B 61 9 (.slice (some ⟨g, o, none⟩) n c) n (flt dfL (X.set i x))) := Lib.hid (by
            rw [HZ.out, Nat.zero_add]
            exact own_setK encDf hO0 HXN.out (by omega) x)
          have HW5 : Hid (Below B w0 (w4.setCells g (o + i * 9) (dfA x).toList)) := Lib.hid (HW4.out.trans ((Only.setCells g _ _ w4).below HGB.out.1))
          clear hO0 bY4 HO4 HW4
          go_wp2_with (first
            | (have h9 := hr8
               refine ldm_df hr8 rfl _ rfl rfl ?_
               clear h9)
            | (have h9 := hth
               refine wpList_store_mid rfl 61 _ _ rfl g (o + i * 9) (dfA x) rfl rfl hth infoDf (df_all x) ?_
               clear h9 hth hr8
               generalize w4.setCells g (o + i * 9) (dfA x).toList = w5 at *))
          go_roundw
          case rel => exact ⟨i + 1, j + 1, X.set i x, by go_num, by go_num, by omega, by omega, HK2, HO5, HW5.out⟩
          case measure => simp [intOf]; omega
      · obtain rfl : j = n := by omega
        have hcc := HNC.out.1
        have hsl := slice_k 46 61 9 Try.underlying46 (fun W => by kernel_rfl) g o j c i (by omega) (by omega)
        have hsh := slice_h' 46 61 9 Try.underlying46 (fun W => by kernel_rfl) g o j c i (by omega)
        have hXn : X.length = j := by rw [HK.out.len, HN.out]
        have hO0 : wo.ownsRow B 61 9 (.slice (some ⟨g, 0, none⟩) j c) j (flt dfL X) := by have := HO.out; rw [HZ.out] at this; exact this
        have hcl := fun ty => run_clear_ints (P := Try.prog) wo 46 61 ty zdf 9 Try.underlying46 zeroDf9 (by rfl) g (o + i * 9) (j - i) (c - i) (by omega) (by rw [HZ.out, Nat.zero_add]; exact own_there hO0 (by rw [Nat.sub_mul]; omega))
        have HD := Lib.hid (HK.out.done HN.out.symm)
        have HCN := Lib.hid (HK.out.cnt HN.out.symm)
        have HO5 : Hid ((wo.setCells g (o + i * 9) (List.replicate ((j - i) * 9) (.int .i64 0))).ownsRow B 61 9 (.slice (some ⟨g, o, none⟩) i c) i (flt dfL (X.take i))) := Lib.hid (by
          rw [HZ.out, Nat.zero_add]
          exact own_behind (own_take encDf hO0 hXn (by omega)) _)
        have HW5 : Hid (Below B w0 (wo.setCells g (o + i * 9) (List.replicate ((j - i) * 9) (.int .i64 0)))) := Lib.hid (hW.trans ((Only.setCells g _ _ wo).below HGB.out.1))
        clear hO0 hXn HO HK hcc
        go_wp2
        go_ret
        exact ⟨i, rfl, HCN.out, by rw [← HD.out]; exact HO5.out, HW5.out⟩
theorem delf_d (F : Nat) (cb : Array Value) (eg : ∀ args w, (callFunc F args).run Try.prog w = .ok (.enter F args) w) (B : Nat) (v : Value) (l : List Pl.Df) (n : Nat) (hn : l.length = n) (hm : n ≤ 1000) (p : Pl.Df → Bool) (w0 w : World) (hB : Below B w0 w) (hBw : B ≤ w.heap.size)
    (hown : w.ownsRow B 61 9 v n (flt dfL l))
    (hf : ∀ x, x ∈ l → ∀ W, Below B w0 W → Calls Try.prog F (#[(.agg (dfA x))] ++ cb) W fun e W' => e = .returned (.bool (p x)) ∧ Below W.heap.size W W') :
    Calls Try.prog 101 #[v, .func (.func F) #[] cb] w fun e w' => ∃ v', e = .returned v' ∧ w'.ownsRow B 61 9 v' (l.filter fun x => !p x).length (flt dfL (l.filter fun x => !p x)) ∧ Below B w0 w' := by
  have hh := hown
  rcases hown with ⟨h0, ⟨rfl, h1⟩ | ⟨g, cap, cur, rfl, _⟩⟩
  · subst h1
    have hl : l = [] := List.eq_nil_of_length_eq_zero hn
    subst hl
    have HIX := Lib.hid (idxf_d F cb none [] 0 0 rfl (by omega) p w (Rows.nil _ _) (fun x hx => by cases hx) eg)
    have HB := Lib.hid hB
    have HBW := Lib.hid hBw
    clear hh h0 hf hB hn hm hBw
    go_enter Try.func101, Try.ntmps101
    go_wp2_with fail
    refine HIX.out.mono ?_
    rintro e w1 ⟨r, rfl, hr, hb1⟩
    have HB1 := Lib.hid (HB.out.trans (hb1.mono HBW.out))
    clear hb1
    rcases hr with ⟨rfl, _⟩ | ⟨k0, hk0, _⟩
    · go_wp2
      go_ret
      exact ⟨_, rfl, World.ownsRow_nil _ _ _ _, HB1.out⟩
    · simp at hk0
  · refine (delc_d F cb eg B g 0 rfl l cap n hn hm p w0 w hB hh hf).mono ?_
    rintro e w' ⟨i, rfl, hi, hO, hb⟩
    exact ⟨_, rfl, by rw [hi]; exact hO, hb⟩

end Go.Proofs.Ytalfffkcmddakaa
