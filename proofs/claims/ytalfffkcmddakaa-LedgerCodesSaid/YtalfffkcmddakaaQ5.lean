/- The document's put and sorted. -/
import Derived.Test.YtalfffkcmddakaaQ4
import Derived.Test.YtalfffkcmddakaaQ3
import Derived.Test.YtalfffkcmddakaaE6
import Derived.Test.YtalfffkcmddakaaE7
import Derived.Laws.AppendOwnNone
namespace Go.Proofs.Ytalfffkcmddakaa
open Go.RowKit Go.Shelf

theorem wpList_appE {ops : Array Oper} {rest : List Oper} {o : Oper} {a : Act} {w : World} {Q : Exit → Act → World → Prop} (hgd : o.guard = none) (s x : Operand)
    (ho : o.op = .call { callee := .builtin .append, args := #[s, x], argTypes := #[22, 22] }) (B : Nat) (v : Value) (k : Nat) (xs : List Value) (hs : a.eval s = v) (hO : w.ownsRow B 24 4 v k xs) (hB : B ≤ w.heap.size)
    (A : Option Addr) (l : List Pl.En) (n c : Nat) (hn : l.length = n) (hx : a.eval x = .slice A n c) (hR : Rows enL 4 w A l) (hnil : A = none → c = 0) (hk : k + n ≤ 1000000)
    (h : ∀ v' w', w'.ownsRow B 24 4 v' (k + n) (xs ++ flt enL l) → Below B w w' → wpList Try.prog ops Q rest (a.put o.dst v') w') : wpList Try.prog ops Q (o :: rest) a w := by
  obtain ⟨i0, hi, hz0, hz1, hz2⟩ := info_parts infoEn3
  subst hn
  cases A with
  | none =>
    obtain rfl := hnil rfl
    have hl : l = [] := by
      rcases hR with h | ⟨b, off, h1, _⟩
      · exact h
      · cases h1
    subst hl
    refine wpList_append_own_none hgd s x _ ho B _ i0 4 Try.underlying22 hi v k xs hs hO hx (h _ _ ?_ (Below.refl _ _))
    simpa [flt] using hO
  | some ad =>
    have hcells : ∀ j u, (flt enL l)[j]? = some u → w.cell? (ad.add j) = some u := by
      rcases hR with h | ⟨b, off, h1, h2, h3⟩
      · intro j u hj; rw [h] at hj; simp [flt] at hj
      · cases h1; exact rows_cells encEn h3
    refine wpList_append_own _ hgd s x _ ho B 24 i0 _ 4 32 Try.underlying22 hi hz0 hz1 hz2 rfl (by decide) v k xs hs hO ad l.length c (flt enL l) hx (flt_len encEn l) hcells (flt_one' encEn l) (by unfold maxLen; omega) (by omega) hB ?_
    intro v' w' ho' hg _
    exact h v' w' ho' ((Below.refl _ _).grown hg hB (fun s e => (hO.lt s e).1))
theorem rows_drop4 {W : World} {b off : Nat} {l : List Pl.En} {D : Nat} (h : Rows enL 4 W (some ⟨b, off, none⟩) l) : Rows enL 4 W (some ⟨b, off + D * 4, none⟩) (l.drop D) := by
  rcases h with h | ⟨b', off', h1, h2, h3⟩
  · rw [h]; exact .inl List.drop_nil
  · cases h1
    refine .inr ⟨b, off + D * 4, rfl, h2, fun i hi => ?_⟩
    rw [List.length_drop] at hi
    have := h3 (D + i) (by omega)
    rw [List.getElem_drop, show off + D * 4 + i * 4 = off + (D + i) * 4 from by omega]
    exact this
theorem slice_lE (A : Option Addr) (l : List Pl.En) (n c k : Nat) (hn : l.length = n) (hnc : n ≤ c) (hk : k ≤ n) :
    ∃ A', (∀ W : World, (Instr.slice 22 (.slice A n c) (some (.int .i64 (k : Int))) none none).run Try.prog W = .ok (.slice A' (n - k) (c - k)) W) ∧ (∀ W, Rows enL 4 W A l → Rows enL 4 W A' (l.drop k)) ∧ (A' = none → (A = none → c = 0) → c - k = 0) := by
  refine ⟨if c = k then A else A.map (·.add (k * 4)), fun W => ?_, fun W hI => ?_, fun h1 h2 => ?_⟩
  · have ht : Try.prog.underlying 22 = some (.slice (Try.prog.elem 22)) := by simp [Program.elem, Try.underlying22]
    rw [run_slice_l W 22 _ _ _ ht .i64 _ (by omega) (by omega)]
    have he : Try.prog.elem 22 = 24 := by simp [Program.elem, Try.underlying22]
    rw [he]
    have hz : (Go.sizeOf 24).run Try.prog W = .ok 4 W := by kernel_rfl
    rw [hz]
    simp [Result.andThen, sliced]
  · by_cases h : c = k
    · rw [if_pos h, List.drop_eq_nil_of_le (by omega)]; exact Rows.nil _ _
    · rw [if_neg h]
      cases A with
      | none =>
        rcases hI with h' | ⟨b, off, h1, _⟩
        · rw [h', List.drop_nil]; exact Rows.nil _ _
        · cases h1
      | some ad =>
        rcases hI with h' | ⟨b, off, h1, h2, h3⟩
        · rw [h', List.drop_nil]; exact Rows.nil _ _
        · cases h1
          have e : ((⟨b, off, none⟩ : Addr).add (k * 4)) = ⟨b, off + k * 4, none⟩ := by cases k <;> simp [Addr.add]
          simp only [Option.map_some, e]
          exact rows_drop4 (.inr ⟨b, off, rfl, h2, h3⟩)
  · by_cases h : c = k
    · omega
    · rw [if_neg h] at h1
      cases A with
      | none => have := h2 rfl; omega
      | some a => cases h1
theorem rows_own2 {W : World} {base : Nat} {v : Value} {xs : List Pl.En} {n : Nat} (hn : xs.length = n) (h : W.ownsRow base 24 4 v n (flt enL xs)) :
    ∃ A c, v = .slice A n c ∧ Rows enL 4 W A xs ∧ n ≤ c ∧ c ≤ maxLen ∧ (A = none → c = 0) := by
  subst hn
  have hh := h
  rcases h with ⟨_, ⟨rfl, h0⟩ | ⟨g, cap, cur, rfl, hg, hcell, hle, hcm, _⟩⟩
  · exact ⟨none, 0, by rw [h0], .inl (List.length_eq_zero_iff.1 h0), by omega, by unfold maxLen; omega, fun _ => rfl⟩
  · obtain ⟨A, c, e, h1, h2, h3⟩ := rows_of_owns encEn hh
    cases e
    exact ⟨_, _, rfl, h1, h2, h3, fun h => by cases h⟩
theorem keepB {B g : Nat} {t : TypeId} {cs : Array Value} {w w' : World} (h : Below B w w') (b : Blk w g t cs) (hg : g < B) : Blk w' g t cs := (h.block g hg).trans b
set_option maxRecDepth 100000 in
set_option maxHeartbeats 16000000 in
theorem dput_any (A : Option Addr) (l : List Pl.En) (c n : Nat) (hn : l.length = n) (hnc : n ≤ c) (hcm : c ≤ maxLen) (hnil : A = none → c = 0) (hm : n ≤ 1000) (e : Pl.En) (w : World) (hI : Rows enL 4 w A l) :
    Calls Try.prog 55 #[.slice A n c, .agg (enA e)] w fun r w' => ∃ v, r = .returned v ∧ OwnE w (Pl.put l e) v w' := by
  have hB := (Below.refl w.heap.size w).alloc (Nat.le_refl _) (.cells (enA e) 24)
  have bE := Blk.new w 24 (enA e)
  obtain ⟨i0, hi, hz0, hz1, hz2⟩ := info_parts infoEn3
  have HI := Lib.hid hI
  have HN := Lib.hid hn
  have HC := Lib.hid hnc
  have HNIL := Lib.hid hnil
  have hc63 : c ≤ 9223372036854775807 := by unfold maxLen at hcm; omega
  clear hI hn hnc hcm hnil
  go_enter Try.func55, Try.ntmps55
  go_wp2
  go_loopw [5] (fun i wr => ∃ k : Nat, k ≤ n ∧ i = .int .i64 k ∧ Hid (∀ (j : Nat) (hj : j < l.length), j < k → Pl.lt l[j] e = true) ∧ Blk wr w.heap.size 24 (enA e) ∧ Below w.heap.size w wr) (fun i _ => n - (intOf i).toNat)
  case atStart => exact ⟨0, Nat.zero_le _, rfl, Lib.hid (fun j _ h => absurd h (by omega)), bE, hB⟩
  case round =>
    clear bE hB
    obtain ⟨k, hk, rfl, HS, bE, hW⟩ := hrel
    obtain ⟨wo, rfl⟩ : ∃ wo, wo = wr := ⟨_, rfl⟩
    have HW := Lib.hid hW
    have b0 := fun s : Ext wo => s.cell (bE.cell 0)
    have b1 := fun s : Ext wo => s.cell (bE.cell 1)
    have b2 := fun s : Ext wo => s.cell (bE.cell 2)
    have b3 := fun s : Ext wo => s.cell (bE.cell 3)
    by_cases hlt : k < n
    · have hltI : (k : Int) < (n : Int) := by omega
      have hkx : k < l.length := by rw [HN.out]; exact hlt
      obtain ⟨bx, ox, hA, hbx, hcx⟩ := HI.out.open (by omega)
      have rx := row_at hbx hcx hW hkx
      have hbx2 : bx < wo.heap.size := Nat.lt_of_lt_of_le hbx hW.size
      have HPA := Lib.hid (fun (h : Pl.lt l[k] e = false) => Pl.put_at l e k (by omega) HS.out (fun _ => h))
      have HNS : Hid (Pl.lt l[k] e = true → ∀ (j : Nat) (hj : j < l.length), j < k + 1 → Pl.lt l[j] e = true) := Lib.hid (fun h j hj hjk => by
        by_cases e1 : j = k
        · subst e1; exact h
        · exact HS.out j hj (by omega))
      clear hcx
      generalize l[k] = y at *
      have a0 := fun s : Ext wo => (en_cells (ext_range s rx hbx2)).1
      have a1 := fun s : Ext wo => (en_cells (ext_range s rx hbx2)).2.1
      have a2 := fun s : Ext wo => (en_cells (ext_range s rx hbx2)).2.2.1
      have a3 := fun s : Ext wo => (en_cells (ext_range s rx hbx2)).2.2.2
      subst hA
      clear rx hW
      obtain ⟨v, hv⟩ : ∃ v, Pl.lt y e = v := ⟨_, rfl⟩
      have HA := Lib.hid (fun s : Ext wo => ahead_b y e v hv s.w)
      have HVV := Lib.hid hv
      clear hv
      generalize hAA : (some (⟨bx, ox, none⟩ : Addr)) = A at *
      cases v
      case true =>
        subst hAA
        have HST := Lib.hid (HNS.out HVV.out)
        go_wp2
        refine wp_region_ext (by kernel_rfl) (by kernel_rfl) ?_
        repeat (go_big_quiet_step (first | (go_at_call 84; refine calls_ext (HA.out _))))
        refine wpQuiet_nil ?_
        rintro _ ⟨s, rfl⟩
        have bE2 := bE.below s.h bE.lt
        have HW2 := Lib.hid (HW.out.trans (s.h.mono HW.out.size))
        clear a0 a1 a2 a3 b0 b1 b2 b3 HA
        go_wp2
        go_roundw
        case rel => exact ⟨k + 1, by omega, by go_num, HST, bE2, HW2.out⟩
        case measure => simp [intOf]; omega
      case false =>
        subst hAA
        have HP : Hid (Pl.put l e = l.take k ++ e :: l.drop k) := Lib.hid (HPA.out HVV.out)
        go_wp2
        refine wp_region_ext (by kernel_rfl) (by kernel_rfl) ?_
        repeat (go_big_quiet_step (first | (go_at_call 84; refine calls_ext (HA.out _))))
        refine wpQuiet_nil ?_
        rintro _ ⟨s, rfl⟩
        clear a0 a1 a2 a3 b0 b1 b2 b3 HA
        generalize hAA : (some (⟨bx, ox, none⟩ : Addr)) = A at *
        clear hAA
        have bE2 := bE.below s.h bE.lt
        have HW2 := Lib.hid (HW.out.trans (s.h.mono HW.out.size))
        generalize s.w = W at *
        clear s
        have HB1 : Hid (w.heap.size + 1 ≤ W.heap.size) := Lib.hid bE2.lt
        have HOW : Hid ((W.alloc (.cells #[] 24)).ownsRow (w.heap.size + 1) 24 4 (.slice (some ⟨W.heap.size, 0, none⟩) 0 0) 0 []) := Lib.hid (World.ownsRow_lit (base := w.heap.size + 1) (e := 24) (size := 4) W #[] 0 HB1.out (by unfold maxLen; omega) rfl)
        have HWE := Lib.hid (HW2.out.alloc HW2.out.size (.cells #[] 24))
        have HWB : Hid (w.heap.size + 1 ≤ (W.alloc (.cells #[] 24)).heap.size) := Lib.hid (by have := HB1.out; simp; omega)
        have bE3 := bE2.alloc (.cells #[] 24)
        have hsl := fun W => slice_hE A n c k (by have := HC.out; omega) W
        obtain ⟨A', hsl2, hR2, hN2⟩ := slice_lE A l n c k HN.out HC.out hk
        have HSL := Lib.hid hR2
        have HNL := Lib.hid (fun h => hN2 h HNIL.out)
        have HTL : Hid ((l.take k).length = k) := Lib.hid (by rw [List.length_take]; have := HN.out; omega)
        have HDL : Hid ((l.drop k).length = n - k) := Lib.hid (by rw [List.length_drop]; have := HN.out; omega)
        clear bE2 hR2 hN2 HW bE
        go_wp2_with (first
          | (at_builtin
             refine wpList_appE rfl _ _ rfl (w.heap.size + 1) _ 0 [] rfl HOW.out HWB.out A (l.take k) k c HTL.out rfl (take_rows k (HI.out.below HWE.out)) HNIL.out (by omega) ?_
             intro v1 w1 hO1 hb1
             have HO1 := Lib.hid hO1
             have HW1 := Lib.hid (HWE.out.trans (hb1.mono (Nat.le_succ _)))
             have HWB1 : Hid (w.heap.size + 1 ≤ w1.heap.size) := Lib.hid (Nat.le_trans HWB.out hb1.size)
             have bE4 := keepB hb1 bE3 (Nat.lt_succ_self _)
             have hrE := bE4.range
             clear hO1 hb1 bE3)
          | refine ldm_en hrE rfl _ rfl rfl ?_
          | (at_builtin
             refine wpList_append_own _ rfl _ _ 22 rfl (w.heap.size + 1) 24 i0 _ 4 32 Try.underlying22 hi hz0 hz1 hz2 rfl (by decide) _ _ _ rfl (HO1.out.alloc _) ⟨w1.heap.size, 0, none⟩ 1 1 (enL e) rfl rfl (new_cells' _ _ _ rfl) (enL_one e) (by unfold maxLen; omega) (by omega) (by have := HWB1.out; simp; omega) ?_
             intro v2 w2 hO2 hgrow2 _
             have HW3 := Lib.hid ((HW1.out.alloc HW1.out.size (.cells (enL e).toArray 24)).grown hgrow2 (HW1.out.alloc HW1.out.size _).size (fun s h => Nat.le_of_succ_le (HO1.out.lt s h).1))
             have HWB3 : Hid (w.heap.size + 1 ≤ w2.heap.size) := Lib.hid (by have h1 := hgrow2.size; have h2 := HWB1.out; simp at h1; omega)
             have HO2 := Lib.hid hO2
             clear hO2 hgrow2 hrE bE4)
          | (at_builtin
             refine wpList_appE rfl _ _ rfl (w.heap.size + 1) _ (0 + k + 1) _ rfl HO2.out HWB3.out A' (l.drop k) (n - k) (c - k) HDL.out rfl (HSL.out _ (HI.out.below HW3.out)) HNL.out (by omega) ?_
             intro v3 w4 hO3 hb3
             have HO3 := Lib.hid hO3
             have HW4 := Lib.hid (HW3.out.trans (hb3.mono (Nat.le_succ _)))
             clear hO3 hb3))
        go_ret
        refine ⟨_, rfl, ?_, HW4.out⟩
        rw [HP.out]
        have h3 := HO3.out.mono (Nat.le_succ _)
        rw [List.nil_append, show 0 + k + 1 + (n - k) = (l.take k ++ e :: l.drop k).length by rw [List.length_append, List.length_cons, HTL.out, HDL.out]; omega, List.append_assoc] at h3
        rw [flt_append, flt_cons]
        exact h3
    · obtain rfl : k = n := by omega
      have HP : Hid (Pl.put l e = l.take k ++ e :: l.drop k) := Lib.hid (Pl.put_at l e k (by rw [HN.out]; exact Nat.le_refl _) HS.out (fun h => absurd h (by rw [HN.out]; omega)))
      clear hW
      go_wp2
      refine wp_region_ext (by kernel_rfl) (by kernel_rfl) ?_
      repeat (go_big_quiet_step (fail))
      refine wpQuiet_nil ?_
      rintro _ ⟨s, rfl⟩
      clear b0 b1 b2 b3
      have bE2 := bE.below s.h bE.lt
      have HW2 := Lib.hid (HW.out.trans (s.h.mono HW.out.size))
      generalize s.w = W at *
      clear s
      have HB1 : Hid (w.heap.size + 1 ≤ W.heap.size) := Lib.hid bE2.lt
      have HOW : Hid ((W.alloc (.cells #[] 24)).ownsRow (w.heap.size + 1) 24 4 (.slice (some ⟨W.heap.size, 0, none⟩) 0 0) 0 []) := Lib.hid (World.ownsRow_lit (base := w.heap.size + 1) (e := 24) (size := 4) W #[] 0 HB1.out (by unfold maxLen; omega) rfl)
      have HWE := Lib.hid (HW2.out.alloc HW2.out.size (.cells #[] 24))
      have HWB : Hid (w.heap.size + 1 ≤ (W.alloc (.cells #[] 24)).heap.size) := Lib.hid (by have := HB1.out; simp; omega)
      have bE3 := bE2.alloc (.cells #[] 24)
      have hsl := fun W => slice_hE A k c k (by have := HC.out; omega) W
      obtain ⟨A', hsl2, hR2, hN2⟩ := slice_lE A l k c k HN.out HC.out hk
      simp only [Nat.sub_self] at hsl2
      have HSL := Lib.hid hR2
      have HNL := Lib.hid (fun h => hN2 h HNIL.out)
      have HTL : Hid ((l.take k).length = k) := Lib.hid (by rw [List.length_take]; have := HN.out; omega)
      have HDL : Hid ((l.drop k).length = 0) := Lib.hid (by rw [List.length_drop]; have := HN.out; omega)
      clear bE2 hR2 hN2 HW bE
      go_wp2_with (first
        | (at_builtin
           refine wpList_appE rfl _ _ rfl (w.heap.size + 1) _ 0 [] rfl HOW.out HWB.out A (l.take k) k c HTL.out rfl (take_rows k (HI.out.below HWE.out)) HNIL.out (by omega) ?_
           intro v1 w1 hO1 hb1
           have HO1 := Lib.hid hO1
           have HW1 := Lib.hid (HWE.out.trans (hb1.mono (Nat.le_succ _)))
           have HWB1 : Hid (w.heap.size + 1 ≤ w1.heap.size) := Lib.hid (Nat.le_trans HWB.out hb1.size)
           have bE4 := keepB hb1 bE3 (Nat.lt_succ_self _)
           have hrE := bE4.range
           clear hO1 hb1 bE3)
        | refine ldm_en hrE rfl _ rfl rfl ?_
        | (at_builtin
           refine wpList_append_own _ rfl _ _ 22 rfl (w.heap.size + 1) 24 i0 _ 4 32 Try.underlying22 hi hz0 hz1 hz2 rfl (by decide) _ _ _ rfl (HO1.out.alloc _) ⟨w1.heap.size, 0, none⟩ 1 1 (enL e) rfl rfl (new_cells' _ _ _ rfl) (enL_one e) (by unfold maxLen; omega) (by omega) (by have := HWB1.out; simp; omega) ?_
           intro v2 w2 hO2 hgrow2 _
           have HW3 := Lib.hid ((HW1.out.alloc HW1.out.size (.cells (enL e).toArray 24)).grown hgrow2 (HW1.out.alloc HW1.out.size _).size (fun s h => Nat.le_of_succ_le (HO1.out.lt s h).1))
           have HWB3 : Hid (w.heap.size + 1 ≤ w2.heap.size) := Lib.hid (by have h1 := hgrow2.size; have h2 := HWB1.out; simp at h1; omega)
           have HO2 := Lib.hid hO2
           clear hO2 hgrow2 hrE bE4)
        | (at_builtin
           refine wpList_appE rfl _ _ rfl (w.heap.size + 1) _ (0 + k + 1) _ rfl HO2.out HWB3.out A' (l.drop k) 0 (c - k) HDL.out rfl (HSL.out _ (HI.out.below HW3.out)) HNL.out (by omega) ?_
           intro v3 w4 hO3 hb3
           have HO3 := Lib.hid hO3
           have HW4 := Lib.hid (HW3.out.trans (hb3.mono (Nat.le_succ _)))
           clear hO3 hb3))
      go_ret
      refine ⟨_, rfl, ?_, HW4.out⟩
      rw [HP.out]
      have h3 := HO3.out.mono (Nat.le_succ _)
      rw [List.nil_append, show 0 + k + 1 + 0 = (l.take k ++ e :: l.drop k).length by rw [List.length_append, List.length_cons, HTL.out, HDL.out]; omega, List.append_assoc] at h3
      rw [flt_append, flt_cons]
      exact h3
end Go.Proofs.Ytalfffkcmddakaa
