/- The document's four, Encode. -/
import Derived.Test.YtalfffkcmddakaaW1
import Derived.Test.YtalfffkcmddakaaQ6
namespace Go.Proofs.Ytalfffkcmddakaa
open Go.RowKit Go.Shelf

theorem rows_ownb {W : World} {base : Nat} {v : Value} {l : Pl.Bs} {n : Nat} (hn : l.length = n) (h : W.ownsRow base 5 1 v n (flt u8L l)) : ∃ A c, v = .slice A n c ∧ Rows u8L 1 W A l := by
  subst hn
  obtain ⟨A, c, e, h1, _, _⟩ := rows_of_owns encU8 h
  exact ⟨A, c, e, h1⟩
/-- append of bytes, wherever they lie, to a row that is owned; entries lie as they lay -/
theorem wpList_app8e {ops : Array Oper} {rest : List Oper} {o : Oper} {a : Act} {w : World} {Q : Exit → Act → World → Prop} (hgd : o.guard = none) (s x : Operand)
    (ho : o.op = .call { callee := .builtin .append, args := #[s, x], argTypes := #[53, 53] }) (B : Nat) (v : Value) (k : Nat) (xs : List Value) (hs : a.eval s = v) (hO : w.ownsRow B 5 1 v k xs) (hB : B ≤ w.heap.size)
    (A : Option Addr) (l : Pl.Bs) (n c : Nat) (hn : l.length = n) (hx : a.eval x = .slice A n c) (hR : Rows u8L 1 w A l) (hnil : A = none → c = 0) (hk : k + n ≤ 1000000)
    (h : ∀ v' w', w'.ownsRow B 5 1 v' (k + n) (xs ++ flt u8L l) → Below B w w' → (∀ g cs, Blk w g 24 cs → Blk w' g 24 cs) → wpList Try.prog ops Q rest (a.put o.dst v') w') : wpList Try.prog ops Q (o :: rest) a w := by
  obtain ⟨i0, hi, hz0, hz1, hz2⟩ := info_parts infoU8
  subst hn
  cases A with
  | none =>
    obtain rfl := hnil rfl
    have hl : l = [] := by
      rcases hR with h | ⟨b, off, h1, _⟩
      · exact h
      · cases h1
    subst hl
    refine wpList_append_own_none hgd s x _ ho B _ i0 1 Try.underlying53 hi v k xs hs hO hx (h _ _ ?_ (Below.refl _ _) fun _ _ h => h)
    simpa [flt] using hO
  | some ad =>
    have hcells : ∀ j u, (flt u8L l)[j]? = some u → w.cell? (ad.add j) = some u := by
      rcases hR with h | ⟨b, off, h1, h2, h3⟩
      · intro j u hj; rw [h] at hj; simp [flt] at hj
      · cases h1; exact rows_cells encU8 h3
    refine wpList_append_own _ hgd s x _ ho B 5 i0 _ 1 1 Try.underlying53 hi hz0 hz1 hz2 rfl (by decide) v k xs hs hO ad l.length c (flt u8L l) hx (flt_len encU8 l) hcells (flt_one' encU8 l) (by unfold maxLen; omega) (by omega) hB ?_
    intro v' w' ho' hg _
    exact h v' w' ho' ((Below.refl _ _).grown hg hB (fun s e => (hO.lt s e).1)) fun g cs hb => hb.grownBy hg (own_ne_blk hO hb (by decide))
set_option maxRecDepth 100000 in
set_option maxHeartbeats 1000000 in
theorem dfour_any (n : Nat) (w : World) :
    Calls Try.prog 76 #[.int .i64 (n : Nat)] w fun e w' => e = .returned (.slice (some ⟨w.heap.size, 0, none⟩) 4 4) ∧ Rows u8L 1 w' (some ⟨w.heap.size, 0, none⟩) (Pl.four n) ∧ Below w.heap.size w w' := by
  have t1 : Int.tdiv (n : Int) 16777216 = (n : Int) / 16777216 := Int.tdiv_eq_ediv_of_nonneg (by omega)
  have t2 : Int.tdiv (n : Int) 65536 = (n : Int) / 65536 := Int.tdiv_eq_ediv_of_nonneg (by omega)
  have t3 : Int.tdiv (n : Int) 256 = (n : Int) / 256 := Int.tdiv_eq_ediv_of_nonneg (by omega)
  have t4 : ∀ x : Int, wrap64 x % 256 = x % 256 := fun x => by unfold wrap64; omega
  have hB : Below w.heap.size w (w.alloc (.cells (flt u8L (Pl.four n)).toArray 5)) := (Below.refl w.heap.size w).alloc (Nat.le_refl _) _
  have hO : (w.alloc (.cells (flt u8L (Pl.four n)).toArray 5)).ownsRow w.heap.size 5 1 (.slice (some ⟨w.heap.size, 0, none⟩) 4 4) 4 (flt u8L (Pl.four n)) :=
    ⟨rfl, .inr ⟨_, 4, _, rfl, Nat.le_refl _, heap_new w _, Nat.le_refl _, by decide, rfl, by rfl⟩⟩
  obtain ⟨A, c, e, hR⟩ := rows_ownb (l := Pl.four n) rfl hO
  obtain ⟨rfl, rfl⟩ : A = some ⟨w.heap.size, 0, none⟩ ∧ c = 4 := by cases e; exact ⟨rfl, rfl⟩
  rw [four_cells] at hB hR
  have HB := Lib.hid hB
  have HR := Lib.hid hR
  clear hB hO hR e
  go_enter Try.func76, Try.ntmps76
  go_wp2
  go_ret
  rw [t4, t4, t4]
  exact ⟨rfl, HR.out, HB.out⟩
set_option maxRecDepth 100000 in
set_option maxHeartbeats 16000000 in
theorem dencode2_b (A : Option Addr) (l : List Pl.En) (c n : Nat) (hn : l.length = n) (hnc : n ≤ c) (hm : n ≤ maxLen) (w : World) (hI : Rows enL 4 w A l) :
    Calls Try.prog 39 #[.slice A n c] w fun e w' => ∃ v, e = .returned (.tuple #[v, .int .i64 (Pl.cdE l)]) ∧ w'.ownsRow w.heap.size 5 1 v (Pl.cdV l).length (flt u8L (Pl.cdV l)) ∧ Below w.heap.size w w' := by
  obtain ⟨y, hy⟩ : ∃ y, Pl.vB l = y := ⟨_, rfl⟩
  have HV := Lib.hid (dvalid_any A l c n hn hnc hm y hy w hI)
  cases y
  case false =>
    have H1 : Hid (Pl.cdE l = 90 ∧ Pl.cdV l = []) := Lib.hid (by unfold Pl.cdE Pl.cdV; rw [hy]; exact ⟨rfl, rfl⟩)
    rw [H1.out.1, H1.out.2]
    clear hy hI hn hnc
    go_enter Try.func39, Try.ntmps39
    go_wp2_with fail
    refine HV.out.mono ?_
    rintro e w1 ⟨rfl, hb⟩
    go_wp2
    go_ret2
    exact ⟨_, rfl, World.ownsRow_nil _ _ _ _, hb⟩
  case true =>
  have hv := Pl.vb_iff.1 hy
  have H1 := Lib.hid (Pl.cd_ok hv)
  have HL0 : Hid ((Pl.encL (Pl.srt l)).length = 13 * n) := Lib.hid (by rw [Pl.encL_len, Pl.srt_len, hn])
  have hl : n ≤ 200 := by rw [← hn]; exact hv.len
  rw [H1.out.1, H1.out.2, HL0.out]
  have H2 := Lib.hid (fun W (h : Below w.heap.size w W) => dsorted_any A l c n hn (by omega) W (hI.below h))
  obtain ⟨S, hS⟩ : ∃ S, Pl.srt l = S := ⟨_, rfl⟩
  have HSL : Hid (S.length = n) := Lib.hid (by rw [← hS, Pl.srt_len, hn])
  have HEV : Hid (∀ e, e ∈ S → Pl.vE e = true) := Lib.hid (fun e he => hv.each e (Pl.srt_mem.1 (by rw [hS]; exact he)))
  have HL := Lib.hid hl
  rw [hS] at H2 ⊢
  obtain ⟨i0, hi, hz0, hz1, hz2⟩ := info_parts infoU8
  clear hS hl hI hv hn hnc hy H1 HL0
  go_enter Try.func39, Try.ntmps39
  go_wp2_with fail
  refine HV.out.mono ?_
  rintro e w1 ⟨rfl, hb1⟩
  have HB1 := Lib.hid hb1
  clear hb1 HV
  go_wp2_with fail
  refine (H2.out w1 HB1.out).mono ?_
  rintro e w2 ⟨v2, rfl, hO2, hb2⟩
  rw [HSL.out] at hO2
  obtain ⟨A2, c2, rfl, hR2, _, _, _⟩ := rows_own2 HSL.out hO2
  have HB2 := Lib.hid (HB1.out.trans (hb2.mono HB1.out.size))
  have HR2 := Lib.hid hR2
  clear hO2 hb2 hR2 H2
  go_wp2
  go_loopw [4, 13] (fun v i wr => ∃ (k : Nat) (lv : Value), k ≤ n ∧ lv = v ∧ i = .int .i64 k ∧ Hid (wr.ownsRow w2.heap.size 5 1 lv (13 * k) (flt u8L (Pl.encL (S.take k)))) ∧ Hid (Below w2.heap.size w2 wr)) (fun _ i _ => n - (intOf i).toNat)
  case atStart => exact ⟨0, _, Nat.zero_le _, rfl, rfl, Lib.hid (World.ownsRow_nil _ _ _ _), Lib.hid (Below.refl _ _)⟩
  case round =>
    obtain ⟨k, lv, hk, rfl, rfl, HO, HW⟩ := hrel
    obtain ⟨wo, rfl⟩ : ∃ wo, wo = wr := ⟨_, rfl⟩
    by_cases hlt : k < n
    · have hltI : (k : Int) < (n : Int) := by omega
      have hkx : k < S.length := by rw [HSL.out]; exact hlt
      obtain ⟨bx, ox, rfl, hbx, hcx⟩ := HR2.out.open (by omega)
      have hr := row_at hbx hcx HW.out hkx
      have HST := Lib.hid (Pl.encL_take hkx)
      have hve := HEV.out _ (List.getElem_mem hkx)
      have hk13 : 13 * k ≤ 2600 := by have := HL.out; omega
      clear hcx
      generalize S[k] = x at *
      generalize Pl.encL (S.take k) = Y at *
      obtain ⟨ek, er, ed, ec, rfl, _⟩ := Pl.nat_en hve
      have kk : IntKind.u8.wrap (ek : Int) = (ek : Int) % 256 := by first | rfl | (unfold IntKind.wrap; simp)
      have bz := Blk.new wo 24 zen
      have HBz := Lib.hid ((Below.refl wo.heap.size wo).alloc (Nat.le_refl _) (.cells zen 24))
      clear hkx hve
      go_wp2_with (first
        | (have h9 := bz
           refine st_en (k := ⟨ek, er, ed, ec⟩) bz rfl rfl _ _ rfl rfl rfl ?_
           clear h9
           intro w3 bX hO3
           have hb3 : Below wo.heap.size wo w3 := HBz.out.trans (hO3.below (Nat.le_refl _))
           have HO3 := Lib.hid (own_keep HO.out hb3)
           have HW3 := Lib.hid (HW.out.trans (hb3.mono HW.out.size))
           have q0 := bX.cell 0
           clear bz hO3 hb3 hr)
        | (have h9 := hr
           refine ldm_en hr rfl _ rfl rfl ?_
           clear h9)
        | (at_builtin
           go_loud (refine wpList_append_own _ rfl _ _ 53 rfl w2.heap.size 5 i0 _ 1 1 Try.underlying53 hi hz0 hz1 hz2 rfl (by decide) _ _ _ rfl (HO3.out.alloc _) ⟨w3.heap.size, 0, none⟩ 1 1 (flt u8L [UInt8.ofNat ek]) rfl rfl ?c2 (flt_one' encU8 _) (by unfold maxLen; omega) (by omega) (HW3.out.alloc HW3.out.size _).size ?_)
           (case c2 => rw [one_cell _]; exact new_cells _ _ _)
           intro v5 w5 hO5 hg5 _
           have bX5 := (bX.alloc _).grownBy hg5 (own_ne_blk HO3.out bX (by decide))
           have q1 : w5.cell? ⟨wo.heap.size, 1, none⟩ = some (.int .i64 (er : Nat)) := bX5.cell 1))
      have HO5 := Lib.hid hO5
      have HW5 := Lib.hid ((HW3.out.alloc HW3.out.size _).grown hg5 (HW3.out.alloc HW3.out.size _).size (fun s h => (HO3.out.lt s h).1))
      clear hO5 hg5 q0 bX
      go_wp2_with fail
      refine (dfour_any er w5).mono ?_
      rintro e w5f ⟨rfl, hR5, hb5⟩
      have HO5f := Lib.hid (own_keep HO5.out hb5)
      have HW5f := Lib.hid (HW5.out.trans (hb5.mono HW5.out.size))
      have bX5f := bX5.below hb5 bX5.lt
      have HR5 := Lib.hid hR5
      clear hR5 hb5 q1 bX5 HO5 HW5
      go_wp2_with (at_builtin
                   go_loud (refine wpList_app8e rfl _ _ rfl w2.heap.size _ (13 * k + 1) _ rfl HO5f.out HW5f.out.size (some ⟨w5.heap.size, 0, none⟩) (Pl.four er) 4 4 rfl rfl HR5.out (fun h => by cases h) (by omega) ?_)
                   (intro v6 w6 hO6 hb6 hk6
                    have bX6 := hk6 _ _ bX5f
                    have q2 : w6.cell? ⟨wo.heap.size, 2, none⟩ = some (.int .i64 (ed : Nat)) := bX6.cell 2))
      have HO6 := Lib.hid hO6
      have HW6 := Lib.hid (HW5f.out.trans hb6)
      clear hO6 hb6 hk6 HO5f HW5f bX5f HR5
      go_wp2_with fail
      refine (dfour_any ed w6).mono ?_
      rintro e w6f ⟨rfl, hR6, hb6⟩
      have HO6f := Lib.hid (own_keep HO6.out hb6)
      have HW6f := Lib.hid (HW6.out.trans (hb6.mono HW6.out.size))
      have bX6f := bX6.below hb6 bX6.lt
      have HR6 := Lib.hid hR6
      clear hR6 hb6 q2 bX6 HO6 HW6
      go_wp2_with (at_builtin
                   go_loud (refine wpList_app8e rfl _ _ rfl w2.heap.size _ (13 * k + 1 + 4) _ rfl HO6f.out HW6f.out.size (some ⟨w6.heap.size, 0, none⟩) (Pl.four ed) 4 4 rfl rfl HR6.out (fun h => by cases h) (by omega) ?_)
                   (intro v7 w7 hO7 hb7 hk7
                    have bX7 := hk7 _ _ bX6f
                    have q3 : w7.cell? ⟨wo.heap.size, 3, none⟩ = some (.int .i64 (ec : Nat)) := bX7.cell 3))
      have HO7 := Lib.hid hO7
      have HW7 := Lib.hid (HW6f.out.trans hb7)
      clear hO7 hb7 hk7 HO6f HW6f bX6f HR6
      go_wp2_with fail
      refine (dfour_any ec w7).mono ?_
      rintro e w7f ⟨rfl, hR7, hb7⟩
      have HO7f := Lib.hid (own_keep HO7.out hb7)
      have HW7f := Lib.hid (HW7.out.trans (hb7.mono HW7.out.size))
      have bX7f := bX7.below hb7 bX7.lt
      have HR7 := Lib.hid hR7
      clear hR7 hb7 q3 bX7 HO7 HW7
      go_wp2_with (at_builtin
                   go_loud (refine wpList_app8e rfl _ _ rfl w2.heap.size _ (13 * k + 1 + 4 + 4) _ rfl HO7f.out HW7f.out.size (some ⟨w7.heap.size, 0, none⟩) (Pl.four ec) 4 4 rfl rfl HR7.out (fun h => by cases h) (by omega) ?_)
                   (intro vc wc hOc hbc hkc
                    have bXc := hkc _ _ bX7f))
      have HOc := Lib.hid hOc
      have HWc := Lib.hid (HW7f.out.trans hbc)
      clear hOc hbc hkc HO7f HW7f bX7f HR7
      go_wp2
      go_roundw
      case rel =>
        refine ⟨k + 1, _, by omega, rfl, by go_num, Lib.hid ?_, HWc⟩
        have h := HOc.out
        rw [HST.out, flt_append, enc1_cells, ← List.append_assoc, ← List.append_assoc, ← List.append_assoc, show 13 * (k + 1) = 13 * k + 1 + 4 + 4 + 4 by omega]
        exact h
      case measure => simp [intOf]; omega
    · obtain rfl : k = n := by omega
      have hO2 := HO.out
      rw [List.take_of_length_le (by rw [HSL.out]; exact Nat.le_refl _)] at hO2
      have HB3 := Lib.hid (HB2.out.trans (HW.out.mono HB2.out.size))
      have HO2 := Lib.hid (hO2.mono HB2.out.size)
      clear hO2 HO HW HB2
      go_wp2
      go_ret2
      exact ⟨_, rfl, HO2.out, HB3.out⟩
end Go.Proofs.Ytalfffkcmddakaa
