/- Merged: Y1 Y2 Y3 Y4. -/
import Derived.Test.YtbdnocijhbkclaaGreatDoorPA
import Derived.Test.YtbdnocijhbkclaaGreatDoorH0
import Derived.Laws.BytesArg
import Derived.IntWalk
import Derived.Test.YtbdnocijhbkclaaGreatDoorW6
import Derived.Laws.AppendOwnNone
/- The document's digits. -/
namespace Go.Proofs.YtbdnocijhbkclaaGreatDoor
open Go.RowKit

theorem dgs_big {n : Nat} (h : ¬ n < 10) : Pl.dgs n = Pl.dgs (n / 10) ++ [UInt8.ofNat (48 + n % 10)] := by
  conv => lhs; unfold Pl.dgs
  rw [if_neg h]
theorem num_one (b : UInt8) : strOfNums [(b.toNat : Int)] = ⟨[b].toArray⟩ := by
  apply ByteArray.ext
  apply Array.toList_inj.1
  rw [strOfNums_data]
  show [_] = [b]
  simp
theorem conv_one (w : World) (b : UInt8) (x : Int) (hx : x = b.toNat) : (convert 68 9 (.slice (some ⟨w.heap.size, 0, none⟩) 1 1)).run Tryz.prog (w.alloc (.cells #[.int .u8 x] 5)) = .ok (.string ⟨[b].toArray⟩) (w.alloc (.cells #[.int .u8 x] 5)) := by
  subst hx
  have h := run_convert_bytes_arg (P := Tryz.prog) (w.alloc (.cells #[.int .u8 b.toNat] 5)) 68 5 Tryz.underlying68 Tryz.underlying5 w.heap.size 0 1 1 [(b.toNat : Int)] rfl (fun i hi => by
    obtain rfl : i = 0 := by omega
    exact World.cell?_alloc_mark w #[.int .u8 b.toNat] 5 (0, 0) 0) 9 Tryz.underlying9
  rw [h, num_one]
set_option maxRecDepth 100000 in
set_option maxHeartbeats 1000000 in
theorem rdigits_any : ∀ (n : Nat), n < 1000000000000 → ∀ w : World, Calls Tryz.prog 17 #[.int .i64 n] w fun e w' => e = .returned (.string ⟨(Pl.dgs n).toArray⟩) ∧ Below w.heap.size w w' := by
  intro n
  induction n using Nat.strongRecOn with
  | _ n ih =>
    intro hn w
    have hcv := conv_one w (UInt8.ofNat (48 + n % 10)) (48 + (n : Int) % 10) (by rw [UInt8.toNat_ofNat']; omega)
    have HB := Lib.hid ((Below.refl w.heap.size w).alloc (Nat.le_refl _) (.cells #[.int .u8 (48 + (n : Int) % 10)] 5))
    by_cases h10 : n < 10
    · have hI : (n : Int) < 10 := by omega
      have HV : Hid (Pl.dgs n = [UInt8.ofNat (48 + n % 10)]) := Lib.hid (by unfold Pl.dgs; rw [if_pos h10, Nat.mod_eq_of_lt h10])
      generalize UInt8.ofNat (48 + n % 10) = b at *
      clear ih
      go_enter Tryz.func17, Tryz.ntmps17
      go_wp2_with fail
      go_ret
      refine ⟨?_, HB.out⟩
      rw [HV.out]; rfl
    · have hI : decide ((n : Int) < 10) = false := by simp; omega
      have HC := Lib.hid (ih (n / 10) (by omega) (by omega))
      rw [show ((n / 10 : Nat) : Int) = (n : Int) / 10 by omega] at HC
      have HV : Hid (Pl.dgs n = Pl.dgs (n / 10) ++ [UInt8.ofNat (48 + n % 10)]) := Lib.hid (dgs_big h10)
      have hlen : ¬ 9223372036854775807 < (Pl.dgs (n / 10)).length + 1 := by
        have := Pl.dgs_len (n / 10) 12 (by decide) (by omega); omega
      generalize UInt8.ofNat (48 + n % 10) = b at *
      generalize Pl.dgs (n / 10) = l at *
      clear ih
      go_enter Tryz.func17, Tryz.ntmps17
      go_wp2_with fail
      refine (HC.out _).mono ?_
      rintro e w1 ⟨rfl, hb1⟩
      have HB1 := Lib.hid (HB.out.trans (hb1.mono HB.out.size))
      clear hb1
      go_wp2_with fail
      go_ret
      refine ⟨?_, HB1.out⟩
      rw [HV.out]
      refine congrArg Ending.returned (congrArg Value.string (ByteArray.ext ?_))
      simp
end Go.Proofs.YtbdnocijhbkclaaGreatDoor
/- What stands behind a word, of the document. -/
namespace Go.Proofs.YtbdnocijhbkclaaGreatDoor
open Go.RowKit

theorem byt_ext (s : ByteArray) (a b : Nat) : Pl.byt (s.extract a b) = ((Pl.byt s).drop a).take (b - a) := by
  unfold Pl.byt
  rw [ByteArray.data_extract, Array.toList_extract]
theorem byt_len (s : ByteArray) : (Pl.byt s).length = s.size := rfl
theorem byt_inj {a b : ByteArray} (h : Pl.byt a = Pl.byt b) : a = b := by rw [← Pl.byt_back a, ← Pl.byt_back b, h]
theorem byt_at (s : ByteArray) (k : Nat) (h : k < s.size) : (Pl.byt s)[k]? = some s[k] := by
  unfold Pl.byt
  rw [Array.getElem?_toList, Array.getElem?_eq_getElem h]; rfl
set_option maxRecDepth 100000 in
set_option maxHeartbeats 1000000 in
theorem rbehind_any (s u : ByteArray) (hu : u.size ≤ 100) (w : World) : Calls Tryz.prog 20 #[.string s, .string u] w fun e w' => e = .returned (.string ⟨(Pl.bhd (Pl.byt u) (Pl.byt s)).toArray⟩) ∧ w' = w := by
  have ls := byt_len s
  have lu := byt_len u
  by_cases h1 : s.size ≤ u.size
  · have hI : (s.size : Int) ≤ (u.size : Int) := by omega
    have HV : Hid (Pl.bhd (Pl.byt u) (Pl.byt s) = []) := Lib.hid (by unfold Pl.bhd; rw [if_pos (.inl (by omega))])
    clear ls lu
    go_enter Tryz.func20, Tryz.ntmps20
    go_wp2_with fail
    go_ret
    refine ⟨?_, rfl⟩
    rw [HV.out]; rfl
  · have hI : decide ((s.size : Int) ≤ (u.size : Int)) = false := by simp; omega
    have hlt : u.size < s.size := by omega
    have ht : Pl.byt (s.extract 0 u.size) = (Pl.byt s).take u.size := by rw [byt_ext]; simp
    by_cases hx : s.extract 0 u.size = u
    · have hx2 : (s.extract 0 u.size).toList = u.toList := by rw [hx]
      have ht2 : (Pl.byt s).take (Pl.byt u).length = Pl.byt u := by rw [lu, ← ht, hx]
      by_cases hb : s[u.size] = 32
      · have hb2 : ((s[u.size].toNat : Int) != 32) = false := by rw [hb]; rfl
        have HV : Hid (Pl.byt (s.extract (u.size + 1) s.size) = Pl.bhd (Pl.byt u) (Pl.byt s)) := Lib.hid (by
          unfold Pl.bhd
          rw [if_neg (by
            rintro (a | a | a)
            · omega
            · exact a ht2
            · exact a (by rw [lu, byt_at s _ hlt, hb]))]
          rw [byt_ext, lu, List.take_of_length_le (by rw [List.length_drop, ls]; exact Nat.le_refl _)])
        have kw : wrap64 ((u.size : Int) + 1) = (u.size : Int) + 1 := by unfold wrap64; omega
        clear ls lu ht ht2 hb
        go_enter Tryz.func20, Tryz.ntmps20
        go_wp2_with (simp only [kw])
        go_ret
        refine ⟨?_, rfl⟩
        rw [← HV.out, Pl.byt_back]; rfl
      · have hb2 : ((s[u.size].toNat : Int) != 32) = true := by
          have : s[u.size].toNat ≠ 32 := fun e => hb (by
            apply UInt8.toNat_inj.1; rw [e]; rfl)
          simp; omega
        have HV : Hid (Pl.bhd (Pl.byt u) (Pl.byt s) = []) := Lib.hid (by
          unfold Pl.bhd
          rw [if_pos (.inr (.inr (by rw [lu, byt_at s _ hlt]; intro e; exact hb (Option.some.inj e))))])
        clear ls lu ht ht2 hb
        go_enter Tryz.func20, Tryz.ntmps20
        go_wp2_with fail
        go_ret
        refine ⟨?_, rfl⟩
        rw [HV.out]; rfl
    · have hx2 : ¬ (s.extract 0 u.size).toList = u.toList := fun e => hx (by
        have := bs_eq (s.extract 0 u.size) u
        rw [e] at this
        simpa using this)
      have HV : Hid (Pl.bhd (Pl.byt u) (Pl.byt s) = []) := Lib.hid (by
        unfold Pl.bhd
        rw [if_pos (.inr (.inl (fun e => hx (byt_inj (by rw [ht, ← lu, e])))))])
      clear ls lu ht
      go_enter Tryz.func20, Tryz.ntmps20
      go_wp2_with fail
      go_ret
      refine ⟨?_, rfl⟩
      rw [HV.out]; rfl
end Go.Proofs.YtbdnocijhbkclaaGreatDoor
/- The document's split. -/
namespace Go.Proofs.YtbdnocijhbkclaaGreatDoor
open Go.RowKit

theorem info_str : (Tryz.prog.info? 9).map (fun i => (i.zero, i.size, i.bytes)) = some (some (.string ⟨#[]⟩), 1, 16) := by kernel_rfl
def sts (l : List (List UInt8)) : List Value := l.map fun x => .string ⟨x.toArray⟩
theorem new_st (W : World) (u : Value) : ∀ (j : Nat) (x : Value), [u][j]? = some x → (W.alloc (.cells #[u] 9)).cell? ((⟨W.heap.size, 0, none⟩ : Addr).add j) = some x := by
  intro j x hj
  have := World.cell?_alloc_mark W #[u] 9 (0, 0) j
  rw [show (⟨W.heap.size, 0, none⟩ : Addr).add j = ⟨W.heap.size, j, none⟩ from by cases j <;> simp [Addr.add], this]
  simpa using hj
/-- how far the split has come -/
structure Spd (c : UInt8) (L : List UInt8) (D : List (List UInt8)) (fr i : Nat) : Prop where
  le : fr ≤ i
  dn : D.length ≤ i
  eq : Pl.spl c [] L = D ++ Pl.spl c ((L.drop fr).take (i - fr)) (L.drop i)
theorem Spd.start (c : UInt8) (L : List UInt8) : Spd c L [] 0 0 := ⟨Nat.le_refl _, Nat.le_refl _, by simp⟩
theorem drop_at {L : List UInt8} {i : Nat} (h : i < L.length) : L.drop i = L[i] :: L.drop (i + 1) := by rw [List.drop_eq_getElem_cons h]
theorem Spd.cut {c : UInt8} {L : List UInt8} {D : List (List UInt8)} {fr i : Nat} (h : Spd c L D fr i) (hi : i < L.length) (hc : L[i] = c) : Spd c L (D ++ [(L.drop fr).take (i - fr)]) (i + 1) (i + 1) := by
  refine ⟨Nat.le_refl _, by have := h.dn; simp; omega, ?_⟩
  rw [h.eq, drop_at hi, Pl.spl, if_pos hc]; simp
theorem Spd.go {c : UInt8} {L : List UInt8} {D : List (List UInt8)} {fr i : Nat} (h : Spd c L D fr i) (hi : i < L.length) (hc : ¬ L[i] = c) : Spd c L D fr (i + 1) := by
  have hle := h.le
  refine ⟨by omega, by have := h.dn; omega, ?_⟩
  rw [h.eq, drop_at hi, Pl.spl, if_neg hc]
  congr 2
  rw [show i + 1 - fr = (i - fr) + 1 by omega, List.take_add_one]
  congr 1
  rw [List.getElem?_drop, show fr + (i - fr) = i by omega, List.getElem?_eq_getElem hi]; rfl
theorem Spd.fin {c : UInt8} {L : List UInt8} {D : List (List UInt8)} {fr : Nat} (h : Spd c L D fr L.length) : Pl.spl c [] L = D ++ [L.drop fr] := by
  rw [h.eq, List.drop_length]
  simp only [Pl.spl]
  rw [List.take_of_length_le (by rw [List.length_drop]; exact Nat.le_refl _)]
set_option maxRecDepth 100000 in
set_option maxHeartbeats 4000000 in
theorem rsplit_any (s : ByteArray) (c : UInt8) (hs : s.size ≤ 100000) (w : World) : Calls Tryz.prog 19 #[.string s, .int .u8 c.toNat] w fun e w' => ∃ v, e = .returned v ∧
    w'.ownsRow w.heap.size 9 1 v (Pl.spl c [] (Pl.byt s)).length (sts (Pl.spl c [] (Pl.byt s))) ∧ Below w.heap.size w w' := by
  obtain ⟨i0, hi, hz0, hz1, hz2⟩ := info_parts info_str
  have HS := Lib.hid hs
  have hs63 : s.size ≤ 100000 := hs
  go_enter Tryz.func19, Tryz.ntmps19
  go_wp2_with fail
  go_loopw [5, 6, 7] (fun pv fv i wr => ∃ (k fr : Nat) (D : List (List UInt8)), k ≤ s.size ∧ i = .int .i64 k ∧ fv = .int .i64 fr ∧ Hid (Spd c (Pl.byt s) D fr k) ∧ Hid (wr.ownsRow w.heap.size 9 1 pv D.length (sts D)) ∧ Below w.heap.size w wr) (fun _ _ i _ => s.size - (intOf i).toNat)
  case atStart => exact ⟨0, 0, [], by omega, rfl, rfl, Lib.hid (Spd.start _ _), Lib.hid (World.ownsRow_nil _ _ _ _), Below.refl _ _⟩
  case round =>
    obtain ⟨k, fr, D, hk, rfl, rfl, HP, HO, hB⟩ := hrel
    have HB := Lib.hid hB
    have hfr := HP.out.le
    have hdn := HP.out.dn
    clear hB
    by_cases hlt : k < s.size
    · have HL := Lib.hid hlt
      have hltI : (k : Int) < (s.size : Int) := by omega
      have hat := byt_at s k hlt
      have hkl : k < (Pl.byt s).length := hlt
      have hat2 : (Pl.byt s)[k] = s[k] := by rw [List.getElem?_eq_getElem hkl] at hat; exact Option.some.inj hat
      by_cases hc : s[k] = c
      · have HP2 := Lib.hid (HP.out.cut hkl (hat2.trans hc))
        have hcI : ((s[k].toNat : Int) == (c.toNat : Int)) = true := by rw [hc]; simp
        have HX : Hid (Pl.byt (s.extract fr k) = ((Pl.byt s).drop fr).take (k - fr)) := Lib.hid (byt_ext s fr k)
        clear hat hat2 hc
        go_wp2_with (at_builtin; refine wpList_append_own _ rfl _ _ 55 rfl w.heap.size 9 i0 _ 1 16 Tryz.underlying55 hi hz0 hz1 hz2 rfl (by decide) _ _ _ rfl (HO.out.alloc _) ⟨_, 0, none⟩ 1 1 [.string (s.extract fr k)] rfl rfl (new_st _ _) (fun u hu => by simp at hu; subst hu; rfl) (by unfold maxLen; omega) (by omega) (by have := HB.out.size; simp; omega) ?_; intro v' w7 hown' hgrow _)
        have HB7 : Hid (Below w.heap.size w w7) := Lib.hid ((HB.out.alloc HB.out.size (.cells #[.string (s.extract fr k)] 9)).grown hgrow (by have := HB.out.size; simp; omega) (fun b e => (HO.out.lt b e).1))
        have HO7 : Hid (w7.ownsRow w.heap.size 9 1 v' (D ++ [((Pl.byt s).drop fr).take (k - fr)]).length (sts (D ++ [((Pl.byt s).drop fr).take (k - fr)]))) := Lib.hid (by
          rw [List.length_append]
          unfold sts at hown' ⊢
          rw [List.map_append, ← HX.out]
          simp only [List.map_cons, List.map_nil, Pl.byt_back]
          exact hown')
        clear hgrow hown' HO HB
        go_wp2_with fail
        go_roundw
        case rel => exact ⟨k + 1, k + 1, _, HL.out, by go_num, by go_num, HP2, HO7, HB7.out⟩
        case measure => have := HL.out; simp [intOf]; omega
      · have HP2 := Lib.hid (HP.out.go hkl (fun e => hc (hat2.symm.trans e)))
        have hcI : ((s[k].toNat : Int) == (c.toNat : Int)) = false := by
          rw [beq_eq_false_iff_ne]; intro e; exact hc (UInt8.toNat_inj.1 (by omega))
        clear hat hat2 hc
        go_wp2_with fail
        go_roundw
        case rel => exact ⟨k + 1, fr, D, HL.out, by go_num, rfl, HP2, HO, HB.out⟩
        case measure => have := HL.out; simp [intOf]; omega
    · obtain rfl : k = s.size := by omega
      have HF := Lib.hid (HP.out.fin)
      have HX : Hid (Pl.byt (s.extract fr s.size) = (Pl.byt s).drop fr) := Lib.hid (by rw [byt_ext]; exact List.take_of_length_le (by rw [List.length_drop]; exact Nat.le_refl _))
      go_wp2_with (at_builtin; refine wpList_append_own _ rfl _ _ 55 rfl w.heap.size 9 i0 _ 1 16 Tryz.underlying55 hi hz0 hz1 hz2 rfl (by decide) _ _ _ rfl (HO.out.alloc _) ⟨_, 0, none⟩ 1 1 [.string (s.extract fr s.size)] rfl rfl (new_st _ _) (fun u hu => by simp at hu; subst hu; rfl) (by unfold maxLen; omega) (by omega) (by have := HB.out.size; simp; omega) ?_; intro v' w7 hown' hgrow _)
      have HB7 : Hid (Below w.heap.size w w7) := Lib.hid ((HB.out.alloc HB.out.size (.cells #[.string (s.extract fr s.size)] 9)).grown hgrow (by have := HB.out.size; simp; omega) (fun b e => (HO.out.lt b e).1))
      have HO7 : Hid (w7.ownsRow w.heap.size 9 1 v' (Pl.spl c [] (Pl.byt s)).length (sts (Pl.spl c [] (Pl.byt s)))) := Lib.hid (by
        rw [HF.out, List.length_append]
        unfold sts at hown' ⊢
        rw [List.map_append, ← HX.out]
        simp only [List.map_cons, List.map_nil, Pl.byt_back]
        exact hown')
      clear hgrow hown' HO HB
      go_wp2_with fail
      go_ret
      exact ⟨v', rfl, HO7.out, HB7.out⟩
end Go.Proofs.YtbdnocijhbkclaaGreatDoor
/- The document's number. -/
namespace Go.Proofs.YtbdnocijhbkclaaGreatDoor
open Go.RowKit

def Dg (b : UInt8) : Prop := 48 ≤ b.toNat ∧ b.toNat ≤ 57
theorem vlu_step {L : List UInt8} {k : Nat} (hk : k < L.length) : Pl.vlu (L.take (k + 1)) = 10 * Pl.vlu (L.take k) + (L[k].toNat - 48) := by
  rw [List.take_succ_eq_append_getElem hk, Pl.vlu_snoc]
theorem vlu_lt {L : List UInt8} : ∀ (k : Nat), k ≤ L.length → (∀ (j : Nat) (hj : j < L.length), j < k → Dg L[j]) → Pl.vlu (L.take k) < 10 ^ k
  | 0, _, _ => by simp [Pl.vlu]
  | k + 1, hk, h => by
    have := vlu_lt k (by omega) (fun j hj hjk => h j hj (by omega))
    have hb := h k (by omega) (by omega)
    rw [vlu_step (by omega), Nat.pow_succ]
    have := hb.2; omega
set_option maxRecDepth 100000 in
set_option maxHeartbeats 4000000 in
theorem rnumber_any (s : ByteArray) (hs : s.size ≤ 100000) (w : World) : Calls Tryz.prog 21 #[.string s] w fun e w' => e = .returned (.int .i64 (Pl.nmb (Pl.byt s))) ∧ w' = w := by
  obtain ⟨V, hV⟩ : ∃ V, Pl.nmb (Pl.byt s) = V := ⟨_, rfl⟩
  rw [hV]
  have HV := Lib.hid hV
  clear hV
  have hl := byt_len s
  by_cases h1 : s.size < 1
  · have hI : (s.size : Int) < 1 := by omega
    have HR : Hid (V = -1) := Lib.hid (by rw [← HV.out]; unfold Pl.nmb; rw [if_pos (.inl (by omega))])
    clear hl
    go_enter Tryz.func21, Tryz.ntmps21
    go_wp2_with fail
    go_ret
    exact ⟨by rw [HR.out]; rfl, rfl⟩
  have g1 : decide ((s.size : Int) < 1) = false := by simp; omega
  by_cases h2 : 10 < s.size
  · have hI : (10 : Int) < s.size := by omega
    have HR : Hid (V = -1) := Lib.hid (by rw [← HV.out]; unfold Pl.nmb; rw [if_pos (.inr (.inl (by omega)))])
    clear hl
    go_enter Tryz.func21, Tryz.ntmps21
    go_wp2_with fail
    go_ret
    exact ⟨by rw [HR.out]; rfl, rfl⟩
  have g2 : decide ((10 : Int) < s.size) = false := by simp; omega
  have h0 : 0 < s.size := by omega
  have hh : (Pl.byt s).head? = some s[0] := by rw [List.head?_eq_getElem?, byt_at s 0 h0]
  by_cases h3 : s[0] = 48 ∧ 1 < s.size
  · have e0 : ((s[0].toNat : Int) == 48) = true := by rw [h3.1]; rfl
    have hI : (1 : Int) < s.size := by omega
    have HR : Hid (V = -1) := Lib.hid (by rw [← HV.out]; unfold Pl.nmb; rw [if_pos (.inr (.inr ⟨by rw [hh, h3.1], by omega⟩))])
    clear hl hh h3
    go_enter Tryz.func21, Tryz.ntmps21
    go_wp2_with fail
    go_ret
    exact ⟨by rw [HR.out]; rfl, rfl⟩
  have hfst : ¬ ((Pl.byt s).length < 1 ∨ 10 < (Pl.byt s).length ∨ ((Pl.byt s).head? = some 48 ∧ 1 < (Pl.byt s).length)) := by
    rintro (a | a | ⟨a, b⟩)
    · omega
    · omega
    · exact h3 ⟨by rw [hh] at a; exact Option.some.inj a, by omega⟩
  have HNO : Hid (∀ (k : Nat) (hk : k < (Pl.byt s).length), ¬ Dg (Pl.byt s)[k] → V = -1) := Lib.hid (fun k hk h => by
    rw [← HV.out]; unfold Pl.nmb
    rw [if_neg hfst, if_neg (fun hall => h (by have := List.all_eq_true.1 hall _ (List.getElem_mem hk); simpa [Dg] using this))])
  have HOK : Hid ((∀ (j : Nat) (hj : j < (Pl.byt s).length), Dg (Pl.byt s)[j]) → V = Pl.vlu (Pl.byt s)) := Lib.hid (fun h => by
    rw [← HV.out]; unfold Pl.nmb
    rw [if_neg hfst, if_pos (List.all_eq_true.2 (fun b hb => by
      obtain ⟨j, hj, rfl⟩ := List.mem_iff_getElem.1 hb
      exact decide_eq_true (h j hj)))])
  have HH2 := Lib.hid h2
  have HLL := Lib.hid hl
  have hcases : (((s[0].toNat : Int) == 48) = true ∧ decide ((1 : Int) < s.size) = false) ∨ ((s[0].toNat : Int) == 48) = false := by
    by_cases e : s[0] = 48
    · exact .inl ⟨by rw [e]; rfl, by simp; have : ¬ 1 < s.size := fun x => h3 ⟨e, x⟩; omega⟩
    · exact .inr (by rw [beq_eq_false_iff_ne]; intro x; exact e (UInt8.toNat_inj.1 (by have : (48 : UInt8).toNat = 48 := rfl; omega)))
  clear hfst hh h3 hl
  rcases hcases with ⟨e0, e1⟩ | e0
  all_goals (
    go_enter Tryz.func21, Tryz.ntmps21
    go_wp2_with fail
    go_loop [3, 4] (fun v i => ∃ k : Nat, k ≤ s.size ∧ i = .int .i64 k ∧ v = .int .i64 (Pl.vlu ((Pl.byt s).take k) : Nat) ∧ Hid (∀ (j : Nat) (hj : j < (Pl.byt s).length), j < k → Dg (Pl.byt s)[j])) (fun _ i => s.size - (intOf i).toNat)
    case atStart => exact ⟨0, by omega, rfl, by simp [Pl.vlu], Lib.hid (fun j _ h => by omega)⟩
    case round =>
      obtain ⟨k, hk, rfl, rfl, HJ⟩ := hrel
      by_cases hlt : k < s.size
      · have HL := Lib.hid hlt
        have hltI : (k : Int) < (s.size : Int) := by omega
        have hkl : k < (Pl.byt s).length := by rw [HLL.out]; exact hlt
        have hat := byt_at s k hlt
        have hat2 : (Pl.byt s)[k] = s[k] := by rw [List.getElem?_eq_getElem hkl] at hat; exact Option.some.inj hat
        have HNk := Lib.hid (HNO.out k hkl)
        have HST := Lib.hid (vlu_step hkl)
        have HJN : Hid (Dg s[k] → ∀ (j : Nat) (hj : j < (Pl.byt s).length), j < k + 1 → Dg (Pl.byt s)[j]) := Lib.hid (fun h j hj hjk => by
          by_cases e : j = k
          · subst e; rw [hat2]; exact h
          · exact HJ.out j hj (by omega))
        rw [hat2] at HNk HST
        have hbd := vlu_lt k (by omega) HJ.out
        have hp : 10 ^ k ≤ 10 ^ 9 := Nat.pow_le_pow_right (by decide) (by have := HH2.out; omega)
        by_cases q1 : s[k].toNat < 48
        · have q1I : (s[k].toNat : Int) < 48 := by omega
          have HR : Hid (V = -1) := Lib.hid (HNk.out (fun h => by have := h.1; omega))
          clear hat hat2
          go_wp2_with fail
          go_ret
          exact ⟨by rw [HR.out]; rfl, rfl⟩
        · have q1I : decide ((s[k].toNat : Int) < 48) = false := by simp; omega
          by_cases q2 : 57 < s[k].toNat
          · have q2I : (57 : Int) < (s[k].toNat : Int) := by omega
            have HR : Hid (V = -1) := Lib.hid (HNk.out (fun h => by have := h.2; omega))
            clear hat hat2
            go_wp2_with fail
            go_ret
            exact ⟨by rw [HR.out]; rfl, rfl⟩
          · have q2I : decide ((57 : Int) < (s[k].toNat : Int)) = false := by simp; omega
            have HJ2 := Lib.hid (HJN.out ⟨by omega, by omega⟩)
            clear hat hat2
            generalize Pl.vlu ((Pl.byt s).take k) = n at *
            have kb : IntKind.u8.wrap ((s[k].toNat : Int) - 48) = (s[k].toNat : Int) - 48 := by rw [IntKind.wrap_u8]; omega
            have kn : wrap64 (10 * (n : Int)) = 10 * (n : Int) := by unfold wrap64; omega
            have km : wrap64 (10 * (n : Int) + ((s[k].toNat : Int) - 48)) = 10 * (n : Int) + ((s[k].toNat : Int) - 48) := by unfold wrap64; omega
            have HQ1 := Lib.hid q1
            go_wp2_with fail
            go_round
            case rel => exact ⟨k + 1, HL.out, by go_num, by rw [HST.out]; exact congrArg (Value.int .i64) (by have := HQ1.out; omega), HJ2⟩
            case measure => have := HL.out; simp [intOf]; omega
      · obtain rfl : k = s.size := by omega
        have HR : Hid (V = (Pl.vlu ((Pl.byt s).take s.size) : Nat)) := Lib.hid (by
          rw [HOK.out (fun j hj => HJ.out j hj (by rw [HLL.out] at hj; exact hj)), List.take_of_length_le (Nat.le_of_eq HLL.out)])
        go_wp2_with fail
        go_ret
        exact ⟨by rw [HR.out]; rfl, rfl⟩)
end Go.Proofs.YtbdnocijhbkclaaGreatDoor
