import Derived.Test.YticjhkfidgkecaaGreatDoorB5
namespace Go.Proofs.YticjhkfidgkecaaGreatDoor
open Go.RowKit Pl

theorem pOp_found {s r : List UInt8} {op : Int} (h2 : 2 ≤ op) (h6 : op ≤ 6) (hno : ∀ i, 2 ≤ i → i < op → strip (wd i ++ [32]) s = none) (h : strip (wd op ++ [32]) s = some r) : pOp s = op ∧ r = s.drop ((wd op).length + 1) := by
  have hs : ∀ {p s r : List UInt8}, strip p s = some r → p <+: s ∧ r = s.drop p.length := fun {p s r} h => by
    unfold strip at h
    split at h
    · rename_i hp; exact ⟨hp, (Option.some.inj h).symm⟩
    · cases h
  have hn : ∀ i, 2 ≤ i → i < op → ¬ (wd i ++ [32] <+: s) := fun i a b hp => by
    have := hno i a b
    unfold strip at this
    rw [if_pos hp] at this; cases this
  obtain ⟨hp, hr⟩ := hs h
  refine ⟨?_, by rw [hr, List.length_append]; rfl⟩
  unfold pOp
  have : op = 2 ∨ op = 3 ∨ op = 4 ∨ op = 5 ∨ op = 6 := by omega
  rcases this with rfl | rfl | rfl | rfl | rfl
  · rw [if_pos hp]
  · rw [if_neg (hn 2 (by omega) (by omega)), if_pos hp]
  · rw [if_neg (hn 2 (by omega) (by omega)), if_neg (hn 3 (by omega) (by omega)), if_pos hp]
  · rw [if_neg (hn 2 (by omega) (by omega)), if_neg (hn 3 (by omega) (by omega)), if_neg (hn 4 (by omega) (by omega)), if_pos hp]
  · rw [if_neg (hn 2 (by omega) (by omega)), if_neg (hn 3 (by omega) (by omega)), if_neg (hn 4 (by omega) (by omega)), if_neg (hn 5 (by omega) (by omega)), if_pos hp]
theorem pOp_none {s : List UInt8} (hno : ∀ i, 2 ≤ i → i < 7 → strip (wd i ++ [32]) s = none) : pOp s = 1 := by
  have hn : ∀ i, 2 ≤ i → i < 7 → ¬ (wd i ++ [32] <+: s) := fun i a b hp => by
    have := hno i a b
    unfold strip at this
    rw [if_pos hp] at this; cases this
  unfold pOp
  rw [if_neg (hn 2 (by omega) (by omega)), if_neg (hn 3 (by omega) (by omega)), if_neg (hn 4 (by omega) (by omega)), if_neg (hn 5 (by omega) (by omega)), if_neg (hn 6 (by omega) (by omega))]
theorem str_add (a b : List UInt8) : (⟨a.toArray⟩ : ByteArray) ++ ⟨b.toArray⟩ = ⟨(a ++ b).toArray⟩ := by
  apply ByteArray.ext
  simp [ByteArray.data_append]
theorem fldK0 (op : Int) (w : World) : (Instr.field 127 (kindV op) 0).run Tryz.prog w = .ok (str (wd op)) w := fld0 _ _ _ w
theorem cutR_none {p s : List UInt8} (h : strip p s = none) : cutR p s = s := by unfold cutR; rw [h]; rfl
theorem cutR_some {p s r : List UInt8} (h : strip p s = some r) : cutR p s = r := by unfold cutR; rw [h]; rfl
/-- the state behind a colour's letter -/
def colS (s : List UInt8) (f : Bool) : List UInt8 × Bool := if 97 ≤ letV s ∧ letV s ≤ 105 then (s.tail, f) else ([], true)
theorem colS_len (s : List UInt8) (f : Bool) : (colS s f).1.length ≤ s.length := by
  unfold colS; split <;> simp
theorem solid_done {s s3 s' : List UInt8} {f f3 f' : Bool} {a b c : Int} {p : Nat → Prop} {w : World} (hX : (s3, f3) = colS s f) (hN : NRel 3 3 s3 f3 s' f' a b c) :
    RRel p (pSolid s) f ⟨1, 0, letV s, a, b, c⟩ none 0 s' f' w := by
  have hN' := hN.done
  have bad : s3 = [] → f3 = true → s' = [] ∧ f' = true := by
    rintro rfl rfl
    exact hN'
  unfold RRel pSolid
  unfold colS at hX
  cases s with
  | nil =>
    rw [if_neg (by decide)] at hX
    cases hX
    exact bad rfl rfl
  | cons ch r =>
    have hcol : isCol ch = true ↔ (97 ≤ letV (ch :: r) ∧ letV (ch :: r) ≤ 105) := by
      unfold isCol letV; simp; omega
    dsimp only
    by_cases hc : isCol ch = true
    · rw [if_pos (hcol.1 hc)] at hX
      rw [if_pos hc]
      simp only [List.tail_cons, Prod.mk.injEq] at hX
      obtain ⟨rfl, rfl⟩ := hX
      cases hq : pNums 3 s3 with
      | none => rw [hq] at hN'; exact hN'
      | some x =>
        obtain ⟨ns, r1⟩ := x
        rw [hq] at hN'
        obtain ⟨ha, hb, hcc, rfl, rfl⟩ := hN'
        refine ⟨rfl, rfl, ?_, rfl, ?_⟩
        · dsimp only [Tree.hd]; unfold mk; rw [ha, hb, hcc]; rfl
        · dsimp only [Tree.ps]; rw [RdLP]; trivial
    · rw [if_neg (fun h => hc (hcol.2 h))] at hX
      rw [if_neg hc]
      cases hX
      exact bad rfl rfl
theorem wd_len (op : Int) : (wd op).length ≤ 6 := by
  unfold wd
  repeat' split
  all_goals decide
set_option maxRecDepth 100000 in
set_option maxHeartbeats 4000000 in
theorem recipe_step (n : Nat) (ih : RecC n) : RecC (n + 1) := by
  intro rb s f w hn hl h hE hrb
  have HI := Lib.hid ih
  have HS := Lib.hid h
  have HE := Lib.hid hE
  have hlt : rb < w.heap.size := Blk.lt h
  have B0 := Blk.new w 25 #[.int .i64 0, .int .i64 0, .int .u8 0, .int .i64 0, .int .i64 0, .int .i64 0, .slice none 0 0]
  have hb0 := (Below.refl w.heap.size w).alloc (Nat.le_refl _) (.cells #[.int .i64 0, .int .i64 0, .int .u8 0, .int .i64 0, .int .i64 0, .int .i64 0, .slice none 0 0] 25)
  have HSW := Lib.hid (h.below hb0)
  have HFW : Hid (Fr rb w _) := Lib.hid (Fr.of hb0)
  have HB0 := Lib.hid B0
  clear h hE B0 hb0 ih
  obtain ⟨n0, Hn0⟩ : ∃ n0, Hid (n0 = w.heap.size) := ⟨_, Lib.hid rfl⟩
  have hn0 : n0 ≠ rb := by have := Hn0.out; omega
  go_enter Tryz.func70, Tryz.ntmps70
  go_wp2_with fail
  generalize hW : w.alloc (.cells #[.int .i64 0, .int .i64 0, .int .u8 0, .int .i64 0, .int .i64 0, .int .i64 0, .slice none 0 0] 25) = W at *
  clear hW
  rw [← Hn0.out] at HB0
  rw [← Hn0.out]
  go_loopw [3] (fun i wr => ∃ op : Int, 2 ≤ op ∧ op ≤ 7 ∧ i = .int .i64 op ∧ (∀ i, 2 ≤ i → i < op → strip (wd i ++ [32]) s = none) ∧ St wr rb s f ∧ Fr rb w wr ∧ Blk wr n0 25 #[.int .i64 0, .int .i64 0, .int .u8 0, .int .i64 0, .int .i64 0, .int .i64 0, .slice none 0 0]) (fun i _ => (7 - intOf i).toNat)
  case atStart => exact ⟨2, by omega, by omega, rfl, fun i a b => absurd b (by omega), HSW.out, HFW.out, HB0.out⟩
  case round =>
    clear HSW HFW HB0
    obtain ⟨op, h2, h7, rfl, hno, hSt, hFr, hB⟩ := hrel
    have HNO := Lib.hid hno
    have HSt := Lib.hid hSt
    have HFr := Lib.hid hFr
    have HB := Lib.hid hB
    clear hno hSt hFr hB
    by_cases h6 : op ≤ 6
    · have HEr := Lib.hid (HE.out.fr HFr.out hrb)
      go_wp2_with fail
      refine (kindOf_any op (by omega) h6 _ HEr.out.own).mono ?_
      rintro e w1 ⟨rfl, hb1⟩
      have HS1 := Lib.hid (HSt.out.below hb1)
      have HF1 := Lib.hid (HFr.out.trans (Fr.of hb1))
      have HB1 := Lib.hid (HB.out.fr (Fr.of hb1) hn0)
      have k0 := fun w => fldK0 op w
      have C := found_any rb s (wd op ++ [32]) f w1 HS1.out
      clear hb1 HSt HFr HB HEr
      have hadd := str_add (wd op) [32]
      have g9 : ¬ 9223372036854775807 < (wd op).length + 1 := by have := wd_len op; omega
      have HC := Lib.hid C
      clear C
      go_wp2_with fail
      clear hadd g9 k0
      refine HC.out.mono ?_
      rintro e w2 ⟨rfl, hs2, hf2⟩
      have HF2 := Lib.hid (HF1.out.trans hf2)
      have HB2 := Lib.hid (HB1.out.fr hf2 hn0)
      clear HC HF1 HB1 HS1
      cases hst : strip (wd op ++ [32]) s with
      | none =>
        rw [cutR_none hst] at hs2
        have HS2 := Lib.hid hs2
        have HNO' : Hid (∀ i, 2 ≤ i → i < op + 1 → strip (wd i ++ [32]) s = none) := Lib.hid (fun i a b => by
          by_cases e : i = op
          · rw [e]; exact hst
          · exact HNO.out i a (by omega))
        clear hs2 hf2 hst HNO
        dsimp only [Option.isSome]
        go_wp2_with fail
        go_roundw
        case rel => exact ⟨op + 1, by omega, by omega, by go_num, HNO'.out, HS2.out, HF2.out, HB2.out⟩
        case measure => simp [intOf]; omega
      | some r =>
        rw [cutR_some hst] at hs2
        obtain ⟨hop, hr⟩ := pOp_found h2 h6 HNO.out hst
        have hrl := strip_len hst
        have hwl : 1 ≤ (wd op ++ [32]).length := by rw [List.length_append]; simp
        have HE2 := Lib.hid (HE.out.fr HF2.out hrb)
        have HC := Lib.hid (worked_any n HI.out rb op h2 h6 r f w2 (by omega) (by omega) hs2 HE2.out hrb)
        have hp : pRec (n + 1) s = pWork (pRec n) op r := by rw [pRec, hop, if_neg (by omega), ← hr]
        have HP := Lib.hid hp
        have hrl2 : r.length ≤ s.length := by omega
        clear hs2 hf2 hst HNO hop hr hrl hwl hp
        dsimp only [Option.isSome]
        go_wp2_with fail
        refine HC.out.mono ?_
        rintro e w3 ⟨hd, A, k, c, s', f', rfl, hs3, hl3, hf3, hR⟩
        have hB3 := HB2.out.fr hf3 hn0
        have HF3 := Lib.hid (HF2.out.trans hf3)
        have HS3 := Lib.hid hs3
        have HR := Lib.hid (hR.to (q := fun b => n0 + 1 ≤ b ∧ Cl w3 b) fun b hb _ => ⟨⟨by have := HB2.out.lt; have := hb.1; omega, hb.2⟩, rfl⟩)
        have z0 := hB3.frozen 0
        have z1 := hB3.frozen 1
        have z2 := hB3.frozen 2
        have z3 := hB3.frozen 3
        have z4 := hB3.frozen 4
        have z5 := hB3.frozen 5
        have z6 := hB3.frozen 6
        have d0 : w3.cell? ⟨n0, 0, none⟩ = some (.int .i64 0) := (hB3.cell 0).trans rfl
        have d1 : w3.cell? ⟨n0, 1, none⟩ = some (.int .i64 0) := (hB3.cell 1).trans rfl
        have d2 : w3.cell? ⟨n0, 2, none⟩ = some (.int .u8 0) := (hB3.cell 2).trans rfl
        have d3 : w3.cell? ⟨n0, 3, none⟩ = some (.int .i64 0) := (hB3.cell 3).trans rfl
        have d4 : w3.cell? ⟨n0, 4, none⟩ = some (.int .i64 0) := (hB3.cell 4).trans rfl
        have d5 : w3.cell? ⟨n0, 5, none⟩ = some (.int .i64 0) := (hB3.cell 5).trans rfl
        have d6 : w3.cell? ⟨n0, 6, none⟩ = some (.slice none 0 0) := (hB3.cell 6).trans rfl
        have HB3 := Lib.hid hB3
        unfold bv hdc
        clear hB3 hf3 hs3 hR HC
        go_wp2_with fail
        have hW : put7 w3 n0 (.int .i64 hd.op) (.int .i64 hd.ax) (.int .u8 hd.col) (.int .i64 hd.n0) (.int .i64 hd.n1) (.int .i64 hd.n2) (.slice A k c) = put7 w3 n0 (.int .i64 hd.op) (.int .i64 hd.ax) (.int .u8 hd.col) (.int .i64 hd.n0) (.int .i64 hd.n1) (.int .i64 hd.n2) (.slice A k c) := rfl
        conv at hW => lhs; unfold put7
        rw [hW]
        have HZ := put7_blk (.int .i64 hd.op) (.int .i64 hd.ax) (.int .u8 hd.col) (.int .i64 hd.n0) (.int .i64 hd.n1) (.int .i64 hd.n2) (.slice A k c) HB3.out
        have HFZ : Fr rb w _ := put7_fr HF3.out (Nat.le_of_eq Hn0.out.symm) (.int .i64 hd.op) (.int .i64 hd.ax) (.int .u8 hd.col) (.int .i64 hd.n0) (.int .i64 hd.n1) (.int .i64 hd.n2) (.slice A k c)
        have HSZ : St (put7 w3 n0 (.int .i64 hd.op) (.int .i64 hd.ax) (.int .u8 hd.col) (.int .i64 hd.n0) (.int .i64 hd.n1) (.int .i64 hd.n2) (.slice A k c)) rb s' f' := (put7_heap _ _ _ _ _ _ _ _ _ rb (Ne.symm hn0)).trans HS3.out
        have hR2 := HR.out.to (q := fun b => w.heap.size ≤ b ∧ Cl (put7 w3 n0 (.int .i64 hd.op) (.int .i64 hd.ax) (.int .u8 hd.col) (.int .i64 hd.n0) (.int .i64 hd.n1) (.int .i64 hd.n2) (.slice A k c)) b) (w' := put7 w3 n0 (.int .i64 hd.op) (.int .i64 hd.ax) (.int .u8 hd.col) (.int .i64 hd.n0) (.int .i64 hd.n1) (.int .i64 hd.n2) (.slice A k c)) (fun b hb _ => have e := put7_heap w3 n0 (.int .i64 hd.op) (.int .i64 hd.ax) (.int .u8 hd.col) (.int .i64 hd.n0) (.int .i64 hd.n1) (.int .i64 hd.n2) (.slice A k c) b (by have := hb.1; omega); ⟨⟨by have := hb.1; have := Hn0.out; omega, hb.2.of e⟩, e⟩)
        generalize put7 w3 n0 (.int .i64 hd.op) (.int .i64 hd.ax) (.int .u8 hd.col) (.int .i64 hd.n0) (.int .i64 hd.n1) (.int .i64 hd.n2) (.slice A k c) = WW at *
        have e0 : WW.cell? ⟨n0, 0, none⟩ = some (.int .i64 hd.op) := (HZ.cell 0).trans rfl
        have e1 : WW.cell? ⟨n0, 1, none⟩ = some (.int .i64 hd.ax) := (HZ.cell 1).trans rfl
        have e2 : WW.cell? ⟨n0, 2, none⟩ = some (.int .u8 hd.col) := (HZ.cell 2).trans rfl
        have e3 : WW.cell? ⟨n0, 3, none⟩ = some (.int .i64 hd.n0) := (HZ.cell 3).trans rfl
        have e4 : WW.cell? ⟨n0, 4, none⟩ = some (.int .i64 hd.n1) := (HZ.cell 4).trans rfl
        have e5 : WW.cell? ⟨n0, 5, none⟩ = some (.int .i64 hd.n2) := (HZ.cell 5).trans rfl
        have e6 : WW.cell? ⟨n0, 6, none⟩ = some (.slice A k c) := (HZ.cell 6).trans rfl
        refine bodyPost_ret (v := bv hd A k c) (by simp [results, Tryz.results70, go_sem, bv, hdc, e0, e1, e2, e3, e4, e5, e6]) rfl ?_
        rw [HP.out]
        exact ⟨hd, A, k, c, s', f', rfl, HSZ, by omega, HFZ, hR2⟩
    · obtain rfl : op = 7 := by omega
      have HC := Lib.hid (letter_any rb s f wr HSt.out)
      go_wp2_with fail
      refine HC.out.mono ?_
      rintro e w1 ⟨rfl, hs1, hf1⟩
      have HF1 := Lib.hid (HFr.out.trans hf1)
      have HB1 := Lib.hid (HB.out.fr hf1 hn0)
      have HE1 := Lib.hid (HE.out.fr HF1.out hrb)
      have HS1 := Lib.hid hs1
      have hp : pRec (n + 1) s = pSolid s := by rw [pRec, if_pos (pOp_none HNO.out)]
      have HP := Lib.hid hp
      clear HC hs1 hf1 HFr HB HSt HNO hp
      by_cases hcol : 97 ≤ letV s ∧ letV s ≤ 105
      · have C2 := Lib.hid (colourOf_yes (letV s) hcol.1 hcol.2 w1 HE1.out.own)
        obtain ⟨s3, f3, HX⟩ : ∃ s3 f3, Hid ((s3, f3) = colS s f) := ⟨_, _, Lib.hid rfl⟩
        have HS3 : Hid (St w1 rb s3 f3) := Lib.hid (by have := HX.out; unfold colS at this; rw [if_pos hcol] at this; cases this; exact HS1.out)
        clear hcol
        go_wp2_with fail
        refine C2.out.mono ?_
        rintro e w3 ⟨rfl, rfl⟩
        have HF3 := HF1
        have HE3 := HE1
        have HB3 := HB1
        clear HF1 HE1 HB1 HS1 C2
        go_wp2_with fail
        refine (kindOf_any 1 (by decide) (by decide) _ HE3.out.own).mono ?_
        rintro e w4 ⟨rfl, hb4⟩
        have HF4 : Hid (Fr rb w w4) := Lib.hid (HF3.out.trans (Fr.of hb4))
        have HE4 := Lib.hid (HE3.out.below hb4)
        have HB4 := Lib.hid (HB3.out.fr (Fr.of hb4) hn0)
        have HS4 := Lib.hid (HS3.out.below hb4)
        have hl3 : s3.length ≤ s.length := by have := colS_len s f; rw [← HX.out] at this; exact this
        clear hb4 HF3 HE3 HB3 HS3
        have k1 := fun w => fldK1 1 w
        go_wp2_with fail
        refine (numbers_any rb (nNum 1) s3 f3 w4 HS4.out HE4.out hrb (by omega) (nNum_le 1)).mono ?_
        rintro e w5 ⟨a, b, c, s5, f5, rfl, hN, hs5, hf5⟩
        have hl5 : s5.length ≤ s.length := Nat.le_trans (NRel.len (i := 0) hN rfl) hl3
        have HN := Lib.hid hN
        have hB3 := HB4.out.fr hf5 hn0
        have HF3 := Lib.hid (HF4.out.trans hf5)
        have HS3 := Lib.hid hs5
        have z0 := hB3.frozen 0
        have z1 := hB3.frozen 1
        have z2 := hB3.frozen 2
        have z3 := hB3.frozen 3
        have z4 := hB3.frozen 4
        have z5 := hB3.frozen 5
        have z6 := hB3.frozen 6
        have d0 : w5.cell? ⟨n0, 0, none⟩ = some (.int .i64 0) := (hB3.cell 0).trans rfl
        have d1 : w5.cell? ⟨n0, 1, none⟩ = some (.int .i64 0) := (hB3.cell 1).trans rfl
        have d2 : w5.cell? ⟨n0, 2, none⟩ = some (.int .u8 0) := (hB3.cell 2).trans rfl
        have d3 : w5.cell? ⟨n0, 3, none⟩ = some (.int .i64 0) := (hB3.cell 3).trans rfl
        have d4 : w5.cell? ⟨n0, 4, none⟩ = some (.int .i64 0) := (hB3.cell 4).trans rfl
        have d5 : w5.cell? ⟨n0, 5, none⟩ = some (.int .i64 0) := (hB3.cell 5).trans rfl
        have d6 : w5.cell? ⟨n0, 6, none⟩ = some (.slice none 0 0) := (hB3.cell 6).trans rfl
        have HB3 := Lib.hid hB3
        clear hN hB3 hf5 hs5 HF4 HE4 HB4 HS4 k1
        go_wp2_with fail
        have HZ := put7_blk (.int .i64 1) (.int .i64 0) (.int .u8 (letV s)) (.int .i64 a) (.int .i64 b) (.int .i64 c) (.slice none 0 0) HB3.out
        have HFZ : Fr rb w _ := put7_fr HF3.out (Nat.le_of_eq Hn0.out.symm) (.int .i64 1) (.int .i64 0) (.int .u8 (letV s)) (.int .i64 a) (.int .i64 b) (.int .i64 c) (.slice none 0 0)
        have HSZ : St (put7 w5 n0 (.int .i64 1) (.int .i64 0) (.int .u8 (letV s)) (.int .i64 a) (.int .i64 b) (.int .i64 c) (.slice none 0 0)) rb s5 f5 := (put7_heap _ _ _ _ _ _ _ _ _ rb (Ne.symm hn0)).trans HS3.out
        have hR2 := solid_done (p := fun b' => w.heap.size ≤ b' ∧ Cl (put7 w5 n0 (.int .i64 1) (.int .i64 0) (.int .u8 (letV s)) (.int .i64 a) (.int .i64 b) (.int .i64 c) (.slice none 0 0)) b') (w := put7 w5 n0 (.int .i64 1) (.int .i64 0) (.int .u8 (letV s)) (.int .i64 a) (.int .i64 b) (.int .i64 c) (.slice none 0 0)) HX.out HN.out
        have hW : put7 w5 n0 (.int .i64 1) (.int .i64 0) (.int .u8 (letV s)) (.int .i64 a) (.int .i64 b) (.int .i64 c) (.slice none 0 0) = put7 w5 n0 (.int .i64 1) (.int .i64 0) (.int .u8 (letV s)) (.int .i64 a) (.int .i64 b) (.int .i64 c) (.slice none 0 0) := rfl
        conv at hW => lhs; unfold put7
        rw [hW]
        clear hW
        generalize put7 w5 n0 (.int .i64 1) (.int .i64 0) (.int .u8 (letV s)) (.int .i64 a) (.int .i64 b) (.int .i64 c) (.slice none 0 0) = WW at *
        have e0 : WW.cell? ⟨n0, 0, none⟩ = some (.int .i64 1) := (HZ.cell 0).trans rfl
        have e1 : WW.cell? ⟨n0, 1, none⟩ = some (.int .i64 0) := (HZ.cell 1).trans rfl
        have e2 : WW.cell? ⟨n0, 2, none⟩ = some (.int .u8 (letV s)) := (HZ.cell 2).trans rfl
        have e3 : WW.cell? ⟨n0, 3, none⟩ = some (.int .i64 a) := (HZ.cell 3).trans rfl
        have e4 : WW.cell? ⟨n0, 4, none⟩ = some (.int .i64 b) := (HZ.cell 4).trans rfl
        have e5 : WW.cell? ⟨n0, 5, none⟩ = some (.int .i64 c) := (HZ.cell 5).trans rfl
        have e6 : WW.cell? ⟨n0, 6, none⟩ = some (.slice none 0 0) := (HZ.cell 6).trans rfl
        refine bodyPost_ret (v := bv ⟨1, 0, letV s, a, b, c⟩ none 0 0) (by simp [results, Tryz.results70, go_sem, bv, hdc, e0, e1, e2, e3, e4, e5, e6]) rfl ?_
        rw [HP.out]
        exact ⟨_, none, 0, 0, s5, f5, rfl, HSZ, hl5, HFZ, hR2⟩
      · have C2 := Lib.hid (colourOf_no (letV s) hcol w1 HE1.out.own)
        obtain ⟨s3, f3, HX⟩ : ∃ s3 f3, Hid ((s3, f3) = colS s f) := ⟨_, _, Lib.hid rfl⟩
        have hX : s3 = [] ∧ f3 = true := by have := HX.out; unfold colS at this; rw [if_neg hcol] at this; cases this; exact ⟨rfl, rfl⟩
        have HX2 := Lib.hid hX
        clear hcol hX
        go_wp2_with fail
        refine C2.out.mono ?_
        rintro e w2 ⟨rfl, rfl⟩
        have C3 := Lib.hid (fail_any rb _ f w2 HS1.out)
        clear C2
        go_wp2_with fail
        refine C3.out.mono ?_
        rintro e w3 ⟨rfl, hs3, hf3⟩
        have HF3 := Lib.hid (HF1.out.trans hf3)
        have HE3 := Lib.hid (HE1.out.fr hf3 hrb)
        have HB3 := Lib.hid (HB1.out.fr hf3 hn0)
        have HS3 : Hid (St w3 rb s3 f3) := Lib.hid (by rw [HX2.out.1, HX2.out.2]; exact hs3)
        clear HF1 HE1 HB1 HS1 C3 hs3 hf3
        go_wp2_with fail
        refine (kindOf_any 1 (by decide) (by decide) _ HE3.out.own).mono ?_
        rintro e w4 ⟨rfl, hb4⟩
        have HF4 : Hid (Fr rb w w4) := Lib.hid (HF3.out.trans (Fr.of hb4))
        have HE4 := Lib.hid (HE3.out.below hb4)
        have HB4 := Lib.hid (HB3.out.fr (Fr.of hb4) hn0)
        have HS4 := Lib.hid (HS3.out.below hb4)
        have hl3 : s3.length ≤ s.length := by have := colS_len s f; rw [← HX.out] at this; exact this
        clear hb4 HF3 HE3 HB3 HS3
        have k1 := fun w => fldK1 1 w
        go_wp2_with fail
        refine (numbers_any rb (nNum 1) s3 f3 w4 HS4.out HE4.out hrb (by omega) (nNum_le 1)).mono ?_
        rintro e w5 ⟨a, b, c, s5, f5, rfl, hN, hs5, hf5⟩
        have hl5 : s5.length ≤ s.length := Nat.le_trans (NRel.len (i := 0) hN rfl) hl3
        have HN := Lib.hid hN
        have hB3 := HB4.out.fr hf5 hn0
        have HF3 := Lib.hid (HF4.out.trans hf5)
        have HS3 := Lib.hid hs5
        have z0 := hB3.frozen 0
        have z1 := hB3.frozen 1
        have z2 := hB3.frozen 2
        have z3 := hB3.frozen 3
        have z4 := hB3.frozen 4
        have z5 := hB3.frozen 5
        have z6 := hB3.frozen 6
        have d0 : w5.cell? ⟨n0, 0, none⟩ = some (.int .i64 0) := (hB3.cell 0).trans rfl
        have d1 : w5.cell? ⟨n0, 1, none⟩ = some (.int .i64 0) := (hB3.cell 1).trans rfl
        have d2 : w5.cell? ⟨n0, 2, none⟩ = some (.int .u8 0) := (hB3.cell 2).trans rfl
        have d3 : w5.cell? ⟨n0, 3, none⟩ = some (.int .i64 0) := (hB3.cell 3).trans rfl
        have d4 : w5.cell? ⟨n0, 4, none⟩ = some (.int .i64 0) := (hB3.cell 4).trans rfl
        have d5 : w5.cell? ⟨n0, 5, none⟩ = some (.int .i64 0) := (hB3.cell 5).trans rfl
        have d6 : w5.cell? ⟨n0, 6, none⟩ = some (.slice none 0 0) := (hB3.cell 6).trans rfl
        have HB3 := Lib.hid hB3
        clear hN hB3 hf5 hs5 HF4 HE4 HB4 HS4 k1
        go_wp2_with fail
        have HZ := put7_blk (.int .i64 1) (.int .i64 0) (.int .u8 (letV s)) (.int .i64 a) (.int .i64 b) (.int .i64 c) (.slice none 0 0) HB3.out
        have HFZ : Fr rb w _ := put7_fr HF3.out (Nat.le_of_eq Hn0.out.symm) (.int .i64 1) (.int .i64 0) (.int .u8 (letV s)) (.int .i64 a) (.int .i64 b) (.int .i64 c) (.slice none 0 0)
        have HSZ : St (put7 w5 n0 (.int .i64 1) (.int .i64 0) (.int .u8 (letV s)) (.int .i64 a) (.int .i64 b) (.int .i64 c) (.slice none 0 0)) rb s5 f5 := (put7_heap _ _ _ _ _ _ _ _ _ rb (Ne.symm hn0)).trans HS3.out
        have hR2 := solid_done (p := fun b' => w.heap.size ≤ b' ∧ Cl (put7 w5 n0 (.int .i64 1) (.int .i64 0) (.int .u8 (letV s)) (.int .i64 a) (.int .i64 b) (.int .i64 c) (.slice none 0 0)) b') (w := put7 w5 n0 (.int .i64 1) (.int .i64 0) (.int .u8 (letV s)) (.int .i64 a) (.int .i64 b) (.int .i64 c) (.slice none 0 0)) HX.out HN.out
        have hW : put7 w5 n0 (.int .i64 1) (.int .i64 0) (.int .u8 (letV s)) (.int .i64 a) (.int .i64 b) (.int .i64 c) (.slice none 0 0) = put7 w5 n0 (.int .i64 1) (.int .i64 0) (.int .u8 (letV s)) (.int .i64 a) (.int .i64 b) (.int .i64 c) (.slice none 0 0) := rfl
        conv at hW => lhs; unfold put7
        rw [hW]
        clear hW
        generalize put7 w5 n0 (.int .i64 1) (.int .i64 0) (.int .u8 (letV s)) (.int .i64 a) (.int .i64 b) (.int .i64 c) (.slice none 0 0) = WW at *
        have e0 : WW.cell? ⟨n0, 0, none⟩ = some (.int .i64 1) := (HZ.cell 0).trans rfl
        have e1 : WW.cell? ⟨n0, 1, none⟩ = some (.int .i64 0) := (HZ.cell 1).trans rfl
        have e2 : WW.cell? ⟨n0, 2, none⟩ = some (.int .u8 (letV s)) := (HZ.cell 2).trans rfl
        have e3 : WW.cell? ⟨n0, 3, none⟩ = some (.int .i64 a) := (HZ.cell 3).trans rfl
        have e4 : WW.cell? ⟨n0, 4, none⟩ = some (.int .i64 b) := (HZ.cell 4).trans rfl
        have e5 : WW.cell? ⟨n0, 5, none⟩ = some (.int .i64 c) := (HZ.cell 5).trans rfl
        have e6 : WW.cell? ⟨n0, 6, none⟩ = some (.slice none 0 0) := (HZ.cell 6).trans rfl
        refine bodyPost_ret (v := bv ⟨1, 0, letV s, a, b, c⟩ none 0 0) (by simp [results, Tryz.results70, go_sem, bv, hdc, e0, e1, e2, e3, e4, e5, e6]) rfl ?_
        rw [HP.out]
        exact ⟨_, none, 0, 0, s5, f5, rfl, HSZ, hl5, HFZ, hR2⟩
theorem recipe_all : ∀ n, RecC n
  | 0 => fun _ _ _ _ h => absurd h (Nat.not_lt_zero _)
  | n + 1 => recipe_step n (recipe_all n)
end Go.Proofs.YticjhkfidgkecaaGreatDoor
