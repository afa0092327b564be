import Derived.Test.YticjhkfidgkecaaGreatDoorB2
namespace Go.Proofs.YticjhkfidgkecaaGreatDoor
open Go.RowKit Pl

def needS (p s : List UInt8) (f : Bool) : List UInt8 × Bool := match strip p s with
  | some r => (r, f)
  | none => ([], true)
def numS (s : List UInt8) (f : Bool) : List UInt8 × Bool := if OkNum (digs s) then (s.drop (digs s).length, f) else ([], true)
theorem need_any (rb : Nat) (s p : List UInt8) (f : Bool) (w : World) (h : St w rb s f) :
    Calls Tryz.prog 132 #[rp rb, str p] w fun e w' => e = .returned (.tuple #[]) ∧ St w' rb (needS p s f).1 (needS p s f).2 ∧ Fr rb w w' := by
  unfold needS
  cases hp : strip p s with
  | none => exact need_no rb s p f w h hp
  | some r => exact need_yes rb s p r f w h hp
theorem number_any (rb : Nat) (s : List UInt8) (f : Bool) (w : World) (h : St w rb s f) (hE : Env w) (hrb : 8 ≤ rb) (hl : s.length ≤ 1000) :
    Calls Tryz.prog 133 #[rp rb] w fun e w' => ∃ n, e = .returned (.int .i64 n) ∧ (OkNum (digs s) → n = val (digs s)) ∧ St w' rb (numS s f).1 (numS s f).2 ∧ Fr rb w w' := by
  unfold numS
  by_cases ho : OkNum (digs s)
  · rw [if_pos ho]
    exact (number_yes rb s f w h hE hrb hl ho).mono fun _ _ ⟨a, b, c⟩ => ⟨_, a, fun _ => rfl, b, c⟩
  · rw [if_neg ho]
    exact (number_no rb s f w h hE hrb hl ho).mono fun _ _ ⟨n, a, b, c⟩ => ⟨n, a, fun h => absurd h ho, b, c⟩
theorem strip_len {p s r : List UInt8} (h : strip p s = some r) : s.length = p.length + r.length := by rw [strip_some h, List.length_append]
theorem needS_len (p s : List UInt8) (f : Bool) : (needS p s f).1.length ≤ s.length := by
  unfold needS
  split
  · rename_i r h; have := strip_len h; dsimp only; omega
  · simp
theorem numS_len (s : List UInt8) (f : Bool) : (numS s f).1.length ≤ s.length := by
  unfold numS
  split <;> simp

/-- how far the numbers are read: after i of them, with these three in hand -/
def NRel (k i : Nat) (s : List UInt8) (f : Bool) (s' : List UInt8) (f' : Bool) (a b c : Int) : Prop :=
  (∃ ns : List Int, ns.length = i ∧ f' = f ∧ pNums k s = (pNums (k - i) s').map (fun x => (ns ++ x.1, x.2)) ∧ a = ns.getD 0 0 ∧ b = ns.getD 1 0 ∧ c = ns.getD 2 0) ∨ (pNums k s = none ∧ s' = [] ∧ f' = true)
theorem NRel.start (k : Nat) (s : List UInt8) (f : Bool) : NRel k 0 s f s f 0 0 0 := .inl ⟨[], rfl, rfl, by simp, rfl, rfl, rfl⟩
theorem NRel.step {k i : Nat} {s s' : List UInt8} {f f' : Bool} {a b c : Int} (h : NRel k i s f s' f' a b c) (hi : i < k) {n : Int} (hn : OkNum (digs (needS [32] s' f').1) → n = val (digs (needS [32] s' f').1)) :
    NRel k (i + 1) s f (numS (needS [32] s' f').1 (needS [32] s' f').2).1 (numS (needS [32] s' f').1 (needS [32] s' f').2).2 (if i = 0 then n else a) (if i = 1 then n else b) (if i = 2 then n else c) := by
  rcases h with ⟨ns, hl, rfl, hp, ha, hb, hc⟩ | ⟨hp, rfl, rfl⟩
  · obtain ⟨m, hm⟩ : ∃ m, k - i = m + 1 := ⟨k - i - 1, by omega⟩
    rw [hm, pNums] at hp
    unfold needS at hn ⊢
    cases hs : strip [32] s' with
    | none =>
      rw [hs] at hp hn
      right
      refine ⟨by simpa using hp, ?_⟩
      dsimp only
      unfold numS
      rw [if_neg (by decide)]
      exact ⟨rfl, rfl⟩
    | some s1 =>
      rw [hs] at hp hn
      dsimp only at hp hn ⊢
      unfold pNum at hp
      unfold numS
      by_cases ho : OkNum (digs s1)
      · rw [if_pos ho] at hp ⊢
        dsimp only at hp ⊢
        have hn' := hn ho
        left
        refine ⟨ns ++ [n], by simp [hl], rfl, ?_, ?_, ?_, ?_⟩
        · rw [hp, show k - (i + 1) = m by omega]
          cases pNums m (List.drop (digs s1).length s1) with
          | none => rfl
          | some x => simp [hn']
        · subst ha; split
          · rename_i h0; have : ns = [] := List.eq_nil_of_length_eq_zero (by omega)
            subst this; rfl
          · match ns, hl with
            | [], hl => simp at hl; omega
            | _ :: _, _ => rfl
        · subst hb; split
          · rename_i h0
            match ns, hl with
            | [x], _ => rfl
            | [], hl => simp at hl; omega
            | _ :: _ :: _, hl => simp at hl; omega
          · match ns, hl with
            | [], _ => rfl
            | [x], hl => simp at hl; omega
            | _ :: _ :: _, hl => rfl
        · subst hc; split
          · rename_i h0
            match ns, hl with
            | [x, y], _ => rfl
            | [], hl => simp at hl; omega
            | [_], hl => simp at hl; omega
            | _ :: _ :: _ :: _, hl => simp at hl; omega
          · match ns, hl with
            | [], _ => rfl
            | [x], _ => rfl
            | [x, y], hl => simp at hl; omega
            | _ :: _ :: _ :: _, hl => rfl
      · rw [if_neg ho] at hp ⊢
        right
        exact ⟨by simpa using hp, rfl, rfl⟩
  · right
    refine ⟨hp, ?_⟩
    rw [show needS [32] [] true = ([], true) from rfl]
    unfold numS
    rw [if_neg (by decide)]
    exact ⟨rfl, rfl⟩
theorem NRel.done {k : Nat} {s s' : List UInt8} {f f' : Bool} {a b c : Int} (h : NRel k k s f s' f' a b c) :
    match pNums k s with
    | some (ns, r) => a = ns.getD 0 0 ∧ b = ns.getD 1 0 ∧ c = ns.getD 2 0 ∧ s' = r ∧ f' = f
    | none => s' = [] ∧ f' = true := by
  rcases h with ⟨ns, hl, hf, hp, ha, hb, hc⟩ | ⟨hp, hs, hf⟩
  · rw [Nat.sub_self, pNums] at hp
    rw [hp]
    simp only [Option.map_some, List.append_nil]
    exact ⟨ha, hb, hc, trivial, hf⟩
  · rw [hp]; exact ⟨hs, hf⟩
/-- the array of numbers, one put in -/
theorem arr_set (a b c n : Int) : ∀ i : Nat, i < 3 → (#[Value.int .i64 a, .int .i64 b, .int .i64 c] : Array Value).setIfInBounds i (.int .i64 n) = #[.int .i64 (if i = 0 then n else a), .int .i64 (if i = 1 then n else b), .int .i64 (if i = 2 then n else c)]
  | 0, _ => rfl
  | 1, _ => rfl
  | 2, _ => rfl
  | _ + 3, h => absurd h (by omega)
theorem Fr.blk {w w' : World} {g rb : Nat} {t : TypeId} {cs : Array Value} (hf : Fr rb w w') (h : Blk w g t cs) (hg : g ≠ rb) : Blk w' g t cs := h.fr hf hg
theorem Fr.setNew {w0 w : World} {rb g : Nat} (hf : Fr rb w0 w) (hg : w0.heap.size ≤ g) (i : Nat) (v : Value) : Fr rb w0 (w.setCell ⟨g, i, none⟩ v) :=
  ⟨hf.os, hf.tape, hf.output, by simp [World.setCell]; exact hf.size, fun k hk hr => (Below.heap_setCell w ⟨g, i, none⟩ v k (by dsimp only; omega)).trans (hf.block k hk hr)⟩
theorem Env.setNew {w : World} {g : Nat} (h : Env w) (hg : 8 ≤ g) (i : Nat) (v : Value) : Env (w.setCell ⟨g, i, none⟩ v) := h.fr (Fr.set g i w v) hg
theorem St.setNew {w : World} {rb g : Nat} {s : List UInt8} {f : Bool} (h : St w rb s f) (hg : g ≠ rb) (i : Nat) (v : Value) : St (w.setCell ⟨g, i, none⟩ v) rb s f :=
  (Below.heap_setCell w ⟨g, i, none⟩ v rb (by simpa using hg.symm)).trans h

set_option maxRecDepth 100000 in
set_option maxHeartbeats 4000000 in
theorem numbers_any (rb k : Nat) (s : List UInt8) (f : Bool) (w : World) (h : St w rb s f) (hE : Env w) (hrb : 8 ≤ rb) (hl : s.length ≤ 1000) (hk : k ≤ 3) :
    Calls Tryz.prog 114 #[rp rb, .int .i64 k] w fun e w' => ∃ a b c s' f', e = .returned (.agg #[.int .i64 a, .int .i64 b, .int .i64 c]) ∧ NRel k k s f s' f' a b c ∧ St w' rb s' f' ∧ Fr rb w w' := by
  have HS := Lib.hid h
  have HE := Lib.hid hE
  have hlt : rb < w.heap.size := Blk.lt h
  clear h hE
  go_enter Tryz.func114, Tryz.ntmps114
  go_wp2_with fail
  have hn0 : w.heap.size ≠ rb := by omega
  have hn1 : w.heap.size + 1 ≠ rb := by omega
  have B0 := Blk.new w 22 #[.int .i64 0, .int .i64 0, .int .i64 0]
  have B1 := Blk.new (w.alloc (.cells #[.int .i64 0, .int .i64 0, .int .i64 0] 22)) 22 #[.int .i64 0, .int .i64 0, .int .i64 0]
  have hb0 := (Below.refl w.heap.size w).alloc (Nat.le_refl _) (.cells #[.int .i64 0, .int .i64 0, .int .i64 0] 22)
  have hb1 := hb0.alloc hb0.size (.cells #[.int .i64 0, .int .i64 0, .int .i64 0] 22)
  have B0' := B0.alloc (.cells #[.int .i64 0, .int .i64 0, .int .i64 0] 22)
  have hs1 : (w.alloc (.cells #[.int .i64 0, .int .i64 0, .int .i64 0] 22)).heap.size = w.heap.size + 1 := Array.size_push _
  rw [hs1] at B1
  have HSW := HS.out.below hb1
  have HEW := HE.out.below hb1
  have HFW : Fr rb w _ := Fr.of hb1
  generalize hW : (w.alloc (.cells #[.int .i64 0, .int .i64 0, .int .i64 0] 22)).alloc (.cells #[.int .i64 0, .int .i64 0, .int .i64 0] 22) = W at *
  clear hW B0 hb0 hb1 hs1
  have hnn : w.heap.size + 1 ≠ w.heap.size := by omega
  have hle : w.heap.size ≤ w.heap.size + 1 := by omega
  have h8 : 8 ≤ w.heap.size + 1 := by omega
  generalize hn : w.heap.size = n0 at *
  generalize hm : n0 + 1 = n1 at *
  clear hm
  have Hn := Lib.hid hn
  clear hn
  go_loopw [8] (fun i wr => ∃ (j : Nat) (a b c : Int) (s' : List UInt8) (f' : Bool), j ≤ k ∧ i = .int .i64 j ∧ NRel k j s f s' f' a b c ∧ St wr rb s' f' ∧ s'.length ≤ 1000 ∧ Env wr ∧ Fr rb w wr ∧ Blk wr n0 22 #[.int .i64 0, .int .i64 0, .int .i64 0] ∧ Blk wr n1 22 #[.int .i64 a, .int .i64 b, .int .i64 c]) (fun i _ => k - (intOf i).toNat)
  case atStart => exact ⟨0, 0, 0, 0, s, f, by omega, rfl, NRel.start k s f, HSW, hl, HEW, HFW, B0', B1⟩
  case round =>
    obtain ⟨j, a, b, c, s', f', hj, rfl, hN, hSt, hlen, hEn, hFr, hB0, hB1⟩ := hrel
    clear HSW HEW HFW B0' B1
    have HN := Lib.hid hN
    have HB0 := Lib.hid hB0
    have HFr := Lib.hid hFr
    by_cases hlt2 : j < k
    · have C1 := Lib.hid (need_any rb s' [32] f' wr hSt)
      clear hN hSt hB0 hFr
      go_wp2_with fail
      refine C1.out.mono ?_
      rintro e w1 ⟨rfl, hSt1, hf1⟩
      have hlen1 := Nat.le_trans (needS_len [32] s' f') hlen
      have hE1 := hEn.fr hf1 hrb
      have HB1 := Lib.hid (hB1.fr hf1 hn1)
      have HB01 := Lib.hid (HB0.out.fr hf1 hn0)
      have HF1 := Lib.hid (HFr.out.trans hf1)
      have C2 := Lib.hid (number_any rb _ _ w1 hSt1 hE1 hrb hlen1)
      have HE1 := Lib.hid hE1
      have hlen2 := Nat.le_trans (numS_len (needS [32] s' f').1 (needS [32] s' f').2) hlen1
      clear C1 hEn hB1 hf1 hSt1 HB0 HFr hE1 hlen1 hlen
      have HL := Lib.hid hlen2
      clear hlen2
      go_wp2_with fail
      refine C2.out.mono ?_
      rintro e w2 ⟨n, rfl, hv, hSt2, hf2⟩
      have hN2 := HN.out.step hlt2 hv
      have hB12 := HB1.out.fr hf2 hn1
      have HB02 := Lib.hid (HB01.out.fr hf2 hn0)
      have HF2 := Lib.hid (HF1.out.trans hf2)
      have HE2 := Lib.hid (HE1.out.fr hf2 hrb)
      generalize (numS (needS [32] s' f').1 (needS [32] s' f').2).1 = s2 at *
      generalize (numS (needS [32] s' f').1 (needS [32] s' f').2).2 = f2 at *
      have HS2 := Lib.hid hSt2
      have HN2 := Lib.hid hN2
      clear C2 hf2 hv hN2 HF1 HB01 HB1 HE1 HN hSt2
      have hj3 : j = 0 ∨ j = 1 ∨ j = 2 := by omega
      have e1 : w2.cell? ⟨n1, j, none⟩ = some (if j = 0 then .int .i64 a else if j = 1 then .int .i64 b else .int .i64 c) := by
        rcases hj3 with rfl | rfl | rfl
        · exact (hB12.cell 0).trans rfl
        · exact (hB12.cell 1).trans rfl
        · exact (hB12.cell 2).trans rfl
      have e2 := hB12.frozen j
      have hB2 := hB12.set (i := j) (.int .i64 n)
      rw [arr_set a b c n j (by omega)] at hB2
      have HB2 := Lib.hid hB2
      clear hB12 hB2
      have HE3 := Lib.hid (HE2.out.setNew h8 j (.int .i64 n))
      have HS3 := Lib.hid (HS2.out.setNew hn1 j (.int .i64 n))
      have HF3 := Lib.hid (HF2.out.setNew (by rw [Hn.out]; exact hle) j (.int .i64 n))
      have HB03 : Hid (Blk (w2.setCell ⟨n1, j, none⟩ (.int .i64 n)) n0 22 _) := Lib.hid ((Below.heap_setCell w2 ⟨n1, j, none⟩ (.int .i64 n) n0 (by simpa using hnn.symm)).trans HB02.out)
      clear HE2 HS2 HF2 HB02
      go_wp2_with fail
      go_roundw
      case rel => exact ⟨j + 1, _, _, _, s2, f2, by omega, by go_num, HN2.out, HS3.out, HL.out, HE3.out, HF3.out, HB03.out, HB2.out⟩
      case measure => simp [intOf]; omega
    · obtain rfl : j = k := by omega
      have c0 : wr.cell? ⟨n1, 0, none⟩ = some (.int .i64 a) := (hB1.cell 0).trans rfl
      have c1 : wr.cell? ⟨n1, 1, none⟩ = some (.int .i64 b) := (hB1.cell 1).trans rfl
      have c2 : wr.cell? ⟨n1, 2, none⟩ = some (.int .i64 c) := (hB1.cell 2).trans rfl
      have z0 := hB0.frozen 0
      have z1 := hB0.frozen 1
      have z2 := hB0.frozen 2
      have d0 : wr.cell? ⟨n0, 0, none⟩ = some (.int .i64 0) := (hB0.cell 0).trans rfl
      have d1 : wr.cell? ⟨n0, 1, none⟩ = some (.int .i64 0) := (hB0.cell 1).trans rfl
      have d2 : wr.cell? ⟨n0, 2, none⟩ = some (.int .i64 0) := (hB0.cell 2).trans rfl
      have HSt : Hid (St _ rb s' f') := Lib.hid (((hSt.setNew hn0 0 (.int .i64 a)).setNew hn0 1 (.int .i64 b)).setNew hn0 2 (.int .i64 c))
      have HZ := Lib.hid (((hB0.set (i := 0) (.int .i64 a)).set (i := 1) (.int .i64 b)).set (i := 2) (.int .i64 c))
      have HFz : Hid (Fr rb w _) := Lib.hid (((HFr.out.setNew (Nat.le_of_eq Hn.out) 0 (.int .i64 a)).setNew (Nat.le_of_eq Hn.out) 1 (.int .i64 b)).setNew (Nat.le_of_eq Hn.out) 2 (.int .i64 c))
      clear hB0 hB1 hSt hFr hN hEn
      go_wp2_with fail
      generalize hW : ((wr.setCell { block := n0, off := 0 } (Value.int IntKind.i64 a)).setCell { block := n0, off := 1 } (Value.int IntKind.i64 b)).setCell { block := n0, off := 2 } (Value.int IntKind.i64 c) = W at *
      have r0 : W.cell? ⟨n0, 0, none⟩ = some (.int .i64 a) := (HZ.out.cell 0).trans rfl
      have r1 : W.cell? ⟨n0, 1, none⟩ = some (.int .i64 b) := (HZ.out.cell 1).trans rfl
      have r2 : W.cell? ⟨n0, 2, none⟩ = some (.int .i64 c) := (HZ.out.cell 2).trans rfl
      refine bodyPost_ret (v := .agg #[.int .i64 a, .int .i64 b, .int .i64 c]) (by simp [results, Tryz.results114, go_sem, r0, r1, r2]) rfl ?_
      exact ⟨a, b, c, s', f', rfl, HN.out, HSt.out, HFz.out⟩
end Go.Proofs.YticjhkfidgkecaaGreatDoor
