/- found, of the document: a partner for a left temple, by paths. -/
import Derived.Test.YtmjnlmmjfbpogaaK2
import Derived.Test.YtmjnlmmjfbpogaaP8
namespace Go.Proofs.Ytmjnlmmjfbpogaa
open Go.RowKit Go.Shelf

/-- block g is a row of n numbers -/
def StI (W : World) (g n : Nat) (f : Nat → Int) : Prop := ∃ arr : Array Value, Blk W g 3 arr ∧ arr.size = n ∧ ∀ q, q < n → arr[q]? = some (.int .i64 (f q))
section
variable {W W' : World} {g n : Nat} {f f' : Nat → Int}
theorem StI.lt (h : StI W g n f) : g < W.heap.size := by obtain ⟨arr, h1, _⟩ := h; exact h1.lt
theorem StI.cell (h : StI W g n f) {q : Nat} (hq : q < n) : W.cell? ⟨g, q, none⟩ = some (.int .i64 (f q)) := by
  obtain ⟨arr, h1, h2, h3⟩ := h
  rw [h1.cell q, h3 q hq]
theorem StI.frozen (h : StI W g n f) (q : Nat) : W.frozen? ⟨g, q, none⟩ = false := by obtain ⟨arr, h1, _⟩ := h; exact h1.frozen q
theorem StI.below {B : Nat} (h : StI W g n f) (hb : Below B W W') (hg : g < B) : StI W' g n f := by
  obtain ⟨arr, h1, h2, h3⟩ := h
  exact ⟨arr, h1.below hb hg, h2, h3⟩
theorem StI.alloc (h : StI W g n f) (o : Obj) : StI (W.alloc o) g n f := by
  obtain ⟨arr, h1, h2, h3⟩ := h
  exact ⟨arr, h1.alloc o, h2, h3⟩
theorem StI.only {g' : Nat} (h : StI W g n f) (hO : Only g' W W') (hne : g ≠ g') : StI W' g n f := by
  obtain ⟨arr, h1, h2, h3⟩ := h
  exact ⟨arr, (hO.block g hne).trans h1, h2, h3⟩
theorem StB.only {g' : Nat} {f : Nat → Bool} (h : StB W g n f) (hO : Only g' W W') (hne : g ≠ g') : StB W' g n f := by
  obtain ⟨arr, h1, h2, h3⟩ := h
  exact ⟨arr, (hO.block g hne).trans h1, h2, h3⟩
theorem StI.set (h : StI W g n f) (k : Nat) (v : Int) (hv : ∀ q, q < n → f' q = if q = k then v else f q) : StI (W.setCell ⟨g, k, none⟩ (.int .i64 v)) g n f' := by
  obtain ⟨arr, h1, h2, h3⟩ := h
  refine ⟨_, h1.set_ k _, by simpa using h2, fun q hq => ?_⟩
  rw [Array.getElem?_setIfInBounds, hv q hq]
  by_cases e : k = q
  · subst e
    rw [if_pos rfl, if_pos (by omega), if_pos rfl]
  · rw [if_neg e, h3 q hq, if_neg (fun e' => e e'.symm)]
theorem StI.congr (h : StI W g n f) (hv : ∀ q, q < n → f' q = f q) : StI W g n f' := by
  obtain ⟨arr, h1, h2, h3⟩ := h
  exact ⟨arr, h1, h2, fun q hq => by rw [h3 q hq, hv q hq]⟩
theorem StI.new (w : World) (n : Nat) : StI (w.alloc (.cells (madeCells #[.int .i64 0] n) 3)) w.heap.size n (fun _ => 0) := by
  refine ⟨_, Blk.new w _ _, size_madeCells _ _, fun q hq => ?_⟩
  rw [Array.getElem?_eq_getElem (by rw [size_madeCells]; exact hq)]
  simp [madeCells, Nat.mod_one]
end
/-- nothing old has turned but two blocks -/
structure Two (gp gs : Nat) (w w' : World) : Prop where
  os : w'.os = w.os
  tape : w'.tape = w.tape
  output : w'.output = w.output
  size : w.heap.size ≤ w'.heap.size
  block : ∀ k, k < w.heap.size → k ≠ gp → k ≠ gs → w'.heap[k]? = w.heap[k]?
section
variable {gp gs : Nat} {w w' w'' : World}
theorem Two.refl (gp gs : Nat) (w : World) : Two gp gs w w := ⟨rfl, rfl, rfl, Nat.le_refl _, fun _ _ _ _ => rfl⟩
theorem Two.trans (h : Two gp gs w w') (k : Two gp gs w' w'') : Two gp gs w w'' := ⟨k.os.trans h.os, k.tape.trans h.tape, k.output.trans h.output, Nat.le_trans h.size k.size, fun q hq h1 h2 => (k.block q (Nat.lt_of_lt_of_le hq h.size) h1 h2).trans (h.block q hq h1 h2)⟩
theorem Two.of (h : Below w.heap.size w w') : Two gp gs w w' := ⟨h.os, h.tape, h.output, h.size, fun q hq _ _ => h.block q hq⟩
theorem Two.one (h : Only gp w w') : Two gp gs w w' := ⟨h.os, h.tape, h.output, by rw [h.size]; exact Nat.le_refl _, fun q _ h1 _ => h.block q h1⟩
theorem Two.two (h : Only gs w w') : Two gp gs w w' := ⟨h.os, h.tape, h.output, by rw [h.size]; exact Nat.le_refl _, fun q _ _ h2 => h.block q h2⟩
theorem Two.below {B : Nat} (h : Two gp gs w w') (h1 : B ≤ gp) (h2 : B ≤ gs) (hs : B ≤ w.heap.size) : Below B w w' := ⟨h.os, h.tape, h.output, h.size, fun k hk => h.block k (by omega) (by omega) (by omega)⟩
end
/-- where the temples, the partners and what was seen lie -/
structure Fst (l : List Pl.Tm) (n : Nat) (W : World) (bz oz gp gs : Nat) (P : Nat → Int) (S : Nat → Bool) : Prop where
  lt : bz < W.heap.size
  tm : ∀ j, j < l.length → W.rangeAt bz (oz + j * 4) (tmA (l.getD j Pl.zt)).toList
  n1 : bz ≠ gp
  n2 : bz ≠ gs
  n3 : gp ≠ gs
  P : StI W gp n P
  S : StB W gs n S
section
variable {l : List Pl.Tm} {n : Nat} {W W' : World} {bz oz gp gs : Nat} {P P' : Nat → Int} {S S' : Nat → Bool}
theorem Fst.below (h : Fst l n W bz oz gp gs P S) (hb : Below W.heap.size W W') : Fst l n W' bz oz gp gs P S :=
  ⟨Nat.lt_of_lt_of_le h.lt hb.size, fun j hj => rangeAt_below (h.tm j hj) h.lt hb, h.n1, h.n2, h.n3, h.P.below hb h.P.lt, h.S.below hb h.S.lt⟩
theorem Fst.only {g : Nat} (h : Fst l n W bz oz gp gs P S) (hO : Only g W W') (hne : bz ≠ g) (h1 : StI W' gp n P') (h2 : StB W' gs n S') : Fst l n W' bz oz gp gs P' S' :=
  ⟨by rw [hO.size]; exact h.lt, fun j hj i v hv => by rw [World.cell?_of_block (a := ⟨bz, oz + j * 4 + i, none⟩) (hO.block bz hne)]; exact h.tm j hj i v hv, h.n1, h.n2, h.n3, h1, h2⟩
theorem Fst.see (h : Fst l n W bz oz gp gs P S) (k : Nat) : Fst l n (W.setCell ⟨gs, k, none⟩ (.bool true)) bz oz gp gs P (Pl.see S k) :=
  h.only (Only.setCell gs W k _) h.n2 (h.P.only (Only.setCell gs W k _) h.n3) (h.S.set k true fun q _ => by unfold Pl.see; by_cases e : q = k <;> simp [e])
theorem Fst.put (h : Fst l n W bz oz gp gs P S) (k : Nat) (i : Int) : Fst l n (W.setCell ⟨gp, k, none⟩ (.int .i64 i)) bz oz gp gs (Pl.put P k i) S :=
  h.only (Only.setCell gp W k _) h.n1 (h.P.set k i fun _ _ => rfl) (h.S.only (Only.setCell gp W k _) h.n3.symm)
theorem Fst.cells (h : Fst l n W bz oz gp gs P S) {i : Nat} (hi : i < l.length) : W.cell? ⟨bz, oz + i * 4, none⟩ = some (.int .i64 (Pl.at' l i).num) ∧ W.cell? ⟨bz, oz + i * 4 + 1, none⟩ = some (.int .i64 (Pl.at' l i).side) ∧ W.cell? ⟨bz, oz + i * 4 + 2, none⟩ = some (.int .i64 (Pl.at' l i).len) ∧ W.cell? ⟨bz, oz + i * 4 + 3, none⟩ = some (.int .i64 (Pl.at' l i).col) := by
  have h1 := h.tm i hi
  rw [Pl.at_getD hi] at h1
  exact ⟨h1 0 _ rfl, h1 1 _ rfl, h1 2 _ rfl, h1 3 _ rfl⟩
end
theorem ed_mk {l : List Pl.Tm} (ho : Pl.Ok l) {tol : Int} {i k : Nat} (hi : i < l.length) (hk : k < l.length) (hs : (Pl.at' l i).side = 1) (hc : Pl.can (Pl.at' l i) (Pl.at' l k) tol = true) : Pl.Ed l tol i k := by
  refine ⟨hi, hk, hs, ?_, hc⟩
  have hv := (ho.vt k hk).s
  unfold Pl.can at hc
  rw [Bool.and_eq_true, Bool.and_eq_true, decide_eq_true_iff] at hc
  have := hc.1.1
  rw [hs] at this
  omega
/-- what found leaves -/
def FoundPost (l : List Pl.Tm) (n : Nat) (tol : Int) (bz oz gp gs : Nat) (P : Nat → Int) (S : Nat → Bool) (i : Nat) (w : World) (e : Ending) (w' : World) : Prop :=
  ∃ b P' S', e = .returned (.bool b) ∧ Fst l n w' bz oz gp gs P' S' ∧ Two gp gs w w' ∧ (b = true → Pl.Suc l tol P S i P') ∧ (b = false → P' = P ∧ Pl.Fai l tol P S i n S')

set_option maxRecDepth 100000 in
set_option maxHeartbeats 16000000 in
theorem found_any (l : List Pl.Tm) (n : Nat) (hn : l.length = n) (ho : Pl.Ok l) (tol : Int) (_ht : 0 ≤ tol ∧ tol ≤ 1000) (bz oz gp gs c cp cs : Nat) : ∀ (m : Nat) (P : Nat → Int) (S : Nat → Bool) (i : Nat) (w : World), Pl.Un n S ≤ m → i < n → (Pl.at' l i).side = 1 → Pl.PM l tol P S → Pl.Fre l P S i → Fst l n w bz oz gp gs P S →
    Calls Try.prog 77 #[.slice (some ⟨bz, oz, none⟩) n c, .int .i64 tol, .slice (some ⟨gp, 0, none⟩) n cp, .slice (some ⟨gs, 0, none⟩) n cs, .int .i64 i] w fun e w' => FoundPost l n tol bz oz gp gs P S i w e w' := by
  intro m
  induction m using Nat.strongRecOn with
  | ind m ih =>
  intro P S i w hU hi hside hPM hFre hF
  have IH := Lib.hid ih
  have HOK := Lib.hid ho
  have HN := Lib.hid hn
  have hl : n ≤ 60 := hn ▸ ho.len
  have HS1 := Lib.hid hside
  have HPM := Lib.hid hPM
  have HFR := Lib.hid hFre
  have HU := Lib.hid hU
  have H0 : Hid (Pl.Fai l tol P S i 0 S) := Lib.hid (Pl.Fai.start l tol P S i)
  have HF0 := Lib.hid hF
  have hiI : (i : Int) < (n : Int) := by omega
  clear ih ho hn hside hPM hFre hU hF
  go_enter Try.func77, Try.ntmps77
  go_wp2
  go_loopw [11] (fun i' wr => ∃ k : Nat, ∃ Sc, k ≤ n ∧ i' = .int .i64 k ∧ Fst l n wr bz oz gp gs P Sc ∧ Two gp gs w wr ∧ Hid (Pl.Fai l tol P S i k Sc)) (fun i' _ => n - (intOf i').toNat)
  case atStart => exact ⟨0, S, Nat.zero_le _, rfl, HF0.out, Two.refl _ _ _, H0⟩
  case round =>
    clear HF0 H0
    obtain ⟨k, Sc, hk, rfl, hF, hT, hfai⟩ := hrel
    obtain ⟨wo, rfl⟩ : ∃ wo, wo = wr := ⟨_, rfl⟩
    by_cases hlt : k < n
    · have hil : i < l.length := by rw [HN.out]; exact hi
      have hkl : k < l.length := by rw [HN.out]; exact hlt
      have hkI : (k : Int) < (n : Int) := by omega
      obtain ⟨b, hb⟩ : ∃ b, Sc k = b := ⟨_, rfl⟩
      have HB := Lib.hid hb
      have zs := fun e : Ext wo => e.cell (hF.S.cell hlt)
      rw [hb] at zs
      have yi0 := fun e : Ext wo => e.cell (hF.cells hil).1
      have yi1 := fun e : Ext wo => e.cell (hF.cells hil).2.1
      have yi2 := fun e : Ext wo => e.cell (hF.cells hil).2.2.1
      have yi3 := fun e : Ext wo => e.cell (hF.cells hil).2.2.2
      have yk0 := fun e : Ext wo => e.cell (hF.cells hkl).1
      have yk1 := fun e : Ext wo => e.cell (hF.cells hkl).2.1
      have yk2 := fun e : Ext wo => e.cell (hF.cells hkl).2.2.1
      have yk3 := fun e : Ext wo => e.cell (hF.cells hkl).2.2.2
      have HF := Lib.hid hF
      have HT := Lib.hid hT
      clear hb hF hT
      cases b with
      | true =>
        have HNX := Lib.hid (hfai.out.next (fun _ => HB.out))
        clear hfai
        go_wp2
        refine wp_region_ext (by kernel_rfl) (by kernel_rfl) ?_
        repeat (go_big_quiet_step (fail))
        refine wpQuiet_nil ?_
        rintro _ ⟨s, rfl⟩
        have hF2 := HF.out.below s.h
        have hT2 := HT.out.trans (Two.of s.h)
        clear zs yi0 yi1 yi2 yi3 yk0 yk1 yk2 yk3
        go_wp2
        go_roundw
        case rel => exact ⟨k + 1, Sc, by omega, by go_num, hF2, hT2, HNX⟩
        case measure => simp [intOf]; omega
      | false =>
        have vi := HOK.out.vt i hil
        have vk := HOK.out.vt k hkl
        have hd := rcan_b (Pl.at' l i) (Pl.at' l k) tol _ rfl (vt_wrap vi vk) (vt_wrap vk vi)
        obtain ⟨x, hx⟩ : ∃ x, Pl.can (Pl.at' l i) (Pl.at' l k) tol = x := ⟨_, rfl⟩
        rw [hx] at hd
        have HD := Lib.hid hd
        have HX := Lib.hid hx
        have HIL := Lib.hid hil
        have HKL := Lib.hid hkl
        clear hd hx vi vk hil hkl
        cases x with
        | false =>
          have HNX := Lib.hid (hfai.out.next (fun he => by have := he.can; rw [HX.out] at this; cases this))
          clear hfai
          go_wp2
          refine wp_region_ext (by kernel_rfl) (by kernel_rfl) ?_
          repeat (go_big_quiet_step ((go_at_call 51; refine calls_ext (HD.out _))))
          refine wpQuiet_nil ?_
          rintro _ ⟨s, rfl⟩
          have hF2 := HF.out.below s.h
          have hT2 := HT.out.trans (Two.of s.h)
          clear zs yi0 yi1 yi2 yi3 yk0 yk1 yk2 yk3
          go_wp2
          go_roundw
          case rel => exact ⟨k + 1, Sc, by omega, by go_num, hF2, hT2, HNX⟩
          case measure => simp [intOf]; omega
        | true =>
          have HE : Hid (Pl.Ed l tol i k) := Lib.hid (ed_mk HOK.out HIL.out HKL.out HS1.out HX.out)
          go_wp2
          refine wp_region_ext (by kernel_rfl) (by kernel_rfl) ?_
          repeat (go_big_quiet_step ((go_at_call 51; refine calls_ext (HD.out _))))
          refine wpQuiet_nil ?_
          rintro _ ⟨s, rfl⟩
          have hF2 := HF.out.below s.h
          have hT2 := HT.out.trans (Two.of s.h)
          clear zs yi0 yi1 yi2 yi3 yk0 yk1 yk2 yk3 HD HF HT
          generalize s.w = w2 at *
          clear s
          have cs1 := hF2.S.cell hlt
          have fs1 := hF2.S.frozen k
          rw [HB.out] at cs1
          have hF3 := hF2.see k
          have hT3 : Two gp gs w (w2.setCell ⟨gs, k, none⟩ (.bool true)) := hT2.trans (Two.two (Only.setCell gs w2 k _))
          have cp1 := hF3.P.cell hlt
          have fp1 := hF3.P.frozen k
          clear hF2 hT2
          -- what is known of P on what is not seen
          have hScS : ∀ q, q < l.length → Sc q = false → S q = false := fun q hq e => by
            cases e2 : S q with
            | false => rfl
            | true => rw [hfai.out.mono q hq e2] at e; cases e
          have hPMc : Pl.PM l tol P Sc := HPM.out.sub hfai.out.mono
          have hFRc : Pl.Fre l P Sc i := fun q hq e => HFR.out q hq (hScS q hq e)
          have HPMc := Lib.hid hPMc
          have HFRc := Lib.hid hFRc
          rcases hPMc.ed k HKL.out HB.out with hp | ⟨a, ha, hEa⟩
          · have hF4 := hF3.put k i
            have hT4 := hT3.trans (Two.one (Only.setCell gp _ k (.int .i64 (i : Int))))
            have HSUC := Lib.hid (Pl.Suc.widen HPM.out HFR.out hfai.out (Pl.suc_free HPMc.out HFRc.out HB.out HE.out hp))
            rw [hp] at cp1
            clear hScS hPMc hFRc hp hF3 hT3
            go_wp2
            go_ret
            exact ⟨true, _, _, rfl, hF4, hT4, fun _ => HSUC.out, fun h => by cases h⟩
          · have hlm : Pl.Un n (Pl.see Sc k) < m := by
              have h1 := Pl.un_lt hlt HB.out
              have h2 : Pl.Un n Sc ≤ Pl.Un n S := Pl.un_mono (fun q hq e => hfai.out.mono q (by rw [HN.out]; exact hq) e)
              have := HU.out
              omega
            have hFRa : Pl.Fre l P (Pl.see Sc k) a := fun q hq e e' => by
              obtain ⟨h1, h2⟩ := Pl.see_false.1 e
              exact h1 (HPMc.out.inj q k hq HKL.out h2 HB.out (by rw [e', ha]) (by omega))
            have hcall := fun w' (hF' : Fst l n w' bz oz gp gs P (Pl.see Sc k)) => IH.out _ hlm P (Pl.see Sc k) a w' (Nat.le_refl _) (by rw [← HN.out]; exact hEa.a) hEa.s1 (HPMc.out.sub (fun q _ e => Pl.see_true.2 (.inr e))) hFRa hF'
            have HCALL := Lib.hid hcall
            have HA := Lib.hid ha
            have hneg : ¬ ((a : Int) < 0) := by omega
            rw [ha] at cp1
            have HF3 := Lib.hid hF3
            have HT3 := Lib.hid hT3
            clear hScS hPMc hFRc hlm hFRa hcall ha hEa hF3 hT3
            go_wp2_with fail
            refine (HCALL.out _ HF3.out).mono ?_
            rintro e w4 ⟨b, P1, S1, rfl, hF4, hT4, hs, hf⟩
            have hT5 := HT3.out.trans hT4
            clear cs1 fs1 cp1 fp1 HF3 HT3 hT4
            cases b with
            | true =>
              have HSUC := Lib.hid (Pl.Suc.widen HPM.out HFR.out hfai.out (Pl.suc_rec HFRc.out HB.out HE.out HA.out (hs rfl)))
              have cp2 := hF4.P.cell hlt
              have fp2 := hF4.P.frozen k
              have hF6 := hF4.put k i
              have hT6 := hT5.trans (Two.one (Only.setCell gp _ k (.int .i64 (i : Int))))
              clear hs hf hF4 hT5
              go_wp2
              go_ret
              exact ⟨true, _, _, rfl, hF6, hT6, fun _ => HSUC.out, fun h => by cases h⟩
            | false =>
              obtain ⟨rfl, hf2⟩ := hf rfl
              rw [← HN.out] at hf2
              have HNX := Lib.hid (hfai.out.deep HKL.out HA.out hf2)
              clear hs hf hf2 hfai
              go_wp2
              go_roundw
              case rel => exact ⟨k + 1, S1, by omega, by go_num, hF4, hT5, HNX⟩
              case measure => simp [intOf]; omega
    · obtain rfl : k = n := by omega
      go_wp2
      go_ret
      exact ⟨false, P, Sc, rfl, hF, hT, (fun h => by cases h), fun _ => ⟨rfl, hfai.out⟩⟩
end Go.Proofs.Ytmjnlmmjfbpogaa
