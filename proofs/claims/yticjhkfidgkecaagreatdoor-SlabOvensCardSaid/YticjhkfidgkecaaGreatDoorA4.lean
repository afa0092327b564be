import Derived.Test.YticjhkfidgkecaaGreatDoorA3
namespace Go.Proofs.YticjhkfidgkecaaGreatDoor
open Go.RowKit Pl

theorem calls_same {P : Program} {f : FuncId} {args : Array Value} {w : World} {v : Value}
    (h : Calls P f args w fun e w' => e = .returned v ∧ w' = w) : Calls P f args w fun e w' => e = .returned v ∧ Below w.heap.size w w' :=
  h.mono fun _ _ ⟨he, hw⟩ => ⟨he, hw ▸ Below.refl _ _⟩
theorem bv_hdc (h : Hd) (A : Option Addr) (n c : Nat) : bv h A n c = .agg #[.int .i64 h.op, .int .i64 h.ax, .int .u8 h.col, .int .i64 h.n0, .int .i64 h.n1, .int .i64 h.n2, .slice A n c] := rfl

theorem fldK1 (op : Int) (w : World) : (Instr.field 127 (kindV op) 1).run Tryz.prog w = .ok (.int .i64 (nNum op)) w := fld1 _ _ _ w
theorem fldK2 (op : Int) (w : World) : (Instr.field 127 (kindV op) 2).run Tryz.prog w = .ok (.int .i64 (nPart op)) w := fld2 _ _ _ w
set_option maxRecDepth 100000 in
set_option maxHeartbeats 4000000 in
theorem sound_any : ∀ t : Tree, ∀ (A : Option Addr) (c : Nat) (w : World), RdL w t.ps A → Own w → ∀ r : Bool, (Sound t ↔ r = true) →
    Calls Tryz.prog 101 #[bv t.hd A t.ps.length c] w fun e w' => e = .returned (.bool r) ∧ Below w.heap.size w w' := by
  apply Tree.ind
  intro h ps ih A c w hR hO r hr
  dsimp only [Tree.hd, Tree.ps] at hR ⊢
  have HR := Lib.hid hR
  have HO := Lib.hid hO
  have IH := Lib.hid ih
  have hF : ¬ Sound (.node h ps) → r = false := fun hn => by
    cases hr' : r with
    | false => rfl
    | true => exact absurd (hr.2 hr') hn
  rw [Sound, soundL_iff, formed_iff] at hr hF
  have HS := Lib.hid hr
  have HF := Lib.hid hF
  clear hR hO ih hr hF
  have HB := Lib.hid (Below.alloc (Below.refl w.heap.size w) (Nat.le_refl _) (hdo h A ps.length c))
  have bB := Blk.new w 25 #[.int .i64 h.op, .int .i64 h.ax, .int .u8 h.col, .int .i64 h.n0, .int .i64 h.n1, .int .i64 h.n2, .slice A ps.length c]
  unfold bv hdc
  go_enter Tryz.func101, Tryz.ntmps101
  go_wp2_with fail
  generalize hW : w.alloc (hdo h A ps.length c) = W at *
  have q : ∀ i v, #[Value.int .i64 h.op, .int .i64 h.ax, .int .u8 h.col, .int .i64 h.n0, .int .i64 h.n1, .int .i64 h.n2, .slice A ps.length c][i]? = some v → ∀ s : Ext W, s.w.cell? ⟨w.heap.size, i, none⟩ = some v := fun i v e s => s.cell ((bB.cell i).trans e)
  have f0 := q 0 _ rfl
  have f1 := q 1 _ rfl
  have f2 := q 2 _ rfl
  have f3 := q 3 _ rfl
  have f4 := q 4 _ rfl
  have f5 := q 5 _ rfl
  have f6 := q 6 _ rfl
  clear q
  have HOs : Hid (∀ s : Ext W, Own s.w) := Lib.hid (fun s => (HO.out.below HB.out).below s.h)
  by_cases hop : 1 ≤ h.op ∧ h.op ≤ 6
  · have HOP := Lib.hid hop
    have HZ : Hid ((1 ≤ h.op ∧ h.op ≤ 6) ↔ true = true) := Lib.hid (by simpa using hop)
    clear hop
    have k2 := fun w => fldK2 h.op w
    by_cases hn : ps.length = nPart h.op
    · have g1 : ((ps.length : Int) != (nPart h.op : Int)) = false := by simp [hn]
      have HN := Lib.hid hn
      have hle : ps.length ≤ 2 := by rw [hn]; unfold nPart; repeat' split
                                     all_goals omega
      clear hn
      by_cases hl : LettersOk h
      · have HL : Hid (LettersOk h ↔ true = true) := Lib.hid (by simpa using hl)
        have HLL := Lib.hid hl
        clear hl
        by_cases hnu : NumsOk h
        · have HNU : Hid (NumsOk h ↔ true = true) := Lib.hid (by simpa using hnu)
          have HNN := Lib.hid hnu
          clear hnu
          refine wp_region_ext (by kernel_rfl) (by kernel_rfl) ?_
          repeat (go_big_quiet_step ((first     | (go_at_call 123; refine calls_ext (calls_same (isOp_r h.op true HZ.out _)))     | (go_at_call 105; refine calls_ext (kindOf_any h.op HOP.out.1 HOP.out.2 _ (HOs.out _)))     | (go_at_call 124; refine calls_ext (letters_any h A ps.length c _ (HOs.out _) true HL.out))     | (go_at_call 125; refine calls_ext (nums_any h A ps.length c HOP.out.1 HOP.out.2 _ (HOs.out _) true HNU.out)))))
          refine wpQuiet_nil ?_
          rintro _ ⟨s, rfl⟩
          go_wp2_with fail
          have b6 := f6 s
          have b0 := HB.out.trans (s.h.mono HB.out.size)
          clear f0 f1 f2 f3 f4 f5 f6 k2 b6
          have hRs := (HR.out.below HB.out).below s.h
          have hOs := HOs.out s
          generalize s.w = w2 at *
          clear s
          have HR2 := Lib.hid hRs
          have HO2 := Lib.hid hOs
          clear hRs hOs
          rcases Nat.eq_zero_or_pos ps.length with h0 | h0
          · have HF : Hid (r = true) := Lib.hid (HS.out.1 ⟨⟨HOP.out, HN.out, HLL.out, HNN.out⟩, fun p hp => by rw [List.eq_nil_of_length_eq_zero h0] at hp; cases hp⟩)
            have h0' : ¬ (0 : Int) < (ps.length : Int) := by omega
            clear h0
            refine wp_loop_rounds 1 ?_
            rw [rounds_succ]
            go_wp2_with fail
            go_ret
            exact ⟨ret1 (congrArg Value.bool HF.out.symm), b0⟩
          · obtain ⟨b, o, rfl, hbl⟩ := HR2.out.addr h0
            go_loopw [32] (fun i wr => ∃ k : Nat, k ≤ ps.length ∧ i = .int .i64 k ∧ (∀ j (hj : j < ps.length), j < k → Sound ps[j]) ∧ Below w2.heap.size w2 wr) (fun i _ => ps.length - (intOf i).toNat)
            case atStart => exact ⟨0, by omega, rfl, fun j _ hj => absurd hj (by omega), Below.refl _ _⟩
            case round =>
              obtain ⟨k, hk, rfl, hok, hB⟩ := hrel
              have HOK := Lib.hid hok
              clear hok
              by_cases hlt : k < ps.length
              · obtain ⟨A', c', hc, hr'⟩ := ((HR2.out.get k hlt).below hB).open
                have HRR := Lib.hid hr'
                have HIH := Lib.hid (IH.out ps[k] (List.getElem_mem hlt))
                have HFS : Hid (¬ Sound ps[k] → r = false) := Lib.hid (fun hn => HF.out (fun hh => hn (hh.2 _ (List.getElem_mem hlt))))
                obtain ⟨p, hp⟩ : ∃ p, p = ps[k] := ⟨_, rfl⟩
                rw [← hp] at hc HRR HIH HFS
                have HPK := Lib.hid hp
                clear hp hr'
                obtain ⟨c0, c1, c2, c3, c4, c5, c6⟩ := hc
                have hBa := hB.alloc hB.size (hdo p.hd A' p.ps.length c')
                have hBb := (Below.refl wr.heap.size wr).alloc (Nat.le_refl _) (hdo p.hd A' p.ps.length c')
                have HBb := Lib.hid hBb
                have HOw := Lib.hid ((HO2.out.below hB).below hBb)
                have HRa := Lib.hid (HRR.out.below hBb)
                clear hBb
                by_cases hS : Sound p
                · have hih := HIH.out A' c' _ HRa.out HOw.out true (by simpa using hS)
                  have HSP := Lib.hid hS
                  have HH := Lib.hid hih
                  clear hS hih
                  go_wp2_with fail
                  refine HH.out.mono ?_
                  rintro e w3 ⟨rfl, hb3⟩
                  have hB3 := hBa.trans (hb3.mono hBa.size)
                  go_wp2_with fail
                  go_roundw
                  case rel => exact ⟨k + 1, by omega, by go_num, fun j hj hjk => by
                    by_cases e : j = k
                    · subst e; rw [← HPK.out]; exact HSP.out
                    · exact HOK.out j hj (by omega), hB3⟩
                  case measure => simp [intOf]; omega
                · have hih := HIH.out A' c' _ HRa.out HOw.out false (by simpa using hS)
                  have HF' : Hid (r = false) := Lib.hid (HFS.out hS)
                  have HH := Lib.hid hih
                  clear hS hih
                  go_wp2_with fail
                  refine HH.out.mono ?_
                  rintro e w3 ⟨rfl, hb3⟩
                  have hB3 := hBa.trans (hb3.mono hBa.size)
                  go_wp2_with fail
                  go_ret
                  exact ⟨ret1 (congrArg Value.bool HF'.out.symm), b0.trans (hB3.mono b0.size)⟩
              · obtain rfl : k = ps.length := by omega
                have HF' : Hid (r = true) := Lib.hid (HS.out.1 ⟨⟨HOP.out, HN.out, HLL.out, HNN.out⟩, fun p hp => by
                  obtain ⟨j, hj, rfl⟩ := List.getElem_of_mem hp
                  exact HOK.out j hj hj⟩)
                go_wp2_with fail
                go_ret
                exact ⟨ret1 (congrArg Value.bool HF'.out.symm), b0.trans (hB.mono b0.size)⟩
        · have HNU : Hid (NumsOk h ↔ false = true) := Lib.hid (by simpa using hnu)
          have hfalse : r = false := HF.out (fun hh => hnu hh.1.2.2.2)
          subst hfalse
          clear hnu
          refine wp_region_ext (by kernel_rfl) (by kernel_rfl) ?_
          repeat (go_big_quiet_step ((first     | (go_at_call 123; refine calls_ext (calls_same (isOp_r h.op true HZ.out _)))     | (go_at_call 105; refine calls_ext (kindOf_any h.op HOP.out.1 HOP.out.2 _ (HOs.out _)))     | (go_at_call 124; refine calls_ext (letters_any h A ps.length c _ (HOs.out _) true HL.out))     | (go_at_call 125; refine calls_ext (nums_any h A ps.length c HOP.out.1 HOP.out.2 _ (HOs.out _) false HNU.out)))))
          refine wpQuiet_nil ?_
          rintro _ ⟨s, rfl⟩
          go_wp2_with fail
          go_ret
          exact ⟨rfl, HB.out.trans (s.h.mono HB.out.size)⟩
      · have HL : Hid (LettersOk h ↔ false = true) := Lib.hid (by simpa using hl)
        have hfalse : r = false := HF.out (fun hh => hl hh.1.2.2.1)
        have HNU : Hid (NumsOk h ↔ (decide (0 = 0) && @decide (NumsOk h) (Classical.propDecidable _)) = true) := Lib.hid (by simp)
        subst hfalse
        clear hl
        refine wp_region_ext (by kernel_rfl) (by kernel_rfl) ?_
        repeat (go_big_quiet_step ((first     | (go_at_call 123; refine calls_ext (calls_same (isOp_r h.op true HZ.out _)))     | (go_at_call 105; refine calls_ext (kindOf_any h.op HOP.out.1 HOP.out.2 _ (HOs.out _)))     | (go_at_call 124; refine calls_ext (letters_any h A ps.length c _ (HOs.out _) false HL.out))     | (go_at_call 125; refine calls_ext (nums_any h A ps.length c HOP.out.1 HOP.out.2 _ (HOs.out _) _ HNU.out)))))
        refine wpQuiet_nil ?_
        rintro _ ⟨s, rfl⟩
        go_wp2_with fail
        go_ret
        exact ⟨rfl, HB.out.trans (s.h.mono HB.out.size)⟩
    · have g1 : ((ps.length : Int) != (nPart h.op : Int)) = true := by simp; omega
      have hfalse : r = false := HF.out (fun hh => hn hh.1.2.1)
      have HL : Hid (LettersOk h ↔ (decide (0 = 0) && @decide (LettersOk h) (Classical.propDecidable _)) = true) := Lib.hid (by simp)
      have HNU : Hid (NumsOk h ↔ (decide (0 = 0) && @decide (NumsOk h) (Classical.propDecidable _)) = true) := Lib.hid (by simp)
      subst hfalse
      clear hn
      refine wp_region_ext (by kernel_rfl) (by kernel_rfl) ?_
      repeat (go_big_quiet_step ((first     | (go_at_call 123; refine calls_ext (calls_same (isOp_r h.op true HZ.out _)))     | (go_at_call 105; refine calls_ext (kindOf_any h.op HOP.out.1 HOP.out.2 _ (HOs.out _)))     | (go_at_call 124; refine calls_ext (letters_any h A ps.length c _ (HOs.out _) _ HL.out))     | (go_at_call 125; refine calls_ext (nums_any h A ps.length c HOP.out.1 HOP.out.2 _ (HOs.out _) _ HNU.out)))))
      refine wpQuiet_nil ?_
      rintro _ ⟨s, rfl⟩
      go_wp2_with fail
      go_ret
      exact ⟨rfl, HB.out.trans (s.h.mono HB.out.size)⟩
  · have hfalse : r = false := HF.out (fun hh => hop hh.1.1)
    have hz : (1 ≤ h.op ∧ h.op ≤ 6) ↔ false = true := by simpa using hop
    have HZ := Lib.hid hz
    subst hfalse
    clear hop hz
    refine wp_region_ext (by kernel_rfl) (by kernel_rfl) ?_
    repeat (go_big_quiet_step ((go_at_call 123; refine calls_ext (calls_same (isOp_r h.op false HZ.out _)))))
    refine wpQuiet_nil ?_
    rintro _ ⟨s, rfl⟩
    go_wp2_with fail
    go_ret
    exact ⟨rfl, HB.out.trans (s.h.mono HB.out.size)⟩
end Go.Proofs.YticjhkfidgkecaaGreatDoor
