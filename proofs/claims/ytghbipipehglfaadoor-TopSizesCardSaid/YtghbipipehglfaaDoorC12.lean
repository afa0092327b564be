/- The program's greedy and Greedy. -/
import Derived.Test.YtghbipipehglfaaDoorC9
import Derived.Test.YtghbipipehglfaaDoorC10
namespace Go.Proofs.YtghbipipehglfaaDoor
open Go.RowKit Go.Shelf

theorem andnot_nat {a b : Nat} (ha : a < 2 ^ 40) (hb : b < 2 ^ 40) : bits BinOp.andNot IntKind.u64 (a : Int) (b : Int) = ((Pl.wo a b : Nat) : Int) := by
  have h1 : (BitVec.ofInt 64 (a : Int)).toNat = a := by
    rw [BitVec.ofInt_natCast, BitVec.toNat_ofNat]; exact Nat.mod_eq_of_lt (by omega)
  have h2 : (BitVec.ofInt 64 (b : Int)).toNat = b := by
    rw [BitVec.ofInt_natCast, BitVec.toNat_ofNat]; exact Nat.mod_eq_of_lt (by omega)
  have hw := Pl.wo_le a b
  have key : (BitVec.ofInt 64 (a : Int) &&& ~~~BitVec.ofInt 64 (b : Int)).toNat = Pl.wo a b := by
    refine Nat.eq_of_testBit_eq fun j => ?_
    rw [Pl.wo_bit, BitVec.toNat_and, Nat.testBit_and, h1, BitVec.toNat_not, h2]
    by_cases hj : j < 64
    · have := Nat.testBit_two_pow_sub_succ (x := b) (n := 64) (by omega) j
      rw [show 2 ^ 64 - 1 - b = 2 ^ 64 - (b + 1) by omega, this, decide_eq_true hj, Bool.true_and]
    · have : a.testBit j = false := Nat.testBit_lt_two_pow (Nat.lt_of_lt_of_le ha (Nat.pow_le_pow_right (by omega) (by omega)))
      rw [this]; simp
  show IntKind.u64.wrap ((BitVec.ofInt 64 (a : Int) &&& ~~~BitVec.ofInt 64 (b : Int)).toNat : Int) = _
  rw [key, IntKind.wrap_u64]
  omega
theorem count_below (x : Nat) (hx : x < 2 ^ 40) (w : World) : Calls Tryd.prog 58 #[.int .u64 x] w fun e w' => e = .returned (.int .i64 (Pl.cnt x)) ∧ Below w.heap.size w w' :=
  (count_any x hx w).mono fun _ _ ⟨h1, h2⟩ => ⟨h1, by subst h2; exact Below.refl _ _⟩

theorem StA.grew {W W' : World} {g n base : Nat} {f : Nat → Nat} {v : Value} {l : List Int} (h : StA W g n f) (hrow : W.ownsRow base 3 1 v l.length (ints l)) (hg : W.grownBy W' v.ownBlock) : StA W' g n f := by
  obtain ⟨arr, h1, h2, h3⟩ := h
  exact ⟨arr, h1.grew hrow hg (.inr (by decide)), h2, h3⟩

set_option maxRecDepth 100000 in
set_option maxHeartbeats 8000000 in
theorem greedy_any (g n c : Nat) (F : Nat → Nat) (L0 : Nat) (hn : n ≤ 20) (hF : ∀ q, F q < 2 ^ 40) (hL0 : L0 < 2 ^ 40) (hC0 : Pl.Cb F n L0) (w : World) (hst : StA w g n F) :
    Calls Tryd.prog 63 #[.slice (some ⟨g, 0, none⟩) n c, .int .u64 L0] w fun e w' => ∃ v, e = .returned v ∧ w'.ownsRow w.heap.size 3 1 v (nts (Pl.gr F n 40 L0)).length (ints (nts (Pl.gr F n 40 L0))) ∧ Below w.heap.size w w' := by
  obtain ⟨R, hR⟩ : ∃ R, [] ++ Pl.gr F n 40 L0 = R := ⟨_, rfl⟩
  rw [show Pl.gr F n 40 L0 = R from hR]
  have HR := Lib.hid hR
  have HF := Lib.hid hF
  have HC0 := Lib.hid hC0
  have HL0 := Lib.hid hL0
  have HK0 := Lib.hid (Pl.cnt_le hL0 (by omega))
  clear hR hF hC0 hL0
  go_enter Tryd.func63, Tryd.ntmps63
  go_wp2
  go_loopw [1, 5, 6, 7, 8] (fun lv tv _ _ _ wr => ∃ (f left : Nat) (out : List Nat), lv = .int .u64 left ∧ Hid (Pl.cnt left ≤ f) ∧ Hid (left < 2 ^ 40) ∧ Hid (Pl.Cb F n left) ∧ Hid (out ++ Pl.gr F n f left = R) ∧ out.length + f ≤ 40 ∧ wr.ownsRow w.heap.size 3 1 tv (nts out).length (ints (nts out)) ∧ Below w.heap.size w wr)
    (fun lv _ _ _ _ _ => Pl.cnt (intOf lv).toNat)
  case atStart => exact ⟨40, L0, [], rfl, HK0, HL0, HC0, HR, by simp, World.ownsRow_nil _ _ _ _, Below.refl _ _⟩
  case round =>
    clear HR HC0 HL0 HK0
    obtain ⟨f, left, out, rfl, hcf, hl, hcb, hr, hlen, hown, hB⟩ := hrel
    obtain ⟨wo, rfl⟩ : ∃ wo, wo = wr := ⟨_, rfl⟩
    by_cases h0 : left = 0
    · subst h0
      have HE : Hid (out = R) := Lib.hid (by rw [← hr.out, Pl.gr_zero, List.append_nil])
      go_wp2
      go_ret
      exact ⟨_, rfl, by rw [← HE.out]; exact hown, hB⟩
    · have hne : ((left : Int) != 0) = true := bne_iff_ne.2 (by omega)
      obtain ⟨hp1, hp2⟩ := hcb.out.pick (by have := hl.out; omega) h0
      have hless := hcb.out.less (by have := hl.out; omega) h0
      have hn0 : 0 < n := by omega
      obtain ⟨f', rfl⟩ : ∃ f', f = f' + 1 := ⟨f - 1, by have := hcf.out; omega⟩
      have hr2 : Hid (out ++ [Pl.pk F left n] ++ Pl.gr F n f' (Pl.wo left (F (Pl.pk F left n))) = R) := Lib.hid (by rw [← hr.out, Pl.gr_step h0, List.append_assoc]; rfl)
      have HP := Lib.hid hp1
      have HLS := Lib.hid hless
      have hsto := hst.below hB hst.lt
      have hgl := hsto.lt
      have HOWN := Lib.hid hown
      clear hr h0 hp1 hp2 hless hown
      go_wp2
      go_loopw [6, 7, 8, 13] (fun b _ _ i wr => ∃ k : Nat, k ≤ n ∧ i = .int .i64 k ∧ (∃ p : Nat, b = .int .i64 p ∧ p < n ∧ Hid (p = Pl.pk F left k)) ∧ Below wo.heap.size wo wr) (fun _ _ _ i _ => n - (intOf i).toNat)
      case atStart => exact ⟨0, Nat.zero_le _, rfl, ⟨0, rfl, hn0, Lib.hid rfl⟩, Below.refl _ _⟩
      case round =>
        obtain ⟨k, hk, rfl, ⟨p, rfl, hpn, hpk⟩, hB2⟩ := hrel
        obtain ⟨wp, rfl⟩ : ∃ wp, wp = wr := ⟨_, rfl⟩
        by_cases hkn : k < n
        · have hs2 := hsto.below hB2 hgl
          have q1 := hs2.cell hkn
          have q2 := hs2.cell hpn
          have a1 := and_nat (HF.out k) (show left < 2 ^ 60 by have := hl.out; omega)
          have a2 := and_nat (HF.out p) (show left < 2 ^ 60 by have := hl.out; omega)
          have C1 := Lib.hid (fun w => count_below (F k &&& left) (and_40 (HF.out k)) w)
          have C2 := Lib.hid (fun w => count_below (F p &&& left) (and_40 (HF.out p)) w)
          have HS : Hid (Pl.pk F left (k + 1) = if Pl.nw F left p < Pl.nw F left k then k else p) := Lib.hid (by rw [hpk.out]; rfl)
          have HN1 : Hid (Pl.nw F left k = Pl.cnt (F k &&& left)) := Lib.hid rfl
          have HN2 : Hid (Pl.nw F left p = Pl.cnt (F p &&& left)) := Lib.hid rfl
          generalize Pl.nw F left k = n1 at *
          generalize Pl.nw F left p = n2 at *
          rw [← HN1.out] at C1
          rw [← HN2.out] at C2
          clear HN1 HN2 hs2
          generalize hx1 : F k &&& left = x1 at a1 C1
          generalize hx2 : F p &&& left = x2 at a2 C2
          clear hx1 hx2
          generalize hfk : F k = y1 at q1 a1
          generalize hfp : F p = y2 at q2 a2
          clear hfk hfp
          have z1 := fun e : Ext wp => e.cell q2
          by_cases hlt : n2 < n1
          · have HD : Hid (decide (n2 < n1) = true) := Lib.hid (decide_eq_true hlt)
            have HNX : Hid (k = Pl.pk F left (k + 1)) := Lib.hid (by rw [HS.out, if_pos hlt])
            clear HS hlt q2
            go_wp2
            refine wp_region_ext (by kernel_rfl) (by kernel_rfl) ?_
            repeat (go_big_quiet_step ((go_at_call 58; first | (with_reducible refine calls_ext (C1.out _)) | (with_reducible refine calls_ext (C2.out _)))))
            refine wpQuiet_nil ?_
            rintro _ ⟨e, rfl⟩
            have hB3 := hB2.trans (e.h.mono hB2.size)
            generalize e.w = W2 at *
            clear z1 e hB2 C1 C2
            rw [HD.out]
            go_wp2
            go_roundw
            case rel => exact ⟨k + 1, by omega, by go_num, ⟨k, rfl, hkn, HNX⟩, hB3⟩
            case measure => simp [intOf]; omega
          · have HD : Hid (decide (n2 < n1) = false) := Lib.hid (decide_eq_false hlt)
            have HNX : Hid (p = Pl.pk F left (k + 1)) := Lib.hid (by rw [HS.out, if_neg hlt])
            clear HS hlt q2
            go_wp2
            refine wp_region_ext (by kernel_rfl) (by kernel_rfl) ?_
            repeat (go_big_quiet_step ((go_at_call 58; first | (with_reducible refine calls_ext (C1.out _)) | (with_reducible refine calls_ext (C2.out _)))))
            refine wpQuiet_nil ?_
            rintro _ ⟨e, rfl⟩
            have hB3 := hB2.trans (e.h.mono hB2.size)
            generalize e.w = W2 at *
            clear z1 e hB2 C1 C2
            rw [HD.out]
            go_wp2
            go_roundw
            case rel => exact ⟨k + 1, by omega, by go_num, ⟨p, rfl, hpn, HNX⟩, hB3⟩
            case measure => simp [intOf]; omega
        · obtain rfl : k = n := by omega
          have hs2 := hsto.below hB2 hgl
          have q2 := hs2.cell hpn
          have a3 := andnot_nat hl.out (HF.out p)
          have hownp := own_keep HOWN.out hB2
          have hB3 := hB.trans (hB2.mono hB.size)
          obtain ⟨A1, c1, hv1, hI1, _⟩ := own_list hownp
          have hr3 : Hid (out ++ [p] ++ Pl.gr F k f' (Pl.wo left (F p)) = R) := Lib.hid (by rw [hpk.out]; exact hr2.out)
          have hcb3 := Lib.hid (hcb.out.wo (F p))
          have hl3 : Hid (Pl.wo left (F p) < 2 ^ 40) := Lib.hid (Nat.lt_of_le_of_lt (Pl.wo_le _ _) hl.out)
          have hls3 : Hid (Pl.cnt (Pl.wo left (F p)) < Pl.cnt left) := Lib.hid (by rw [hpk.out]; exact HLS.out)
          have hcf3 : Hid (Pl.cnt (Pl.wo left (F p)) ≤ f') := Lib.hid (by have := hcf.out; have := hls3.out; omega)
          generalize Pl.wo left (F p) = left3 at *
          clear hr2 HLS HP hcb hcf hl HOWN hsto hB2
          go_wp2_with (at_builtin; refine ap_int (n := (p : Int)) (hownp.alloc _) rfl _ _ rfl rfl _ rfl ((Blk.new _ _ _).cell 0) (by rw [nts_len]; omega) (by have := hB3.size; simp; omega) ?_; intro v2 w2 hown2 hg2; have hB4 := (hB3.alloc hB3.size _).grown hg2 (by have := hB3.size; simp; omega) (fun s e => (hownp.lt s e).1); rw [← nts_snoc] at hown2; have q3 := (StA.grew (hs2.alloc _) (hownp.alloc _) hg2).cell hpn)
          go_roundw
          case rel => exact ⟨f', left3, out ++ [p], rfl, hcf3, hl3, hcb3, hr3, by simp; omega, hown2, hB4⟩
          case measure => simpa [intOf] using hls3.out
end Go.Proofs.YtghbipipehglfaaDoor
