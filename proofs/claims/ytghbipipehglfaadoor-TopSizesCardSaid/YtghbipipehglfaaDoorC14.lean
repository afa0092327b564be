/- The document's Greedy. -/
import Derived.Test.YtghbipipehglfaaDoorC13
namespace Go.Proofs.YtghbipipehglfaaDoor
open Go.RowKit Go.Shelf

def slLen : Value → Nat
  | .slice _ n _ => n
  | _ => 0
theorem left_bit {ss : List Pl.Sz} {hs : List Pl.Hd} {out : List Nat} {k j : Nat} (hj : j < hs.length) :
    (sets ss hs k &&& Pl.lft (sets ss hs) hs.length out).testBit j = (Pl.fit (ss.getD k Pl.zsz) (hs.getD j zhd) && !Pl.cvb ss (hs.getD j zhd) out) := by
  have hF := isF_sets ss hs
  rw [Nat.testBit_and, hF k j, Pl.lft, Pl.wo_bit, hF.bit out hj, Nat.testBit_two_pow_sub_one, decide_eq_true hj, Bool.true_and, Bool.true_and]
theorem els_count (x j : Nat) : (Pl.els x (j + 1)).length = (Pl.els x j).length + if x.testBit j = true then 1 else 0 := by
  rw [Pl.els_succ, List.length_append]
  split <;> rfl

set_option maxRecDepth 100000 in
set_option maxHeartbeats 16000000 in
theorem rGreedy_any (A B : Option Addr) (ss : List Pl.Sz) (hs : List Pl.Hd) (c d : Nat) (w : World) (c1 : ss.length ≤ c) (c2 : ss.length ≤ 9223372036854775807) (c3 : hs.length ≤ d) (c4 : hs.length ≤ 9223372036854775807) (hI : Szs w A ss) (hJ : Hds w B hs) :
    Calls Tryd.prog 26 #[.slice A ss.length c, .slice B hs.length d] w fun e w' => ∃ v, e = .returned (.tuple #[v, .int .i64 (grE ss hs)]) ∧ w'.ownsRow w.heap.size 3 1 v (nts (grL ss hs)).length (ints (nts (grL ss hs))) ∧ Below w.heap.size w w' := by
  have H1 := Lib.hid (both_any A B ss hs c d w c1 c2 c3 c4 hI hJ)
  rcases grE_three ss hs with ⟨hb, he, hl⟩ | ⟨hb, hc, he, hl⟩ | ⟨hb, hc, he, hl⟩
  · rw [he, hl]
    have hne : (bothE ss hs != 0) = true := bne_iff_ne.2 hb
    clear hb he hl
    generalize bothE ss hs = E at *
    go_enter Tryd.func26, Tryd.ntmps26
    go_wp2_with (go_at_call 41; refine H1.out.mono ?_; rintro e w1 ⟨rfl, hb1⟩)
    go_ret2
    exact ⟨_, rfl, World.ownsRow_nil _ _ _ _, hb1⟩
  · obtain ⟨⟨s1, s2⟩, ⟨h1, h2⟩⟩ := bothE_ok hb
    rw [he, hl]
    rw [hb] at H1
    have HA := Lib.hid (fun w => rall_any ss.length (by omega) w)
    have HC := Lib.hid (fun (Al : Option Addr) (cl : Nat) (w' : World) (hbb : Below w.heap.size w w') (hL : Ints w' Al (nts (List.range ss.length))) =>
      rcovers_any A B Al ss hs (nts (List.range ss.length)) c d cl w' s2 h2 (nts_bd (fun i hi => List.mem_range.1 hi)) (by rw [nts_len]; simp; omega) h1 (hI.below hbb) (hJ.below hbb) hL)
    rw [nats_nts, hc] at HC
    clear hb he hl hI hJ hc s2 h2
    generalize nts (List.range ss.length) = L at *
    go_enter Tryd.func26, Tryd.ntmps26
    go_wp2_with (first
      | (go_at_call 41; refine H1.out.mono ?_; rintro e w1 ⟨rfl, hb1⟩)
      | (go_at_call 64; refine (HA.out _).mono ?_; rintro e w2 ⟨v, rfl, hown, hb2⟩; have hB2 := hb1.trans (hb2.mono hb1.size); obtain ⟨A2, c2', rfl, hI2, _⟩ := own_list hown)
      | (go_at_call 56; refine (HC.out A2 c2' _ hB2 hI2).mono ?_; rintro e w3 ⟨rfl, hb3⟩))
    go_ret2
    exact ⟨_, rfl, World.ownsRow_nil _ _ _ _, hB2.trans (hb3.mono hB2.size)⟩
  · obtain ⟨⟨s1, s2⟩, ⟨h1, h2⟩⟩ := bothE_ok hb
    rw [he, hl]
    rw [hb] at H1
    have HA := Lib.hid (fun w => rall_any ss.length (by omega) w)
    have HC := Lib.hid (fun (Al : Option Addr) (cl : Nat) (w' : World) (hbb : Below w.heap.size w w') (hL : Ints w' Al (nts (List.range ss.length))) =>
      rcovers_any A B Al ss hs (nts (List.range ss.length)) c d cl w' s2 h2 (nts_bd (fun i hi => List.mem_range.1 hi)) (by rw [nts_len]; simp; omega) h1 (hI.below hbb) (hJ.below hbb) hL)
    rw [nats_nts, hc] at HC
    have HCV := Lib.hid (fun (Al : Option Addr) (cl : Nat) (out : List Nat) (w' : World) (hbb : Below w.heap.size w w') (hL : Ints w' Al (nts out)) (ho : ∀ i ∈ out, i < ss.length) (ho2 : out.length ≤ 100) =>
      rcovers_any A B Al ss hs (nts out) c d cl w' s2 h2 (nts_bd ho) (by rw [nts_len]; omega) h1 (hI.below hbb) (hJ.below hbb) hL)
    have HCD := Lib.hid (fun (h : Pl.Hd) (hvh : Pl.vh h = true) (Al : Option Addr) (cl : Nat) (out : List Nat) (w' : World) (hbb : Below w.heap.size w w') (hL : Ints w' Al (nts out)) (ho : ∀ i ∈ out, i < ss.length) (ho2 : out.length ≤ 100) =>
      rcovered_any A Al ss h (nts out) c cl w' s2 hvh (nts_bd ho) (by rw [nts_len]; omega) (hI.below hbb) hL)
    obtain ⟨R, hR⟩ : ∃ R, [] ++ Pl.gr (sets ss hs) ss.length 40 (Pl.lft (sets ss hs) hs.length []) = R := ⟨_, rfl⟩
    rw [show Pl.gr (sets ss hs) ss.length 40 (2 ^ hs.length - 1) = R by rw [← hR, Pl.lft_nil]; rfl]
    have HR := Lib.hid hR
    have HCB := Lib.hid (fun out => Pl.cb_lft (isF_sets ss hs) hc out)
    have HLT := Lib.hid (fun out => Pl.lft_lt (sets ss hs) h1 out)
    have HZ := Lib.hid (fun out => Pl.lft_zero (isF_sets ss hs) out)
    have HSV := Lib.hid s2
    have HHV := Lib.hid h2
    have HI := Lib.hid hI
    have HJ := Lib.hid hJ
    have HK0 := Lib.hid (Pl.cnt_le (HLT.out []) (by omega))
    clear hb he hl hI hJ hc s2 h2 hR
    go_enter Tryd.func26, Tryd.ntmps26
    go_wp2_with (first
      | (go_at_call 41; refine H1.out.mono ?_; rintro e w1 ⟨rfl, hb1⟩)
      | (go_at_call 64; refine (HA.out _).mono ?_; rintro e w2 ⟨v, rfl, hown, hb2⟩; have hB2 := hb1.trans (hb2.mono hb1.size); obtain ⟨A2, c2', rfl, hI2, _⟩ := own_list hown)
      | (go_at_call 56; refine (HC.out A2 c2' _ hB2 hI2).mono ?_; rintro e w3 ⟨rfl, hb3⟩; have hB3 := hB2.trans (hb3.mono hB2.size)))
    clear H1 HA HC hI2 hb3 hB2 hb2 hb1 hown
    go_loopw [7, 8, 9, 10, 11, 12, 14] (fun tv _ _ _ _ _ _ wr => ∃ (f : Nat) (out : List Nat), slLen tv = out.length ∧ Hid (∀ i ∈ out, i < ss.length) ∧ Hid (Pl.cnt (Pl.lft (sets ss hs) hs.length out) ≤ f) ∧ Hid (out ++ Pl.gr (sets ss hs) ss.length f (Pl.lft (sets ss hs) hs.length out) = R) ∧ out.length + f ≤ 40 ∧ wr.ownsRow w.heap.size 3 1 tv (nts out).length (ints (nts out)) ∧ Below w.heap.size w wr)
      (fun tv _ _ _ _ _ _ _ => 41 - slLen tv)
    case atStart => exact ⟨40, [], rfl, Lib.hid (fun i hi => by cases hi), HK0, HR, by simp, World.ownsRow_nil _ _ _ _, hB3⟩
    case round =>
      clear HR HK0 hB3
      obtain ⟨f, out, hsl, hoB, hcf, hr, hlen, hown, hB⟩ := hrel
      obtain ⟨wo, rfl⟩ : ∃ wo, wo = wr := ⟨_, rfl⟩
      obtain ⟨A1, k1, rfl, hI1, _⟩ := own_list hown
      have HK := Lib.hid (HCV.out A1 k1 out wo hB hI1 hoB.out (by omega))
      rw [nats_nts] at HK
      have HOWN := Lib.hid hown
      have HSL := Lib.hid hsl
      clear hown hsl
      cases hcv : Pl.cv ss hs out with
      | true =>
        have HE : Hid (out = R) := Lib.hid (by rw [← hr.out, (HZ.out out).2 hcv, Pl.gr_zero, List.append_nil])
        rw [hcv] at HK
        clear hcv
        go_wp2_with (go_at_call 56; refine HK.out.mono ?_; rintro e w3 ⟨rfl, hb3⟩)
        go_ret2
        exact ⟨_, rfl, by rw [← HE.out]; exact own_keep HOWN.out hb3, hB.trans (hb3.mono hB.size)⟩
      | false =>
        have h0 : Pl.lft (sets ss hs) hs.length out ≠ 0 := fun e => by rw [(HZ.out out).1 e] at hcv; cases hcv
        rw [hcv] at HK
        have hl40 := HLT.out out
        obtain ⟨hp1, hp2⟩ := (HCB.out out).pick (by omega) h0
        have hless := (HCB.out out).less (by omega) h0
        obtain ⟨f', rfl⟩ : ∃ f', f = f' + 1 := ⟨f - 1, by have := hcf.out; omega⟩
        obtain ⟨left, hleft⟩ : ∃ left, Pl.lft (sets ss hs) hs.length out = left := ⟨_, rfl⟩
        have HBT := Lib.hid (fun k j (hj : j < hs.length) => left_bit (ss := ss) (hs := hs) (out := out) (k := k) hj)
        have HSN := Lib.hid (Pl.lft_snoc (sets ss hs) hs.length out)
        have HEL : Hid (∀ k, (Pl.els (sets ss hs k &&& left) hs.length).length = Pl.nw (sets ss hs) left k) := Lib.hid (fun k => by
          unfold Pl.nw Pl.cnt
          rw [Pl.els_lt (n := hs.length) (Nat.lt_of_le_of_lt Nat.and_le_left ((isF_sets ss hs).lt k)) (show hs.length ≤ 64 by omega)])
        rw [hleft] at hp1 hp2 hless h0 HSN
        rw [hleft] at hcf hr HBT
        have hr2 : Hid (out ++ [Pl.pk (sets ss hs) left ss.length] ++ Pl.gr (sets ss hs) ss.length f' (Pl.wo left (sets ss hs (Pl.pk (sets ss hs) left ss.length))) = R) := Lib.hid (by rw [← hr.out, Pl.gr_step h0, List.append_assoc]; rfl)
        have HP := Lib.hid hp1
        have HLS := Lib.hid hless
        clear hr h0 hp1 hp2 hless hcv hleft hl40
        go_wp2_with (go_at_call 56; refine HK.out.mono ?_; rintro e w3 ⟨rfl, hb3⟩)
        have hBw := hB.trans (hb3.mono hB.size)
        have hownw := own_keep HOWN.out hb3
        have HOWW := Lib.hid hownw
        have HIW := Lib.hid (hI1.below hb3)
        have HBW := Lib.hid hBw
        clear hb3 hB hownw hBw HOWN hI1 HK
        go_loopw [8, 9, 10, 11, 12, 14, 35] (fun b m _ _ _ _ i wr => ∃ k : Nat, k ≤ ss.length ∧ i = .int .i64 k ∧ (∃ p q : Nat, b = .int .i64 p ∧ m = .int .i64 q ∧ Hid (Pl.rbm (sets ss hs) left k = (p, q))) ∧ Below w3.heap.size w3 wr) (fun _ _ _ _ _ _ i _ => ss.length - (intOf i).toNat)
        case atStart => exact ⟨0, Nat.zero_le _, rfl, ⟨0, 0, rfl, rfl, Lib.hid rfl⟩, Below.refl _ _⟩
        case round =>
          obtain ⟨k, hk, rfl, ⟨p, q, rfl, rfl, hpq⟩, hB2⟩ := hrel
          obtain ⟨wp, rfl⟩ : ∃ wp, wp = wr := ⟨_, rfl⟩
          by_cases hkn : k < ss.length
          · obtain ⟨bz, oz, rfl, hbz, hcz⟩ : ∃ bb off, A = some ⟨bb, off, none⟩ ∧ bb < w.heap.size ∧ ∀ j, j < ss.length → w.rangeAt bb (off + j * 17) (szA (ss.getD j Pl.zsz)).toList := by
              rcases HI.out with h | ⟨bb, off, he, hb, hc⟩
              · rw [h] at hkn; simp at hkn
              · exact ⟨bb, off, he, hb, hc⟩
            have hBp := HBW.out.trans (hB2.mono HBW.out.size)
            have hcs := rangeAt_below (hcz k hkn) hbz hBp
            have hsv := Lib.hid (HSV.out k hkn)
            have HRB : Hid (Pl.rbm (sets ss hs) left (k + 1) = if q < Pl.nw (sets ss hs) left k then (k, Pl.nw (sets ss hs) left k) else (p, q)) := Lib.hid (by
              rw [Pl.rbm, hpq.out])
            have HBK := Lib.hid (HBT.out k)
            have HEK := Lib.hid (HEL.out k)
            clear hcz
            generalize ss.getD k Pl.zsz = E1 at *
            have bE : Blk (wp.alloc (.cells (szA E1) 46)) wp.heap.size 46 (szA E1) := Blk.new wp _ _
            have hB3 := hB2.alloc hB2.size (.cells (szA E1) 46)
            go_wp2_with (refine ldm_size hcs rfl _ rfl rfl ?_)
            generalize hX : sets ss hs k &&& left = X at *
            clear hX
            go_loopw [12, 14, 42] (fun n _ i wr => ∃ j : Nat, j ≤ hs.length ∧ i = .int .i64 j ∧ n = .int .i64 ((Pl.els X j).length : Nat) ∧ Blk wr wp.heap.size 46 (szA E1) ∧ Below w3.heap.size w3 wr) (fun _ _ i _ => hs.length - (intOf i).toNat)
            case atStart => exact ⟨0, Nat.zero_le _, rfl, rfl, bE, hB3⟩
            case round =>
              clear bE hB3
              obtain ⟨j, hj, rfl, rfl, bE, hB3⟩ := hrel
              obtain ⟨wq, rfl⟩ : ∃ wq, wq = wr := ⟨_, rfl⟩
              by_cases hjn : j < hs.length
              · obtain ⟨by_, oy, rfl, hby, hcy⟩ : ∃ bb off, B = some ⟨bb, off, none⟩ ∧ bb < w.heap.size ∧ ∀ j, j < hs.length → w.rangeAt bb (off + j * 6) (hdA (hs.getD j zhd)).toList := by
                  rcases HJ.out with h | ⟨bb, off, he, hb, hc⟩
                  · rw [h] at hjn; simp at hjn
                  · exact ⟨bb, off, he, hb, hc⟩
                have hBq := HBW.out.trans (hB3.mono HBW.out.size)
                have hcj := rangeAt_below (hcy j hjn) hby hBq
                have hvj := Lib.hid (HHV.out j hjn)
                have HEC := Lib.hid (els_count X j)
                rw [HBK.out j hjn] at HEC
                clear hcy
                generalize hs.getD j zhd = F1 at *
                have hbe := bE.lt
                have bE1 := bE.alloc (.cells (hdA F1) 34)
                have bF : Blk (wq.alloc (.cells (hdA F1) 34)) wq.heap.size 34 (hdA F1) := Blk.new wq _ _
                have hB4 := hB3.alloc hB3.size (.cells (hdA F1) 34)
                have r1 := bE1.range
                have r2 := bF.range
                have hbe1 := bE1.lt
                have hbf := bF.lt
                have hIq := HIW.out.below hB4
                have hBq4 := HBW.out.trans (hB4.mono HBW.out.size)
                obtain ⟨b1, hb1⟩ : ∃ b, Pl.fit E1 F1 = b := ⟨_, rfl⟩
                have HFT := Lib.hid (fun w => rfits_any E1 F1 hsv.out hvj.out w)
                rw [hb1] at HFT HEC
                obtain ⟨b2, hb2⟩ : ∃ b, Pl.cvb ss F1 out = b := ⟨_, rfl⟩
                have HCO := Lib.hid (fun (w' : World) (hbb : Below (wq.alloc (.cells (hdA F1) 34)).heap.size (wq.alloc (.cells (hdA F1) 34)) w') => HCD.out F1 hvj.out A1 k1 out w' (hBq4.trans (hbb.mono hBq4.size)) (hIq.below hbb) hoB.out (by omega))
                rw [nats_nts, hb2] at HCO
                rw [hb2] at HEC
                clear hb1 hb2 bE bF hB3 hBq4 hIq
                have hel : (Pl.els X j).length ≤ 40 := Nat.le_trans (Pl.els_len X j) (by omega)
                generalize (Pl.els X j).length = N at *
                cases b1 with
                | false =>
                  have HN : Hid ((Pl.els X (j + 1)).length = N) := Lib.hid HEC.out
                  go_wp2_with (first | refine ldm_head hcj rfl _ rfl rfl ?_ | refine ldm_size r1 rfl _ rfl rfl ?_ | refine ldm_head r2 rfl _ rfl rfl ?_ | (go_at_call 42; refine (HFT.out _).mono ?_; rintro e w6 ⟨rfl, hb6⟩; have bE6 := bE1.below hb6 hbe1; have hB6 := hB4.trans (hb6.mono hB4.size)))
                  go_roundw
                  case rel => exact ⟨j + 1, by omega, by go_num, by rw [HN.out], bE6, hB6⟩
                  case measure => simp [intOf]; omega
                | true =>
                  cases b2 with
                  | true =>
                    have HN : Hid ((Pl.els X (j + 1)).length = N) := Lib.hid HEC.out
                    go_wp2_with (first
                      | refine ldm_head hcj rfl _ rfl rfl ?_
                      | refine ldm_size r1 rfl _ rfl rfl ?_
                      | refine ldm_head r2 rfl _ rfl rfl ?_
                      | refine ldm_head r3 rfl _ rfl rfl ?_
                      | (go_at_call 42; refine (HFT.out _).mono ?_; rintro e w6 ⟨rfl, hb6⟩; have bE6 := bE1.below hb6 hbe1; have hB6 := hB4.trans (hb6.mono hB4.size); have r3 := rangeAt_below r2 hbf hb6)
                      | (go_at_call 65; refine (HCO.out _ hb6).mono ?_; rintro e w7 ⟨rfl, hb7⟩; have bE7 := bE6.below hb7 bE6.lt; have hB7 := hB6.trans (hb7.mono hB6.size)))
                    go_roundw
                    case rel => exact ⟨j + 1, by omega, by go_num, by rw [HN.out], bE7, hB7⟩
                    case measure => simp [intOf]; omega
                  | false =>
                    have HN : Hid ((Pl.els X (j + 1)).length = N + 1) := Lib.hid HEC.out
                    go_wp2_with (first
                      | refine ldm_head hcj rfl _ rfl rfl ?_
                      | refine ldm_size r1 rfl _ rfl rfl ?_
                      | refine ldm_head r2 rfl _ rfl rfl ?_
                      | refine ldm_head r3 rfl _ rfl rfl ?_
                      | (go_at_call 42; refine (HFT.out _).mono ?_; rintro e w6 ⟨rfl, hb6⟩; have bE6 := bE1.below hb6 hbe1; have hB6 := hB4.trans (hb6.mono hB4.size); have r3 := rangeAt_below r2 hbf hb6)
                      | (go_at_call 65; refine (HCO.out _ hb6).mono ?_; rintro e w7 ⟨rfl, hb7⟩; have bE7 := bE6.below hb7 bE6.lt; have hB7 := hB6.trans (hb7.mono hB6.size)))
                    go_roundw
                    case rel => exact ⟨j + 1, by omega, by go_num, by rw [HN.out]; go_num, bE7, hB7⟩
                    case measure => simp [intOf]; omega
              · obtain rfl : j = hs.length := by omega
                have hE : (Pl.els X hs.length).length = Pl.nw (sets ss hs) left k := HEK.out
                rw [hE]
                clear hE
                generalize Pl.nw (sets ss hs) left k = N at *
                by_cases hq : q < N
                · have HN : Hid (Pl.rbm (sets ss hs) left (k + 1) = (k, N)) := Lib.hid (by rw [HRB.out, if_pos hq])
                  go_wp2
                  go_roundw
                  case rel => exact ⟨k + 1, by omega, by go_num, ⟨k, N, rfl, rfl, HN⟩, hB3⟩
                  case measure => simp [intOf]; omega
                · have HN : Hid (Pl.rbm (sets ss hs) left (k + 1) = (p, q)) := Lib.hid (by rw [HRB.out, if_neg hq])
                  go_wp2
                  go_roundw
                  case rel => exact ⟨k + 1, by omega, by go_num, ⟨p, q, rfl, rfl, HN⟩, hB3⟩
                  case measure => simp [intOf]; omega
          · obtain rfl : k = ss.length := by omega
            have hp : Hid (p = Pl.pk (sets ss hs) left ss.length) := Lib.hid (by rw [← Pl.rbm_fst, hpq.out])
            have hownp := own_keep HOWW.out hB2
            have hB5 := HBW.out.trans (hB2.mono HBW.out.size)
            go_wp2_with (at_builtin; refine ap_int (n := (p : Int)) (hownp.alloc _) rfl _ _ rfl rfl _ rfl ((Blk.new _ _ _).cell 0) (by rw [nts_len]; omega) (by have := hB5.size; simp; omega) ?_; intro v2 w2 hown2 hg2; have hB6 := (hB5.alloc hB5.size _).grown hg2 (by have := hB5.size; simp; omega) (fun s e => (hownp.lt s e).1); rw [← nts_snoc] at hown2)
            go_roundw
            case rel =>
              refine ⟨f', out ++ [p], ?_, Lib.hid (fun i hi => ?_), ?_, ?_, by simp; omega, hown2, hB6⟩
              · obtain ⟨A9, c9, e9, _⟩ := own_list hown2
                rw [e9]
                simp [slLen, nts_len]
              · rcases List.mem_append.1 hi with h | h
                · exact hoB.out i h
                · obtain rfl : i = p := by simpa using h
                  rw [hp.out]; exact HP.out
              · exact Lib.hid (by rw [HSN.out, hp.out]; have := hcf.out; have := HLS.out; omega)
              · exact Lib.hid (by rw [HSN.out, hp.out]; exact hr2.out)
            case measure =>
              obtain ⟨A9, c9, e9, _⟩ := own_list hown2
              subst e9
              simp [slLen, nts_len]
              omega
end Go.Proofs.YtghbipipehglfaaDoor
