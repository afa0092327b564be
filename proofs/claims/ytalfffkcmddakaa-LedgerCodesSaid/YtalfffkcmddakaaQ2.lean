/- The document's find. -/
import Derived.Test.YtalfffkcmddakaaQ1
import Derived.Test.YtalfffkcmddakaaE3
namespace Go.Proofs.Ytalfffkcmddakaa
open Go.RowKit Go.Shelf

theorem results_cell2 {P : Program} {fn : Func} {p q : Tmp} {ty : TypeId} (h : fn.results = #[.cell p ty, .tmp q]) (tmps : Array Value) (w : World) (g : Nat) (t : TypeId) (cs : Array Value) (fr : Nat × Nat) (d : TypeDesc)
    (hp : tmps.getD p undef = .pointer (some ⟨g, 0, none⟩)) (hg : w.heap[g]? = some (.cells cs t fr)) (v : Value) (hq : tmps.getD q undef = v)
    (hu : P.underlying ty = some d) (hd : (match d with | .struct _ | .array _ _ => true | _ => false) = true) (hi : (P.info? ty).map (·.size) = some cs.size) :
    (results fn tmps).run P w = .ok (.tuple #[.agg cs, v]) w := by
  have hp' : tmps[p]?.getD undef = .pointer (some ⟨g, 0, none⟩) := by simpa using hp
  have hq' : tmps[q]?.getD undef = v := by simpa using hq
  have hl := run_loadVar_row w g t ty cs fr d hg hu hd hi
  simp [results, h, hp', hq', asAddr, hl]
theorem Pl.fnd_hit {l : List Pl.En} {m : Pl.Nm} {k : Nat} (hk : k < l.length) (h : Pl.fnd (l.take k) m = none) (he : Pl.nm l[k] = m) : Pl.fnd l m = some l[k] := by
  conv => lhs; rw [← List.take_append_drop k l]
  rw [Pl.fnd_append, h, Option.none_or, List.drop_eq_getElem_cons hk]
  unfold Pl.fnd
  rw [List.find?_cons_of_pos (by simpa using he)]
theorem Pl.fnd_step {l : List Pl.En} {m : Pl.Nm} {k : Nat} (hk : k < l.length) (h : Pl.fnd (l.take k) m = none) (he : Pl.nm l[k] ≠ m) : Pl.fnd (l.take (k + 1)) m = none := by
  rw [List.take_succ_eq_append_getElem hk, Pl.fnd_append, h, Option.none_or, Pl.fnd_one, if_neg he]
set_option maxRecDepth 100000 in
set_option maxHeartbeats 8000000 in
theorem dfind_any (A : Option Addr) (l : List Pl.En) (c n : Nat) (hn : l.length = n) (hm : n ≤ maxLen) (x : Pl.En) (w : World) (hI : Rows enL 4 w A l) :
    Calls Try.prog 53 #[.slice A n c, .agg (enA x)] w fun e w' => e = .returned (.tuple #[.agg (enA ((Pl.fnd l (Pl.nm x)).getD Pl.z0)), .bool (Pl.fnd l (Pl.nm x)).isSome]) ∧ Below w.heap.size w w' := by
  have hm63 : n ≤ 9223372036854775807 := by unfold maxLen at hm; omega
  have hB := ((Below.refl w.heap.size w).alloc (Nat.le_refl _) (.cells (enA x) 24)).alloc (by simp) (.cells (enA Pl.z0) 24)
  have bX := (Blk.new w 24 (enA x)).alloc (.cells (enA Pl.z0) 24)
  have bR := Blk.new (w.alloc (.cells (enA x) 24)) 24 (enA Pl.z0)
  simp only [World.size_alloc] at bR
  have HI := Lib.hid hI
  have HN := Lib.hid hn
  obtain ⟨F, hF⟩ : ∃ F, Pl.fnd l (Pl.nm x) = F := ⟨_, rfl⟩
  have HF := Lib.hid hF
  rw [hF]
  have z0 : enA Pl.z0 = #[.int .i64 0, .int .i64 0, .int .i64 0, .int .i64 0] := rfl
  clear hI hn hF hm
  go_enter Try.func53, Try.ntmps53
  go_wp2
  go_loopw [10] (fun i wr => ∃ k : Nat, k ≤ n ∧ i = .int .i64 k ∧ Hid (Pl.fnd (l.take k) (Pl.nm x) = none) ∧ Blk wr w.heap.size 24 (enA x) ∧ Blk wr (w.heap.size + 1) 24 (enA Pl.z0) ∧ Below w.heap.size w wr) (fun i _ => n - (intOf i).toNat)
  case atStart => exact ⟨0, Nat.zero_le _, rfl, Lib.hid rfl, bX, bR, hB⟩
  case round =>
    clear bX bR hB
    obtain ⟨k, hk, rfl, HS, bX, bR, hW⟩ := hrel
    obtain ⟨wo, rfl⟩ : ∃ wo, wo = wr := ⟨_, rfl⟩
    by_cases hlt : k < n
    · have hltI : (k : Int) < (n : Int) := by omega
      have hkx : k < l.length := by rw [HN.out]; exact hlt
      obtain ⟨bx, ox, rfl, hbx, hcx⟩ := HI.out.open (by omega)
      have hr := row_at hbx hcx hW hkx
      have HHit := Lib.hid (fun h => Pl.fnd_hit hkx HS.out (m := Pl.nm x) h)
      have HSt := Lib.hid (fun h => Pl.fnd_step hkx HS.out (m := Pl.nm x) h)
      clear hcx
      generalize l[k] = y at *
      have bz := Blk.new wo 24 (#[.int .i64 0, .int .i64 0, .int .i64 0, .int .i64 0])
      have HX := Lib.hid bX
      have HR := Lib.hid bR
      have HW := Lib.hid hW
      clear bX bR hW HS
      obtain ⟨v, hv⟩ : ∃ v, decide (Pl.nm y = Pl.nm x) = v := ⟨_, rfl⟩
      have HL := Lib.hid (fun W => like_b y x v hv W)
      have HVV := Lib.hid hv
      clear hv
      cases v
      case false =>
        have HST : Hid (Pl.fnd (l.take (k + 1)) (Pl.nm x) = none) := Lib.hid (HSt.out (of_decide_eq_false HVV.out))
        go_wp2_with (first
          | (refine st_en (k := y) bz rfl rfl _ _ rfl rfl rfl ?_
             intro w3 bY hO3
             have hb3 : Below wo.heap.size wo w3 := ((Below.refl wo.heap.size wo).alloc (Nat.le_refl _) (.cells (#[.int .i64 0, .int .i64 0, .int .i64 0, .int .i64 0]) 24)).trans (hO3.below (Nat.le_refl _))
             have hr7 := bY.range
             have HX3 := Lib.hid (HX.out.below hb3 HX.out.lt)
             have HR3 := Lib.hid (HR.out.below hb3 HR.out.lt)
             have hrx := HX3.out.range
             have HW3 := Lib.hid (HW.out.trans (hb3.mono HW.out.size))
             clear bz hO3 hb3)
          | refine ldm_en hr rfl _ rfl rfl ?_
          | refine ldm_en hr7 rfl _ rfl rfl ?_
          | refine ldm_en hrx rfl _ rfl rfl ?_)
        refine (HL.out w3).mono ?_
        rintro e w4 ⟨rfl, hb4⟩
        have HX4 := Lib.hid (HX3.out.below hb4 HX3.out.lt)
        have HR4 := Lib.hid (HR3.out.below hb4 HR3.out.lt)
        have HW4 := Lib.hid (HW3.out.trans (hb4.mono HW3.out.size))
        clear hb4 hr7 hrx hr bY
        go_wp2
        go_roundw
        case rel => exact ⟨k + 1, by omega, by go_num, HST, HX4.out, HR4.out, HW4.out⟩
        case measure => simp [intOf]; omega
      case true =>
        have HH : Hid (F = some y) := Lib.hid (by rw [← HF.out]; exact HHit.out (of_decide_eq_true HVV.out))
        go_wp2_with (first
          | (refine st_en (k := y) bz rfl rfl _ _ rfl rfl rfl ?_
             intro w3 bY hO3
             have hb3 : Below wo.heap.size wo w3 := ((Below.refl wo.heap.size wo).alloc (Nat.le_refl _) (.cells (#[.int .i64 0, .int .i64 0, .int .i64 0, .int .i64 0]) 24)).trans (hO3.below (Nat.le_refl _))
             have hr7 := bY.range
             have HX3 := Lib.hid (HX.out.below hb3 HX.out.lt)
             have HR3 := Lib.hid (HR.out.below hb3 HR.out.lt)
             have hrx := HX3.out.range
             have HW3 := Lib.hid (HW.out.trans (hb3.mono HW.out.size))
             clear bz hO3 hb3)
          | refine ldm_en hr rfl _ rfl rfl ?_
          | refine ldm_en hr7 rfl _ rfl rfl ?_
          | refine ldm_en hrx rfl _ rfl rfl ?_)
        refine (HL.out w3).mono ?_
        rintro e w4 ⟨rfl, hb4⟩
        have bR4 := HR3.out.below hb4 HR3.out.lt
        have hW4 := HW3.out.trans (hb4.mono HW3.out.size)
        have hr8 := (bY.below hb4 bY.lt).range
        clear hb4 hr7 hrx hr bY
        go_wp2_with (first | refine ldm_en hr8 rfl _ rfl rfl ?_ | (refine st_en (k := y) bR4 rfl rfl _ _ rfl rfl rfl ?_; intro w9 hM9 hO9))
        have hB9 := hW4.trans (hO9.below (B := w.heap.size) (Nat.le_succ _))
        rw [HH.out]
        exact bodyPost_ret (v := .tuple #[.agg (enA y), .bool true]) (results_cell2 Try.results53 _ _ (w.heap.size + 1) 24 (enA y) (0, 0) _ rfl hM9 _ rfl Try.underlying24 rfl infoEn) rfl ⟨rfl, hB9⟩
    · obtain rfl : k = n := by omega
      have HH : Hid (F = none) := Lib.hid (by rw [← HF.out]; have := HS.out; rwa [List.take_of_length_le (by rw [HN.out]; exact Nat.le_refl _)] at this)
      go_wp2_with (refine st_en (k := Pl.z0) bR rfl rfl _ _ rfl rfl rfl ?_; intro w9 hM9 hO9)
      have hB9 := hW.trans (hO9.below (B := w.heap.size) (Nat.le_succ _))
      rw [HH.out]
      exact bodyPost_ret (v := .tuple #[.agg (enA Pl.z0), .bool false]) (results_cell2 Try.results53 _ _ (w.heap.size + 1) 24 (enA Pl.z0) (0, 0) _ rfl hM9 _ rfl Try.underlying24 rfl infoEn) rfl ⟨rfl, hB9⟩
end Go.Proofs.Ytalfffkcmddakaa
