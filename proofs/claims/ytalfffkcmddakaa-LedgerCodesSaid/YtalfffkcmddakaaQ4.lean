/- The document's Valid. -/
import Derived.Test.YtalfffkcmddakaaQ2
namespace Go.Proofs.Ytalfffkcmddakaa
open Go.RowKit Go.Shelf

theorem Pl.vb_bad1 {l : List Pl.En} {k : Nat} (hk : k < l.length) (h : Pl.vE l[k] = false) : Pl.vB l = false := by
  cases e : Pl.vB l
  · rfl
  · have := (Pl.vb_iff.1 e).each _ (List.getElem_mem hk)
    rw [this] at h; cases h
theorem Pl.vb_bad2 {l : List Pl.En} {k : Nat} (hk : k < l.length) (h : (Pl.fnd (l.take k) (Pl.nm l[k])).isSome = true) : Pl.vB l = false := by
  cases e : Pl.vB l
  · rfl
  · exfalso
    have hd := (Pl.vb_iff.1 e).dif
    cases hf : Pl.fnd (l.take k) (Pl.nm l[k]) with
    | none => rw [hf] at h; cases h
    | some y =>
      obtain ⟨h1, h2⟩ := Pl.fnd_some hf
      rw [← List.take_append_drop k l, List.drop_eq_getElem_cons hk, List.map_append, List.map_cons, List.nodup_append] at hd
      exact hd.2.2 _ (List.mem_map.2 ⟨y, h1, rfl⟩) _ (List.mem_cons_self ..) h2
/-- a list of valid entries whose names differ -/
structure PV (l : List Pl.En) : Prop where
  each : l.all Pl.vE = true
  dif : (l.map Pl.nm).Nodup
theorem PV.nil : PV [] := ⟨rfl, List.nodup_nil⟩
theorem PV.step {l : List Pl.En} {k : Nat} (hk : k < l.length) (h : PV (l.take k)) (hv : Pl.vE l[k] = true) (hf : (Pl.fnd (l.take k) (Pl.nm l[k])).isSome = false) : PV (l.take (k + 1)) := by
  rw [List.take_succ_eq_append_getElem hk]
  have hf' : Pl.fnd (l.take k) (Pl.nm l[k]) = none := by cases e : Pl.fnd (l.take k) (Pl.nm l[k]) <;> simp_all
  refine ⟨by rw [List.all_append, h.each]; simpa using hv, ?_⟩
  rw [← Pl.ups_new hf']
  exact Pl.ups_nodup h.dif _
theorem PV.vb {l : List Pl.En} (h : PV l) : Pl.vB l = decide (l.length ≤ 200) := by
  unfold Pl.vB
  rw [h.each, decide_eq_true h.dif]; simp
theorem take_rows {w : World} {A : Option Addr} {l : List Pl.En} (m : Nat) (h : Rows enL 4 w A l) : Rows enL 4 w A (l.take m) := by
  rcases h with rfl | ⟨b, off, e, hb, hc⟩
  · left; simp
  · refine .inr ⟨b, off, e, hb, fun i hi => ?_⟩
    have hi' : i < l.length := by rw [List.length_take] at hi; omega
    have := hc i hi'
    rwa [show (l.take m)[i] = l[i] from by simp]
theorem slice_hE (A : Option Addr) (n c m : Nat) (hm : m ≤ c) (W : World) : (Instr.slice 22 (.slice A n c) none (some (.int .i64 (m : Int))) none).run Try.prog W = .ok (.slice A m c) W := by
  have ht : Try.prog.underlying 22 = some (.slice (Try.prog.elem 22)) := by simp [Program.elem, Try.underlying22]
  rw [run_slice_h W 22 _ _ _ ht .i64 _ (by omega) (by omega)]
  have he : Try.prog.elem 22 = 24 := by simp [Program.elem, Try.underlying22]
  rw [he]
  have hz : (Go.sizeOf 24).run Try.prog W = .ok 4 W := by kernel_rfl
  rw [hz]
  cases A with
  | none => simp [Result.andThen, sliced]
  | some a => by_cases h : c = 0 <;> simp [Result.andThen, sliced, Addr.add, h]
set_option maxRecDepth 100000 in
set_option maxHeartbeats 16000000 in
theorem dvalid_any (A : Option Addr) (l : List Pl.En) (c n : Nat) (hn : l.length = n) (hnc : n ≤ c) (hm : n ≤ maxLen) (v : Bool) (hv : Pl.vB l = v) (w : World) (hI : Rows enL 4 w A l) :
    Calls Try.prog 16 #[.slice A n c] w fun e w' => e = .returned (.bool v) ∧ Below w.heap.size w w' := by
  have hm63 : n ≤ 9223372036854775807 := by unfold maxLen at hm; omega
  have HM := Lib.hid hm
  have HI := Lib.hid hI
  have HN := Lib.hid hn
  have HV := Lib.hid hv
  have HC := Lib.hid hnc
  clear hI hn hm hv hnc
  go_enter Try.func16, Try.ntmps16
  go_wp2
  go_loopw [3, 6, 9] (fun _ _ i wr => ∃ k : Nat, k ≤ n ∧ i = .int .i64 k ∧ Hid (PV (l.take k)) ∧ Below w.heap.size w wr) (fun _ _ i _ => n - (intOf i).toNat)
  case atStart => exact ⟨0, Nat.zero_le _, rfl, Lib.hid PV.nil, Below.refl _ _⟩
  case round =>
    obtain ⟨k, hk, rfl, HP, hW⟩ := hrel
    obtain ⟨wo, rfl⟩ : ∃ wo, wo = wr := ⟨_, rfl⟩
    by_cases hlt : k < n
    · have hltI : (k : Int) < (n : Int) := by omega
      have hkx : k < l.length := by rw [HN.out]; exact hlt
      have hIw := HI.out.below hW
      obtain ⟨bx, ox, rfl, hbx, hcx⟩ := HI.out.open (by omega)
      have hr := row_at hbx hcx hW hkx
      have HBad1 := Lib.hid (fun h => (Pl.vb_bad1 hkx h).symm.trans HV.out)
      have HBad2 := Lib.hid (fun h => (Pl.vb_bad2 hkx h).symm.trans HV.out)
      have HStep := Lib.hid (fun h1 h2 => PV.step hkx HP.out h1 h2)
      have HT := Lib.hid (take_rows k hIw)
      have HTL : Hid ((l.take k).length = k) := Lib.hid (by rw [List.length_take]; omega)
      clear hcx hIw
      generalize l[k] = y at *
      have bz := Blk.new wo 24 (#[.int .i64 0, .int .i64 0, .int .i64 0, .int .i64 0])
      have HW := Lib.hid hW
      clear hW
      obtain ⟨u, hu⟩ : ∃ u, Pl.vE y = u := ⟨_, rfl⟩
      have HE := Lib.hid (fun W => dventry_b y u hu W)
      have HU := Lib.hid hu
      clear hu
      cases u
      case false =>
        have HF : Hid (v = false) := Lib.hid (HBad1.out HU.out).symm
        go_wp2_with (first
          | (refine st_en (k := y) bz rfl rfl _ _ rfl rfl rfl ?_
             intro w3 bY hO3
             have hb3 : Below wo.heap.size wo w3 := ((Below.refl wo.heap.size wo).alloc (Nat.le_refl _) (.cells (#[.int .i64 0, .int .i64 0, .int .i64 0, .int .i64 0]) 24)).trans (hO3.below (Nat.le_refl _))
             have hr7 := bY.range
             have HW3 := Lib.hid (HW.out.trans (hb3.mono HW.out.size))
             clear bz hO3 hb3)
          | refine ldm_en hr rfl _ rfl rfl ?_
          | refine ldm_en hr7 rfl _ rfl rfl ?_)
        refine (HE.out w3).mono ?_
        rintro e w4 ⟨rfl, hb4⟩
        have HW4 := Lib.hid (HW3.out.trans (hb4.mono HW3.out.size))
        clear hb4 hr7 hr bY
        go_wp2
        go_ret
        exact ⟨by rw [HF.out]; rfl, HW4.out⟩
      case true =>
        obtain ⟨s, hs⟩ : ∃ s, (Pl.fnd (l.take k) (Pl.nm y)).isSome = s := ⟨_, rfl⟩
        obtain ⟨g0, hg0⟩ : ∃ g, (Pl.fnd (l.take k) (Pl.nm y)).getD Pl.z0 = g := ⟨_, rfl⟩
        have HFind : Hid (∀ W, Below wo.heap.size wo W → Calls Try.prog 53 #[.slice (some ⟨bx, ox, none⟩) k c, .agg (enA y)] W fun e w' => e = .returned (.tuple #[.agg (enA g0), .bool s]) ∧ Below W.heap.size W w') := Lib.hid (fun W hW => by
          rw [← hs, ← hg0]
          exact dfind_any _ (l.take k) c k HTL.out (by have := HM.out; omega) y W (HT.out.below hW))
        have HS := Lib.hid hs
        have hsl := fun W => slice_hE (some ⟨bx, ox, none⟩) n c k (by have := HC.out; omega) W
        clear hs hg0
        go_wp2_with (first
          | (refine st_en (k := y) bz rfl rfl _ _ rfl rfl rfl ?_
             intro w3 bY hO3
             have hb3 : Below wo.heap.size wo w3 := ((Below.refl wo.heap.size wo).alloc (Nat.le_refl _) (.cells (#[.int .i64 0, .int .i64 0, .int .i64 0, .int .i64 0]) 24)).trans (hO3.below (Nat.le_refl _))
             have HB3 := Lib.hid hb3
             have hr7 := bY.range
             have HW3 := Lib.hid (HW.out.trans (hb3.mono HW.out.size))
             clear bz hO3 hb3)
          | refine ldm_en hr rfl _ rfl rfl ?_
          | refine ldm_en hr7 rfl _ rfl rfl ?_)
        refine (HE.out w3).mono ?_
        rintro e w4 ⟨rfl, hb4⟩
        have HW4 := Lib.hid (HW3.out.trans (hb4.mono HW3.out.size))
        have HB4 := Lib.hid (HB3.out.trans (hb4.mono HB3.out.size))
        have bY4 := bY.below hb4 bY.lt
        clear hb4 hr7 hr bY HW3 HB3
        go_wp2
        generalize wo.heap.size = g at *
        refine wp_region_held (S := fun W => Blk W g 24 (enA y)) (by kernel_rfl) ?_
        change wpAnyH _ _ _ _ _ _ _ _ (World.drew _)
        have hS := bY4.drew
        have HW5 : Hid (Below w.heap.size w w4.drew) := Lib.hid HW4.out.drew
        have HB5 : Hid (Below g wo w4.drew) := Lib.hid HB4.out.drew
        clear bY4 HW4 HB4
        generalize w4.drew = W at *
        refine wpAnyH_take (i := 0) (v := ?_) rfl (by kernel_rfl) (by decide +kernel) (by decide +kernel) (fun _ _ _ h => h) (Or.inl ⟨by rfl, ?_⟩) hS ?_
        rotate_left
        · intro w' hS; first | (go_simp; done) | (go_simp; with_reducible rfl)
        refine wpAnyH_take (i := 1) (v := ?_) rfl (by kernel_rfl) (by decide +kernel) (by decide +kernel) (fun _ _ _ h => h) (Or.inl ⟨by rfl, ?_⟩) hS ?_
        rotate_left
        · intro w' hS; first | (go_simp; done) | (go_simp; with_reducible rfl)
        refine wpAnyH_take (i := 2) (v := ?_) rfl (by kernel_rfl) (by decide +kernel) (by decide +kernel) (fun _ _ _ h => h) (Or.inl ⟨by rfl, ?_⟩) hS ?_
        rotate_left
        · intro w' hS; first | (go_simp; done) | (go_simp; with_reducible rfl)
        refine wpAnyH_take (i := 3) (v := ?_) rfl (by kernel_rfl) (by decide +kernel) (by decide +kernel) (fun _ _ _ h => h) (Or.inl ⟨by rfl, ?_⟩) hS ?_
        rotate_left
        · intro w' hS; have e0 := hS.cell 0; have e1 := hS.cell 1; have e2 := hS.cell 2; have e3 := hS.cell 3; first | (go_simp; done) | (go_simp; with_reducible rfl)
        refine wpAnyH_all (rs := [4, 8]) (by decide +kernel) (by simp) ?_
        intro i0 hi0
        have hi1 : i0 = 4 ∨ i0 = 8 := by simpa using hi0
        clear hi0
        rcases hi1 with rfl | rfl
        · refine wpOp_goE rfl rfl (fun K hK => ?_)
          go_simp
          refine (HFind.out _ HB5.out).mono ?_
          rintro e w5 ⟨rfl, hb5⟩
          have hS5 := hS.below hb5 hS.lt
          have hB6 := HW5.out.trans (hb5.mono HW5.out.size)
          have bz5 := Blk.new w5 24 (#[.int .i64 0, .int .i64 0, .int .i64 0, .int .i64 0])
          have HB7 := Lib.hid (hB6.alloc hB6.size (.cells (#[.int .i64 0, .int .i64 0, .int .i64 0, .int .i64 0]) 24))
          have hS7 := hS5.alloc (.cells (#[.int .i64 0, .int .i64 0, .int .i64 0, .int .i64 0]) 24)
          have hne : g ≠ w5.heap.size := by have := hS5.lt; omega
          have HGE : Hid (w.heap.size ≤ w5.heap.size) := Lib.hid hB6.size
          refine hK _ _ ⟨hS5, ?_⟩
          clear hK K
          refine wpAnyH_take (i := 5) (v := ?_) rfl (by kernel_rfl) (by decide +kernel) (by decide +kernel) (fun _ _ _ h => h) (Or.inl ⟨by rfl, ?_⟩) hS5 ?_
          rotate_left
          · intro w' hS; first | (go_simp; done) | (go_simp; with_reducible rfl)
          refine wpAnyH_take (i := 6) (v := ?_) rfl (by kernel_rfl) (by decide +kernel) (by decide +kernel) (fun _ _ _ h => h) (Or.inl ⟨by rfl, ?_⟩) hS5 ?_
          rotate_left
          · intro w' hS; first | (go_simp; done) | (go_simp; with_reducible rfl)
          refine wpAnyH_take (i := 7) (v := ?_) rfl (by kernel_rfl) (by decide +kernel) (by decide +kernel) (fun _ _ _ h => h) (Or.inl ⟨by rfl, ?_⟩) hS5 ?_
          rotate_left
          · intro w' hS; first | (go_simp; done) | (go_simp; with_reducible rfl)
          refine wpAnyH_all (rs := [8]) (by decide +kernel) (by simp) ?_
          intro i0 hi0
          obtain rfl := List.mem_singleton.1 hi0
          refine wpOp_goE rfl rfl (fun K hK => ?_)
          go_simp
          refine hK _ _ ⟨hS7, ?_⟩
          clear hK K hS5 hb5 hB6 hS
          generalize hWE : w5.alloc (.cells (#[.int .i64 0, .int .i64 0, .int .i64 0, .int .i64 0]) 24) = W7 at *
          clear hWE
          generalize w5.heap.size = g5 at *
          have hO := Only.setRow g5 W7 (enA g0)
          refine wpAnyH_all (rs := [9]) (by decide +kernel) (by simp) ?_
          intro i0 hi0
          obtain rfl := List.mem_singleton.1 hi0
          refine wpOp_goE rfl rfl (fun K hK => ?_)
          refine wp_store_row 24 _ _ rfl g5 (enA g0) rfl rfl 24 _ bz5 infoEn rfl (en_all g0) ?_
          have hS8 : Blk (W7.setRow g5 (enA g0)) g 24 (enA y) := (hO.block g hne).trans hS7
          have HW8 := Lib.hid (HB7.out.trans (hO.below HGE.out))
          refine hK _ _ ⟨hS8, ?_⟩
          clear hK K hS7 bz5 hO HB7
          generalize W7.setRow g5 (enA g0) = W8 at *
          refine wpAnyH_all (rs := [10]) (by decide +kernel) (by simp) ?_
          intro i0 hi0
          obtain rfl := List.mem_singleton.1 hi0
          refine wpOp_goE rfl rfl (fun K hK => ?_)
          go_simp
          refine hK _ _ ⟨hS8, ?_⟩
          clear hK K
          refine wpAnyH_done (by decide +kernel) ?_ _
          cases s
          case false =>
            have HST := Lib.hid (HStep.out HU.out HS.out)
            go_wp2
            go_roundw
            case rel => exact ⟨k + 1, by omega, by go_num, HST, HW8.out⟩
            case measure => simp [intOf]; omega
          case true =>
            have HF : Hid (v = false) := Lib.hid (HBad2.out HS.out).symm
            go_wp2
            go_ret
            exact ⟨by rw [HF.out]; rfl, HW8.out⟩
        · refine wpOp_goE rfl rfl (fun K hK => ?_)
          go_simp
          have bz4 := Blk.new W 24 (#[.int .i64 0, .int .i64 0, .int .i64 0, .int .i64 0])
          have hB6 := HW5.out.alloc HW5.out.size (.cells (#[.int .i64 0, .int .i64 0, .int .i64 0, .int .i64 0]) 24)
          have hB6' := HB5.out.alloc (Nat.le_of_lt hS.lt) (.cells (#[.int .i64 0, .int .i64 0, .int .i64 0, .int .i64 0]) 24)
          have hS6 := hS.alloc (.cells (#[.int .i64 0, .int .i64 0, .int .i64 0, .int .i64 0]) 24)
          have hne : g ≠ W.heap.size := by have := hS.lt; omega
          have HGE : Hid (w.heap.size ≤ W.heap.size) := Lib.hid HW5.out.size
          refine hK _ _ ⟨hS6, ?_⟩
          clear hK K
          refine wpAnyH_all (rs := [4]) (by decide +kernel) (by simp) ?_
          intro i0 hi0
          obtain rfl := List.mem_singleton.1 hi0
          refine wpOp_goE rfl rfl (fun K hK => ?_)
          go_simp
          refine (HFind.out _ hB6').mono ?_
          rintro e W7 ⟨rfl, hb5⟩
          have hS7 := hS6.below hb5 hS6.lt
          have bz5 := bz4.below hb5 bz4.lt
          have HB7 := Lib.hid (hB6.trans (hb5.mono hB6.size))
          refine hK _ _ ⟨hS7, ?_⟩
          clear hK K hS6 hb5 hB6 hS hB6' bz4
          generalize W.heap.size = g5 at *
          have hO := Only.setRow g5 W7 (enA g0)
          refine wpAnyH_take (i := 5) (v := ?_) rfl (by kernel_rfl) (by decide +kernel) (by decide +kernel) (fun _ _ _ h => h) (Or.inl ⟨by rfl, ?_⟩) hS7 ?_
          rotate_left
          · intro w' hS; first | (go_simp; done) | (go_simp; with_reducible rfl)
          refine wpAnyH_take (i := 6) (v := ?_) rfl (by kernel_rfl) (by decide +kernel) (by decide +kernel) (fun _ _ _ h => h) (Or.inl ⟨by rfl, ?_⟩) hS7 ?_
          rotate_left
          · intro w' hS; first | (go_simp; done) | (go_simp; with_reducible rfl)
          refine wpAnyH_take (i := 7) (v := ?_) rfl (by kernel_rfl) (by decide +kernel) (by decide +kernel) (fun _ _ _ h => h) (Or.inl ⟨by rfl, ?_⟩) hS7 ?_
          rotate_left
          · intro w' hS; first | (go_simp; done) | (go_simp; with_reducible rfl)
          refine wpAnyH_all (rs := [9]) (by decide +kernel) (by simp) ?_
          intro i0 hi0
          obtain rfl := List.mem_singleton.1 hi0
          refine wpOp_goE rfl rfl (fun K hK => ?_)
          refine wp_store_row 24 _ _ rfl g5 (enA g0) rfl rfl 24 _ bz5 infoEn rfl (en_all g0) ?_
          have hS8 : Blk (W7.setRow g5 (enA g0)) g 24 (enA y) := (hO.block g hne).trans hS7
          have HW8 := Lib.hid (HB7.out.trans (hO.below HGE.out))
          refine hK _ _ ⟨hS8, ?_⟩
          clear hK K hS7 bz5 hO HB7
          generalize W7.setRow g5 (enA g0) = W8 at *
          refine wpAnyH_all (rs := [10]) (by decide +kernel) (by simp) ?_
          intro i0 hi0
          obtain rfl := List.mem_singleton.1 hi0
          refine wpOp_goE rfl rfl (fun K hK => ?_)
          go_simp
          refine hK _ _ ⟨hS8, ?_⟩
          clear hK K
          refine wpAnyH_done (by decide +kernel) ?_ _
          cases s
          case false =>
            have HST := Lib.hid (HStep.out HU.out HS.out)
            go_wp2
            go_roundw
            case rel => exact ⟨k + 1, by omega, by go_num, HST, HW8.out⟩
            case measure => simp [intOf]; omega
          case true =>
            have HF : Hid (v = false) := Lib.hid (HBad2.out HS.out).symm
            go_wp2
            go_ret
            exact ⟨by rw [HF.out]; rfl, HW8.out⟩
    · obtain rfl : k = n := by omega
      have HPV : Hid (decide (k ≤ 200) = v) := Lib.hid (by
        have h := HP.out
        rw [List.take_of_length_le (by rw [HN.out]; exact Nat.le_refl _)] at h
        rw [← HV.out, h.vb, HN.out])
      clear HP HV
      by_cases h200 : k ≤ 200
      · have h2 : (k : Int) ≤ 200 := by omega
        have HT : Hid (v = true) := Lib.hid (by rw [← HPV.out]; exact decide_eq_true h200)
        go_wp2
        go_ret
        exact ⟨by rw [HT.out]; rfl, hW⟩
      · have h2 : ¬ ((k : Int) ≤ 200) := by omega
        have HT : Hid (v = false) := Lib.hid (by rw [← HPV.out]; exact decide_eq_false h200)
        go_wp2
        go_ret
        exact ⟨by rw [HT.out]; rfl, hW⟩
end Go.Proofs.Ytalfffkcmddakaa
