/- nameOf, byName, Valid of the program. -/
import Derived.Test.YtalfffkcmddakabE1
import Derived.Test.YtalfffkcmddakabE2
import Derived.Deep.RegionHeld
import Derived.Test.YtalfffkcmddakabOpen
namespace Go.Proofs.Ytalfffkcmddakab
open Go.RowKit Go.Shelf

theorem wpOp_goE {P : Program} {ops : Array Oper} {Q : Exit → Act → World → Prop} {i : Nat} {o : Oper} {K : Act → World → Prop} {a : Act} {w : World} (ho : ops[i]? = some o) (hw : Region.wanted o (yielded ops a.tmps) = true)
    (h : ∀ K' : Act → World → Prop, (∀ a w, K a w → K' a w) → Oper.wp P o a w K' Q) : wpOp P ops Q i K a w :=
  wpOp_step ho fun K' hK' => by rw [if_pos hw]; exact h K' hK'
theorem results_cell1 {P : Program} {fn : Func} {p : Tmp} {ty : TypeId} (h : fn.results = #[.cell p ty]) (tmps : Array Value) (w : World) (g : Nat) (t : TypeId) (cs : Array Value) (fr : Nat × Nat) (d : TypeDesc)
    (hp : tmps.getD p undef = .pointer (some ⟨g, 0, none⟩)) (hg : w.heap[g]? = some (.cells cs t fr))
    (hu : P.underlying ty = some d) (hd : (match d with | .struct _ | .array _ _ => true | _ => false) = true) (hi : (P.info? ty).map (·.size) = some cs.size) :
    (results fn tmps).run P w = .ok (.agg cs) w := by
  have hp' : tmps[p]?.getD undef = .pointer (some ⟨g, 0, none⟩) := by simpa using hp
  simp [results, h, hp', asAddr, run_loadVar_row w g t ty cs fr d hg hu hd hi]
set_option maxRecDepth 100000 in
set_option maxHeartbeats 2000000 in
theorem nameof_any (x : Pl.En) (w : World) :
    Calls Try.prog 56 #[.agg (enA x)] w fun e w' => e = .returned (.agg (nmA (Pl.nm x))) ∧ Below w.heap.size w w' := by
  have hB := ((Below.refl w.heap.size w).alloc (Nat.le_refl _) (.cells (enA x) 72)).alloc (by simp) (.cells z2 101)
  have bX := (Blk.new w 72 (enA x)).alloc (.cells z2 101)
  have bZ := Blk.new (w.alloc (.cells (enA x) 72)) 101 z2
  simp only [World.size_alloc] at bZ
  have q0 := bX.cell 0
  have q1 := bX.cell 1
  have HB := Lib.hid hB
  clear hB bX
  go_enter Try.func56, Try.ntmps56
  go_wp2_with (refine st_nm (k := Pl.nm x) bZ rfl rfl _ _ rfl rfl rfl ?_; intro w9 hM9 hO9)
  have hB9 := HB.out.trans (hO9.below (B := w.heap.size) (Nat.le_succ _))
  exact bodyPost_ret (v := .agg (nmA (Pl.nm x))) (results_cell1 Try.results56 _ _ (w.heap.size + 1) 101 (nmA (Pl.nm x)) (0, 0) _ rfl hM9 Try.underlying101 rfl infoNm) rfl ⟨rfl, hB9⟩
abbrev zen : Array Value := #[.int .i64 0, .int .i64 0, .int .i64 0, .int .i64 0]
theorem Blk.ne_map {w : World} {g b n : Nat} {t : TypeId} {cs : Array Value} {S : List Pl.En} (h : Blk w g t cs) (k : MapE w b n S) : g ≠ b := fun e => by
  subst e
  obtain ⟨D, ⟨es, clock, hb, _⟩, _⟩ := k
  unfold Blk at h
  rw [h] at hb
  cases hb
set_option maxRecDepth 100000 in
set_option maxHeartbeats 8000000 in
theorem byname_any (A : Option Addr) (l : List Pl.En) (c n : Nat) (hn : l.length = n) (hm : n ≤ 1000) (hok : ∀ e, e ∈ l → OkN (Pl.nm e)) (w : World) (hI : Rows enL 4 w A l) :
    Calls Try.prog 55 #[.slice A n c] w fun e w' => e = .returned (.map (some w.heap.size)) ∧ MapE w' w.heap.size n (Pl.gm l) ∧ Below w.heap.size w w' := by
  have hB0 := (Below.refl w.heap.size w).alloc (Nat.le_refl _) (.map #[] 0)
  have hM0 := MapE.made w
  have HI := Lib.hid hI
  have HN := Lib.hid hn
  have HK := Lib.hid hok
  have HB0 := Lib.hid hB0
  have HM0 := Lib.hid hM0
  clear hI hn hok hB0 hM0
  have hmm := @run_makeMap Try.prog
  go_enter Try.func55, Try.ntmps55
  go_wp2
  clear hmm
  go_loopw [9] (fun i wr => ∃ k : Nat, k ≤ n ∧ i = .int .i64 k ∧ Hid (MapE wr w.heap.size k (Pl.gm (l.take k))) ∧ Below w.heap.size w wr) (fun i _ => n - (intOf i).toNat)
  case atStart => exact ⟨0, Nat.zero_le _, rfl, HM0, HB0.out⟩
  case round =>
    clear HM0 HB0
    obtain ⟨k, hk, rfl, HM, hB⟩ := hrel
    obtain ⟨wo, rfl⟩ : ∃ wo, wo = wr := ⟨_, rfl⟩
    by_cases hlt : k < n
    · have hltI : (k : Int) < (n : Int) := by omega
      have hkx : k < l.length := by rw [HN.out]; exact hlt
      obtain ⟨bx, ox, rfl, hbx, hcx⟩ := HI.out.open (by omega)
      have hr := row_at hbx hcx hB hkx
      have HKx := Lib.hid (HK.out l[k] (List.getElem_mem hkx))
      have HD : Hid (Pl.gm (l.take (k + 1)) = Pl.ups (Pl.gm (l.take k)) l[k]) := Lib.hid (by rw [List.take_succ_eq_append_getElem hkx, Pl.gm_snoc])
      clear hcx
      generalize l[k] = x at *
      generalize Pl.gm (l.take k) = S at *
      clear hkx
      have hBz := (Below.refl wo.heap.size wo).alloc (Nat.le_refl _) (.cells zen 72)
      have bz := Blk.new wo 72 zen
      have HBz := Lib.hid hBz
      clear hBz
      go_wp2_with (first | refine ldm_en hr rfl _ rfl rfl ?_ | (refine st_en (k := x) bz rfl rfl _ _ rfl rfl rfl ?_; intro w3 bX3 hO3))
      have hb3 : Below wo.heap.size wo w3 := HBz.out.trans (hO3.below (Nat.le_refl _))
      have HM3 := Lib.hid (HM.out.below hb3)
      have hB3 := hB.trans (hb3.mono hB.size)
      have hgm : wo.heap.size ≠ w.heap.size := by have := HM.out.lt; omega
      clear hr bz HBz hO3 hb3 HM hB
      generalize wo.heap.size = g at *
      refine wp_region_held (S := fun W => Blk W g 72 (enA x)) (by kernel_rfl) ?_
      change wpAnyH _ _ _ _ _ _ _ _ (World.drew _)
      have hS := bX3.drew
      have HM4 : Hid (MapE w3.drew w.heap.size k S) := Lib.hid HM3.out
      have hB4 : Below w.heap.size w w3.drew := hB3.drew
      clear bX3 HM3 hB3
      generalize w3.drew = W at *
      refine wpAnyH_take (i := 0) (v := ?_) rfl (by kernel_rfl) (by decide +kernel) (by decide +kernel) (fun _ _ _ h => h) (Or.inl ⟨by rfl, ?_⟩) hS ?_
      rotate_left
      · intro w' hS; first | (go_simp; done) | (go_simp; with_reducible rfl)
      refine wpAnyH_take (i := 1) (v := ?_) rfl (by kernel_rfl) (by decide +kernel) (by decide +kernel) (fun _ _ _ h => h) (Or.inl ⟨by rfl, ?_⟩) hS ?_
      rotate_left
      · intro w' hS; have e0 := hS.cell 0; have e1 := hS.cell 1; have e2 := hS.cell 2; have e3 := hS.cell 3; first | (go_simp; done) | (go_simp; with_reducible rfl)
      refine wpAnyH_take (i := 3) (v := ?_) rfl (by kernel_rfl) (by decide +kernel) (by decide +kernel) (fun _ _ _ h => h) (Or.inl ⟨by rfl, ?_⟩) hS ?_
      rotate_left
      · intro w' hS; have e0 := hS.cell 0; have e1 := hS.cell 1; have e2 := hS.cell 2; have e3 := hS.cell 3; first | (go_simp; done) | (go_simp; with_reducible rfl)
      refine wpAnyH_all (rs := [2]) (by decide +kernel) (by simp) ?_
      intro i0 hi0
      obtain rfl := List.mem_singleton.1 hi0
      refine wpOp_goE rfl rfl (fun K hK => ?_)
      go_simp
      refine (nameof_any x _).mono ?_
      rintro e w5 ⟨rfl, hb5⟩
      have hS5 := hS.below hb5 hS.lt
      have hB5 := hB4.trans (hb5.mono hB4.size)
      obtain ⟨w6, hrun, hM6, hg6⟩ := (HM4.out.below hb5).store (by unfold maxLen; omega) HKx.out
      have HM6 := Lib.hid hM6
      have hS6 : Blk w6 g 72 (enA x) := (hg6.block g hS5.lt (by simpa using hgm)).trans hS5
      have hB6 := hB5.grown hg6 hB5.size (fun k e => by cases e; exact Nat.le_refl _)
      clear hb5 HM4 hB4 hS hM6 hg6 hB5
      refine hK _ _ ⟨hS5, ?_⟩
      clear hK K
      refine wpAnyH_all (rs := [4]) (by decide +kernel) (by simp) ?_
      intro i0 hi0
      obtain rfl := List.mem_singleton.1 hi0
      refine wpOp_goE rfl rfl (fun K hK => ?_)
      go_simp
      refine hK _ _ ⟨hS6, ?_⟩
      clear hK K
      refine wpAnyH_done (by decide +kernel) ?_ _
      clear hrun hS5 hS6
      go_wp2
      go_roundw
      case rel => exact ⟨k + 1, by omega, by go_num, by rw [HD.out]; exact HM6, hB6⟩
      case measure => simp [intOf]; omega
    · obtain rfl : k = n := by omega
      have HM2 := HM.out
      rw [List.take_of_length_le (by rw [HN.out]; exact Nat.le_refl _)] at HM2
      go_wp2
      go_ret
      exact ⟨rfl, HM2, hB⟩
end Go.Proofs.Ytalfffkcmddakab
