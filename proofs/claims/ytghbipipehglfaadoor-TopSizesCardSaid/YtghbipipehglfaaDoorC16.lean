/- slices.MinFunc by the comparison of Choose; Choose of the program. -/
import Derived.Test.YtghbipipehglfaaDoorC15
namespace Go.Proofs.YtghbipipehglfaaDoor
open Go.RowKit Go.Shelf

theorem choose1_b (A : Option Addr) (ss : List Pl.Sz) (h : Pl.Hd) (c bs bh i j : Nat) (hi : i < ss.length) (hj : j < ss.length) (w : World) (hv : ∀ k, k < ss.length → Pl.vsz (ss.getD k Pl.zsz) = true) (hh : Pl.vh h = true)
    (hI : Szs w A ss) (hbs : w.cell? ⟨bs, 0, none⟩ = some (.slice A ss.length c)) (hbh : Blk w bh 34 (hdA h)) :
    Calls Tryd.prog 45 #[.int .i64 i, .int .i64 j, .pointer (some ⟨bs, 0, none⟩), .pointer (some ⟨bh, 0, none⟩)] w fun e w' => e = .returned (.int .i64 (Pl.chI ss h i j)) ∧ Below w.heap.size w w' :=
  choose1_any A ss h c bs bh i j hi hj w hv hh hI hbs hbh
theorem nts_get {l : List Nat} {k : Nat} (hk : k < l.length) : (nts l).getD k 0 = (l.getD k 0 : Nat) := by
  unfold nts
  rw [List.getD_eq_getElem?_getD, List.getD_eq_getElem?_getD, List.getElem?_map, List.getElem?_eq_getElem hk]; rfl
theorem bsl_take {ss : List Pl.Sz} {h : Pl.Hd} {l : List Nat} {k m : Nat} (hk : k < l.length) (hm : Pl.bsl ss h (l.take k) = some m) : Pl.bsl ss h (l.take (k + 1)) = some (if Pl.btr ss h (l.getD k 0) m = true then l.getD k 0 else m) := by
  have e : l.take (k + 1) = l.take k ++ [l.getD k 0] := by
    rw [List.take_succ_eq_append_getElem hk, List.getD_eq_getElem?_getD, List.getElem?_eq_getElem hk]; rfl
  rw [e, Pl.bsl_snoc, hm]
  rfl

set_option maxRecDepth 100000 in
set_option maxHeartbeats 4000000 in
theorem minfn_any (A Al : Option Addr) (ss : List Pl.Sz) (h : Pl.Hd) (l : List Nat) (c cl bs bh r : Nat) (hl : ∀ i ∈ l, i < ss.length) (h20 : l.length ≤ 1000) (h0 : 0 < l.length) (hr : Pl.bsl ss h l = some r) (w : World) (hv : ∀ k, k < ss.length → Pl.vsz (ss.getD k Pl.zsz) = true) (hh : Pl.vh h = true)
    (hI : Szs w A ss) (hL : Ints w Al (nts l)) (hbs : w.cell? ⟨bs, 0, none⟩ = some (.slice A ss.length c)) (hbh : Blk w bh 34 (hdA h)) :
    Calls Tryd.prog 44 #[.slice Al l.length cl, .func (.func 45) #[] #[.pointer (some ⟨bs, 0, none⟩), .pointer (some ⟨bh, 0, none⟩)]] w fun e w' => e = .returned (.int .i64 r) ∧ Below w.heap.size w w' := by
  have hbsl : bs < w.heap.size := World.block_lt_of_cell? w _ hbs
  have HC := Lib.hid (fun (i j : Nat) (hi : i < ss.length) (hj : j < ss.length) (w' : World) (hb : Below w.heap.size w w') => choose1_b A ss h c bs bh i j hi hj w' hv hh (hI.below hb) ((hb.cell (p := ⟨bs, 0, none⟩) hbsl).trans hbs) (hbh.below hb hbh.lt))
  have eg : ∀ args w, (callFunc 45 args).run Tryd.prog w = .ok (.enter 45 args) w := enters_of Tryd.func45 (by kernel_rfl) rfl
  obtain ⟨bl, ol, rfl, hbl, hcl⟩ : ∃ bb off, Al = some ⟨bb, off, none⟩ ∧ bb < w.heap.size ∧ ∀ j, j < l.length → w.cell? ⟨bb, off + j, none⟩ = some (.int .i64 (l.getD j 0 : Nat)) := by
    rcases hL with e | ⟨bb, off, he, h1, hc⟩
    · have := congrArg List.length e
      rw [nts_len] at this; simp at this; rw [this] at h0; simp at h0
    · refine ⟨bb, off, he, h1, fun j hj => ?_⟩
      have := hc j (by rw [nts_len]; exact hj)
      rw [nts_get hj] at this; exact this
  have HCL := Lib.hid hcl
  have hc0 := hcl 0 h0
  have HLT := Lib.hid (fun k (hk : k < l.length) => hl _ (Pl.getD_in (z := 0) hk))
  have HR := Lib.hid hr
  have H0 : Hid (Pl.bsl ss h (l.take 1) = some (l.getD 0 0)) := Lib.hid (by
    have e : l.take 1 = [l.getD 0 0] := by
      match l, h0 with
      | a :: l, _ => rfl
    rw [e]; rfl)
  have h00 := HLT.out 0 h0
  clear hcl hL hI hbs hbh hv hh hl hr
  rw [Nat.add_zero] at hc0
  generalize l.getD 0 0 = a0 at *
  go_enter Tryd.func44, Tryd.ntmps44
  go_wp2
  go_loopw [5, 6] (fun m i wr => ∃ k mm : Nat, 1 ≤ k ∧ k ≤ l.length ∧ i = .int .i64 k ∧ m = .int .i64 mm ∧ mm < ss.length ∧ Hid (Pl.bsl ss h (l.take k) = some mm) ∧ Below w.heap.size w wr) (fun _ i _ => l.length - (intOf i).toNat)
  case atStart => exact ⟨1, a0, Nat.le_refl _, h0, rfl, rfl, h00, H0, Below.refl _ _⟩
  case round =>
    clear H0 hc0 h00
    obtain ⟨k, mm, hk1, hk, rfl, rfl, hmm, hm, hB⟩ := hrel
    obtain ⟨wo, rfl⟩ : ∃ wo, wo = wr := ⟨_, rfl⟩
    by_cases hlt : k < l.length
    · have hck : wo.cell? ⟨bl, ol + k, none⟩ = some (.int .i64 (l.getD k 0 : Nat)) := (hB.cell (p := ⟨bl, ol + k, none⟩) hbl).trans (HCL.out k hlt)
      have hx := HLT.out k hlt
      have HN := Lib.hid (bsl_take hlt hm.out)
      have HCK := Lib.hid (HC.out (l.getD k 0) mm hx hmm wo hB)
      have HBT := Lib.hid (Pl.chI_btr ss h (l.getD k 0) mm)
      have hbd := Pl.chI_bd ss h (l.getD k 0) mm
      generalize Pl.chI ss h (l.getD k 0) mm = C at *
      generalize l.getD k 0 = x at *
      cases hbt : Pl.btr ss h x mm with
      | true =>
        have hC : C < 0 := by have := HBT.out; rw [hbt] at this; simpa using this
        have HN2 : Hid (Pl.bsl ss h (l.take (k + 1)) = some x) := Lib.hid (by rw [HN.out, hbt]; rfl)
        clear HN HBT hbt
        go_wp2_with fail
        refine HCK.out.mono ?_
        rintro e w2 ⟨rfl, hb2⟩
        have hck2 := (hb2.cell (p := ⟨bl, ol + k, none⟩) (by have := hB.size; show bl < _; omega)).trans hck
        clear hck
        go_wp2
        go_roundw
        case rel => exact ⟨k + 1, x, by omega, by omega, by go_num, rfl, hx, HN2, hB.trans (hb2.mono hB.size)⟩
        case measure => simp [intOf]; omega
      | false =>
        have hC : ¬ C < 0 := by have := HBT.out; rw [hbt] at this; simpa using this
        have HN2 : Hid (Pl.bsl ss h (l.take (k + 1)) = some mm) := Lib.hid (by rw [HN.out, hbt]; rfl)
        clear HN HBT hbt
        go_wp2_with fail
        refine HCK.out.mono ?_
        rintro e w2 ⟨rfl, hb2⟩
        clear hck
        go_wp2
        go_roundw
        case rel => exact ⟨k + 1, mm, by omega, by omega, by go_num, rfl, hmm, HN2, hB.trans (hb2.mono hB.size)⟩
        case measure => simp [intOf]; omega
    · obtain rfl : k = l.length := by omega
      have HE : Hid (mm = r) := Lib.hid (by have := hm.out; rw [List.take_length, HR.out] at this; exact (Option.some.inj this).symm)
      go_wp2
      go_ret
      exact ⟨by rw [← HE.out]; rfl, hB⟩

/-- what Choose gives -/
def chE (ss : List Pl.Sz) (h : Pl.Hd) : Int := if bothE ss [h] = 0 then (if (Pl.bst ss h ss.length).isSome = true then 0 else 32) else bothE ss [h]
def chV (ss : List Pl.Sz) (h : Pl.Hd) : Nat := if chE ss h = 0 then (Pl.bst ss h ss.length).getD 0 else 0
theorem vhds_one (h : Pl.Hd) : Pl.vhds [h] = Pl.vh h := by
  unfold Pl.vhds Pl.vl
  simp [Pl.vl]
theorem chE_four (ss : List Pl.Sz) (h : Pl.Hd) : (Pl.vszs ss = false ∧ bothE ss [h] = 31 ∧ chE ss h = 31 ∧ chV ss h = 0) ∨ (Pl.vszs ss = true ∧ Pl.vh h = false ∧ bothE ss [h] = 30 ∧ chE ss h = 30 ∧ chV ss h = 0) ∨
    (Pl.vszs ss = true ∧ Pl.vh h = true ∧ bothE ss [h] = 0 ∧ Pl.bst ss h ss.length = none ∧ chE ss h = 32 ∧ chV ss h = 0) ∨
    (∃ r, Pl.vszs ss = true ∧ Pl.vh h = true ∧ bothE ss [h] = 0 ∧ Pl.bst ss h ss.length = some r ∧ chE ss h = 0 ∧ chV ss h = r) := by
  cases h1 : Pl.vszs ss with
  | false =>
    have e : bothE ss [h] = 31 := by unfold bothE; rw [h1]; rfl
    have e2 : chE ss h = 31 := by unfold chE; rw [e]; rfl
    exact .inl ⟨rfl, e, e2, by unfold chV; rw [e2]; rfl⟩
  | true =>
    cases h2 : Pl.vh h with
    | false =>
      have e : bothE ss [h] = 30 := by unfold bothE; rw [h1, vhds_one, h2]; rfl
      have e2 : chE ss h = 30 := by unfold chE; rw [e]; rfl
      exact .inr (.inl ⟨rfl, rfl, e, e2, by unfold chV; rw [e2]; rfl⟩)
    | true =>
      have e : bothE ss [h] = 0 := by unfold bothE; rw [h1, vhds_one, h2]; rfl
      cases h3 : Pl.bst ss h ss.length with
      | none =>
        have e2 : chE ss h = 32 := by unfold chE; rw [e, h3]; rfl
        exact .inr (.inr (.inl ⟨rfl, rfl, e, rfl, e2, by unfold chV; rw [e2]; rfl⟩))
      | some r =>
        have e2 : chE ss h = 0 := by unfold chE; rw [e, h3]; rfl
        exact .inr (.inr (.inr ⟨r, rfl, rfl, e, rfl, e2, by unfold chV; rw [e2, h3]; rfl⟩))
end Go.Proofs.YtghbipipehglfaaDoor
