import Derived.Test.YthabpgclnbmnpaaGreatDoorL4
import Derived.Test.YthabpgclnbmnpaaGreatDoorH6
namespace Go.Proofs.YthabpgclnbmnpaaGreatDoor
open Go.RowKit Go.Shelf

theorem own_nil (w : World) : w.ownsRow w.heap.size 42 2 (.slice none 0 0) ([] : List Geo.XY).length (flat []) := World.ownsRow_nil _ _ _ _
theorem own_nil' (w : World) (B : Nat) : w.ownsRow B 42 2 (.slice none 0 0) ([] : List Geo.XY).length (flat []) := World.ownsRow_nil _ _ _ _

/-- if l is an outline: its canonical form; otherwise an error -/
noncomputable def canonV (l : List Geo.XY) : List Geo.XY × Int := if validB l = true then (Geo.canon l, 0) else ([], 10)
theorem canonV_ok {l : List Geo.XY} (h : validB l = true) : canonV l = (Geo.canon l, 0) := if_pos h
theorem canonV_no {l : List Geo.XY} (h : validB l = false) : canonV l = ([], 10) := by unfold canonV; rw [h]; rfl
noncomputable def sameV (o p : List Geo.XY) : Bool × Int := if validB o = true ∧ validB p = true then (eqB (Geo.canon o) (Geo.canon p), 0) else (false, 10)
theorem sameV_ok {o p : List Geo.XY} (h : validB o = true ∧ validB p = true) : sameV o p = (eqB (Geo.canon o) (Geo.canon p), 0) := if_pos h
theorem sameV_no {o p : List Geo.XY} (h : ¬ (validB o = true ∧ validB p = true)) : sameV o p = (false, 10) := if_neg h

/-- what an outline's list looks like in memory -/
theorem pts_open {W : World} {A : Option Addr} {l : List Geo.XY} (h : Pts W A l) (h0 : 0 < l.length) : ∃ b off, A = some ⟨b, off, none⟩ ∧ b < W.heap.size ∧ ∀ k, k < l.length → W.cell? ⟨b, off + k * 2, none⟩ = some (.int .i64 (Geo.X l k).1) ∧ W.cell? ⟨b, off + k * 2 + 1, none⟩ = some (.int .i64 (Geo.X l k).2) := by
  rcases h with h | ⟨b, off, rfl, hb, hc⟩
  · subst h; simp at h0
  · exact ⟨b, off, rfl, hb, hc⟩

theorem canon_len64 {l : List Geo.XY} (h : Valid l) : (Geo.canon l).length ≤ 64 := by rw [Geo.canon_length]; exact h.2.1

theorem dcanon_p (A : Option Addr) (l : List Geo.XY) (c : Nat) (h0 : 0 < l.length) (h64 : l.length ≤ 64) (hcap : l.length ≤ c) (w : World) (hP : Pts w A l) :
    Calls Tryz.prog 14 #[.slice A l.length c] w fun e w' => ∃ v, e = .returned v ∧ w'.ownsRow w.heap.size 42 2 v (Geo.canon l).length (flat (Geo.canon l)) ∧ Below w.heap.size w w' := by
  obtain ⟨b, off, rfl, hb, hc⟩ := pts_open hP h0
  exact canonical_any b off c l h0 h64 hcap w hb hc
theorem rcanon_p (A : Option Addr) (l : List Geo.XY) (c : Nat) (h0 : 0 < l.length) (h64 : l.length ≤ 64) (_hcap : l.length ≤ c) (w : World) (hP : Pts w A l) :
    Calls Tryz.prog 19 #[.slice A l.length c] w fun e w' => ∃ v, e = .returned v ∧ w'.ownsRow w.heap.size 42 2 v (Geo.canon l).length (flat (Geo.canon l)) ∧ Below w.heap.size w w' := by
  obtain ⟨b, off, rfl, hb, hc⟩ := pts_open hP h0
  exact turnlist_any b off c l h0 h64 w hb hc

set_option maxHeartbeats 1000000 in
theorem dcanonical (A : Option Addr) (l : List Geo.XY) (c : Nat) (w : World) (hP : Pts w A l) (hcap : l.length ≤ c) :
    Calls Tryz.prog 8 #[.slice A l.length c] w fun e w' => ListErr w (canonV l).1 (canonV l).2 e w' := by
  have HP := Lib.hid hP
  cases hv : validB l with
  | false =>
    have HV := Lib.hid hv
    rw [canonV_no hv]
    clear hv hP
    unfold ListErr
    go_enter Tryz.func8, Tryz.ntmps8
    go_wp2_with (go_at_call 10; refine (dvalid_b _ _ _ _ HP.out false HV.out).mono ?_; rintro e w' ⟨rfl, hb'⟩)
    go_ret2
    exact ⟨_, rfl, own_nil' _ _, hb'⟩
  | true =>
    have HV := Lib.hid hv
    have hval := valid_of hv
    have h3 := hval.1
    have h64 := hval.2.1
    rw [canonV_ok hv]
    clear hv hval hP
    unfold ListErr
    go_enter Tryz.func8, Tryz.ntmps8
    go_wp2_with fail
    refine (dvalid_b _ _ _ _ HP.out true HV.out).mono ?_
    rintro e w1 ⟨rfl, hb1⟩
    go_wp2_with fail
    refine (dcanon_p A l c (by omega) h64 hcap w1 (HP.out.below hb1)).mono ?_
    rintro e w2 ⟨v, rfl, hown, hb2⟩
    go_wp2
    go_ret2
    exact ⟨_, rfl, hown.mono hb1.size, hb1.trans (hb2.mono hb1.size)⟩

theorem pts_of_listerr {w w' : World} {v : Value} {ps : List Geo.XY} (h : w'.ownsRow w.heap.size 42 2 v ps.length (flat ps)) : ∃ A c, v = .slice A ps.length c ∧ Pts w' A ps := pts_of_owns h

end Go.Proofs.YthabpgclnbmnpaaGreatDoor
