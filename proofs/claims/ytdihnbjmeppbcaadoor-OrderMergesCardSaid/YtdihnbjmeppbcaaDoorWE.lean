/- rateOf and priceOf, of the document. -/
import Derived.Test.YtdihnbjmeppbcaaDoorWD
namespace Go.Proofs.YtdihnbjmeppbcaaDoor
open Go.RowKit Go.Shelf

/-- an index, or -1 -/
def Pl.ati : Option Nat → Int
  | none => -1
  | some j => (j : Int)


set_option maxRecDepth 100000 in
set_option maxHeartbeats 8000000 in
theorem rrateOf_b (A : Option Addr) (l : List Pl.Rt) (c m : Nat) (hm : l.length = m) (hm6 : m ≤ 1000) (hd : ∀ x, x ∈ l → 0 ≤ x.d) (n : ByteArray) (d : Int) (w : World) (hI : Rows rtL 4 w A l) :
    Calls Tryd.prog 68 #[.slice A m c, .string n, .int .i64 d] w fun e w' => e = .returned (.int .i64 (Pl.ati (Pl.lt (l.map Pl.rk) n d m))) ∧ Below w.heap.size w w' := by
  have HI := Lib.hid hI
  have HM := Lib.hid hm
  have HD := Lib.hid hd
  obtain ⟨R, hR⟩ : ∃ R, Pl.ati (Pl.lt (l.map Pl.rk) n d m) = R := ⟨_, rfl⟩
  rw [hR]
  have HRR := Lib.hid hR
  have hB0 := Below.refl w.heap.size w
  clear hI hm hd hR
  go_enter Tryd.func68, Tryd.ntmps68
  go_wp2
  go_loopw [7, 8] (fun t i wr => ∃ k : Nat, ∃ r : Option Nat, k ≤ m ∧ i = .int .i64 k ∧ t = .int .i64 (Pl.ati r) ∧ Hid (Pl.lt (l.map Pl.rk) n d k = r) ∧ Below w.heap.size w wr) (fun _ i _ => m - (intOf i).toNat)
  case atStart => exact ⟨0, none, Nat.zero_le _, rfl, rfl, Lib.hid rfl, hB0⟩
  case round =>
    obtain ⟨k, r, hk, rfl, rfl, hS, hW⟩ := hrel
    obtain ⟨wo, rfl⟩ : ∃ wo, wo = wr := ⟨_, rfl⟩
    by_cases hlt : k < m
    · have hltI : (k : Int) < (m : Int) := by omega
      have hkx : k < l.length := by rw [HM.out]; exact hlt
      obtain ⟨bx, ox, rfl, hbx, hcx⟩ := HI.out.open (by omega)
      have hr := row_at hbx hcx hW hkx
      have HCX := Lib.hid hcx
      have HST : Hid (Pl.lt (l.map Pl.rk) n d (k + 1) = if l[k].cur = n ∧ Pl.dof (l.map Pl.rk) r + 1 ≤ l[k].d ∧ l[k].d ≤ d then some k else r) := Lib.hid (by
        rw [Pl.lt_step (by rw [List.length_map]; exact hkx), List.getElem_map, hS.out]; rfl)
      have hdx := HD.out _ (List.getElem_mem hkx)
      clear hcx
      generalize l[k] = x at *
      have q0 : _ = some (Value.string x.cur) := hr 0 _ rfl
      have q1 : _ = some (Value.int .i64 x.d) := hr 1 _ rfl
      rw [Nat.add_zero] at q0
      have z0 := fun s : Ext wo => s.cell (p := ⟨bx, ox + k * 4, none⟩) q0
      have z1 := fun s : Ext wo => s.cell (p := ⟨bx, ox + k * 4 + 1, none⟩) q1
      clear hr q0 q1
      obtain ⟨b1, hb1⟩ : ∃ b, (x.cur.toList == n.toList) = b := ⟨_, rfl⟩
      have HQ : Hid (x.cur = n ↔ b1 = true) := Lib.hid (by rw [← hb1, bs_eq, decide_eq_true_iff])
      cases b1
      · have HN : Hid (Pl.lt (l.map Pl.rk) n d (k + 1) = r) := Lib.hid (by rw [HST.out, if_neg (fun h => by have := HQ.out.1 h.1; cases this)])
        go_wp2
        refine wp_region_ext (by kernel_rfl) (by kernel_rfl) ?_
        repeat (go_big_quiet_step (fail))
        refine wpQuiet_nil ?_
        rintro _ ⟨s, rfl⟩
        have hV2 := hW.trans (s.h.mono hW.size)
        go_wp2
        go_roundw
        case rel => exact ⟨k + 1, r, by omega, by go_num, rfl, HN, hV2⟩
        case measure => simp [intOf]; omega
      by_cases hxd : x.d ≤ d
      rotate_left
      · have hd2 : decide (x.d ≤ d) = false := decide_eq_false hxd
        have HN : Hid (Pl.lt (l.map Pl.rk) n d (k + 1) = r) := Lib.hid (by rw [HST.out, if_neg (fun h => hxd h.2.2)])
        go_wp2
        refine wp_region_ext (by kernel_rfl) (by kernel_rfl) ?_
        repeat (go_big_quiet_step (fail))
        refine wpQuiet_nil ?_
        rintro _ ⟨s, rfl⟩
        have hV2 := hW.trans (s.h.mono hW.size)
        go_wp2
        go_roundw
        case rel => exact ⟨k + 1, r, by omega, by go_num, rfl, HN, hV2⟩
        case measure => simp [intOf]; omega
      have hd2 : decide (x.d ≤ d) = true := decide_eq_true hxd
      cases r with
      | none =>
        have HN : Hid (Pl.lt (l.map Pl.rk) n d (k + 1) = some k) := Lib.hid (by rw [HST.out, if_pos ⟨HQ.out.2 rfl, by simp only [Pl.dof]; omega, hxd⟩])
        have ea : Pl.ati none = -1 := rfl
        rw [ea]
        go_wp2
        refine wp_region_ext (by kernel_rfl) (by kernel_rfl) ?_
        repeat (go_big_quiet_step (fail))
        refine wpQuiet_nil ?_
        rintro _ ⟨s, rfl⟩
        have hV2 := hW.trans (s.h.mono hW.size)
        go_wp2
        go_roundw
        case rel => exact ⟨k + 1, some k, by omega, by go_num, rfl, HN, hV2⟩
        case measure => simp [intOf]; omega
      | some j =>
        have hjk : j < k := Pl.lt_lt hS.out
        have hjx : j < l.length := by omega
        have hjI : (j : Int) < (m : Int) := by omega
        have hrj := row_at hbx HCX.out hW hjx
        have hdf : Pl.dof (l.map Pl.rk) (some j) = l[j].d := by rw [Pl.dof_some (by rw [List.length_map]; exact hjx), List.getElem_map]; rfl
        rw [hdf] at HST
        clear hdf
        generalize l[j] = y at *
        have r1 : _ = some (Value.int .i64 y.d) := hrj 1 _ rfl
        have y1 := fun s : Ext wo => s.cell (p := ⟨bx, ox + j * 4 + 1, none⟩) r1
        clear hrj r1
        have ea : Pl.ati (some j) = (j : Int) := rfl
        rw [ea]
        have hj0 : decide ((j : Int) < 0) = false := decide_eq_false (by omega)
        by_cases hg : x.d > y.d
        · have hd3 : decide (x.d > y.d) = true := decide_eq_true hg
          have HN : Hid (Pl.lt (l.map Pl.rk) n d (k + 1) = some k) := Lib.hid (by rw [HST.out, if_pos ⟨HQ.out.2 rfl, by omega, hxd⟩])
          go_wp2
          refine wp_region_ext (by kernel_rfl) (by kernel_rfl) ?_
          repeat (go_big_quiet_step (fail))
          refine wpQuiet_nil ?_
          rintro _ ⟨s, rfl⟩
          have hV2 := hW.trans (s.h.mono hW.size)
          go_wp2
          go_roundw
          case rel => exact ⟨k + 1, some k, by omega, by go_num, rfl, HN, hV2⟩
          case measure => simp [intOf]; omega
        · have hd3 : decide (x.d > y.d) = false := decide_eq_false hg
          have HN : Hid (Pl.lt (l.map Pl.rk) n d (k + 1) = some j) := Lib.hid (by rw [HST.out, if_neg (fun h => by omega)])
          go_wp2
          refine wp_region_ext (by kernel_rfl) (by kernel_rfl) ?_
          repeat (go_big_quiet_step (fail))
          refine wpQuiet_nil ?_
          rintro _ ⟨s, rfl⟩
          have hV2 := hW.trans (s.h.mono hW.size)
          go_wp2
          go_roundw
          case rel => exact ⟨k + 1, some j, by omega, by go_num, rfl, HN, hV2⟩
          case measure => simp [intOf]; omega
    · obtain rfl : k = m := by omega
      rw [hS.out] at HRR
      go_wp2
      go_ret
      exact ⟨by rw [← HRR.out]; rfl, hW⟩


set_option maxRecDepth 100000 in
set_option maxHeartbeats 8000000 in
theorem rpriceOf_b (A : Option Addr) (l : List Pl.Pr) (c m : Nat) (hm : l.length = m) (hm6 : m ≤ 1000) (hd : ∀ x, x ∈ l → 0 ≤ x.d) (n : ByteArray) (d : Int) (w : World) (hI : Rows prL 3 w A l) :
    Calls Tryd.prog 62 #[.slice A m c, .string n, .int .i64 d] w fun e w' => e = .returned (.int .i64 (Pl.ati (Pl.lt (l.map Pl.pk) n d m))) ∧ Below w.heap.size w w' := by
  have HI := Lib.hid hI
  have HM := Lib.hid hm
  have HD := Lib.hid hd
  obtain ⟨R, hR⟩ : ∃ R, Pl.ati (Pl.lt (l.map Pl.pk) n d m) = R := ⟨_, rfl⟩
  rw [hR]
  have HRR := Lib.hid hR
  have hB0 := Below.refl w.heap.size w
  clear hI hm hd hR
  go_enter Tryd.func62, Tryd.ntmps62
  go_wp2
  go_loopw [7, 8] (fun t i wr => ∃ k : Nat, ∃ r : Option Nat, k ≤ m ∧ i = .int .i64 k ∧ t = .int .i64 (Pl.ati r) ∧ Hid (Pl.lt (l.map Pl.pk) n d k = r) ∧ Below w.heap.size w wr) (fun _ i _ => m - (intOf i).toNat)
  case atStart => exact ⟨0, none, Nat.zero_le _, rfl, rfl, Lib.hid rfl, hB0⟩
  case round =>
    obtain ⟨k, r, hk, rfl, rfl, hS, hW⟩ := hrel
    obtain ⟨wo, rfl⟩ : ∃ wo, wo = wr := ⟨_, rfl⟩
    by_cases hlt : k < m
    · have hltI : (k : Int) < (m : Int) := by omega
      have hkx : k < l.length := by rw [HM.out]; exact hlt
      obtain ⟨bx, ox, rfl, hbx, hcx⟩ := HI.out.open (by omega)
      have hr := row_at hbx hcx hW hkx
      have HCX := Lib.hid hcx
      have HST : Hid (Pl.lt (l.map Pl.pk) n d (k + 1) = if l[k].md = n ∧ Pl.dof (l.map Pl.pk) r + 1 ≤ l[k].d ∧ l[k].d ≤ d then some k else r) := Lib.hid (by
        rw [Pl.lt_step (by rw [List.length_map]; exact hkx), List.getElem_map, hS.out]; rfl)
      have hdx := HD.out _ (List.getElem_mem hkx)
      clear hcx
      generalize l[k] = x at *
      have q0 : _ = some (Value.string x.md) := hr 0 _ rfl
      have q1 : _ = some (Value.int .i64 x.d) := hr 1 _ rfl
      rw [Nat.add_zero] at q0
      have z0 := fun s : Ext wo => s.cell (p := ⟨bx, ox + k * 3, none⟩) q0
      have z1 := fun s : Ext wo => s.cell (p := ⟨bx, ox + k * 3 + 1, none⟩) q1
      clear hr q0 q1
      obtain ⟨b1, hb1⟩ : ∃ b, (x.md.toList == n.toList) = b := ⟨_, rfl⟩
      have HQ : Hid (x.md = n ↔ b1 = true) := Lib.hid (by rw [← hb1, bs_eq, decide_eq_true_iff])
      cases b1
      · have HN : Hid (Pl.lt (l.map Pl.pk) n d (k + 1) = r) := Lib.hid (by rw [HST.out, if_neg (fun h => by have := HQ.out.1 h.1; cases this)])
        go_wp2
        refine wp_region_ext (by kernel_rfl) (by kernel_rfl) ?_
        repeat (go_big_quiet_step (fail))
        refine wpQuiet_nil ?_
        rintro _ ⟨s, rfl⟩
        have hV2 := hW.trans (s.h.mono hW.size)
        go_wp2
        go_roundw
        case rel => exact ⟨k + 1, r, by omega, by go_num, rfl, HN, hV2⟩
        case measure => simp [intOf]; omega
      by_cases hxd : x.d ≤ d
      rotate_left
      · have hd2 : decide (x.d ≤ d) = false := decide_eq_false hxd
        have HN : Hid (Pl.lt (l.map Pl.pk) n d (k + 1) = r) := Lib.hid (by rw [HST.out, if_neg (fun h => hxd h.2.2)])
        go_wp2
        refine wp_region_ext (by kernel_rfl) (by kernel_rfl) ?_
        repeat (go_big_quiet_step (fail))
        refine wpQuiet_nil ?_
        rintro _ ⟨s, rfl⟩
        have hV2 := hW.trans (s.h.mono hW.size)
        go_wp2
        go_roundw
        case rel => exact ⟨k + 1, r, by omega, by go_num, rfl, HN, hV2⟩
        case measure => simp [intOf]; omega
      have hd2 : decide (x.d ≤ d) = true := decide_eq_true hxd
      cases r with
      | none =>
        have HN : Hid (Pl.lt (l.map Pl.pk) n d (k + 1) = some k) := Lib.hid (by rw [HST.out, if_pos ⟨HQ.out.2 rfl, by simp only [Pl.dof]; omega, hxd⟩])
        have ea : Pl.ati none = -1 := rfl
        rw [ea]
        go_wp2
        refine wp_region_ext (by kernel_rfl) (by kernel_rfl) ?_
        repeat (go_big_quiet_step (fail))
        refine wpQuiet_nil ?_
        rintro _ ⟨s, rfl⟩
        have hV2 := hW.trans (s.h.mono hW.size)
        go_wp2
        go_roundw
        case rel => exact ⟨k + 1, some k, by omega, by go_num, rfl, HN, hV2⟩
        case measure => simp [intOf]; omega
      | some j =>
        have hjk : j < k := Pl.lt_lt hS.out
        have hjx : j < l.length := by omega
        have hjI : (j : Int) < (m : Int) := by omega
        have hrj := row_at hbx HCX.out hW hjx
        have hdf : Pl.dof (l.map Pl.pk) (some j) = l[j].d := by rw [Pl.dof_some (by rw [List.length_map]; exact hjx), List.getElem_map]; rfl
        rw [hdf] at HST
        clear hdf
        generalize l[j] = y at *
        have r1 : _ = some (Value.int .i64 y.d) := hrj 1 _ rfl
        have y1 := fun s : Ext wo => s.cell (p := ⟨bx, ox + j * 3 + 1, none⟩) r1
        clear hrj r1
        have ea : Pl.ati (some j) = (j : Int) := rfl
        rw [ea]
        have hj0 : decide ((j : Int) < 0) = false := decide_eq_false (by omega)
        by_cases hg : x.d > y.d
        · have hd3 : decide (x.d > y.d) = true := decide_eq_true hg
          have HN : Hid (Pl.lt (l.map Pl.pk) n d (k + 1) = some k) := Lib.hid (by rw [HST.out, if_pos ⟨HQ.out.2 rfl, by omega, hxd⟩])
          go_wp2
          refine wp_region_ext (by kernel_rfl) (by kernel_rfl) ?_
          repeat (go_big_quiet_step (fail))
          refine wpQuiet_nil ?_
          rintro _ ⟨s, rfl⟩
          have hV2 := hW.trans (s.h.mono hW.size)
          go_wp2
          go_roundw
          case rel => exact ⟨k + 1, some k, by omega, by go_num, rfl, HN, hV2⟩
          case measure => simp [intOf]; omega
        · have hd3 : decide (x.d > y.d) = false := decide_eq_false hg
          have HN : Hid (Pl.lt (l.map Pl.pk) n d (k + 1) = some j) := Lib.hid (by rw [HST.out, if_neg (fun h => by omega)])
          go_wp2
          refine wp_region_ext (by kernel_rfl) (by kernel_rfl) ?_
          repeat (go_big_quiet_step (fail))
          refine wpQuiet_nil ?_
          rintro _ ⟨s, rfl⟩
          have hV2 := hW.trans (s.h.mono hW.size)
          go_wp2
          go_roundw
          case rel => exact ⟨k + 1, some j, by omega, by go_num, rfl, HN, hV2⟩
          case measure => simp [intOf]; omega
    · obtain rfl : k = m := by omega
      rw [hS.out] at HRR
      go_wp2
      go_ret
      exact ⟨by rw [← HRR.out]; rfl, hW⟩

end Go.Proofs.YtdihnbjmeppbcaaDoor
