/- Wide: it answers, whatever it answers. -/
import Derived.Test.YtbdnocijhbkclaaGreatDoorOpen
namespace Go.Proofs.YtbdnocijhbkclaaGreatDoor
open Go.RowKit Go.Shelf

abbrev mkA (A : Option Addr) (l : List Pl.Pr) (c : Nat) (B : Option Addr) (r : List Pl.Rt) (j : Nat) : Array Value := #[.slice A l.length c, .slice B r.length j]
abbrev mkL (A : Option Addr) (l : List Pl.Pr) (c : Nat) (B : Option Addr) (r : List Pl.Rt) (j : Nat) : List Value := [.slice A l.length c, .slice B r.length j]

theorem PrsIn.below {W W' : World} {A : Option Addr} {l : List Pl.Pr} {k : Nat} (h : PrsIn W A l k) (hb : Below W.heap.size W W') : PrsIn W' A l k := ⟨h.rows.below hb, h.cap, h.top, fun y hy => ⟨(h.each y hy).1.below hb, (h.each y hy).2⟩⟩
theorem RtsIn.below {W W' : World} {A : Option Addr} {l : List Pl.Rt} {k : Nat} (h : RtsIn W A l k) (hb : Below W.heap.size W W') : RtsIn W' A l k := ⟨h.rows.below hb, h.cap, h.top, h.each⟩
theorem FmIn.below {W W' : World} {f : Pl.Fm} (h : FmIn W f) (hb : Below W.heap.size W W') : FmIn W' f := ⟨h.rows.below hb, h.cap, h.top, h.each, h.cus, h.cur⟩
/-- a truth value is answered -/
def IsB (e : Ending) : Prop := ∃ v, e = .returned (.bool v)
theorem max63 {n : Nat} (h : n ≤ maxLen) : n ≤ 9223372036854775807 := by unfold maxLen at h; omega

set_option maxRecDepth 100000 in
set_option maxHeartbeats 8000000 in
theorem wide_any (A : Option Addr) (l : List Pl.Pr) (c : Nat) (B : Option Addr) (r : List Pl.Rt) (j : Nat) (f : Pl.Fm) (w : World) (hP : PrsIn w A l c) (hR : RtsIn w B r j) (hF : FmIn w f) :
    Calls Tryz.prog 5 #[.agg (mkA A l c B r j), .agg (fmA f)] w fun e w' => IsB e ∧ Below w.heap.size w w' := by
  obtain ⟨n, hn⟩ : ∃ n, l.length = n := ⟨_, rfl⟩
  obtain ⟨m, hm⟩ : ∃ m, r.length = m := ⟨_, rfl⟩
  obtain ⟨q, hq⟩ : ∃ q, f.ls.length = q := ⟨_, rfl⟩
  have n63 := max63 (Nat.le_trans hP.cap hP.top)
  have m63 := max63 (Nat.le_trans hR.cap hR.top)
  have q63 := max63 (Nat.le_trans hF.cap hF.top)
  have c63 := max63 hF.cus
  have d63 := max63 hF.cur
  have hB0 := (Below.refl w.heap.size w).alloc (Nat.le_refl _) (.cells (mkA A l c B r j) 29)
  have hB := hB0.alloc (by simp) (.cells (fmA f) 24)
  have bM := (Blk.new w 29 (mkA A l c B r j)).alloc (.cells (fmA f) 24)
  have bF := Blk.new (w.alloc (.cells (mkA A l c B r j) 29)) 24 (fmA f)
  simp only [World.size_alloc] at bF
  have HP := Lib.hid (hP.below hB)
  have HR := Lib.hid (hR.below hB)
  have HF := Lib.hid (hF.below hB)
  have x0 := bM.cell 0
  have x1 := bM.cell 1
  have y0 := bF.cell 0
  have y2 := bF.cell 2
  have y3 := bF.cell 3
  unfold mkA at x0 x1 y0 y2 y3 hB bM bF HP HR HF ⊢
  rw [hn, hm] at x0 x1 y0 y2 y3 hB HP HR HF ⊢
  unfold fmA at x0 x1 y0 y2 y3 hB HP HR HF ⊢
  rw [hq] at x0 x1 y0 y2 y3 hB HP HR HF ⊢
  have HN := Lib.hid hn
  have HM := Lib.hid hm
  have HQ := Lib.hid hq
  rw [hn] at n63
  rw [hm] at m63
  rw [hq] at q63
  have HFr := Lib.hid HF.out.rows
  have HFe := Lib.hid HF.out.each
  clear bM bF hB0 hP hR hF hn hm hq HF
  generalize f.a = fa at *

  by_cases e0 : (70 : Int) < (n : Int)
  · go_enter Tryz.func5, Tryz.ntmps5
    go_wp2
    go_ret
    first | exact ⟨⟨_, rfl⟩, hB⟩ | exact ⟨_, rfl, hB⟩
  by_cases e1 : (70 : Int) < (m : Int)
  · go_enter Tryz.func5, Tryz.ntmps5
    go_wp2
    go_ret
    first | exact ⟨⟨_, rfl⟩, hB⟩ | exact ⟨_, rfl, hB⟩
  by_cases e2 : (70 : Int) < (q : Int)
  · go_enter Tryz.func5, Tryz.ntmps5
    go_wp2
    go_ret
    first | exact ⟨⟨_, rfl⟩, hB⟩ | exact ⟨_, rfl, hB⟩
  by_cases e3 : (40 : Int) < (f.cus.size : Int)
  · go_enter Tryz.func5, Tryz.ntmps5
    go_wp2
    go_ret
    first | exact ⟨⟨_, rfl⟩, hB⟩ | exact ⟨_, rfl, hB⟩
  by_cases e4 : (40 : Int) < (f.cur.size : Int)
  · go_enter Tryz.func5, Tryz.ntmps5
    go_wp2
    go_ret
    first | exact ⟨⟨_, rfl⟩, hB⟩ | exact ⟨_, rfl, hB⟩
  go_enter Tryz.func5, Tryz.ntmps5
  go_wp2
  go_loop [5] (fun i => ∃ k : Nat, k ≤ n ∧ i = .int .i64 k) (fun i => n - (intOf i).toNat)
  case atStart => exact ⟨0, Nat.zero_le _, rfl⟩
  case round =>
    obtain ⟨k, hk, rfl⟩ := hrel
    by_cases hlt : k < n
    · have hltI : (k : Int) < (n : Int) := by omega
      have hkx : k < l.length := by rw [HN.out]; exact hlt
      obtain ⟨bx, ox, rfl, hbx, hcx⟩ := HP.out.rows.open (by omega)
      have hr := row_at hbx hcx (Below.refl _ _) hkx
      obtain ⟨_, h2, h3, h4⟩ := HP.out.each _ (List.getElem_mem hkx)
      have s63 := max63 (Nat.le_trans h2 h3)
      have t63 := max63 h4
      clear hcx h2 h3 h4
      generalize l[k] = x at *
      have q0 : _ = some (Value.string x.md) := hr 0 _ rfl
      have q2 : _ = some (Value.slice x.a x.st.length x.k) := hr 2 _ rfl
      rw [Nat.add_zero] at q0
      clear hr
      by_cases g0 : (12 : Int) < (x.st.length : Int)
      · go_wp2
        go_ret
        first | exact ⟨⟨_, rfl⟩, hB⟩ | exact ⟨_, rfl, hB⟩
      · by_cases g1 : (40 : Int) < (x.md.size : Int)
        · go_wp2
          go_ret
          first | exact ⟨⟨_, rfl⟩, hB⟩ | exact ⟨_, rfl, hB⟩
        · go_wp2
          go_round
          case rel => exact ⟨k + 1, by omega, by go_num⟩
          case measure => simp [intOf]; omega
    · obtain rfl : k = n := by omega
      go_wp2
      go_loop [6] (fun i => ∃ k : Nat, k ≤ m ∧ i = .int .i64 k) (fun i => m - (intOf i).toNat)
      case atStart => exact ⟨0, Nat.zero_le _, rfl⟩
      case round =>
        obtain ⟨i, hi, rfl⟩ := hrel
        by_cases hlt : i < m
        · have hltI : (i : Int) < (m : Int) := by omega
          have hkx : i < r.length := by rw [HM.out]; exact hlt
          obtain ⟨bx, ox, rfl, hbx, hcx⟩ := HR.out.rows.open (by omega)
          have hr := row_at hbx hcx (Below.refl _ _) hkx
          have t63 := max63 (HR.out.each _ (List.getElem_mem hkx))
          clear hcx
          generalize r[i] = x at *
          have q0 : _ = some (Value.string x.cur) := hr 0 _ rfl
          rw [Nat.add_zero] at q0
          clear hr
          by_cases g1 : (40 : Int) < (x.cur.size : Int)
          · go_wp2
            go_ret
            first | exact ⟨⟨_, rfl⟩, hB⟩ | exact ⟨_, rfl, hB⟩
          · go_wp2
            go_round
            case rel => exact ⟨i + 1, by omega, by go_num⟩
            case measure => simp [intOf]; omega
        · obtain rfl : i = m := by omega
          go_wp2
          go_loop [7] (fun i => ∃ k : Nat, k ≤ q ∧ i = .int .i64 k) (fun i => q - (intOf i).toNat)
          case atStart => exact ⟨0, Nat.zero_le _, rfl⟩
          case round =>
            obtain ⟨p, hp, rfl⟩ := hrel
            by_cases hlt : p < q
            · have hltI : (p : Int) < (q : Int) := by omega
              have hkx : p < f.ls.length := by rw [HQ.out]; exact hlt
              obtain ⟨bx, ox, rfl, hbx, hcx⟩ := HFr.out.open (by omega)
              have hr := row_at hbx hcx (Below.refl _ _) hkx
              have t63 := max63 (HFe.out _ (List.getElem_mem hkx))
              clear hcx
              generalize f.ls[p] = x at *
              have q0 : _ = some (Value.string x.md) := hr 0 _ rfl
              rw [Nat.add_zero] at q0
              clear hr
              by_cases g1 : (40 : Int) < (x.md.size : Int)
              · go_wp2
                go_ret
                first | exact ⟨⟨_, rfl⟩, hB⟩ | exact ⟨_, rfl, hB⟩
              · go_wp2
                go_round
                case rel => exact ⟨p + 1, by omega, by go_num⟩
                case measure => simp [intOf]; omega
            · obtain rfl : p = q := by omega
              go_wp2
              go_ret
              first | exact ⟨⟨_, rfl⟩, hB⟩ | exact ⟨_, rfl, hB⟩
end Go.Proofs.YtbdnocijhbkclaaGreatDoor
