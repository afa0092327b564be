/- Valid entries, names, the order of entries: the program and the document. -/
import Derived.Test.YtalfffkcmddakabM1
import Derived.Test.YtalfffkcmddakabZ1
import Derived.Shelf.SlSortCmp.NoneTotal
namespace Go.Proofs.Ytalfffkcmddakab
open Go.RowKit Go.Shelf

set_option maxHeartbeats 400000 in
theorem isday_b (n : Int) (v : Bool) (hv : Pl.inB 0 n 100000 = v) (w : World) : Calls Try.prog 65 #[.int .i64 n] w fun e w' => e = .returned (.bool v) ∧ w' = w := by
  have HC := Lib.hid (within_b n 0 100000 v hv w)
  clear hv
  go_enter Try.func65, Try.ntmps65
  go_wp2_with fail
  refine HC.out.mono ?_
  rintro e w1 ⟨rfl, rfl⟩
  go_wp2
  go_ret
  exact ⟨rfl, rfl⟩
set_option maxRecDepth 100000 in
set_option maxHeartbeats 2000000 in
theorem vcents_b (e : Pl.En) (v : Bool) (hv : Pl.vC e = v) (w : World) : Calls Try.prog 68 #[.agg (enA e)] w fun x w' => x = .returned (.bool v) ∧ Below w.heap.size w w' := by
  have hB := (Below.refl w.heap.size w).alloc (Nat.le_refl _) (.cells (enA e) 72)
  have bX := Blk.new w 72 (enA e)
  have q0 := bX.cell 0
  have q3 := bX.cell 3
  have HB := Lib.hid hB
  obtain ⟨y, hy⟩ : ∃ y, Pl.inB 1 e.c 1000000000 = y := ⟨_, rfl⟩
  have HC := Lib.hid (within_b e.c 1 1000000000 y hy (w.alloc (.cells (enA e) 72)))
  have hk : e.k = 1 ∨ e.k = 2 ∨ e.k = 3 ∨ e.k = 4 ∨ (e.k ≠ 1 ∧ e.k ≠ 2 ∧ e.k ≠ 3 ∧ e.k ≠ 4) := by omega
  unfold Pl.vC at hv
  rw [hy] at hv
  clear hB bX hy
  rcases hk with hk | hk | hk | hk | ⟨h1, h2, h3, h4⟩
  case' inl =>
    have HV : Hid (y = v) := Lib.hid (by rw [← hv, hk]; cases y <;> rfl)
    have k1 : (e.k == 1) = true := by rw [hk]; rfl
    clear hk hv
    go_enter Try.func68, Try.ntmps68
  case' inr.inl =>
    have HV : Hid (y = v) := Lib.hid (by rw [← hv, hk]; cases y <;> rfl)
    have k1 : (e.k == 1) = false := by rw [hk]; rfl
    have k2 : (e.k == 2) = true := by rw [hk]; rfl
    clear hk hv
    go_enter Try.func68, Try.ntmps68
  case' inr.inr.inl =>
    have HV : Hid (y = v) := Lib.hid (by rw [← hv, hk]; cases y <;> rfl)
    have k1 : (e.k == 1) = false := by rw [hk]; rfl
    have k2 : (e.k == 2) = false := by rw [hk]; rfl
    have k3 : (e.k == 3) = true := by rw [hk]; rfl
    clear hk hv
    go_enter Try.func68, Try.ntmps68
  case inr.inr.inr.inl =>
    have HV : Hid (v = (e.c == 0)) := Lib.hid (by
      rw [← hv, hk]
      by_cases h : e.c = 0 <;> simp [Pl.inB, h])
    have k1 : (e.k == 1) = false := by rw [hk]; rfl
    have k2 : (e.k == 2) = false := by rw [hk]; rfl
    have k3 : (e.k == 3) = false := by rw [hk]; rfl
    have k4 : (e.k == 4) = true := by rw [hk]; rfl
    clear hk hv
    go_enter Try.func68, Try.ntmps68
    go_wp2
    go_ret
    exact ⟨by rw [HV.out]; rfl, HB.out⟩
  case inr.inr.inr.inr =>
    have HV : Hid (v = false) := Lib.hid (by
      rw [← hv]
      have : Pl.inB 1 e.k 3 = false := Pl.inB_false.2 (by omega)
      rw [this]
      simp [h4])
    have k1 : (e.k == 1) = false := by simpa using h1
    have k2 : (e.k == 2) = false := by simpa using h2
    have k3 : (e.k == 3) = false := by simpa using h3
    have k4 : (e.k == 4) = false := by simpa using h4
    clear h1 h2 h3 h4 hv
    go_enter Try.func68, Try.ntmps68
    go_wp2
    go_ret
    exact ⟨by rw [HV.out]; rfl, HB.out⟩
  all_goals
    go_wp2_with fail
    refine HC.out.mono ?_
    rintro x w1 ⟨rfl, rfl⟩
    go_wp2
    go_ret
    exact ⟨by rw [← HV.out]; rfl, HB.out⟩
set_option maxRecDepth 100000 in
set_option maxHeartbeats 2000000 in
theorem ventry_b (e : Pl.En) (v : Bool) (hv : Pl.vE e = v) (w : World) : Calls Try.prog 54 #[.agg (enA e)] w fun x w' => x = .returned (.bool v) ∧ Below w.heap.size w w' := by
  have hB := (Below.refl w.heap.size w).alloc (Nat.le_refl _) (.cells (enA e) 72)
  have bX := Blk.new w 72 (enA e)
  have q1 := bX.cell 1
  have q2 := bX.cell 2
  have hr := bX.range
  have HB := Lib.hid hB
  obtain ⟨x1, h1⟩ : ∃ y, Pl.inB 1 e.r 1000000000 = y := ⟨_, rfl⟩
  obtain ⟨x2, h2⟩ : ∃ y, Pl.inB 0 e.d 100000 = y := ⟨_, rfl⟩
  have H1 := Lib.hid (within_b e.r 1 1000000000 x1 h1 (w.alloc (.cells (enA e) 72)))
  have H2 := Lib.hid (isday_b e.d x2 h2 (w.alloc (.cells (enA e) 72)))
  have H3 := Lib.hid (vcents_b e _ rfl (w.alloc (.cells (enA e) 72)))
  have HV : Hid ((x1 && x2 && Pl.vC e) = v) := Lib.hid (by rw [← hv]; unfold Pl.vE; rw [h1, h2])
  generalize Pl.vC e = x3 at *
  clear hB bX h1 h2 hv
  cases x1 <;> cases x2
  case true.true =>
    go_enter Try.func54, Try.ntmps54
    go_wp2_with fail
    refine H1.out.mono ?_
    rintro x w1 ⟨rfl, rfl⟩
    go_wp2_with fail
    refine H2.out.mono ?_
    rintro x w1 ⟨rfl, rfl⟩
    go_wp2_with (refine ldm_en hr rfl _ rfl rfl ?_)
    refine H3.out.mono ?_
    rintro x w2 ⟨rfl, hb⟩
    have hB2 := HB.out.trans (hb.mono HB.out.size)
    go_wp2
    go_ret
    exact ⟨by rw [← HV.out]; rfl, hB2⟩
  case true.false =>
    go_enter Try.func54, Try.ntmps54
    go_wp2_with fail
    refine H1.out.mono ?_
    rintro x w1 ⟨rfl, rfl⟩
    go_wp2_with fail
    refine H2.out.mono ?_
    rintro x w1 ⟨rfl, rfl⟩
    go_wp2
    go_ret
    exact ⟨by rw [← HV.out]; rfl, HB.out⟩
  all_goals
    go_enter Try.func54, Try.ntmps54
    go_wp2_with fail
    refine H1.out.mono ?_
    rintro x w1 ⟨rfl, rfl⟩
    go_wp2
    go_ret
    exact ⟨by rw [← HV.out]; rfl, HB.out⟩
/-- the name that is not set yet -/
abbrev z2 : Array Value := #[.int .i64 0, .int .i64 0]
theorem nm_all (k : Pl.Nm) : (nmA k).all (·.oneCell') = true := by simp [Value.oneCell']
theorem en_all (k : Pl.En) : (enA k).all (·.oneCell') = true := by simp [Value.oneCell']
theorem blk_setRow' {w : World} {g : Nat} {t : TypeId} {old cs : Array Value} (b : Blk w g t old) : Blk (w.setRow g cs) g t cs := by
  unfold Blk at *
  simp [World.setRow, Array.getElem?_modify, b]
section
variable {ops : Array Oper} {rest : List Oper} {o : Oper} {a : Act} {w : World} {Q : Exit → Act → World → Prop}
theorem st_nm {old : Array Value} {k : Pl.Nm} {g : Nat} {t : TypeId} (b : Blk w g t old) (hs : old.size = (nmA k).size) (hgd : o.guard = none) (x y : Operand) (ho : o.op = .store 101 x y)
    (hx : a.eval x = .pointer (some ⟨g, 0, none⟩)) (hy : a.eval y = .agg (nmA k))
    (h : ∀ w', Blk w' g t (nmA k) → Only g w w' → wpList Try.prog ops Q rest (a.put o.dst undef) w') : wpList Try.prog ops Q (o :: rest) a w :=
  wpList_store_row hgd 101 x y ho g (nmA k) hx hy t old b infoNm hs (nm_all k) (h _ (blk_setRow' b) (Only.setRow g w (nmA k)))
theorem st_en {old : Array Value} {k : Pl.En} {g : Nat} {t : TypeId} (b : Blk w g t old) (hs : old.size = (enA k).size) (hgd : o.guard = none) (x y : Operand) (ho : o.op = .store 72 x y)
    (hx : a.eval x = .pointer (some ⟨g, 0, none⟩)) (hy : a.eval y = .agg (enA k))
    (h : ∀ w', Blk w' g t (enA k) → Only g w w' → wpList Try.prog ops Q rest (a.put o.dst undef) w') : wpList Try.prog ops Q (o :: rest) a w :=
  wpList_store_row hgd 72 x y ho g (enA k) hx hy t old b infoEn hs (en_all k) (h _ (blk_setRow' b) (Only.setRow g w (enA k)))
end
end Go.Proofs.Ytalfffkcmddakab
