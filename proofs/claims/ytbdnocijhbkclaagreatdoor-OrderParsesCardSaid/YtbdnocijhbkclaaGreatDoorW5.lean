/- distinct, at numbers, rates and prices, with their keys. -/
import Derived.Test.YtbdnocijhbkclaaGreatDoorW4
import Derived.Test.YtbdnocijhbkclaaGreatDoorW2
namespace Go.Proofs.YtbdnocijhbkclaaGreatDoor
open Go.RowKit Go.Shelf

theorem results_cell1 {P : Program} {fn : Func} {p : Tmp} {ty : TypeId} (h : fn.results = #[.cell p ty]) (tmps : Array Value) (w : World) (g : Nat) (t : TypeId) (cs : Array Value) (fr : Nat × Nat) (d : TypeDesc)
    (hp : tmps.getD p undef = .pointer (some ⟨g, 0, none⟩)) (hg : w.heap[g]? = some (.cells cs t fr))
    (hu : P.underlying ty = some d) (hd : (match d with | .struct _ | .array _ _ => true | _ => false) = true) (hi : (P.info? ty).map (·.size) = some cs.size) :
    (results fn tmps).run P w = .ok (.agg cs) w := by
  have hp' : tmps[p]?.getD undef = .pointer (some ⟨g, 0, none⟩) := by simpa using hp
  simp [results, h, hp', asAddr, run_loadVar_row w g t ty cs fr d hg hu hd hi]
theorem blk_setRow {w : World} {g : Nat} {t : TypeId} {old cs : Array Value} (b : Blk w g t old) : Blk (w.setRow g cs) g t cs := by
  unfold Blk at *
  simp [World.setRow, Array.getElem?_modify, b]
theorem sc_all (k : Pl.Ky) : (scA k).all (·.oneCell') = true := by simp [Value.oneCell']
theorem st_sc {ops : Array Oper} {rest : List Oper} {o : Oper} {a : Act} {w : World} {Q : Exit → Act → World → Prop} {old : Array Value} {k : Pl.Ky} {g : Nat} {t : TypeId} (b : Blk w g t old) (hs : old.size = 2) (hgd : o.guard = none) (x y : Operand) (ho : o.op = .store 79 x y)
    (hx : a.eval x = .pointer (some ⟨g, 0, none⟩)) (hy : a.eval y = .agg (scA k))
    (h : ∀ w', Blk w' g t (scA k) → Only g w w' → wpList Tryz.prog ops Q rest (a.put o.dst undef) w') : wpList Tryz.prog ops Q (o :: rest) a w :=
  wpList_store_row hgd 79 x y ho g (scA k) hx hy t old b infoSc hs (sc_all k) (h _ (blk_setRow b) (Only.setRow g w (scA k)))
/-- the cells of a name and a day that are not set yet -/
abbrev z2 : Array Value := #[.string ⟨#[]⟩, .int .i64 0]


set_option maxRecDepth 100000 in
set_option maxHeartbeats 2000000 in
theorem key_r (x : Pl.Rt) (w : World) :
    Calls Tryz.prog 50 #[.agg (rtA x)] w fun e w' => e = .returned (.agg (scA (Pl.rk x))) ∧ Below w.heap.size w w' := by
  have hB := ((Below.refl w.heap.size w).alloc (Nat.le_refl _) (.cells (rtA x) 43)).alloc (by simp) (.cells z2 79)
  have bX := (Blk.new w 43 (rtA x)).alloc (.cells z2 79)
  have bZ := Blk.new (w.alloc (.cells (rtA x) 43)) 79 z2
  simp only [World.size_alloc] at bZ
  have q0 := bX.cell 0
  have q1 := bX.cell 1
  have HB := Lib.hid hB
  clear hB bX
  go_enter Tryz.func50, Tryz.ntmps50
  go_wp2_with (refine st_sc (k := Pl.rk x) bZ rfl rfl _ _ rfl rfl rfl ?_; intro w9 hM9 hO9)
  have hB9 := HB.out.trans (hO9.below (B := w.heap.size) (Nat.le_succ _))
  exact bodyPost_ret (v := .agg (scA (Pl.rk x))) (results_cell1 Tryz.results50 _ _ (w.heap.size + 1) 79 (scA (Pl.rk x)) (0, 0) _ rfl hM9 Tryz.underlying79 rfl infoSc) rfl ⟨rfl, hB9⟩


set_option maxRecDepth 100000 in
set_option maxHeartbeats 4000000 in
theorem dist_r (A : Option Addr) (l : List Pl.Rt) (c m : Nat) (hm : l.length = m) (hm6 : m ≤ 1000) (hok : ∀ x, x ∈ l → scT.ok (Pl.rk x)) (v : Bool) (hv : decide (l.map Pl.rk).Nodup = v) (w : World) (hI : Rows rtL 4 w A l) :
    Calls Tryz.prog 49 #[.slice A m c, .func (.func 50) #[] #[]] w fun e w' => e = .returned (.bool v) ∧ Below w.heap.size w w' := by
  have eg : ∀ args w, (callFunc 50 args).run Tryz.prog w = .ok (.enter 50 args) w := enters_of Tryz.func50 (by kernel_rfl) rfl
  have hB0 := (Below.refl w.heap.size w).alloc (Nat.le_refl _) (.map #[] 0)
  have hS0 : Seen scT (w.alloc (.map #[] 0)) w.heap.size 0 (Pl.dif ((l.take 0).map Pl.rk)) := Seen.made w
  have HI := Lib.hid hI
  have HM := Lib.hid hm
  have HK := Lib.hid hok
  have HV : Hid (decide ((Pl.dif (l.map Pl.rk)).length = m) = v) := Lib.hid (by
    rw [← hv]
    refine decide_eq_decide.2 ?_
    have := (Pl.dif_len (l.map Pl.rk)).2
    rw [List.length_map, hm] at this
    exact this)
  clear hI hm hok hv
  have hmm := @run_makeMap Tryz.prog
  go_enter Tryz.func49, Tryz.ntmps49
  go_wp2
  clear hmm
  go_loopw [11] (fun i wr => ∃ k : Nat, k ≤ m ∧ i = .int .i64 k ∧ Seen scT wr w.heap.size k (Pl.dif ((l.take k).map Pl.rk)) ∧ Below w.heap.size w wr) (fun i _ => m - (intOf i).toNat)
  case atStart => exact ⟨0, Nat.zero_le _, rfl, hS0, hB0⟩
  case round =>
    clear hS0 hB0
    obtain ⟨k, hk, rfl, hS, hW⟩ := hrel
    obtain ⟨wo, rfl⟩ : ∃ wo, wo = wr := ⟨_, rfl⟩
    by_cases hlt : k < m
    · have hltI : (k : Int) < (m : Int) := by omega
      have hkx : k < l.length := by rw [HM.out]; exact hlt
      obtain ⟨bx, ox, rfl, hbx, hcx⟩ := HI.out.open (by omega)
      have hr := row_at hbx hcx hW hkx
      have HKx := Lib.hid (HK.out l[k] (List.getElem_mem hkx))
      have HD : Hid (Pl.dif ((l.take (k + 1)).map Pl.rk) = Pl.ins (Pl.rk l[k]) (Pl.dif ((l.take k).map Pl.rk))) := Lib.hid (by
        rw [List.take_succ_eq_append_getElem hkx, List.map_append, ← Pl.dif_snoc]; rfl)
      clear hcx
      generalize l[k] = x at *
      generalize Pl.dif ((l.take k).map Pl.rk) = S at *
      have bE := Blk.new wo 43 (rtA x)
      have hBE := (Below.refl wo.heap.size wo).alloc (Nat.le_refl _) (.cells (rtA x) 43)
      have hS1 := hS.below hBE
      have hW1 := hW.trans (hBE.mono hW.size)
      have hr1 := bE.range
      clear hS hW hBE
      go_wp2_with (first | refine ldm_rt hr rfl _ rfl rfl ?_ | refine ldm_rt hr1 rfl _ rfl rfl ?_)
      refine (key_r x _).mono ?_
      rintro e w1 ⟨rfl, hb1⟩
      have hS2 := hS1.below hb1
      have hB2 := hW1.trans (hb1.mono hW1.size)
      clear hS1 hW1 hb1 hr hr1 bE
      obtain ⟨w4, hrun, hS5, hg⟩ := hS2.store (by unfold maxLen; omega) HKx.out
      have hB5 := hB2.grown hg hB2.size (fun k e => by cases e; exact Nat.le_refl _)
      change (Instr.mapUpdate 98 (.map (some w.heap.size)) (.agg (scA (Pl.rk x))) (.bool true)).run Tryz.prog w1 = .ok () w4 at hrun
      clear hS2 hB2 hg
      go_wp2
      go_roundw
      case rel => exact ⟨k + 1, by omega, by go_num, by rw [HD.out]; exact hS5, hB5⟩
      case measure => simp [intOf]; omega
    · obtain rfl : k = m := by omega
      have hl0 := hS.len
      have hle : Hid (((Pl.dif ((l.take k).map Pl.rk)).length = k) ↔ v = true) := Lib.hid (by
        rw [← HV.out, decide_eq_true_iff, List.take_of_length_le (by rw [HM.out]; exact Nat.le_refl _)])
      generalize (Pl.dif ((l.take k).map Pl.rk)).length = z at *
      change ∀ ty, (Builtin.len_ #[98] ty #[.map (some w.heap.size)]).run Tryz.prog wo = .ok (.int .i64 (z : Nat)) wo at hl0
      have HF : Hid (v = decide ((z : Int) = (k : Int))) := Lib.hid (by
        rw [Bool.eq_iff_iff, ← hle.out, decide_eq_true_iff]; omega)
      clear hle HV
      go_wp2
      go_ret
      exact ⟨by rw [HF.out]; rfl, hW⟩


end Go.Proofs.YtbdnocijhbkclaaGreatDoor
