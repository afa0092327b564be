/- latest, of rates and of prices. -/
import Derived.Test.YtbdnocijhbkclaaGreatDoorW6
import Derived.Deep.RegionHeld
import Derived.Laws.Tables
namespace Go.Proofs.YtbdnocijhbkclaaGreatDoor
open Go.RowKit Go.Shelf

theorem wpOp_go {P : Program} {ops : Array Oper} {Q : Exit → Act → World → Prop} {i : Nat} {o : Oper} {K : Act → World → Prop} {a : Act} {w : World} (ho : ops[i]? = some o) (hw : Region.wanted o (yielded ops a.tmps) = true)
    (h : ∀ K' : Act → World → Prop, (∀ a w, K a w → K' a w) → Oper.wp P o a w K' Q) : wpOp P ops Q i K a w :=
  wpOp_step ho fun K' hK' => by rw [if_pos hw]; exact h K' hK'
theorem Blk.only {g k : Nat} {w w' : World} {t : TypeId} {cs : Array Value} (b : Blk w k t cs) (h : Only g w w') (hk : k ≠ g) : Blk w' k t cs := (h.block k hk).trans b
theorem rt_all (r : Pl.Rt) : (rtA r).all (·.oneCell') = true := by simp [Value.oneCell']
theorem pr_all (r : Pl.Pr) : (prA r).all (·.oneCell') = true := by simp [Value.oneCell']

theorem st_rt {ops : Array Oper} {rest : List Oper} {o : Oper} {a : Act} {w : World} {Q : Exit → Act → World → Prop} {old : Array Value} {k : Pl.Rt} {g : Nat} {t : TypeId} (b : Blk w g t old) (hs : old.size = (rtA k).size) (hgd : o.guard = none) (x y : Operand) (ho : o.op = .store 43 x y)
    (hx : a.eval x = .pointer (some ⟨g, 0, none⟩)) (hy : a.eval y = .agg (rtA k))
    (h : ∀ w', Blk w' g t (rtA k) → Only g w w' → wpList Tryz.prog ops Q rest (a.put o.dst undef) w') : wpList Tryz.prog ops Q (o :: rest) a w :=
  wpList_store_row hgd 43 x y ho g (rtA k) hx hy t old b infoRt hs (rt_all k) (h _ (blk_setRow b) (Only.setRow g w (rtA k)))

theorem st_pr {ops : Array Oper} {rest : List Oper} {o : Oper} {a : Act} {w : World} {Q : Exit → Act → World → Prop} {old : Array Value} {k : Pl.Pr} {g : Nat} {t : TypeId} (b : Blk w g t old) (hs : old.size = (prA k).size) (hgd : o.guard = none) (x y : Operand) (ho : o.op = .store 41 x y)
    (hx : a.eval x = .pointer (some ⟨g, 0, none⟩)) (hy : a.eval y = .agg (prA k))
    (h : ∀ w', Blk w' g t (prA k) → Only g w w' → wpList Tryz.prog ops Q rest (a.put o.dst undef) w') : wpList Tryz.prog ops Q (o :: rest) a w :=
  wpList_store_row hgd 41 x y ho g (prA k) hx hy t old b infoPr hs (pr_all k) (h _ (blk_setRow b) (Only.setRow g w (prA k)))


theorem results_cell2 {P : Program} {fn : Func} {p q : Tmp} {ty : TypeId} (h : fn.results = #[.cell p ty, .tmp q]) (tmps : Array Value) (w : World) (g : Nat) (t : TypeId) (cs : Array Value) (fr : Nat × Nat) (d : TypeDesc)
    (hp : tmps.getD p undef = .pointer (some ⟨g, 0, none⟩)) (hg : w.heap[g]? = some (.cells cs t fr)) (v : Value) (hq : tmps.getD q undef = v)
    (hu : P.underlying ty = some d) (hd : (match d with | .struct _ | .array _ _ => true | _ => false) = true) (hi : (P.info? ty).map (·.size) = some cs.size) :
    (results fn tmps).run P w = .ok (.tuple #[.agg cs, v]) w := by
  have hp' : tmps[p]?.getD undef = .pointer (some ⟨g, 0, none⟩) := by simpa using hp
  have hq' : tmps[q]?.getD undef = v := by simpa using hq
  have hl := run_loadVar_row w g t ty cs fr d hg hu hd hi
  simp [results, h, hp', hq', asAddr, hl]


set_option maxRecDepth 100000 in
set_option maxHeartbeats 8000000 in
theorem latest_r (A : Option Addr) (l : List Pl.Rt) (c m : Nat) (hm : l.length = m) (hm6 : m ≤ 1000) (hd : ∀ x, x ∈ l → 0 ≤ x.d ∧ x.d ≤ 100000) (n : ByteArray) (d : Int) (w : World) (hI : Rows rtL 4 w A l) :
    Calls Tryz.prog 52 #[.slice A m c, .agg (scA (n, d)), .func (.func 50) #[] #[]] w fun e w' =>
      e = .returned (.tuple #[.agg (rtA (Pl.fnd l (Pl.lt (l.map Pl.rk) n d m))), .bool (Pl.lt (l.map Pl.rk) n d m).isSome]) ∧ Below w.heap.size w w' := by
  have eg : ∀ args w, (callFunc 50 args).run Tryz.prog w = .ok (.enter 50 args) w := enters_of Tryz.func50 (by kernel_rfl) rfl
  have hds : ∀ x, x ∈ l.map Pl.rk → 0 ≤ x.2 ∧ x.2 ≤ 100000 := by
    intro x hx
    obtain ⟨y, hy, rfl⟩ := List.mem_map.1 hx
    exact hd y hy
  have HD := Lib.hid (fun k (hk : k ≤ m) => Pl.dof_in (n := n) (d := d) hds (k := k) (by rw [List.length_map, hm]; exact hk))
  have HI := Lib.hid hI
  have HM := Lib.hid hm
  obtain ⟨F, hF⟩ : ∃ F, Pl.fnd l (Pl.lt (l.map Pl.rk) n d m) = F := ⟨_, rfl⟩
  obtain ⟨S, hS⟩ : ∃ S, (Pl.lt (l.map Pl.rk) n d m).isSome = S := ⟨_, rfl⟩
  have HFS : Hid (∀ r, Pl.lt (l.map Pl.rk) n d m = r → Pl.fnd l r = F ∧ r.isSome = S) := Lib.hid (fun r h => by subst h; exact ⟨hF, hS⟩)
  rw [hF, hS]
  clear hF hS
  have z0 : rtA (default : Pl.Rt) = #[.string ⟨#[]⟩, .int .i64 0, .int .i64 0, .int .i64 0] := rfl
  have hB := (((Below.refl w.heap.size w).alloc (Nat.le_refl _) (.cells (scA (n, d)) 79)).alloc (by simp) (.cells (rtA default) 43)).alloc (by simp; omega) (.cells (rtA default) 43)
  have bA := ((Blk.new w 79 (scA (n, d))).alloc (.cells (rtA default) 43)).alloc (.cells (rtA default) 43)
  have bR := (Blk.new (w.alloc (.cells (scA (n, d)) 79)) 43 (rtA default)).alloc (.cells (rtA default) 43)
  have bF := Blk.new ((w.alloc (.cells (scA (n, d)) 79)).alloc (.cells (rtA default) 43)) 43 (rtA default)
  simp only [World.size_alloc] at bR bF
  clear hI hm hd hds
  go_enter Tryz.func52, Tryz.ntmps52
  go_wp2
  rw [← z0]
  go_loopw [9, 15] (fun v9 i wr => ∃ k : Nat, ∃ r : Option Nat, ∃ D : Int, k ≤ m ∧ i = .int .i64 k ∧ v9 = .int .i64 D ∧ Hid (Pl.lt (l.map Pl.rk) n d k = r ∧ Pl.dof (l.map Pl.rk) r = D) ∧ Blk wr w.heap.size 79 (scA (n, d)) ∧ Blk wr (w.heap.size + 1) 43 (rtA default) ∧ Blk wr (w.heap.size + 1 + 1) 43 (rtA (Pl.fnd l r)) ∧ Below w.heap.size w wr) (fun _ i _ => m - (intOf i).toNat)
  case atStart => exact ⟨0, none, -1, Nat.zero_le _, rfl, rfl, Lib.hid ⟨rfl, rfl⟩, bA, bR, bF, hB⟩
  case round =>
    clear bA bR bF hB
    obtain ⟨k, r, D, hk, rfl, rfl, hS, bA, bR, bF, hW⟩ := hrel
    obtain ⟨wo, rfl⟩ : ∃ wo, wo = wr := ⟨_, rfl⟩
    have hDb : -1 ≤ D ∧ D ≤ 100000 ∧ (r.isSome = true ↔ 0 ≤ D) := by
      have := HD.out k hk
      rw [hS.out.1, hS.out.2] at this
      exact this
    by_cases hlt : k < m
    · have hltI : (k : Int) < (m : Int) := by omega
      have hkx : k < l.length := by rw [HM.out]; exact hlt
      obtain ⟨bx, ox, rfl, hbx, hcx⟩ := HI.out.open (by omega)
      have hr := row_at hbx hcx hW hkx
      have HST : Hid (Pl.lt (l.map Pl.rk) n d (k + 1) = if (Pl.rk l[k]).1 = n ∧ D + 1 ≤ (Pl.rk l[k]).2 ∧ (Pl.rk l[k]).2 ≤ d then some k else r) := Lib.hid (by
        rw [Pl.lt_step (by rw [List.length_map]; exact hkx), List.getElem_map, hS.out.1, hS.out.2])
      have HDS : Hid (Pl.dof (l.map Pl.rk) (some k) = (Pl.rk l[k]).2) := Lib.hid (by
        rw [Pl.dof_some (by rw [List.length_map]; exact hkx), List.getElem_map])
      have HF : Hid (Pl.fnd l (some k) = l[k]) := Lib.hid (Pl.fnd_some hkx)
      clear hcx
      generalize l[k] = x at *
      have kD : IntKind.i64.wrap (D + 1) = D + 1 := IntWalk.i64_in _ (by omega)
      have bE := Blk.new wo 43 (rtA x)
      have hBE := (Below.refl wo.heap.size wo).alloc (Nat.le_refl _) (.cells (rtA x) 43)
      have hr1 := bE.range
      go_wp2_with (first | refine ldm_rt hr rfl _ rfl rfl ?_ | refine ldm_rt hr1 rfl _ rfl rfl ?_)
      refine (key_r x _).mono ?_
      rintro e w1 ⟨rfl, hb1⟩
      have hBK := (Below.refl w1.heap.size w1).alloc (Nat.le_refl _) (.cells (scA (Pl.rk x)) 79)
      have bK := Blk.new w1 79 (scA (Pl.rk x))
      have hO := hBE.trans (hb1.mono hBE.size)
      have hO2 := hO.trans (hBK.mono hO.size)
      have bE2 := (bE.below hb1 bE.lt).below hBK (Nat.lt_of_lt_of_le bE.lt hb1.size)
      have bA2 := bA.below hO2 bA.lt
      have bR2 := bR.below hO2 bR.lt
      have bF2 := bF.below hO2 bF.lt
      have hW2 := hW.trans (hO2.mono hW.size)
      have hge : w.heap.size + 1 + 1 < wo.heap.size := bF.lt
      have hgk : w.heap.size + 1 + 1 < w1.heap.size := Nat.lt_of_lt_of_le hge hO.size
      clear hr hr1 bE hBE hb1 hBK hO hO2 bA bR bF hW
      have a0 := bA2.cell 0
      have a1 := bA2.cell 1
      have k0 := bK.cell 0
      have k1 := bK.cell 1
      generalize wo.heap.size = ge at *
      obtain ⟨qn, hq⟩ : ∃ q, ((Pl.rk x).1.toList == n.toList) = q := ⟨_, rfl⟩
      have HQ : Hid ((Pl.rk x).1 = n ↔ qn = true) := Lib.hid (by rw [← hq, bs_eq, decide_eq_true_iff])
      cases qn
      · have hn := fun h => Bool.false_ne_true (HQ.out.1 h)
        have HN : Hid (Pl.lt (l.map Pl.rk) n d (k + 1) = r) := Lib.hid (by rw [HST.out, if_neg (fun h => hn h.1)])
        clear HST hn
        go_wp2
        go_roundw
        case rel => exact ⟨k + 1, r, D, by omega, by go_num, rfl, Lib.hid ⟨HN.out, hS.out.2⟩, bA2, bR2, bF2, hW2⟩
        case measure => simp [intOf]; omega
      obtain ⟨v, hv⟩ : ∃ v, Pl.inB (D + 1) (Pl.rk x).2 d = v := ⟨_, rfl⟩
      have HC := Lib.hid (fun (w' : World) => within_b (Pl.rk x).2 (D + 1) d v hv w')
      cases v with
      | false =>
        have HN : Hid (Pl.lt (l.map Pl.rk) n d (k + 1) = r) := Lib.hid (by rw [HST.out, if_neg (fun h => Pl.inB_false.1 hv h.2)])
        clear HST hv
        go_wp2_with fail
        refine (HC.out _).mono ?_
        rintro e w2 ⟨rfl, hw2⟩
        subst hw2
        go_wp2
        go_roundw
        case rel => exact ⟨k + 1, r, D, by omega, by go_num, rfl, Lib.hid ⟨HN.out, hS.out.2⟩, bA2, bR2, bF2, hW2⟩
        case measure => simp [intOf]; omega
      | true =>
        have HN : Hid (Pl.lt (l.map Pl.rk) n d (k + 1) = some k) := Lib.hid (by rw [HST.out, if_pos ⟨HQ.out.2 rfl, Pl.inB_true.1 hv⟩])
        clear HST hv
        go_wp2_with fail
        refine (HC.out _).mono ?_
        rintro e w2 ⟨rfl, hw2⟩
        subst hw2
        clear HC a0 a1 k0 k1
        go_wp2
        refine wp_region_held (S := fun W => Blk W ge 43 (rtA x) ∧ Blk W w1.heap.size 79 (scA (Pl.rk x))) (by kernel_rfl) ?_
        change wpAnyH _ _ _ _ _ _ _ _ (World.drew _)
        replace bA2 := bA2.drew
        replace bR2 := bR2.drew
        replace bF2 := bF2.drew
        replace bE2 := bE2.drew
        replace bK := bK.drew
        replace hW2 := hW2.drew
        have hSW := And.intro bE2 bK
        have hgk2 : w.heap.size + 1 + 1 ≠ w1.heap.size := by omega
        have hge2 : w.heap.size + 1 + 1 ≠ ge := by omega
        generalize (w1.alloc (.cells (scA (Pl.rk x)) 79)).drew = W at *
        clear bE2 bK
        generalize w1.heap.size = gk at *
        refine wpAnyH_take (i := 0) (v := ?_) rfl (by kernel_rfl) (by decide +kernel) (by decide +kernel) (fun _ _ _ h => h) (Or.inl ⟨by rfl, ?_⟩) hSW ?_
        rotate_left
        · intro w' hS; have e0 := hS.1.cell 0; have e1 := hS.1.cell 1; have e2 := hS.1.cell 2; have e3 := hS.1.cell 3; first | (go_simp; done) | (go_simp; with_reducible rfl)
        refine wpAnyH_take (i := 1) (v := ?_) rfl (by kernel_rfl) (by decide +kernel) (by decide +kernel) (fun _ _ _ h => h) (Or.inl ⟨by rfl, ?_⟩) hSW ?_
        rotate_left
        · intro w' hS; first | (go_simp; done) | (go_simp; with_reducible rfl)
        refine wpAnyH_take (i := 2) (v := ?_) rfl (by kernel_rfl) (by decide +kernel) (by decide +kernel) (fun _ _ _ h => h) (Or.inl ⟨by rfl, ?_⟩) hSW ?_
        rotate_left
        · intro w' hS; have k1 := hS.2.cell 1; first | (go_simp; done) | (go_simp; with_reducible rfl)
        have hOn : Only (w.heap.size + 1 + 1) W (W.setRow (w.heap.size + 1 + 1) (rtA x)) := Only.setRow _ _ _
        have bA4 := bA2.only hOn (by omega)
        have bR4 := bR2.only hOn (by omega)
        have bF4 : Blk (W.setRow (w.heap.size + 1 + 1) (rtA x)) _ 43 (rtA x) := blk_setRow bF2
        have hW4 := hW2.trans (hOn.below (B := w.heap.size) (by omega))
        have hSW2 := And.intro (hSW.1.only hOn (by omega)) (hSW.2.only hOn (by omega))
        refine wpAnyH_all (rs := [3]) (by decide +kernel) (by simp) ?_
        intro i0 hi0
        obtain rfl := List.mem_singleton.1 hi0
        refine wpOp_go rfl rfl (fun K hK => ?_)
        refine wp_store_row 43 (.tmp 8) (.tmp 36) rfl (w.heap.size + 1 + 1) (rtA x) rfl rfl 43 _ bF2 infoRt rfl (rt_all _) (hK _ _ ⟨hSW2, ?_⟩)
        clear hK K bF2 bA2 bR2 hW2 hSW hOn
        refine wpAnyH_all (rs := [4]) (by decide +kernel) (by simp) ?_
        intro i0 hi0
        obtain rfl := List.mem_singleton.1 hi0
        refine wpOp_go rfl rfl (fun K hK => ?_)
        go_simp
        refine hK _ _ ⟨hSW2, ?_⟩
        clear hK K
        refine wpAnyH_done (by decide +kernel) ?_ _
        go_wp2
        go_roundw
        case rel => exact ⟨k + 1, some k, (Pl.rk x).2, by omega, by go_num, rfl, Lib.hid ⟨HN.out, HDS.out⟩, bA4, bR4, by rw [HF.out]; exact bF4, hW4⟩
        case measure => simp [intOf]; omega
    · obtain rfl : k = m := by omega
      have hfs := HFS.out r hS.out.1
      have HR : Hid (S = decide (0 ≤ D)) := Lib.hid (by rw [← hfs.2, Bool.eq_iff_iff, decide_eq_true_iff]; exact hDb.2.2)
      rw [hfs.1] at bF
      clear hfs
      have hrF := bF.range
      have hlt3 := bF.lt
      clear bA
      go_wp2_with (first | refine ldm_rt hrF rfl _ rfl rfl ?_ | (refine st_rt (k := F) bR rfl rfl _ _ rfl rfl rfl ?_; intro w9 hM9 hO9))
      have hB9 := hW.trans (hO9.below (B := w.heap.size) (Nat.le_succ _))
      exact bodyPost_ret (v := .tuple #[.agg (rtA F), .bool S]) (results_cell2 Tryz.results52 _ _ (w.heap.size + 1) 43 (rtA F) (0, 0) _ rfl hM9 _ (by rw [HR.out]; rfl) Tryz.underlying43 rfl infoRt) rfl ⟨rfl, hB9⟩


end Go.Proofs.YtbdnocijhbkclaaGreatDoor
