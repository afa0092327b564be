/- Assign, of the program. -/
import Derived.Test.YtlfbfdhdkccaeaaGreatA1
import Derived.Test.YtlfbfdhdkccaeaaGreatJ4
import Derived.Test.YtlfbfdhdkccaeaaGreatE1
import Derived.Test.YtlfbfdhdkccaeaaGreatK8
import Derived.Deep.RegionHeld
import Derived.Deep.RegionLaw
namespace Go.Proofs.YtlfbfdhdkccaeaaGreat
open Go.RowKit Go.Shelf Go.Sort

theorem info89 : (Tryz.prog.info? 63).map (fun i => (i.zero, i.size, i.bytes)) = some (some (.slice none 0 0), 1, 24) := by kernel_rfl
/-- append to what the call has made, as one operation -/
theorem wp_append_at {P : Program} {w : World} {o : Oper} {a : Act} {K : Act → World → Prop} {Q : Exit → Act → World → Prop} (s x : Operand) (t : TypeId)
    (ho : o.op = .call { callee := .builtin .append, args := #[s, x], argTypes := #[t, t] })
    (base : Nat) (e : TypeId) (i : TypeInfo) (z : Value) (size bytes : Nat) (ht : P.underlying t = some (.slice e)) (hi : P.info? e = some i) (hz : i.zero = some z)
    (hsize : i.size = size) (hby : i.bytes = bytes) (hzs : z.cells.size = size) (hsz : 0 < size)
    (v : Value) (n : Nat) (xs : List Value) (hs : a.eval s = v) (hown : w.ownsRow base e size v n xs)
    (ad : Addr) (m c : Nat) (news : List Value) (hx : a.eval x = .slice (some ad) m c) (hl : news.length = m * size) (hnews : ∀ j u, news[j]? = some u → w.cell? (ad.add j) = some u) (h1 : ∀ u ∈ news, u.oneCell' = true)
    (h63 : n + m ≤ maxLen) (hbytes : (n + m) * bytes ≤ 140737488355328) (hbase : base ≤ w.heap.size)
    (h : ∀ v' w', w'.ownsRow base e size v' (n + m) (xs ++ news) → w.grownBy w' v.ownBlock → (v'.ownBlock = v.ownBlock ∨ v'.ownBlock = some w.heap.size) → K (a.put o.dst v') w') : o.wp P a w K Q := by
  obtain ⟨v', w', hr, h2, h3, _, h4⟩ := run_append_own_at (P := P) w base t o.type e i z size bytes ht hi hz hsize hby hzs hsz v n xs hown ad m c news hl hnews h1 h63 hbytes hbase
  unfold Oper.wp
  simp [execOp, ho, resolve, invoke, builtin, hs, hx, hr, Result.andThen]
  exact h v' w' h2 h3 h4

/-- the same, as one step of a region that draws -/
theorem step_append_at {P : Program} {ops : Array Oper} {w : World} {o : Oper} {a : Act} {K : Act → World → Prop} {Q : Exit → Act → World → Prop} {E : Prop} (hg : o.guard = none) (s x : Operand) (t : TypeId)
    (ho : o.op = .call { callee := .builtin .append, args := #[s, x], argTypes := #[t, t] })
    (base : Nat) (e : TypeId) (i : TypeInfo) (z : Value) (size bytes : Nat) (ht : P.underlying t = some (.slice e)) (hi : P.info? e = some i) (hz : i.zero = some z)
    (hsize : i.size = size) (hby : i.bytes = bytes) (hzs : z.cells.size = size) (hsz : 0 < size)
    (v : Value) (n : Nat) (xs : List Value) (hs : a.eval s = v) (hown : w.ownsRow base e size v n xs)
    (ad : Addr) (m c : Nat) (news : List Value) (hx : a.eval x = .slice (some ad) m c) (hl : news.length = m * size) (hnews : ∀ j u, news[j]? = some u → w.cell? (ad.add j) = some u) (h1 : ∀ u ∈ news, u.oneCell' = true)
    (h63 : n + m ≤ maxLen) (hbytes : (n + m) * bytes ≤ 140737488355328) (hbase : base ≤ w.heap.size)
    (h : ∀ v' w', w'.ownsRow base e size v' (n + m) (xs ++ news) → w.grownBy w' v.ownBlock → (v'.ownBlock = v.ownBlock ∨ v'.ownBlock = some w.heap.size) → K (a.put o.dst v') w') : if Region.wanted o (yielded ops a.tmps) = true then Oper.wp P o a w K Q else E := by
  have hw : Region.wanted o (yielded ops a.tmps) = true := by simp [Region.wanted, hg]
  rw [if_pos hw]
  exact wp_append_at s x t ho base e i z size bytes ht hi hz hsize hby hzs hsz v n xs hs hown ad m c news hx hl hnews h1 h63 hbytes hbase h

theorem grownBy_set2 (w : World) (b i : Nat) (v : Value) : w.grownBy (w.setCell ⟨b, i, none⟩ v) (some b) :=
  ⟨rfl, rfl, rfl, by simp, fun k _ hk => Below.heap_setCell w ⟨b, i, none⟩ v k (fun e => hk (by rw [e]))⟩
abbrev RwR := Rws (α := Pl.Rn) 63 60 rnL 4
abbrev StI := StF 57 (Value.int .i64)
/-- the rows that were made, with nothing in them -/
theorem Rws.made (W : World) (B b : Nat) (hB : B ≤ W.heap.size) (hb : b ≤ maxLen) : RwR (W.alloc (.cells (madeCells #[.slice none 0 0] b) 63)) B (.slice (some ⟨W.heap.size, 0, none⟩) b b) (fun _ => .slice none 0 0) (List.replicate b []) := by
  have hl : (List.replicate b ([] : List Pl.Rn)).length = b := List.length_replicate ..
  have hg : ∀ j, (List.replicate b ([] : List Pl.Rn)).getD j [] = [] := fun j => by
    rw [List.getD_eq_getElem?_getD, List.getElem?_replicate]; split <;> rfl
  refine ⟨?_, fun j hj => ?_, fun i j _ _ _ => .inl rfl, fun j _ => .inl rfl⟩
  · rw [hl]
    have h := World.ownsRow_lit (base := B) (e := 63) (size := 1) W (madeCells #[.slice none 0 0] b) b hB hb (by simp [madeCells])
    have e : (madeCells #[Value.slice none 0 0] b).toList = (List.range b).map (fun _ => Value.slice none 0 0) := by
      apply List.ext_getElem?
      intro j
      by_cases c : j < b
      · simp [madeCells, List.getElem?_range c, Nat.mod_one]
      · rw [List.getElem?_eq_none (by simp [madeCells]; omega), List.getElem?_eq_none (by simp; omega)]
    rw [e] at h
    exact h
  · rw [hg j]; exact World.ownsRow_nil _ _ _ _
/-- what is kept of the barrels when one run more is given -/
theorem as_append {W W1 : World} {B gr gf b cap k : Nat} {F : Nat → Value} {rows : List (List Pl.Rn)} {fr : Nat → Int} {x : Pl.Rn} {u : Value} (h : RwR W B (.slice (some ⟨gr, 0, none⟩) b cap) F rows) (hn : rows.length = b) (hk : k < b) (hs : StI W gf 8 fr) (hne : gf ≠ gr) (hF : ∀ j, j < b → (F j).ownBlock ≠ some gf)
    (ho : W1.ownsRow B 60 4 u ((rows.getD k []).length + 1) (flt rnL (rows.getD k []) ++ rnL x)) (hg : W.grownBy W1 (F k).ownBlock) (hl : u.ownBlock = (F k).ownBlock ∨ u.ownBlock = some W.heap.size) :
    RwR (W1.setCell ⟨gr, k, none⟩ u) B (.slice (some ⟨gr, 0, none⟩) b cap) (fun j => if j = k then u else F j) (rows.set k (rows.getD k [] ++ [x])) ∧ StI (W1.setCell ⟨gr, k, none⟩ u) gf 8 fr ∧ (∀ j, j < b → (if j = k then u else F j).ownBlock ≠ some gf) ∧ Below B W (W1.setCell ⟨gr, k, none⟩ u) := by
  obtain ⟨h1, h2⟩ := Rws.grow h hn hk ho hg hl
  have hgf := hs.lt
  refine ⟨h1, ?_, fun j hj => ?_, h2⟩
  · have hs1 : StI W1 gf 8 fr := by
      obtain ⟨arr, a1, a2, a3⟩ := hs
      exact ⟨arr, (hg.block gf hgf (fun e => hF k hk e.symm)).trans a1, a2, a3⟩
    exact hs1.far (p := ⟨gr, k, none⟩) hne u
  · split
    · rcases hl with e | e
      · rw [e]; exact hF k hk
      · rw [e]; intro e2; cases e2; omega
    · exact hF j hj

theorem Pl.ar_ll {l : List Pl.Bt} {cl : Int} {s : (Nat → Int) × List (List Pl.Rn)} {k : Nat} {row : List Int} (t : Nat) : ∀ j, ((Pl.ar l cl s k row j).2.getD t []).length ≤ (s.2.getD t []).length + j
  | 0 => Nat.le_refl _
  | j + 1 => by
    have ih := Pl.ar_ll (l := l) (cl := cl) (s := s) (k := k) (row := row) t j
    rw [Pl.ar]
    show ((List.set _ k _).getD t []).length ≤ _
    rw [List.getD_eq_getElem?_getD, List.getElem?_set]
    split
    · rename_i e
      subst e
      split
      · simp only [Option.getD_some, List.length_append, List.length_singleton]; omega
      · simp
    · rw [← List.getD_eq_getElem?_getD]; omega
theorem Pl.asg_ll {l : List Pl.Bt} {cl : Int} {b : Nat} {rows : List (List Int)} (t : Nat) : ∀ m, m ≤ rows.length → (∀ k, k < m → (rows.getD k []).length ≤ 60) → ((Pl.asg l cl b rows m).2.getD t []).length ≤ 60 * m
  | 0, _, _ => by
    have : (Pl.asg l cl b rows 0).2.getD t [] = [] := by
      show (List.replicate b []).getD t [] = []
      rw [List.getD_eq_getElem?_getD, List.getElem?_replicate]; split <;> rfl
    rw [this]; simp
  | m + 1, hm, h => by
    have ih := Pl.asg_ll (l := l) (cl := cl) (b := b) t m (by omega) (fun k hk => h k (by omega))
    have h1 := Pl.ar_ll (l := l) (cl := cl) (s := Pl.asg l cl b rows m) (k := Pl.fm (Pl.asg l cl b rows m).1 b) (row := rows.getD m []) t (rows.getD m []).length
    have h2 := h m (by omega)
    rw [Pl.asg]
    omega

set_option maxRecDepth 100000 in
set_option maxHeartbeats 32000000 in
theorem Assign_any (A : Option Addr) (l : List Pl.Bt) (c n : Nat) (hn : l.length = n) (AR : Option Addr) (rows : List (List Int)) (cr m : Nat) (hm : rows.length = m) (hm6 : m ≤ 60) (hlen : ∀ k, k < m → (rows.getD k []).length ≤ 60) (bb cl : Int) (w : World) (hI : Bts w A l) (hR : RR inL 1 w AR rows) :
    Calls Tryz.prog 11 #[.slice A n c, .slice AR m cr, .int .i64 bb, .int .i64 cl] w fun e w' => ∃ v f, e = .returned (.tuple #[v, .int .i64 (Pl.asE l rows bb cl)]) ∧ RwR w' w.heap.size v f (Pl.asV l rows bb cl) ∧ Below w.heap.size w w' := by
  have HC := Lib.hid (Check_any A l c n hn AR rows cr m hm (by omega) w hI hR)
  obtain ⟨CE, hCE⟩ : ∃ CE, Pl.ckE l rows = CE := ⟨_, rfl⟩
  rw [hCE] at HC
  by_cases hz : CE = 0
  rotate_left
  · have HF : Hid (Pl.asE l rows bb cl = CE ∧ Pl.asV l rows bb cl = []) := Lib.hid (by
      have h1 : Pl.asE l rows bb cl = CE := by rw [Pl.asE_no (by rw [hCE]; exact hz), hCE]
      exact ⟨h1, Pl.asV_no (by rw [h1]; exact hz)⟩)
    have hz1 : (CE != 0) = true := by simp [hz]
    rw [HF.out.1, HF.out.2]
    clear hI hn hm hR hCE hz hlen
    go_enter Tryz.func11, Tryz.ntmps11
    go_wp2_with fail
    refine HC.out.mono ?_
    rintro e w1 ⟨rfl, hb1⟩
    go_wp2
    go_ret2
    exact ⟨_, fun _ => .slice none 0 0, rfl, Rws.nil _ _ _, hb1⟩
  subst hz
  obtain ⟨sh, hsh⟩ : ∃ sh, Pl.shop bb cl = sh := ⟨_, rfl⟩
  have HSB := Lib.hid (fun w => validBarrels_b bb cl sh hsh w)
  cases sh
  · have HF : Hid (Pl.asE l rows bb cl = 2 ∧ Pl.asV l rows bb cl = []) := Lib.hid (by
      have h1 : Pl.asE l rows bb cl = 2 := Pl.asE_bad hCE hsh
      exact ⟨h1, Pl.asV_no (by rw [h1]; decide)⟩)
    rw [HF.out.1, HF.out.2]
    clear hI hn hm hR hCE hsh hlen
    go_enter Tryz.func11, Tryz.ntmps11
    go_wp2_with fail
    refine HC.out.mono ?_
    rintro e w1 ⟨rfl, hb1⟩
    go_wp2_with (go_at_call 23; refine (HSB.out _).mono ?_; rintro e w4 ⟨rfl, rfl⟩)
    go_ret2
    exact ⟨_, fun _ => .slice none 0 0, rfl, Rws.nil _ _ _, hb1⟩
  obtain ⟨hv, hix⟩ := Pl.ck_zero hCE
  have hok := Pl.ok_of hv
  have hn4 : n ≤ 40 := hn ▸ hok.len
  have hS := Pl.shop_true.1 hsh
  obtain ⟨b, rfl⟩ : ∃ b : Nat, bb = b := ⟨bb.toNat, by omega⟩
  have hb0 : 0 < b := by omega
  have hb8 : b ≤ 8 := by omega
  have hc0 : 0 ≤ cl := by omega
  have hc1 : cl ≤ 100 := by omega
  have HE0 := Pl.asE_ok hCE hsh
  have HV0 : Hid (Pl.asV l rows b cl = (Pl.asg l cl b rows m).2) := Lib.hid (by rw [Pl.asV_ok HE0, hm]; rfl)
  rw [HE0]
  generalize Pl.asV l rows (b : Int) cl = VV at *
  have HI := Lib.hid hI
  have HN := Lib.hid hn
  have HOK := Lib.hid hok
  have HIX : Hid (∀ k, k < m → ∀ j (hj : j < (rows.getD k []).length), ∃ q : Nat, (rows.getD k [])[j] = q ∧ q < n) := Lib.hid (fun k hk j hj => by
    obtain ⟨h1, h2⟩ := hix k (by rw [hm]; exact hk) j hj
    rw [List.getD_eq_getElem?_getD, List.getElem?_eq_getElem hj] at h1 h2
    change 0 ≤ (rows.getD k [])[j] at h1
    change (rows.getD k [])[j] < _ at h2
    exact ⟨(rows.getD k [])[j].toNat, by omega, by omega⟩)
  have HBD : Hid (∀ k, k ≤ m → ∀ q, 0 ≤ (Pl.asg l cl b rows k).1 q ∧ (Pl.asg l cl b rows k).1 q ≤ 1800000) := Lib.hid (fun k hk q => by
    have := Pl.asg_bd hok hc0 hc1 (b := b) (rows := rows) (fun j hj => ⟨hix j hj, hlen j (by rw [← hm]; exact hj)⟩) k (by rw [hm]; exact hk) q
    omega)
  have HBA : Hid (∀ k, k < m → ∀ t j, j ≤ (rows.getD k []).length → ∀ q, 0 ≤ (Pl.ar l cl (Pl.asg l cl b rows k) t (rows.getD k []) j).1 q ∧ (Pl.ar l cl (Pl.asg l cl b rows k) t (rows.getD k []) j).1 q ≤ 1900000) := Lib.hid (fun k hk t j hj q => by
    have h1 := Pl.ar_bd hok hc0 hc1 (k := t) (s := Pl.asg l cl b rows k) (hix k (by rw [hm]; exact hk)) (B := 1800000) (fun q => by
      have := Pl.asg_bd hok hc0 hc1 (b := b) (rows := rows) (fun j hj => ⟨hix j hj, hlen j (by rw [← hm]; exact hj)⟩) k (by rw [hm]; omega) q
      omega) j hj q
    have := hlen k hk
    omega)
  have HAL : Hid (∀ k, (Pl.asg l cl b rows k).2.length = b) := Lib.hid (fun k => Pl.asg_len k)
  have HRL : Hid (∀ k t j, (Pl.ar l cl (Pl.asg l cl b rows k) t (rows.getD k []) j).2.length = b) := Lib.hid (fun k t j => by rw [Pl.ar_len]; exact Pl.asg_len k)
  have HLL : Hid (∀ k, k < m → ∀ t j, j ≤ (rows.getD k []).length → ((Pl.ar l cl (Pl.asg l cl b rows k) t (rows.getD k []) j).2.getD t []).length ≤ 4000) := Lib.hid (fun k hk t j hj => by
    have h1 := Pl.ar_ll (l := l) (cl := cl) (s := Pl.asg l cl b rows k) (k := t) (row := rows.getD k []) t j
    have h2 := Pl.asg_ll (l := l) (cl := cl) (b := b) (rows := rows) t k (by rw [hm]; omega) (fun k' hk' => hlen k' (by omega))
    have := hlen k hk
    omega)
  have HFMB : Hid (∀ k, Pl.fm (Pl.asg l cl b rows k).1 b < b) := Lib.hid (fun k => (Pl.fm_spec _ b hb0).1)
  have HLEN := Lib.hid hlen
  have HGR : Hid (∀ k, k < m → ∃ b' off, AR = some ⟨b', off, none⟩ ∧ b' < w.heap.size ∧ ∃ A' c', w.cell? ⟨b', off + k, none⟩ = some (.slice A' (rows.getD k []).length c') ∧ Rows inL 1 w A' (rows.getD k []) ∧ (rows.getD k []).length ≤ c' ∧ c' ≤ maxLen) := Lib.hid (fun k hk => rr_row hR (by rw [hm]; exact hk))
  clear hI hn hm hR hCE hsh hlen hix hv hok hS HE0
  obtain ⟨i9, hi9, hz9, hn9, hy9⟩ := info_parts info89
  obtain ⟨i6, hi6, hz6, hn6, hy6⟩ := info_parts infoRn'
  go_enter Tryz.func11, Tryz.ntmps11
  go_wp2_with fail
  refine HC.out.mono ?_
  rintro e w1 ⟨rfl, hb1⟩
  have hmk := run_make w1 38 63 i9 (.slice none 0 0) Tryz.underlying38 hi9 hz9 .i64 .i64 (b : Int) (b : Int) (by omega) (by omega) (by rw [hy9]; omega) (by omega)
  rw [Int.toNat_natCast, hn9, Nat.mul_one] at hmk
  change Sem.run _ _ _ = Result.ok _ (w1.alloc (.cells (madeCells #[.slice none 0 0] b) 63)) at hmk
  have hR0 := Rws.made w1 w.heap.size b hb1.size (by unfold maxLen; omega)
  have hB2 := hb1.alloc hb1.size (.cells (madeCells #[.slice none 0 0] b) 63)
  have hsz2 : (w1.alloc (.cells (madeCells #[.slice none 0 0] b) 63)).heap.size = w1.heap.size + 1 := by simp
  have hgb : w.heap.size ≤ w1.heap.size := hb1.size
  obtain ⟨gr, hgr⟩ : ∃ gr, w1.heap.size = gr := ⟨_, rfl⟩
  rw [hgr] at hR0 hmk hsz2 hgb
  generalize w1.alloc (.cells (madeCells #[.slice none 0 0] b) 63) = w2 at *
  obtain ⟨w3, hw3⟩ : ∃ w3, w3 = w2.alloc (.cells #[.int .i64 0, .int .i64 0, .int .i64 0, .int .i64 0, .int .i64 0, .int .i64 0, .int .i64 0, .int .i64 0] 57) := ⟨_, rfl⟩
  have hR1 := hR0.below ((Below.refl w2.heap.size w2).alloc (Nat.le_refl _) (.cells #[.int .i64 0, .int .i64 0, .int .i64 0, .int .i64 0, .int .i64 0, .int .i64 0, .int .i64 0, .int .i64 0] 57))
  have hB3 := hB2.alloc hB2.size (.cells #[.int .i64 0, .int .i64 0, .int .i64 0, .int .i64 0, .int .i64 0, .int .i64 0, .int .i64 0, .int .i64 0] 57)
  have hst : StF 57 (Value.int .i64) (w2.alloc (.cells #[.int .i64 0, .int .i64 0, .int .i64 0, .int .i64 0, .int .i64 0, .int .i64 0, .int .i64 0, .int .i64 0] 57)) w2.heap.size 8 (fun _ => 0) :=
    ⟨_, Blk.new w2 57 _, rfl, fun q hq => by
      have : q = 0 ∨ q = 1 ∨ q = 2 ∨ q = 3 ∨ q = 4 ∨ q = 5 ∨ q = 6 ∨ q = 7 := by omega
      rcases this with rfl | rfl | rfl | rfl | rfl | rfl | rfl | rfl <;> rfl⟩
  rw [← hw3] at hR1 hB3 hst
  rw [hsz2] at hst
  have HR1 := Lib.hid hR1
  have HB3 := Lib.hid hB3
  have HST := Lib.hid hst
  have HW3 := Lib.hid hw3
  clear hR0 hR1 hB2 hB3 hst hw3 hi9 hz9 hn9 hy9 HC hb1
  go_wp2_with (go_at_call 23; refine (HSB.out _).mono ?_; rintro e w4 ⟨rfl, rfl⟩)
  rw [← HW3.out]
  clear hmk HW3
  have HS00 : Hid ((Pl.asg l cl b rows 0).1 = (fun _ => 0) ∧ (Pl.asg l cl b rows 0).2 = List.replicate b []) := Lib.hid ⟨rfl, rfl⟩
  go_loopw [14, 15, 16, 17, 18, 19, 34] (fun _ _ _ _ _ _ i wr => ∃ k : Nat, ∃ F, k ≤ m ∧ i = .int .i64 k ∧ RwR wr w.heap.size (.slice (some ⟨gr, 0, none⟩) b b) F (Pl.asg l cl b rows k).2 ∧ StI wr (gr + 1) 8 (Pl.asg l cl b rows k).1 ∧ Hid (∀ j, j < b → (F j).ownBlock ≠ some (gr + 1)) ∧ Below w.heap.size w wr) (fun _ _ _ _ _ _ i _ => m - (intOf i).toNat)
  case atStart => exact ⟨0, (fun _ => .slice none 0 0), Nat.zero_le _, rfl, by rw [HS00.out.2]; exact HR1.out, by rw [HS00.out.1]; exact HST.out, Lib.hid (fun j _ => by simp [Value.ownBlock]), HB3.out⟩
  case round =>
    clear HR1 HST HB3
    obtain ⟨k, F, hk, rfl, hR, hS, hF, hW⟩ := hrel
    obtain ⟨wo, rfl⟩ : ∃ wo, wo = wr := ⟨_, rfl⟩
    by_cases hlt : k < m
    · have hltI : (k : Int) < (m : Int) := by omega
      obtain ⟨b', off, rfl, hb', A', c', h1, h2, h3, h4⟩ := HGR.out k hlt
      have q0 := (hW.cell (p := ⟨b', off + k, none⟩) hb').trans h1
      have HX := Lib.hid h2
      have hLk := HLEN.out k hlt
      have HIXk := Lib.hid (HIX.out k hlt)
      have HBAk := Lib.hid (HBA.out k hlt (Pl.fm (Pl.asg l cl b rows k).1 b))
      have HRLk := Lib.hid (HRL.out k (Pl.fm (Pl.asg l cl b rows k).1 b))
      have HLLk := Lib.hid (HLL.out k hlt (Pl.fm (Pl.asg l cl b rows k).1 b))
      have HLST := Lib.hid (least_b (gr + 1) b hb0 hb8 _ wo hS)
      have htb := HFMB.out k
      have HNEXT : Hid (Pl.asg l cl b rows (k + 1) = Pl.ar l cl (Pl.asg l cl b rows k) (Pl.fm (Pl.asg l cl b rows k).1 b) (rows.getD k []) (rows.getD k []).length) := Lib.hid rfl
      obtain ⟨row, hrow⟩ : ∃ r, rows.getD k [] = r := ⟨_, rfl⟩
      rw [hrow] at q0 HX hLk HIXk HBAk HRLk HLLk HNEXT
      obtain ⟨S0, hS0⟩ : ∃ s, Pl.asg l cl b rows k = s := ⟨_, rfl⟩
      rw [hS0] at HBAk HRLk HLLk HNEXT hR hS HLST htb
      obtain ⟨t, ht⟩ : ∃ t, Pl.fm S0.1 b = t := ⟨_, rfl⟩
      rw [ht] at HBAk HRLk HLLk HNEXT HLST htb
      obtain ⟨U, hU⟩ : ∃ u, row.length = u := ⟨_, rfl⟩
      have HU := Lib.hid hU
      rw [hU] at q0 hLk HBAk HLLk HNEXT
      have HA0 : Hid (Pl.ar l cl S0 t row 0 = S0) := Lib.hid rfl
      have HRR := Lib.hid hR
      have HSS := Lib.hid hS
      have HWW := Lib.hid hW
      have hbI : (b : Int) ≤ 8 := by omega
      clear h1 h2 h3 h4 hrow hS0 ht hU hR hS hW
      go_wp2_with fail
      refine HLST.out.mono ?_
      rintro e w9 ⟨rfl, hw9⟩
      obtain rfl : wo = w9 := hw9.symm
      go_wp2
      go_loopw [16, 17, 18, 19, 43] (fun _ _ _ _ i wr => ∃ j : Nat, ∃ F, j ≤ U ∧ i = .int .i64 j ∧ RwR wr w.heap.size (.slice (some ⟨gr, 0, none⟩) b b) F (Pl.ar l cl S0 t row j).2 ∧ StI wr (gr + 1) 8 (Pl.ar l cl S0 t row j).1 ∧ Hid (∀ j, j < b → (F j).ownBlock ≠ some (gr + 1)) ∧ Below w.heap.size w wr) (fun _ _ _ _ i _ => U - (intOf i).toNat)
      case atStart => exact ⟨0, F, Nat.zero_le _, rfl, by rw [HA0.out]; exact HRR.out, by rw [HA0.out]; exact HSS.out, hF, HWW.out⟩
      case round =>
        clear HRR HSS HWW hF HLST q0
        obtain ⟨j, F, hj, rfl, hR, hS, hF, hW⟩ := hrel
        obtain ⟨w5, rfl⟩ : ∃ w5, w5 = wr := ⟨_, rfl⟩
        by_cases hltj : j < U
        · have hltjI : (j : Int) < (U : Int) := by omega
          have hjx : j < row.length := by rw [HU.out]; exact hltj
          obtain ⟨bx, ox, rfl, hbx, hcx⟩ := HX.out.open (by omega)
          have r0 := row_cell (mk := Value.int .i64) hbx hcx hW hjx
          obtain ⟨q, hq, hqn⟩ := HIXk.out j hjx
          rw [hq] at r0
          have HQ : Hid (row.getD j 0 = (q : Int)) := Lib.hid (by rw [List.getD_eq_getElem?_getD, List.getElem?_eq_getElem hjx]; exact hq)
          have hqI : (q : Int) < (n : Int) := by omega
          obtain ⟨cb, hcb⟩ : ∃ c, ((j : Int) == 0) = c := ⟨_, rfl⟩
          have HCB : Hid (decide (j = 0) = cb) := Lib.hid (by
            rw [← hcb]
            by_cases h : j = 0
            · subst h; rfl
            · have : ((j : Int) == 0) = false := by simp [h]
              rw [this, decide_eq_false h])
          obtain ⟨hb1, hb2⟩ := HBAk.out j (by omega) t
          have hlen2 := HRLk.out j
          have hll := HLLk.out j (by omega)
          have HST1 : Hid (Pl.ar l cl S0 t row (j + 1) = (fun q' => if q' = t then (Pl.mkr l cl ((Pl.ar l cl S0 t row j).1 t) q cb).t else (Pl.ar l cl S0 t row j).1 q', (Pl.ar l cl S0 t row j).2.set t ((Pl.ar l cl S0 t row j).2.getD t [] ++ [Pl.mkr l cl ((Pl.ar l cl S0 t row j).1 t) q cb]))) := Lib.hid (by rw [Pl.ar, HQ.out, HCB.out])
          have ht8 : t < 8 := by omega
          have f0 := hS.cell (q := t) ht8
          have htI : (t : Int) < 8 := by omega
          obtain ⟨S, hSe⟩ : ∃ s, Pl.ar l cl S0 t row j = s := ⟨_, rfl⟩
          rw [hSe] at HST1 hR hS f0 hb1 hb2 hlen2 hll
          obtain ⟨fk, hfk⟩ : ∃ x, S.1 t = x := ⟨_, rfl⟩
          rw [hfk] at HST1 f0 hb1 hb2
          have hvb := HOK.out.vb q (by rw [HN.out]; exact hqn)
          have HMK : Hid (Pl.mkr l cl fk q cb = ⟨q, fk, fk + (Pl.hc cb cl + Pl.len (Pl.at' l q)), cb⟩) := Lib.hid rfl
          obtain ⟨x0, x1⟩ := Pl.hc_bd (c := cb) hc0 hc1
          obtain ⟨l0, l1⟩ := hvb.len0
          have HHC := Lib.hid (fun W => hoursOf_b (Pl.at' l q) cb cl W)
          obtain ⟨bz, oz, rfl, hbz, hcz⟩ := bts_open HI.out (by rw [HN.out]; omega)
          have hrb := bts_cells hbz hcz hW (i := q) (by rw [HN.out]; exact hqn)
          have hbz5 : bz < w5.heap.size := Nat.lt_of_lt_of_le hbz hW.size
          have HVB := Lib.hid hvb
          have HR5 := Lib.hid hR
          have HS5 := Lib.hid hS
          have HW5 := Lib.hid hW
          have hgf5 : gr + 1 < w5.heap.size := hS.lt
          have hgr5 : gr < w5.heap.size := by omega
          clear hcx hcz hq hSe hfk hvb hR hS hW
          generalize Pl.at' l q = E at *
          generalize Pl.hc cb cl = x at *
          obtain ⟨w6, hw6⟩ : ∃ w6, w6 = w5.alloc (.cells #[.int .i64 q, .int .i64 fk, .int .i64 0, .bool cb] 60) := ⟨_, rfl⟩
          have bR : Blk w6 w5.heap.size 60 (rnA ⟨q, fk, 0, cb⟩) := by rw [hw6]; exact Blk.new w5 60 (rnA ⟨q, fk, 0, cb⟩)
          have hB56 : Below w5.heap.size w5 w6 := by rw [hw6]; exact (Below.refl _ _).alloc (Nat.le_refl _) _
          have hsz6 : w5.heap.size < w6.heap.size := bR.lt
          have hrb6 := rangeAt_below hrb hbz5 hB56
          have hbz6 : bz < w6.heap.size := by omega
          have HBRn := Lib.hid bR
          have HB56 := Lib.hid hB56
          have HW6 := Lib.hid hw6
          clear hrb hB56 bR hw6
          go_wp2
          rw [← HW6.out]
          clear HW6 r0 f0 hcb
          have HS0 : Hid (Below w6.heap.size w6 w6.drew) := Lib.hid (Below.refl _ _).drew
          refine wp_region_held (S := fun W => Below w6.heap.size w6 W) (by kernel_rfl) ?_
          change wpAnyH _ _ _ _ _ _ _ _ (World.drew _)
          refine wpAnyH_take (i := 0) (v := ?_) rfl (by kernel_rfl) (by decide +kernel) (by decide +kernel) (fun _ _ _ h => h) (Or.inl ⟨by rfl, ?_⟩) HS0.out ?_
          rotate_left
          · intro w' _; first | (go_simp; done) | (go_simp; with_reducible rfl)
          refine wpAnyH_take (i := 1) (v := ?_) rfl (by kernel_rfl) (by decide +kernel) (by decide +kernel) (fun _ _ _ h => h) (Or.inl ⟨by rfl, ?_⟩) HS0.out ?_
          rotate_left
          · intro w' _; first | (go_simp; done) | (go_simp; with_reducible rfl)
          refine wpAnyH_take (i := 2) (v := ?_) rfl (by kernel_rfl) (by decide +kernel) (by decide +kernel) (fun _ _ _ h => h) (Or.inl ⟨by rfl, ?_⟩) HS0.out ?_
          rotate_left
          · intro w' _; first | (go_simp; done) | (go_simp; with_reducible rfl)
          refine wpAnyH_take (i := 3) (v := ?_) rfl (by kernel_rfl) (by decide +kernel) (by decide +kernel) (fun _ _ _ h => h) (Or.inl ⟨by rfl, ?_⟩) HS0.out ?_
          rotate_left
          · intro w' hS; obtain ⟨q0, q1, q2, q3, q4, q5, q6⟩ := bt_cells (rangeAt_below hrb6 hbz6 hS); first | (go_simp; done) | (go_simp; with_reducible rfl)
          refine wpAnyH_take (i := 4) (v := ?_) rfl (by kernel_rfl) (by decide +kernel) (by decide +kernel) (fun _ _ _ h => h) (Or.inl ⟨by rfl, ?_⟩) HS0.out ?_
          rotate_left
          · intro w' _; first | (go_simp; done) | (go_simp; with_reducible rfl)
          refine wpAnyH_take (i := 5) (v := ?_) rfl (by kernel_rfl) (by decide +kernel) (by decide +kernel) (fun _ _ _ h => h) (Or.inl ⟨by rfl, ?_⟩) HS0.out ?_
          rotate_left
          · intro w' hS; obtain ⟨q0, q1, q2, q3⟩ := rn_cells (rangeAt_below HBRn.out.rn hsz6 hS); first | (go_simp; done) | (go_simp; with_reducible rfl)
          refine wpAnyH_take (i := 6) (v := ?_) rfl (by kernel_rfl) (by decide +kernel) (by decide +kernel) (fun _ _ _ h => h) (Or.inl ⟨by rfl, ?_⟩) HS0.out ?_
          rotate_left
          · intro w' _; first | (go_simp; done) | (go_simp; with_reducible rfl)
          clear hrb6
          refine wpAnyH_all (rs := [7, 8]) (by decide +kernel) (by simp) ?_
          intro i0 hi0
          simp only [List.mem_cons, List.not_mem_nil, or_false] at hi0
          rcases hi0 with rfl | rfl
          case' inl =>
            refine wpOp_go rfl rfl (fun K hK => ?_)
            go_simp
            refine (HHC.out _).mono ?_
            rintro e w7 ⟨rfl, hb7⟩
            have hB1 := HS0.out.trans (hb7.mono HS0.out.size)
            refine hK _ _ ⟨hB1, ?_⟩
            clear hK K
            refine wpAnyH_all (rs := [8]) (by decide +kernel) (by simp) ?_
            intro i0 hi0
            obtain rfl := List.mem_singleton.1 hi0
            refine wpOp_go rfl rfl (fun K hK => ?_)
            have bX := Blk.new w7 61 z5
            have hB2 := hB1.alloc hB1.size (.cells z5 61)
            have bX1 : Blk ((w7.alloc (.cells z5 61)).setRow w7.heap.size (h5L E x).toArray) w7.heap.size 61 (h5L E x).toArray := setRow_same bX
            have hB3 := hB2.trans ((Only.setRow w7.heap.size (w7.alloc (.cells z5 61)) (h5L E x).toArray).below hB1.size)
            go_simp
            refine hK _ _ ⟨hB2, ?_⟩
            clear hK K
            refine wpAnyH_all (rs := [9]) (by decide +kernel) (by simp) ?_
            intro i0 hi0
            obtain rfl := List.mem_singleton.1 hi0
            refine wpOp_go rfl rfl (fun K hK => ?_)
            refine wp_store_row 61 (.tmp 19) (.tmp 62) rfl w7.heap.size (h5L E x).toArray rfl rfl 61 z5 bX info87 rfl (h5_all _ _) (hK _ _ ⟨hB3, ?_⟩)
            clear hK K
            refine wpAnyH_done (by decide +kernel) ?_ _
            have hle : w6.heap.size ≤ w7.heap.size := hB1.size
            clear bX hB1 hB2 hb7
            generalize (w7.alloc (.cells z5 61)).setRow w7.heap.size (h5L E x).toArray = w8 at bX1 hB3 ⊢
            generalize w7.heap.size = b7 at bX1 hle ⊢
          case' inr =>
            refine wpOp_go rfl rfl (fun K hK => ?_)
            have bX := Blk.new w6.drew 61 z5
            have hB1 := HS0.out.alloc HS0.out.size (.cells z5 61)
            have HBX := Lib.hid bX
            clear bX
            go_simp
            refine hK _ _ ⟨hB1, ?_⟩
            clear hK K
            refine wpAnyH_all (rs := [7]) (by decide +kernel) (by simp) ?_
            intro i0 hi0
            obtain rfl := List.mem_singleton.1 hi0
            refine wpOp_go rfl rfl (fun K hK => ?_)
            go_simp
            refine (HHC.out _).mono ?_
            rintro e w7 ⟨rfl, hb7⟩
            have hB2 := hB1.trans (hb7.mono hB1.size)
            have bX : Blk w7 w6.heap.size 61 z5 := HBX.out.below hb7 HBX.out.lt
            have bX1 : Blk (w7.setRow w6.heap.size (h5L E x).toArray) w6.heap.size 61 (h5L E x).toArray := setRow_same bX
            have hB3 := hB2.trans ((Only.setRow w6.heap.size w7 (h5L E x).toArray).below (Nat.le_refl _))
            refine hK _ _ ⟨hB2, ?_⟩
            clear hK K
            refine wpAnyH_all (rs := [9]) (by decide +kernel) (by simp) ?_
            intro i0 hi0
            obtain rfl := List.mem_singleton.1 hi0
            refine wpOp_go rfl rfl (fun K hK => ?_)
            refine wp_store_row 61 (.tmp 19) (.tmp 62) rfl w6.heap.size (h5L E x).toArray rfl rfl 61 z5 bX info87 rfl (h5_all _ _) (hK _ _ ⟨hB3, ?_⟩)
            clear hK K
            refine wpAnyH_done (by decide +kernel) ?_ _
            clear bX hB1 hB2 hb7 HBX
            generalize w7.setRow w6.heap.size (h5L E x).toArray = w8 at bX1 hB3 ⊢
            obtain ⟨b7, hb7⟩ : ∃ b7, w6.heap.size = b7 := ⟨_, rfl⟩
            rw [hb7] at bX1 ⊢
            have hle : w6.heap.size ≤ b7 := by omega
            clear hb7
          all_goals
            have bR8 := HBRn.out.below hB3 hsz6
            have hBW8 : Below w5.heap.size w5 w8 := HB56.out.trans (hB3.mono (by omega))
            have k1 : IntKind.i64.wrap (fk + (x + Pl.len E)) = fk + (x + Pl.len E) := IntWalk.i64_in _ (by omega)
            have hb7 : b7 < w8.heap.size := bX1.lt
            have hbr8 : w5.heap.size < w8.heap.size := bR8.lt
            have HBX1 := Lib.hid bX1
            have HBR8 := Lib.hid bR8
            have HBW8 := Lib.hid hBW8
            have HSM := Lib.hid (sum5_b E HVB.out x x0 x1 b7 w8.drew ((bX1.cell 0).trans rfl) ((bX1.cell 1).trans rfl) ((bX1.cell 2).trans rfl) ((bX1.cell 3).trans rfl) ((bX1.cell 4).trans rfl))
            clear HS0 hB3 bX1 bR8 hBW8
            obtain ⟨T, hT⟩ : ∃ T, fk + (x + Pl.len E) = T := ⟨_, rfl⟩
            have HT := Lib.hid hT
            obtain ⟨w9, hw9⟩ : ∃ w9, w9 = (w8.setCell ⟨w5.heap.size, 2, none⟩ (.int .i64 (fk + (x + Pl.len E)))).drew := ⟨_, rfl⟩
            have bR9 : Blk w9 w5.heap.size 60 (rnA ⟨q, fk, T, cb⟩) := by
              rw [hw9, hT]
              have := (HBR8.out.set_ 2 (.int .i64 T)).drew
              simpa using this
            have hBW9 : Below w5.heap.size w5 w9 := by rw [hw9]; exact (HBW8.out.setCell (p := ⟨w5.heap.size, 2, none⟩) (Nat.le_refl _) _).drew
            have HBR9 := Lib.hid bR9
            have HBW9 := Lib.hid hBW9
            have HW9 := Lib.hid hw9
            clear bR9 hBW9 hw9 hT
            go_wp2
            have HS0 : Hid (∃ f, Blk w8.drew w5.heap.size 60 #[.int .i64 q, .int .i64 fk, .int .i64 f, .bool cb] ∧ b7 < w8.drew.heap.size) := Lib.hid ⟨0, HBR8.out.drew, hb7⟩
            have fz8 := (HBR8.out.drew).frozen 2
            have cz8 := ((HBR8.out.drew).cell 2).trans rfl
            refine wp_region_held (S := fun W => ∃ f, Blk W w5.heap.size 60 #[.int .i64 q, .int .i64 fk, .int .i64 f, .bool cb] ∧ b7 < W.heap.size) (by kernel_rfl) ?_
            change wpAnyH _ _ _ _ _ _ _ _ (World.drew _)
            refine wpAnyH_take (i := 0) (v := ?_) rfl (by kernel_rfl) (by decide +kernel) (by decide +kernel) (fun _ _ _ h => h) (Or.inl ⟨by rfl, ?_⟩) HS0.out ?_
            rotate_left
            · intro w' _; first | (go_simp; done) | (go_simp; with_reducible rfl)
            refine wpAnyH_take (i := 1) (v := ?_) rfl (by kernel_rfl) (by decide +kernel) (by decide +kernel) (fun _ _ _ h => h) (Or.inl ⟨by rfl, ?_⟩) HS0.out ?_
            rotate_left
            · intro w' hS; obtain ⟨f, hS, _⟩ := hS; have q1 := (hS.cell 1).trans rfl; first | (go_simp; done) | (go_simp; with_reducible rfl)
            refine wpAnyH_take (i := 2) (v := ?_) rfl (by kernel_rfl) (by decide +kernel) (by decide +kernel) (fun _ _ _ h => h) (Or.inl ⟨by rfl, ?_⟩) HS0.out ?_
            rotate_left
            · intro w' _; first | (go_simp; done) | (go_simp; with_reducible rfl)
            refine wpAnyH_all (rs := [3]) (by decide +kernel) (by simp) ?_
            intro i0 hi0
            obtain rfl := List.mem_singleton.1 hi0
            refine wpOp_go rfl rfl (fun K hK => ?_)
            go_simp
            refine HSM.out.mono ?_
            rintro e w7 ⟨rfl, hw7⟩
            subst hw7
            refine hK _ _ ⟨HS0.out, ?_⟩
            clear hK K
            refine wpAnyH_all (rs := [4]) (by decide +kernel) (by simp) ?_
            intro i0 hi0
            obtain rfl := List.mem_singleton.1 hi0
            refine wpOp_go rfl rfl (fun K hK => ?_)
            go_simp
            refine hK _ _ ⟨HS0.out, ?_⟩
            clear hK K
            refine wpAnyH_take (i := 5) (v := ?_) rfl (by kernel_rfl) (by decide +kernel) (by decide +kernel) (fun _ _ _ h => h) (Or.inl ⟨by rfl, ?_⟩) HS0.out ?_
            rotate_left
            · intro w' _; first | (go_simp; done) | (go_simp; with_reducible rfl)
            refine wpAnyH_all (rs := [6]) (by decide +kernel) (by simp) ?_
            intro i0 hi0
            obtain rfl := List.mem_singleton.1 hi0
            refine wpOp_go rfl rfl (fun K hK => ?_)
            go_simp
            rw [← HW9.out]
            refine hK _ _ ⟨⟨T, HBR9.out, by have := HBW9.out.size; rw [HW9.out]; simpa using hb7⟩, ?_⟩
            clear hK K
            refine wpAnyH_done (by decide +kernel) ?_ _
            clear HS0 fz8 cz8 k1 HW9
            have cz9 : w9.cell? ⟨w5.heap.size, 2, none⟩ = some (.int .i64 T) := (HBR9.out.cell 2).trans rfl
            have hS9 : StI w9 (gr + 1) 8 S.1 := HS5.out.below HBW9.out hgf5
            have ft9 := hS9.frozen t
            have ct9 := hS9.cell ht8
            have htI8 : (t : Int) < 8 := by omega
            have HRO : Hid (RwR (w9.setCell ⟨gr + 1, t, none⟩ (.int .i64 T)) w.heap.size (.slice (some ⟨gr, 0, none⟩) b b) F S.2) := Lib.hid ((HR5.out.below HBW9.out).kept (grownBy_set2 w9 (gr + 1) t (.int .i64 T)) (.inr (by simp [Value.ownBlock])) (fun j hj => .inr (hF.out j (by rw [← hlen2]; exact hj))))
            have HS10 : Hid (StI (w9.setCell ⟨gr + 1, t, none⟩ (.int .i64 T)) (gr + 1) 8 (fun q' => if q' = t then T else S.1 q')) := Lib.hid (hS9.set (f' := fun q' => if q' = t then T else S.1 q') t T (fun _ _ => rfl))
            have HBR10 : Hid (Blk (w9.setCell ⟨gr + 1, t, none⟩ (.int .i64 T)) w5.heap.size 60 (rnA ⟨q, fk, T, cb⟩)) := Lib.hid (HBR9.out.far (p := ⟨gr + 1, t, none⟩) (by show w5.heap.size ≠ gr + 1; omega) _)
            have HW10 : Hid (Below w.heap.size w (w9.setCell ⟨gr + 1, t, none⟩ (.int .i64 T))) := Lib.hid ((HW5.out.trans (HBW9.out.mono HW5.out.size)).setCell (p := ⟨gr + 1, t, none⟩) (by show w.heap.size ≤ gr + 1; omega) _)
            obtain ⟨w10, hw10⟩ : ∃ w10, w10 = w9.setCell ⟨gr + 1, t, none⟩ (.int .i64 T) := ⟨_, rfl⟩
            have HWW10 := Lib.hid hw10
            rw [← hw10] at HRO HS10 HBR10 HW10
            clear hS9 hw10
            go_wp2
            rw [← HWW10.out]
            clear cz9 ft9 ct9 HWW10
            have hsz10 : gr < w10.heap.size := (HRO.out.own.lt gr rfl).2
            have hgf10 : gr + 1 < w10.heap.size := HS10.out.lt
            have hbr10 : w5.heap.size < w10.heap.size := HBR10.out.lt
            have hwz10 : w.heap.size ≤ w10.heap.size := HW10.out.size
            have hc0' := HRO.out.cell (q := t) htb
            have how10 := HRO.out.own
            rw [hlen2] at how10
            have hfz0 := how10.frozenAt t
            clear how10
            obtain ⟨fr, hfr⟩ : ∃ fr, F t = fr := ⟨_, rfl⟩
            rw [hfr] at hc0'
            have HFR := Lib.hid hfr
            have z0 : w10.cell? ⟨w5.heap.size, 0, none⟩ = some (.int .i64 q) := (HBR10.out.cell 0).trans rfl
            have z1 : w10.cell? ⟨w5.heap.size, 1, none⟩ = some (.int .i64 fk) := (HBR10.out.cell 1).trans rfl
            have z2 : w10.cell? ⟨w5.heap.size, 2, none⟩ = some (.int .i64 T) := (HBR10.out.cell 2).trans rfl
            have z3 : w10.cell? ⟨w5.heap.size, 3, none⟩ = some (.bool cb) := (HBR10.out.cell 3).trans rfl
            have HWE := Lib.hid ((Below.refl w10.heap.size w10).drew.alloc (Nat.le_refl _) (.cells (rnA ⟨q, fk, T, cb⟩) 60))
            have HRE := Lib.hid (HRO.out.below HWE.out)
            have HSE := Lib.hid (HS10.out.below HWE.out hgf10)
            have HOW : Hid (((w10.drew).alloc (.cells (rnA ⟨q, fk, T, cb⟩) 60)).ownsRow w.heap.size 60 4 fr (S.2.getD t []).length (flt rnL (S.2.getD t []))) := Lib.hid (by rw [← HFR.out]; exact HRE.out.row t (by rw [hlen2]; exact htb))
            have HNC := Lib.hid (new_cells' (n := w10.heap.size) w10.drew 60 (rnL ⟨q, fk, T, cb⟩) rfl)
            obtain ⟨zl, hzl⟩ : ∃ z, (S.2.getD t []).length = z := ⟨_, rfl⟩
            have HZL := Lib.hid hzl
            rw [hzl] at HOW hll
            clear hzl hfr
            have HMK2 : Hid (Pl.mkr l cl fk q cb = ⟨q, fk, T, cb⟩) := Lib.hid (by rw [HMK.out, HT.out])
            have HN1 : Hid ((fun q' => if q' = t then T else S.1 q') = (Pl.ar l cl S0 t row (j + 1)).1) := Lib.hid (by rw [HST1.out, HMK2.out])
            have HN2 : Hid (S.2.set t (S.2.getD t [] ++ [⟨q, fk, T, cb⟩]) = (Pl.ar l cl S0 t row (j + 1)).2) := Lib.hid (by rw [HST1.out, HMK2.out])
            go_region_law (refine step_append_at rfl (.tmp 78) (.tmp 80) 63 rfl w.heap.size 60 i6 _ 4 32 Tryz.underlying63 hi6 hz6 hn6 hy6 rfl (by decide) fr zl _ (by simp [Act.eval]) HOW.out ⟨w10.heap.size, 0, none⟩ 1 1 (rnL ⟨q, fk, T, cb⟩) (by simp [Act.eval]) rfl HNC.out (encRn.one _) (by unfold maxLen; omega) (by omega) (by simp; omega) ?_; intro v9 w11 hown9 hgrow9 hloc9; obtain ⟨g9, c9, rfl⟩ := own_pos hown9; obtain ⟨hq9', hf9⟩ := HRE.out.at9 htb (W1 := w11) (by rw [HFR.out]; exact hgrow9); have hq9 : w11.cell? _ = some fr := hq9'.trans (congrArg some HFR.out); clear hq9')
            all_goals
              obtain ⟨hR12, hS12, hF12, hB12⟩ := as_append HRE.out hlen2 htb HSE.out (by omega) hF.out (u := .slice (some ⟨g9, 0, none⟩) (zl + 1) c9) (x := ⟨q, fk, T, cb⟩) (by rw [HZL.out]; exact hown9) (by rw [HFR.out]; exact hgrow9) (by rw [HFR.out]; exact hloc9)
              have hBB := HW10.out.trans ((HWE.out.mono hwz10).trans hB12)
              rw [HN2.out] at hR12
              rw [HN1.out] at hS12
              have HF12 := Lib.hid hF12
              have HR12 := Lib.hid hR12
              have HS12 := Lib.hid hS12
              clear hown9 hgrow9 hloc9 hq9 hf9 hB12 hF12 hR12 hS12 z0 z1 z2 z3
              go_wp2
              go_roundw
              case rel => exact ⟨j + 1, _, by omega, by go_num, HR12.out, HS12.out, HF12, hBB⟩
              case measure => simp [intOf]; omega
        · obtain rfl : U = j := by omega
          have HR' := Lib.hid hR
          have HS' := Lib.hid hS
          clear hR hS
          go_wp2
          go_roundw
          case rel => exact ⟨k + 1, F, by omega, by go_num, by rw [HNEXT.out]; exact HR'.out, by rw [HNEXT.out]; exact HS'.out, hF, hW⟩
          case measure => simp [intOf]; omega
    · obtain rfl : m = k := by omega
      have HR' := Lib.hid hR
      clear hR hS
      go_wp2
      go_ret2
      exact ⟨_, F, rfl, by rw [HV0.out]; exact HR'.out, hW⟩
end Go.Proofs.YtlfbfdhdkccaeaaGreat

