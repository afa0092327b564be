/- copied, withNumber, holding. -/
import Derived.Test.YtalfffkcmddakabZ1
import Derived.Laws.MakeOwn
import Derived.Laws.CopyOwn
import Derived.Laws.AppendOwnNone
namespace Go.Proofs.Ytalfffkcmddakab
open Go.RowKit Go.Shelf

theorem infoU8s : (Try.prog.info? 5).map (·.size) = some 1 := by kernel_rfl
theorem u8_len (l : Pl.Bs) : (flt u8L l).length = l.length := by rw [flt_len encU8, Nat.mul_one]
set_option maxHeartbeats 1000000 in
theorem copied_any (A : Option Addr) (l : Pl.Bs) (c n : Nat) (hn : l.length = n) (hm : n ≤ 100000) (w : World) (hI : Rows u8L 1 w A l) :
    Calls Try.prog 43 #[.slice A n c] w fun e w' => ∃ v, e = .returned v ∧ w'.ownsRow w.heap.size 5 1 v n (flt u8L l) ∧ Below w.heap.size w w' := by
  obtain ⟨i0, hi, hz0, hz1, hz2⟩ := info_parts infoU8
  have hmk := run_make w 29 5 i0 (.int .u8 0) Try.underlying29 hi hz0 .i64 .i64 n n (by omega) (by omega) (by rw [hz2]; omega) (by omega)
  rw [Int.toNat_natCast, hz1, Nat.mul_one] at hmk
  change Sem.run _ _ _ = Result.ok _ (w.alloc (.cells (madeCells #[.int .u8 0] n) 5)) at hmk
  have hg : (w.alloc (.cells (madeCells #[.int .u8 0] n) 5)).heap[w.heap.size]? = some (.cells (madeCells #[.int .u8 0] n).toList.toArray 5 (0, 0)) := heap_new w _
  have hB := (Below.refl w.heap.size w).alloc (Nat.le_refl _) (.cells (madeCells #[.int .u8 0] n) 5)
  have hsz := size_madeCells #[.int .u8 0] n
  have hI1 := hI.below hB
  generalize w.alloc (.cells (madeCells #[.int .u8 0] n) 5) = w1 at *
  have hcl : (madeCells #[.int .u8 0] n).toList.length = n := by simpa using hsz
  generalize (madeCells #[.int .u8 0] n).toList = cur at *
  obtain ⟨cs, hcs⟩ : ∃ cs, cs = flt u8L l := ⟨_, rfl⟩
  have HCS := Lib.hid hcs
  have hlen : cs.length = n := by rw [hcs, u8_len, hn]
  have h1 : Hid (∀ v ∈ cs, v.oneCell' = true) := Lib.hid (by rw [hcs]; exact flt_one' encU8 l)
  have hpos : Hid (0 < cs.length → some (⟨w.heap.size, 0, none⟩ : Addr) = some ⟨w.heap.size, 0, none⟩ ∧ ∃ ad, A = some ad ∧ ∀ j v, cs[j]? = some v → w1.cell? (ad.add j) = some v) := Lib.hid (fun h0 => by
    obtain ⟨b, off, e, hb, hc⟩ := hI1.open (by omega)
    exact ⟨rfl, _, e, by rw [hcs]; exact rows_cells encU8 hc⟩)
  have HG := Lib.hid hg
  have HL := Lib.hid hlen
  have HC := Lib.hid hcl
  have HB := Lib.hid hB
  have hn63 : (n : Int) ≤ 9223372036854775807 := by omega
  clear hI hI1 hcs hn hz0 hz1 hz2 hi hg hlen hcl hsz hB
  go_enter Try.func43, Try.ntmps43
  go_wp2_with (refine wpList_copy_splice rfl (.tmp 7) (.tmp 8) _ _ rfl 5 Try.underlying29 infoU8s _ _ _ _ _ _ rfl rfl w.heap.size 0 cur 5 HG.out cs (by rw [HL.out]; exact (Nat.min_self n).symm) hpos.out (by rw [HL.out, HC.out]; omega) h1.out w.heap.size w HB.out (Nat.le_refl _) ?_; intro w2 hg2 hB2)
  go_ret
  refine ⟨_, rfl, ?_, hB2⟩
  have e2 : splice cur 0 cs = cs := by unfold splice; rw [List.take_zero, List.nil_append, List.drop_eq_nil_of_le (by rw [HL.out, HC.out]; omega), List.append_nil]
  have h2 := hg2.out
  rw [e2] at h2
  rw [← HCS.out]
  refine ⟨by rw [HL.out, Nat.mul_one], .inr ⟨w.heap.size, n, cs.toArray, rfl, Nat.le_refl _, h2, Nat.le_refl _, by unfold maxLen; omega, by rw [List.size_toArray, HL.out, Nat.mul_one], ?_⟩⟩
  rw [List.toList_toArray, Nat.mul_one, ← HL.out, List.take_length]

theorem four_cells (n : Nat) : flt u8L (Pl.four n) = [.int .u8 ((n : Int) / 16777216 % 256), .int .u8 ((n : Int) / 65536 % 256), .int .u8 ((n : Int) / 256 % 256), .int .u8 ((n : Int) % 256)] := by
  simp [flt, Pl.four, u8L, UInt8.toNat_ofNat']
/-- append of bytes, wherever they lie, to a row that is owned -/
theorem wpList_app8 {ops : Array Oper} {rest : List Oper} {o : Oper} {a : Act} {w : World} {Q : Exit → Act → World → Prop} (hgd : o.guard = none) (s x : Operand)
    (ho : o.op = .call { callee := .builtin .append, args := #[s, x], argTypes := #[29, 29] }) (B : Nat) (v : Value) (k : Nat) (xs : List Value) (hs : a.eval s = v) (hO : w.ownsRow B 5 1 v k xs) (hB : B ≤ w.heap.size)
    (A : Option Addr) (l : Pl.Bs) (n c : Nat) (hn : l.length = n) (hx : a.eval x = .slice A n c) (hR : Rows u8L 1 w A l) (hnil : A = none → c = 0) (hk : k + n ≤ 1000000)
    (h : ∀ v' w', w'.ownsRow B 5 1 v' (k + n) (xs ++ flt u8L l) → Below B w w' → wpList Try.prog ops Q rest (a.put o.dst v') w') : wpList Try.prog ops Q (o :: rest) a w := by
  obtain ⟨i0, hi, hz0, hz1, hz2⟩ := info_parts infoU8
  subst hn
  cases A with
  | none =>
    obtain rfl := hnil rfl
    have hl : l = [] := by
      rcases hR with h | ⟨b, off, h1, _⟩
      · exact h
      · cases h1
    subst hl
    refine wpList_append_own_none hgd s x _ ho B _ i0 1 Try.underlying29 hi v k xs hs hO hx (h _ _ ?_ (Below.refl _ _))
    simpa [flt] using hO
  | some ad =>
    have hcells : ∀ j u, (flt u8L l)[j]? = some u → w.cell? (ad.add j) = some u := by
      rcases hR with h | ⟨b, off, h1, h2, h3⟩
      · intro j u hj; rw [h] at hj; simp [flt] at hj
      · cases h1; exact rows_cells encU8 h3
    refine wpList_append_own _ hgd s x _ ho B 5 i0 _ 1 1 Try.underlying29 hi hz0 hz1 hz2 rfl (by decide) v k xs hs hO ad l.length c (flt u8L l) hx (flt_len encU8 l) hcells (flt_one' encU8 l) (by unfold maxLen; omega) (by omega) hB ?_
    intro v' w' ho' hg _
    exact h v' w' ho' ((Below.refl _ _).grown hg hB (fun s e => (hO.lt s e).1))

set_option maxRecDepth 100000 in
set_option maxHeartbeats 1000000 in
theorem withnum_any (B : Nat) (v : Value) (k n : Nat) (xs : List Value) (hk : k ≤ 100000) (w : World) (hO : w.ownsRow B 5 1 v k xs) (hB : B ≤ w.heap.size) :
    Calls Try.prog 64 #[v, .int .i64 (n : Nat)] w fun e w' => ∃ u, e = .returned u ∧ w'.ownsRow B 5 1 u (k + 4) (xs ++ flt u8L (Pl.four n)) ∧ Below B w w' := by
  obtain ⟨i0, hi, hz0, hz1, hz2⟩ := info_parts infoU8
  have HO := Lib.hid hO
  clear hO
  go_enter Try.func64, Try.ntmps64
  go_wp2_with (at_builtin; refine wpList_append_own _ rfl _ _ 29 rfl B 5 i0 _ 1 1 Try.underlying29 hi hz0 hz1 hz2 rfl (by decide) _ _ _ rfl (HO.out.alloc _) ⟨w.heap.size, 0, none⟩ 4 4 (flt u8L (Pl.four n)) rfl rfl ?c2 (flt_one' encU8 _) (by unfold maxLen; omega) (by omega) (by simp; omega) ?_; (case c2 => rw [four_cells]; exact new_cells _ _ _); intro v' w9 hown' hgrow _)
  go_ret
  exact ⟨_, rfl, hown', ((Below.refl B w).alloc hB _).grown hgrow (by simp; omega) (fun s e => (HO.out.lt s e).1)⟩

set_option maxRecDepth 100000 in
set_option maxHeartbeats 1000000 in
theorem holding_any (A : Option Addr) (l : Pl.Bs) (n c t : Nat) (hn : l.length = n) (hm : n ≤ 70000) (hnil : A = none → c = 0) (w : World) (hI : Rows u8L 1 w A l) :
    Calls Try.prog 50 #[.slice A n c, .int .i64 (t : Nat)] w fun e w' => ∃ u, e = .returned u ∧ w'.ownsRow w.heap.size 5 1 u (n + 8) (flt u8L (Pl.cod l t)) ∧ Below w.heap.size w w' := by
  have HI := Lib.hid hI
  have HL := Lib.hid hn
  have HN := Lib.hid hnil
  have HC : Hid (flt u8L (Pl.cod l t) = ([] ++ flt u8L (Pl.four n) ++ flt u8L l) ++ flt u8L (Pl.four t)) := Lib.hid (by unfold Pl.cod; rw [flt_append, flt_append, hn]; rfl)
  clear hI hn hnil
  go_enter Try.func50, Try.ntmps50
  go_wp2_with fail
  refine (withnum_any w.heap.size (.slice none 0 0) 0 n [] (by omega) _ (World.ownsRow_nil _ _ _ _) (Nat.le_refl _)).mono ?_
  rintro e w1 ⟨u, rfl, hO1, hB1⟩
  have HI1 := Lib.hid (HI.out.below hB1)
  go_wp2_with (at_builtin; refine wpList_app8 rfl _ _ rfl w.heap.size _ (0 + 4) _ rfl hO1 hB1.size A l n c HL.out rfl HI1.out HN.out (by omega) ?_; intro v2 w2 hO2 hb2)
  have hB2 := hB1.trans hb2
  refine (withnum_any w.heap.size _ (0 + 4 + n) t _ (by omega) _ hO2 hB2.size).mono ?_
  rintro e w3 ⟨u3, rfl, hO3, hB3⟩
  have hB4 := hB2.trans hB3
  have HO := Lib.hid hO3
  clear hO1 hO2 hO3 HI1
  go_wp2
  go_ret
  refine ⟨_, rfl, ?_, hB4⟩
  rw [HC.out]
  have := HO.out
  rwa [show 0 + 4 + n + 4 = n + 8 by omega] at this
end Go.Proofs.Ytalfffkcmddakab
