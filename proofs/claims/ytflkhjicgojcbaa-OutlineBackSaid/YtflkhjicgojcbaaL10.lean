import Derived.Test.YtflkhjicgojcbaaL8
import Derived.Deep.RegionLaw
namespace Go.Proofs.Ytflkhjicgojcbaa
open Go.RowKit Go.Shelf

theorem step_append_own' {P : Program} {w : World} {ops : Array Oper} {o : Oper} {a : Act} {K : Act → World → Prop} {Q : Exit → Act → World → Prop} {E : Prop} (hg : o.guard = none) (s x : Operand) (t : TypeId)
    (ho : o.op = .call { callee := .builtin .append, args := #[s, x], argTypes := #[t, t] })
    (base : Nat) (e : TypeId) (i : TypeInfo) (z : Value) (size bytes : Nat) (ht : P.underlying t = some (.slice e)) (hi : P.info? e = some i) (hz : i.zero = some z)
    (hsize : i.size = size) (hby : i.bytes = bytes) (hzs : z.cells.size = size) (hsz : 0 < size)
    (v : Value) (n : Nat) (xs : List Value) (hs : a.eval s = v) (hown : w.ownsRow base e size v n xs)
    (ad : Addr) (m c : Nat) (news : List Value) (hx : a.eval x = .slice (some ad) m c) (hl : news.length = m * size) (hnews : ∀ j u, news[j]? = some u → w.cell? (ad.add j) = some u) (h1 : ∀ u ∈ news, u.oneCell' = true)
    (h63 : n + m ≤ maxLen) (hbytes : (n + m) * bytes ≤ 140737488355328) (hbase : base ≤ w.heap.size)
    (h : ∀ v' w', w'.ownsRow base e size v' (n + m) (xs ++ news) → w.grownBy w' v.ownBlock → K (a.put o.dst v') w') :
    if Region.wanted o (yielded ops a.tmps) = true then Oper.wp P o a w K Q else E := by
  have hw : Region.wanted o (yielded ops a.tmps) = true := by simp [Region.wanted, hg]
  rw [if_pos hw]
  exact wp_append_own w s x t ho base e i z size bytes ht hi hz hsize hby hzs hsz v n xs hs hown ad m c news hx hl hnews h1 h63 hbytes hbase fun v' w' h2 h3 _ => h v' w' h2 h3

set_option maxRecDepth 100000 in
set_option maxHeartbeats 4000000 in
theorem rmirror_any (A : Option Addr) (l : List Geo.XY) (c : Nat) (w : World) (hP : Pts w A l) :
    Calls Try.prog 30 #[.slice A l.length c] w fun e w' => ListErr w (lstV l (mirL l)).1 (lstV l (mirL l)).2 e w' := by
  have HP := Lib.hid hP
  cases hv : validB l with
  | false =>
    have HV := Lib.hid hv
    rw [lstV_no hv]
    clear hv hP
    unfold ListErr
    go_enter Try.func30, Try.ntmps30
    go_wp2_with (go_at_call 20; refine (rvalid_b _ _ _ _ HP.out false HV.out).mono ?_; rintro e w' ⟨rfl, hb'⟩)
    go_ret2
    exact ⟨_, rfl, own_nil' _ _, hb'⟩
  | true =>
    have HV := Lib.hid hv
    have hval := valid_of hv
    have h3 := hval.1
    have h64 := hval.2.1
    have HIN := Lib.hid hval.allin
    rw [lstV_ok hv]
    clear hv hval
    unfold ListErr
    obtain ⟨b, off, rfl, hb, hc⟩ := pts_open hP (by omega)
    have HC := Lib.hid hc
    clear hc hP
    obtain ⟨i0, hi, hz0, hz1, hz2⟩ := info_parts info38'
    go_enter Try.func30, Try.ntmps30
    go_wp2_with fail
    refine (rvalid_b _ _ _ _ HP.out true HV.out).mono ?_
    rintro e w1 ⟨rfl, hb1⟩
    go_wp2
    go_loopw [4, 5] (fun v i wr => ∃ k : Nat, k ≤ l.length ∧ i = .int .i64 ((l.length : Int) - 1 - k) ∧ wr.ownsRow w.heap.size 38 2 v k (flat ((mirL l).take k)) ∧ Below w.heap.size w wr) (fun _ i _ => ((intOf i) + 1).toNat)
    case atStart => exact ⟨0, Nat.zero_le _, by simp, World.ownsRow_nil _ _ _ _, hb1⟩
    case round =>
      clear hb1
      obtain ⟨k, hk, rfl, hown, hB⟩ := hrel
      by_cases hlt : k < l.length
      · obtain ⟨m, hm⟩ : ∃ m, m = l.length - 1 - k := ⟨_, rfl⟩
        have hmi : (l.length : Int) - 1 - (k : Int) = (m : Int) := by omega
        have hml : m < l.length := by omega
        have HM : Hid ((mirL l).take (k + 1) = (mirL l).take k ++ [mirXY (Geo.X l m)]) := Lib.hid (by rw [take_x (mirL l) k (by rw [mirL_len]; exact hlt), mirL_x l k hlt, ← hm])
        have HMM := Lib.hid hm
        rw [hmi]
        clear hm hmi
        have c1 : wr.cell? ⟨b, off + m * 2, none⟩ = some (.int .i64 (Geo.X l m).1) := (hB.cell (p := ⟨b, off + m * 2, none⟩) hb).trans (HC.out m hml).1
        have c2 : wr.cell? ⟨b, off + m * 2 + 1, none⟩ = some (.int .i64 (Geo.X l m).2) := (hB.cell (p := ⟨b, off + m * 2 + 1, none⟩) hb).trans (HC.out m hml).2
        obtain ⟨a1, a2, a3, a4⟩ := in_all HIN.out m
        have hbl : b < wr.heap.size := Nat.lt_of_lt_of_le hb hB.size
        go_wp2
        have e1 : IntKind.i64.wrap (-(Geo.X l m).1) = -(Geo.X l m).1 := IntWalk.i64_in _ (by omega)
        go_region_law (refine step_append_own' rfl (.tmp 16) (.tmp 29) 22 rfl w.heap.size 38 i0 _ 2 16 Try.underlying22 hi hz0 hz1 hz2 rfl (by decide) u4 k _ rfl (hown.alloc _).drew ⟨wr.heap.size, 0, none⟩ 1 1 [.int .i64 (-(Geo.X l m).1), .int .i64 (Geo.X l m).2] rfl rfl (new_cells wr _ _) (one_two _ _) (by clear e1; unfold maxLen; omega) (by clear e1; omega) (by clear e1; have := hB.size; simp; omega) ?_; intro v' w2 hown' hgrow)
        all_goals (
          have hB' : Below w.heap.size w w2 := ((hB.alloc hB.size _).drew).grown hgrow (by have := hB.size; clear e1; simp; omega) (fun k e => (hown.lt k e).1)
          clear hown hgrow e1
          go_wp2
          go_roundw
          case rel => exact ⟨k + 1, by omega, by have := HMM.out; congr 1; omega, by rw [HM.out, flat_append]; exact hown', hB'⟩
          case measure => simp [intOf])
      · obtain rfl : k = l.length := by omega
        have e := List.take_length (l := mirL l)
        rw [mirL_len] at e
        rw [e, ← mirL_len l] at hown
        obtain ⟨A1, c1, rfl, hp1, hc1⟩ := pts_of_owns' hown
        clear hown e
        rw [mirL_len] at hc1 ⊢
        go_wp2_with fail
        refine (rcanon_r A1 (mirL l) l.length c1 (mirL_len l) (by omega) h64 hc1 wr hp1).mono ?_
        rintro e w2 ⟨v, rfl, hown3, hb2⟩
        go_wp2
        go_ret2
        exact ⟨_, rfl, hown3.mono hB.size, hB.trans (hb2.mono hB.size)⟩
end Go.Proofs.Ytflkhjicgojcbaa
