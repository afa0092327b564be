import Derived.Test.YtflkhjicgojcbaaL6
import Derived.Test.YtflkhjicgojcbaaL7
import Derived.Test.YtflkhjicgojcbaaM8
namespace Go.Proofs.Ytflkhjicgojcbaa
open Go.RowKit Go.Shelf

theorem new_cells2 (W : World) (o : Obj) (x y : Value) : ∀ (j : Nat) (u : Value), [x, y][j]? = some u → ((W.alloc o).alloc (.cells #[x, y] 38)).cell? ((⟨W.heap.size + 1, 0, none⟩ : Addr).add j) = some u := by
  have := new_cells (W.alloc o) x y
  rwa [World.size_alloc] at this

set_option maxHeartbeats 400000 in
theorem dhalf_any (n : Int) (w : World) : Calls Try.prog 65 #[.int .i64 n] w fun e w' => e = .returned (.int .i64 (n / 2)) ∧ w' = w := by
  go_enter Try.func65, Try.ntmps65
  go_wp2
  go_ret
  exact ⟨rfl, rfl⟩
set_option maxHeartbeats 400000 in
theorem rhalf_any (n : Int) (h1 : -100000 ≤ n) (h2 : n ≤ 100000) (w : World) : Calls Try.prog 70 #[.int .i64 n] w fun e w' => e = .returned (.int .i64 (n / 2)) ∧ w' = w := by
  by_cases hn : n < 0
  · have e1 : (1 - n).tdiv 2 = (1 - n) / 2 := Int.tdiv_eq_ediv_of_nonneg (by omega)
    go_enter Try.func70, Try.ntmps70
    go_wp2
    go_ret
    exact ⟨by rw [show n / 2 = -((1 - n) / 2) by omega]; rfl, rfl⟩
  · have e1 : n.tdiv 2 = n / 2 := Int.tdiv_eq_ediv_of_nonneg (by omega)
    go_enter Try.func70, Try.ntmps70
    go_wp2
    go_ret
    exact ⟨rfl, rfl⟩

set_option maxRecDepth 100000 in
set_option maxHeartbeats 2000000 in
theorem rshifted (b off c : Nat) (l : List Geo.XY) (dx dy : Int) (hq : (-20000 ≤ dx ∧ dx ≤ 20000) ∧ -20000 ≤ dy ∧ dy ≤ 20000) (h64 : l.length ≤ 64) (hin : AllIn l) (w : World) (hb : b < w.heap.size)
    (hc : ∀ k, k < l.length → w.cell? ⟨b, off + k * 2, none⟩ = some (.int .i64 (Geo.X l k).1) ∧ w.cell? ⟨b, off + k * 2 + 1, none⟩ = some (.int .i64 (Geo.X l k).2)) :
    Calls Try.prog 69 #[.slice (some ⟨b, off, none⟩) l.length c, .int .i64 dx, .int .i64 dy] w fun e w' => ∃ v, e = .returned v ∧ w'.ownsRow w.heap.size 38 2 v (l.map (addXY (dx, dy))).length (flat (l.map (addXY (dx, dy)))) ∧ Below w.heap.size w w' := by
  have HC := Lib.hid hc
  have HIN := Lib.hid hin
  clear hc hin
  obtain ⟨⟨k1, k2⟩, k3, k4⟩ := hq
  obtain ⟨i0, hi, hz0, hz1, hz2⟩ := info_parts info38'
  go_enter Try.func69, Try.ntmps69
  go_wp2
  go_loopw [7, 12] (fun v i wr => ∃ k : Nat, k ≤ l.length ∧ i = .int .i64 k ∧ wr.ownsRow w.heap.size 38 2 v k (flat ((l.take k).map (addXY (dx, dy)))) ∧ Below w.heap.size w wr) (fun _ i _ => l.length - (intOf i).toNat)
  case atStart => exact ⟨0, Nat.zero_le _, rfl, World.ownsRow_nil _ _ _ _, Below.refl _ _⟩
  case round =>
    obtain ⟨k, hk, rfl, hown, hB⟩ := hrel
    by_cases hlt : k < l.length
    · have c1 : wr.cell? ⟨b, off + k * 2, none⟩ = some (.int .i64 (Geo.X l k).1) := (hB.cell (p := ⟨b, off + k * 2, none⟩) hb).trans (HC.out k hlt).1
      have c2 : wr.cell? ⟨b, off + k * 2 + 1, none⟩ = some (.int .i64 (Geo.X l k).2) := (hB.cell (p := ⟨b, off + k * 2 + 1, none⟩) hb).trans (HC.out k hlt).2
      have HM : Hid ((l.take (k + 1)).map (addXY (dx, dy)) = (l.take k).map (addXY (dx, dy)) ++ [addXY (dx, dy) (Geo.X l k)]) := Lib.hid (by rw [take_x l k hlt, List.map_append]; rfl)
      obtain ⟨a1, a2, a3, a4⟩ := in_all HIN.out k
      go_wp2_with (at_builtin; refine wpList_append_own _ rfl _ _ 22 rfl w.heap.size 38 i0 _ 2 16 Try.underlying22 hi hz0 hz1 hz2 rfl (by decide) _ _ _ rfl ((hown.alloc _).alloc _) ⟨wr.heap.size + 1, 0, none⟩ 1 1 [.int .i64 ((Geo.X l k).1 + dx), .int .i64 ((Geo.X l k).2 + dy)] rfl rfl ?c1 ?c2 ?c3 ?c4 ?c5 ?_)
      case c1 => exact new_cells2 _ _ _ _
      case c2 => exact one_two _ _
      case c3 => unfold maxLen; omega
      case c4 => omega
      case c5 => have := hB.size; simp; omega
      intro v' w2 hown' hgrow _
      have hB' : Below w.heap.size w w2 := ((hB.alloc hB.size _).alloc (by have := hB.size; simp; omega) _).grown hgrow (by have := hB.size; simp; omega) (fun k e => (hown.lt k e).1)
      clear hown hgrow
      go_wp2
      go_roundw
      case rel => exact ⟨k + 1, by omega, by go_num, by rw [HM.out, flat_append, List.map_take]; exact hown', hB'⟩
      case measure => simp [intOf]; omega
    · obtain rfl : k = l.length := by omega
      rw [List.take_length] at hown
      go_wp2
      go_ret
      exact ⟨_, rfl, by rw [List.length_map]; exact hown, hB⟩

noncomputable def lstV (l m : List Geo.XY) : List Geo.XY × Int := if validB l = true then (Geo.canon m, 0) else ([], 10)
theorem lstV_ok {l m : List Geo.XY} (h : validB l = true) : lstV l m = (Geo.canon m, 0) := if_pos h
theorem lstV_no {l m : List Geo.XY} (h : validB l = false) : lstV l m = ([], 10) := by unfold lstV; rw [h]; rfl
def mirL (l : List Geo.XY) : List Geo.XY := (l.map mirXY).reverse
theorem mirL_len (l : List Geo.XY) : (mirL l).length = l.length := by simp [mirL]
theorem mirL_x (l : List Geo.XY) (k : Nat) (h : k < l.length) : Geo.X (mirL l) k = mirXY (Geo.X l (l.length - 1 - k)) := by
  have h1 : (mirL l)[k]? = some (mirXY (Geo.X l (l.length - 1 - k))) := by
    unfold mirL
    rw [List.getElem?_reverse (by rw [List.length_map]; exact h), List.length_map, List.getElem?_map, X_get (show l.length - 1 - k < l.length by omega)]
    rfl
  unfold Geo.X
  rw [h1]
  unfold Geo.X
  rfl

theorem rcanon_r (A : Option Addr) (l : List Geo.XY) (n c : Nat) (hn : l.length = n) (h0 : 0 < n) (h64 : n ≤ 64) (hcap : n ≤ c) (w : World) (hP : Pts w A l) :
    Calls Try.prog 55 #[.slice A n c] w fun e w' => ∃ v, e = .returned v ∧ w'.ownsRow w.heap.size 38 2 v (Geo.canon l).length (flat (Geo.canon l)) ∧ Below w.heap.size w w' := by
  subst hn; exact rcanon_p A l c h0 h64 hcap w hP
theorem dcanon_r (A : Option Addr) (l : List Geo.XY) (n c : Nat) (hn : l.length = n) (h0 : 0 < n) (h64 : n ≤ 64) (hcap : n ≤ c) (w : World) (hP : Pts w A l) :
    Calls Try.prog 54 #[.slice A n c] w fun e w' => ∃ v, e = .returned v ∧ w'.ownsRow w.heap.size 38 2 v (Geo.canon l).length (flat (Geo.canon l)) ∧ Below w.heap.size w w' := by
  subst hn; exact dcanon_p A l c h0 h64 hcap w hP

theorem owns_addr {W : World} {base n : Nat} {v : Value} {xs : List Value} (h : W.ownsRow base 38 2 v n xs) (h0 : 0 < n) : ∃ g cap, v = .slice (some ⟨g, 0, none⟩) n cap := by
  rcases h with ⟨_, ⟨h1, hn⟩ | ⟨g, cap, cur, h1, _⟩⟩
  · omega
  · exact ⟨g, cap, h1⟩
end Go.Proofs.Ytflkhjicgojcbaa
