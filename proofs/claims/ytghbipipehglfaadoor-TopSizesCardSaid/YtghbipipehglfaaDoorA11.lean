/- The library's Reverse at numbers; Backward's contract. -/
import Derived.Test.YtghbipipehglfaaDoorA10
namespace Go.Proofs.YtghbipipehglfaaDoor
open Go.RowKit Go.Shelf

/-- a list whose first i and last i numbers have changed places -/
def revK (l : List Int) (i : Nat) : List Int := (List.range l.length).map fun m => if m < i ∨ l.length ≤ m + i then l.getD (l.length - 1 - m) 0 else l.getD m 0
theorem revK_len (l : List Int) (i : Nat) : (revK l i).length = l.length := by simp [revK]
theorem revK_get (l : List Int) (i m : Nat) (h : m < l.length) : (revK l i)[m]? = some (if m < i ∨ l.length ≤ m + i then l.getD (l.length - 1 - m) 0 else l.getD m 0) := by simp [revK, h]
theorem X_get {l : List Int} {m : Nat} (h : m < l.length) : l[m]? = some (l.getD m 0) := by
  rw [List.getD_eq_getElem?_getD, List.getElem?_eq_getElem h]; rfl
theorem revK_zero (l : List Int) : revK l 0 = l := by
  refine List.ext_getElem? fun m => ?_
  by_cases h : m < l.length
  · rw [revK_get l 0 m h, X_get h, if_neg (by omega)]
  · rw [List.getElem?_eq_none (by rw [revK_len]; omega), List.getElem?_eq_none (by omega)]
theorem revK_done (l : List Int) (i : Nat) (h : l.length ≤ 2 * i + 1) : revK l i = l.reverse := by
  refine List.ext_getElem? fun m => ?_
  by_cases hm : m < l.length
  · rw [revK_get l i m hm, List.getElem?_reverse hm, X_get (show l.length - 1 - m < l.length by omega)]
    by_cases hc : m < i ∨ l.length ≤ m + i
    · rw [if_pos hc]
    · rw [if_neg hc, show l.length - 1 - m = m by omega]
  · rw [List.getElem?_eq_none (by rw [revK_len]; omega), List.getElem?_eq_none (by rw [List.length_reverse]; omega)]
theorem revK_at (l : List Int) (i : Nat) (hi : 2 * i + 1 < l.length) : (revK l i).getD i 0 = l.getD i 0 ∧ (revK l i).getD (l.length - 1 - i) 0 = l.getD (l.length - 1 - i) 0 := by
  have h1 := revK_get l i i (by omega)
  have h2 := revK_get l i (l.length - 1 - i) (by omega)
  rw [if_neg (by omega)] at h1 h2
  exact ⟨by rw [List.getD_eq_getElem?_getD (l := revK l i), h1]; rfl, by rw [List.getD_eq_getElem?_getD (l := revK l i), h2]; rfl⟩
theorem revK_succ (l : List Int) (i : Nat) (hi : 2 * i + 1 < l.length) : revK l (i + 1) = ((revK l i).set i (l.getD (l.length - 1 - i) 0)).set (l.length - 1 - i) (l.getD i 0) := by
  refine List.ext_getElem? fun m => ?_
  by_cases hm : m < l.length
  · rw [revK_get l (i + 1) m hm, List.getElem?_set, List.length_set, revK_len, List.getElem?_set, revK_len]
    by_cases e1 : l.length - 1 - i = m
    · rw [if_pos e1, if_pos (by omega), if_pos (by omega), show l.length - 1 - m = i by omega]
    · rw [if_neg e1]
      by_cases e2 : i = m
      · rw [if_pos e2, if_pos (by omega), if_pos (by omega), e2]
      · rw [if_neg e2, revK_get l i m hm]
        by_cases hc : m < i ∨ l.length ≤ m + i
        · rw [if_pos hc, if_pos (by omega)]
        · rw [if_neg hc, if_neg (by omega)]
  · rw [List.getElem?_eq_none (by rw [revK_len]; omega), List.getElem?_eq_none (by rw [List.length_set, List.length_set, revK_len]; omega)]
theorem ints_set (l : List Int) (k : Nat) (x : Int) : (ints l).set k (.int .i64 x) = ints (l.set k x) := by
  unfold ints; rw [List.map_set]

theorem Only.drew {g : Nat} {w w' : World} (h : Only g w w') : Only g w w'.drew := ⟨h.os, h.tape, h.output, h.size, h.block⟩

set_option maxRecDepth 100000 in
set_option maxHeartbeats 4000000 in
theorem reverse_some (B g c : Nat) (l : List Int) (h64 : l.length ≤ 10000) (h0 : 0 < l.length) (w : World) (hown : w.ownsRow B 3 1 (.slice (some ⟨g, 0, none⟩) l.length c) l.length (ints l)) :
    Calls Tryd.prog 83 #[.slice (some ⟨g, 0, none⟩) l.length c] w fun e w' => e = .returned (.tuple #[]) ∧ w'.ownsRow B 3 1 (.slice (some ⟨g, 0, none⟩) l.length c) l.length (ints l.reverse) ∧ Only g w w' := by
  go_enter Tryd.func83, Tryd.ntmps83
  go_wp2
  go_loopw [2, 3] (fun i j wr => ∃ k : Nat, 2 * k ≤ l.length ∧ i = .int .i64 k ∧ j = .int .i64 ((l.length : Int) - 1 - k) ∧ wr.ownsRow B 3 1 (.slice (some ⟨g, 0, none⟩) l.length c) l.length (ints (revK l k)) ∧ Only g w wr) (fun i _ _ => l.length - (intOf i).toNat)
  case atStart => exact ⟨0, by omega, rfl, by simp, by rw [revK_zero]; exact hown, Only.refl _ _⟩
  case round =>
    clear hown
    obtain ⟨k, hk, rfl, rfl, hown, hB⟩ := hrel
    by_cases hlt : 2 * k + 1 < l.length
    · obtain ⟨m, hm⟩ : ∃ m, m = l.length - 1 - k := ⟨_, rfl⟩
      have hmi : (l.length : Int) - 1 - (k : Int) = (m : Int) := by omega
      have hml : m < l.length := by omega
      have hkl : k < l.length := by omega
      have hkm : k < m := by omega
      obtain ⟨x1, x2⟩ := revK_at l k hlt
      rw [← hm] at x2
      have HN : Hid (revK l (k + 1) = ((revK l k).set k (l.getD m 0)).set m (l.getD k 0)) := Lib.hid (by rw [revK_succ l k hlt, ← hm])
      have f1 := ints_get (l := revK l k) (k := k) (by rw [revK_len]; omega)
      have f3 := ints_get (l := revK l k) (k := m) (by rw [revK_len]; omega)
      have q1 := hown.cellAt k (by omega)
      have q3 := hown.cellAt m (by omega)
      rw [f1, x1] at q1
      rw [f3, x2] at q3
      have r1 := hown.frozenAt k
      have r3 := hown.frozenAt m
      have HOWN := Lib.hid hown
      have HMM := Lib.hid hm
      rw [hmi]
      clear f1 f3 x1 x2 hown hm hmi
      have hd1 : ¬ k = m := by omega
      generalize l.getD k 0 = y1 at *
      generalize l.getD m 0 = y2 at *
      go_wp2
      go_region
      have hown2 := (((HOWN.out.stored k (.int .i64 y2)).1.stored m (.int .i64 y1)).1).drew
      rw [ints_set, ints_set, ← HN.out] at hown2
      have hB2 := ((hB.trans (Only.setCell g wr k (.int .i64 y2))).trans (Only.setCell g _ m (.int .i64 y1))).drew
      clear q1 q3 r1 r3 hB
      generalize ((wr.setCell ⟨g, k, none⟩ (.int .i64 y2)).setCell ⟨g, m, none⟩ (.int .i64 y1)).drew = W2 at *
      go_wp2
      go_roundw
      case rel => exact ⟨k + 1, by omega, by go_num, by have := HMM.out; congr 1; omega, hown2, hB2⟩
      case measure => simp [intOf]; omega
    · have hd : revK l k = l.reverse := revK_done l k (by omega)
      rw [hd] at hown
      have hn : ¬ ((k : Int) < (l.length : Int) - 1 - (k : Int)) := by omega
      clear hd
      go_wp2
      refine ⟨rfl, .tuple #[], by simp [results, Tryd.f83], rfl, by simpa [ints] using hown, hB⟩

set_option maxRecDepth 100000 in
set_option maxHeartbeats 1000000 in
theorem reverse_none (A : Option Addr) (c : Nat) (w : World) :
    Calls Tryd.prog 83 #[.slice A 0 c] w fun e w' => e = .returned (.tuple #[]) ∧ w' = w := by
  go_enter Tryd.func83, Tryd.ntmps83
  go_wp2
  go_loopw [2, 3] (fun i j wr => i = .int .i64 0 ∧ j = .int .i64 (-1) ∧ wr = w) (fun _ _ _ => 0)
  case atStart => exact ⟨rfl, rfl, rfl⟩
  case round =>
    obtain ⟨rfl, rfl, rfl⟩ := hrel
    go_wp2
    refine ⟨rfl, .tuple #[], by simp [results, Tryd.f83], rfl, rfl⟩

/-- slices.Reverse of a list of one's own -/
theorem reverse_own (B : Nat) (v : Value) (l : List Int) (h64 : l.length ≤ 10000) (w : World) (hown : w.ownsRow B 3 1 v l.length (ints l)) :
    Calls Tryd.prog 83 #[v] w fun e w' => e = .returned (.tuple #[]) ∧ w'.ownsRow B 3 1 v l.length (ints l.reverse) ∧ w.grownBy w' v.ownBlock := by
  have h := hown
  rcases hown.2 with ⟨rfl, hz⟩ | ⟨g, cap, cur, rfl, hbase, _⟩
  · obtain rfl : l = [] := List.eq_nil_of_length_eq_zero hz
    refine (reverse_none none 0 w).mono fun e w' ⟨he, hw⟩ => ?_
    subst hw
    exact ⟨he, World.ownsRow_nil _ _ _ _, ⟨rfl, rfl, rfl, Nat.le_refl _, fun _ _ _ => rfl⟩⟩
  · by_cases h0 : 0 < l.length
    · exact (reverse_some B g cap l h64 h0 w h).mono fun e w' ⟨he, ho, hO⟩ => ⟨he, ho, ⟨hO.os, hO.tape, hO.output, by rw [hO.size]; exact Nat.le_refl _, fun k _ hk => hO.block k (fun e => hk (by rw [e]; rfl))⟩⟩
    · obtain rfl : l = [] := List.eq_nil_of_length_eq_zero (by omega)
      refine (reverse_none (some ⟨g, 0, none⟩) cap w).mono fun e w' ⟨he, hw⟩ => ?_
      subst hw
      exact ⟨he, h, ⟨rfl, rfl, rfl, Nat.le_refl _, fun _ _ _ => rfl⟩⟩

section
attribute [local go_sem] Oper.semAt_some
set_option maxHeartbeats 1000000 in
theorem backward_in (n : Nat) (a : Option Addr) (len cap : Nat) (w : World) :
    CallsIn Fence.wide n Tryd.prog 80 #[.slice a len cap] w fun e w' => e = .returned (.func (.func 93) #[] #[.pointer (some ⟨w.heap.size, 0, none⟩)]) ∧ w' = w.alloc (.cells #[.slice a len cap] 31) := by
  refine callsIn_of_wp Tryd.func80 rfl trivial ?_ rfl
  simp only [Tryd.ntmps80, List.size_toArray, List.length_cons, List.length_nil, Nat.reduceAdd, Nat.reduceSub, Array.replicate_succ, Array.replicate_zero, List.push_toArray, List.append_toArray, List.nil_append, List.cons_append]
  gi_wp2
  go_ret
  exact ⟨rfl, rfl⟩

set_option maxRecDepth 100000 in
set_option maxHeartbeats 1000000 in
/-- of no element: no round -/
theorem backward1_nil_in (n : Nat) (l Bs cap : Nat) (A : Option Addr) (J : List Nat → World → Prop) (W : World) (hBs : W.cell? ⟨Bs, 0, none⟩ = some (.slice A 0 cap)) (h0 : J [] W) :
    CallsIn Fence.wide n Tryd.prog 93 #[.func (.yield l) #[] #[], .pointer (some ⟨Bs, 0, none⟩)] W fun e W' => (∃ v, e = .returned v) ∧ J [] W' := by
  refine callsIn_of_wp Tryd.func93 rfl trivial ?_ rfl
  simp only [Tryd.ntmps93, List.size_toArray, List.length_cons, List.length_nil, Nat.reduceAdd, Nat.reduceSub, Array.replicate_succ, Array.replicate_zero, List.push_toArray, List.append_toArray, List.nil_append, List.cons_append]
  gi_wp2
  gi_loopw [3] (fun i wr => i = .int .i64 (-1) ∧ J [] wr) (fun _ _ => 0)
  case atStart => exact ⟨rfl, h0⟩
  case round =>
    obtain ⟨rfl, hJs⟩ := hrel
    gi_wp2
    go_end0
    exact ⟨⟨_, rfl⟩, hJs⟩
end

/-- slices.Backward: all of the list from its end -/
theorem backward_stops (n : Nat) (hn : 1 ≤ n) (Bs B n₀ : Nat) (A : Option Addr) (cap : Nat) (zs : List Int) (hreach : zs.length ≤ 1000) (w : World) (hn₀ : n₀ ≤ w.heap.size) (hBs : Bs < n₀) (hBsB : Bs ≠ B)
    (hc : w.cell? ⟨Bs, 0, none⟩ = some (.slice A zs.length cap)) (hA : ∀ b off sp, A = some ⟨b, off, sp⟩ → b < n₀ ∧ b ≠ B) (hI : Ints w A zs) :
    SeqStopsK Fence.wide n Tryd.prog 93 #[.pointer (some ⟨Bs, 0, none⟩)] (bwEnc zs) (Frm n₀ B) (fun ys => ys = upto (fun j => zs.length - 1 - j) zs.length) (fun _ => True) zs.length w := fun l J Jx W hW _ _ hY h0 => by
  have hc' := (hW.cell (p := ⟨Bs, 0, none⟩) (Nat.lt_of_lt_of_le hBs hn₀)).trans hc
  rcases hI with rfl | ⟨b, off, rfl, hb, hcs⟩
  · exact (backward1_nil_in n l Bs cap A J W hc' h0).mono fun e W' ⟨he, hj⟩ => ⟨he, .inl ⟨_, rfl, hj⟩⟩
  · obtain ⟨h1, h2⟩ := hA b off none rfl
    refine (backward1_in n hn l Bs n₀ B b off cap zs hreach h1 h2 hBs hBsB J Jx hY W hc' (fun j hj => (hW.cell (p := ⟨b, off + j, none⟩) hb).trans (hcs j hj)) h0).mono ?_
    rintro e W' ⟨he, ⟨ys, rfl, hj⟩ | ⟨pre, _, hj⟩⟩
    · exact ⟨he, .inl ⟨_, rfl, hj⟩⟩
    · exact ⟨he, .inr ⟨_, trivial, hj⟩⟩
theorem backward_stops' (n : Nat) (hn : 1 ≤ n) (Bs B n₀ : Nat) (A : Option Addr) (cap : Nat) (zs : List Int) (len : Nat) (hlen : zs.length = len) (hreach : len ≤ 1000) (w : World) (hn₀ : n₀ ≤ w.heap.size) (hBs : Bs < n₀) (hBsB : Bs ≠ B)
    (hc : w.cell? ⟨Bs, 0, none⟩ = some (.slice A len cap)) (hA : ∀ b off sp, A = some ⟨b, off, sp⟩ → b < n₀ ∧ b ≠ B) (hI : Ints w A zs) :
    SeqStopsK Fence.wide n Tryd.prog 93 #[.pointer (some ⟨Bs, 0, none⟩)] (bwEnc zs) (Frm n₀ B) (fun ys => ys = upto (fun j => len - 1 - j) len) (fun _ => True) len w := by
  subst hlen
  exact backward_stops n hn Bs B n₀ A cap zs hreach w hn₀ hBs hBsB hc hA hI
end Go.Proofs.YtghbipipehglfaaDoor
