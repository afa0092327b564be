import Derived.Test.YticjhkfidgkecaaGreatDoorB8
namespace Go.Proofs.YticjhkfidgkecaaGreatDoor
open Go.RowKit Pl

theorem find_key (a : Addr) (n : Nat) (w : World) (ha : Cl w a.block) (es : List MapEntry) (h : ∀ e, e ∈ es → EntOk w e) :
    ((Instr.findKey 147 (keyK a n) es).run Tryz.prog w = .ok none w) ∨ (∃ j e, (Instr.findKey 147 (keyK a n) es).run Tryz.prog w = .ok (some (j, e.val)) w ∧ es[j]? = some e ∧ e.key = keyK a n) := by
  cases es with
  | nil => left; simp [Instr.findKey, run_underlying Tryz.underlying147, Instr.findNow]
  | cons e es =>
    have hn : Instr.findKey 147 (keyK a n) (e :: es) = (do match Instr.findNow (← underlying 147) (keyK a n) (e :: es) 0 with | some r => pure r | none => Instr.findAsking 147 (keyK a n) (e :: es)) := rfl
    rcases find_asking a n w ha (e :: es) 0 h with g | ⟨j, e', g, g2, g3⟩
    · left
      rw [hn]
      simp [run_underlying Tryz.underlying147, Instr.findNow, Instr.sameNow, g]
    · right
      refine ⟨j, e', ?_, g2, g3⟩
      rw [hn]
      rw [Nat.zero_add] at g
      simp [run_underlying Tryz.underlying147, Instr.findNow, Instr.sameNow, g]
theorem check_ptr (b : Bool) (a : Addr) (w : World) (d : Nat) : (Instr.checkKey b (d + 1) 145 (.pointer (some a))).run Tryz.prog w = .ok () w := by
  unfold Instr.checkKey
  simp [run_underlying Tryz.underlying145]
theorem check_int (b : Bool) (n : Int) (w : World) (d : Nat) : (Instr.checkKey b (d + 1) 3 (.int .i64 n)).run Tryz.prog w = .ok () w := by
  unfold Instr.checkKey
  simp [run_underlying Tryz.underlying3]
theorem check_key (b : Bool) (a : Addr) (n : Nat) (w : World) : (Instr.checkKey b 10000 147 (keyK a n)).run Tryz.prog w = .ok () w := by
  have e1 := check_ptr b a w 9998
  have e2 := check_int b n w 9998
  have p0 := part0 a n w
  have p1 := part1 a n w
  rw [show (10000 : Nat) = 9998 + 1 + 1 from rfl]
  unfold Instr.checkKey
  simp only [run_underlying Tryz.underlying147, Sem.run_bind, Result.andThen_ok]
  simp at e1 e2
  simp [← Array.forIn_toList, p0, p1, e1, e2]
theorem get_map {r : Nat} {w : World} {es : Array MapEntry} {k : Nat} (hm : w.heap[r]? = some (.map es k)) : (getObj r).run Tryz.prog w = .ok (.map es k) w := by simp [getObj, Sem.run, hm]
def putM (w : World) (r : Nat) (o : Obj) : World := { w with heap := w.heap.setIfInBounds r o }
theorem set_map {r : Nat} {w : World} {es : Array MapEntry} {k : Nat} (hm : w.heap[r]? = some (.map es k)) (o : Obj) : (setObj r o).run Tryz.prog w = .ok () (putM w r o) := by simp [setObj, Sem.run, hm, putM]
theorem putM_fr (w : World) (r : Nat) (o : Obj) : Fr r w (putM w r o) :=
  ⟨rfl, rfl, rfl, by simp [putM], fun k _ hr => by simp [putM, Array.getElem?_setIfInBounds_ne (Ne.symm hr)]⟩
theorem putM_at {w : World} {r : Nat} {o o' : Obj} (h : w.heap[r]? = some o') : (putM w r o).heap[r]? = some o := by
  have := (Array.getElem?_eq_some_iff.1 h).1
  simp [putM, this]
theorem same_bits (a : Addr) (n : Nat) : Instr.sameBits 10000 (keyK a n) (keyK a n) = true := by
  rw [show (10000 : Nat) = 9999 + 1 from rfl]
  simp [Instr.sameBits]
theorem key_one {a b : Addr} {n m : Nat} (h : keyK a n = keyK b m) : a = b ∧ n = m := by
  simp only [Value.agg.injEq] at h
  simp at h
  exact ⟨h.1, by omega⟩
theorem update_any (a : Addr) (n r : Nat) (lv : Int) (w : World) (hg : Gone w a n lv) (hs : SeenOk w r) : ∃ w', (Instr.mapUpdate 123 (.map (some r)) (keyK a n) (.int .i64 lv)).run Tryz.prog w = .ok () w' ∧ Fr r w w' ∧ SeenOk w' r := by
  have hs0 := hs
  obtain ⟨es, k, hm, he⟩ := hs
  have hc := check_key false a n w
  have hget := get_map hm
  rcases find_key a n w hg.1 es.toList he with g | ⟨j, e, g, g2, g3⟩
  · refine ⟨_, ?_, putM_fr w r (.map (es.push { key := keyK a n, val := .int .i64 lv, born := k }) (k + 1)), ?_⟩
    · unfold Instr.mapUpdate
      simp [run_underlying Tryz.underlying123, hget, hc, g, set_map hm]
    · refine ⟨_, _, putM_at hm, fun x hx => ?_⟩
      rw [Array.toList_push, List.mem_append] at hx
      have hx' : EntOk w x := by
        rcases hx with hx | hx
        · exact he x hx
        · simp at hx
          subst hx
          exact ⟨a, n, lv, rfl, rfl, hg⟩
      exact hx'.fr hs0 (putM_fr _ _ _)
  · refine ⟨_, ?_, putM_fr w r (.map (es.modify j fun e => { e with key := keyK a n, val := .int .i64 lv }) k), ?_⟩
    · have hk : (es[j]?.map (·.key)).getD (keyK a n) = keyK a n := by
        rw [← Array.getElem?_toList, g2]; exact g3
      have hst : (Instr.keyThatStays (keyK a n) (keyK a n)).run Tryz.prog w = .ok (keyK a n) w := by
        unfold Instr.keyThatStays; rw [if_pos (same_bits a n)]; rfl
      unfold Instr.mapUpdate
      simp [run_underlying Tryz.underlying123, hget, hc, g, set_map hm, hk, hst]
    · refine ⟨_, _, putM_at hm, fun x hx => ?_⟩
      have hx' : EntOk w x := by
        obtain ⟨i, hi⟩ := List.mem_iff_getElem?.1 hx
        rw [Array.getElem?_toList, Array.getElem?_modify] at hi
        split at hi
        · cases hq : es[i]? with
          | none => rw [hq] at hi; cases hi
          | some y =>
            rw [hq] at hi
            cases hi
            exact ⟨a, n, lv, rfl, rfl, hg⟩
        · exact he x (List.mem_of_getElem? (by rw [Array.getElem?_toList]; exact hi))
      exact hx'.fr hs0 (putM_fr _ _ _)
theorem lookup_any (a : Addr) (n r : Nat) (w : World) (ha : Cl w a.block) (hs : SeenOk w r) : ∃ lv, (Instr.lookup 123 (.map (some r)) (keyK a n) false).run Tryz.prog w = .ok (.int .i64 lv) w ∧ (lv = 0 ∨ Gone w a n lv) := by
  obtain ⟨es, k, hm, he⟩ := hs
  have hc := check_key es.isEmpty a n w
  have hget := get_map hm
  rcases find_key a n w ha es.toList he with g | ⟨j, e, g, g2, g3⟩
  · refine ⟨0, ?_, .inl rfl⟩
    unfold Instr.lookup
    simp [run_underlying Tryz.underlying123, hget, hc, g]
  · obtain ⟨b, m, lv, hk, hv, hg⟩ := he e (List.mem_of_getElem? g2)
    obtain ⟨rfl, rfl⟩ := key_one (g3.symm.trans hk)
    refine ⟨lv, ?_, .inr hg⟩
    unfold Instr.lookup
    simp [run_underlying Tryz.underlying123, hget, hc, g, hv]
end Go.Proofs.YticjhkfidgkecaaGreatDoor
