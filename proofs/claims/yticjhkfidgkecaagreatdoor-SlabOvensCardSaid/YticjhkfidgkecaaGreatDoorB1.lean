import Derived.Test.YticjhkfidgkecaaGreatDoorA4
import Derived.Test.YticjhkfidgkecaaGreatDoorShelf1
namespace Go.Proofs.YticjhkfidgkecaaGreatDoor
open Go.RowKit Pl

/-- of what was there nothing has turned but block rb -/
structure Fr (rb : Nat) (w w' : World) : Prop where
  os : w'.os = w.os
  tape : w'.tape = w.tape
  output : w'.output = w.output
  size : w.heap.size ≤ w'.heap.size
  block : ∀ k, k < w.heap.size → k ≠ rb → w'.heap[k]? = w.heap[k]?
theorem Fr.refl (rb : Nat) (w : World) : Fr rb w w := ⟨rfl, rfl, rfl, Nat.le_refl _, fun _ _ _ => rfl⟩
theorem Fr.trans {rb : Nat} {a b c : World} (h : Fr rb a b) (k : Fr rb b c) : Fr rb a c :=
  ⟨k.os.trans h.os, k.tape.trans h.tape, k.output.trans h.output, Nat.le_trans h.size k.size, fun i hi hr => (k.block i (Nat.lt_of_lt_of_le hi h.size) hr).trans (h.block i hi hr)⟩
theorem Fr.of {rb : Nat} {w w' : World} (h : Below w.heap.size w w') : Fr rb w w' := ⟨h.os, h.tape, h.output, h.size, fun k hk _ => h.block k hk⟩
theorem Fr.set (rb i : Nat) (w : World) (v : Value) : Fr rb w (w.setCell ⟨rb, i, none⟩ v) :=
  ⟨rfl, rfl, rfl, by simp [World.setCell], fun k _ hk => Below.heap_setCell w ⟨rb, i, none⟩ v k hk⟩
theorem Fr.below {rb B : Nat} {w w' : World} (h : Fr rb w w') (hB : B ≤ rb) (hw : B ≤ w.heap.size) : Below B w w' := ⟨h.os, h.tape, h.output, h.size, fun k hk => h.block k (by omega) (by omega)⟩
theorem Blk.fr {w w' : World} {g rb : Nat} {t : TypeId} {cs : Array Value} (h : Blk w g t cs) (hf : Fr rb w w') (hg : g ≠ rb) : Blk w' g t cs := (hf.block g h.lt hg).trans h
theorem Blk.set {w : World} {g i : Nat} {t : TypeId} {cs : Array Value} (h : Blk w g t cs) (v : Value) : Blk (w.setCell ⟨g, i, none⟩ v) g t (cs.setIfInBounds i v) := by
  have hl := h.lt
  unfold Blk at h ⊢
  have h' : w.heap[g] = .cells cs t (0, 0) := by
    rw [Array.getElem?_eq_getElem hl] at h
    exact Option.some.inj h
  simp [World.setCell, hl, Array.getElem_modify_self, h']
theorem Own.fr {w w' : World} {rb : Nat} (h : Own w) (hf : Fr rb w w') (hr : 2 ≤ rb) : Own w' := ⟨h.col.imp fun _ k => k.fr hf (by omega), h.kind.imp fun _ k => k.fr hf (by omega)⟩
/-- the reader's state: the rest, and whether it failed -/
def St (w : World) (rb : Nat) (s : List UInt8) (f : Bool) : Prop := Blk w rb 84 #[str s, .bool f]
theorem St.c0 {w : World} {rb : Nat} {s : List UInt8} {f : Bool} (h : St w rb s f) : w.cell? ⟨rb, 0, none⟩ = some (str s) := (Blk.cell h 0).trans rfl
theorem St.c1 {w : World} {rb : Nat} {s : List UInt8} {f : Bool} (h : St w rb s f) : w.cell? ⟨rb, 1, none⟩ = some (.bool f) := (Blk.cell h 1).trans rfl
theorem St.set0 {w : World} {rb : Nat} {s : List UInt8} {f : Bool} (h : St w rb s f) (s' : List UInt8) : St (w.setCell ⟨rb, 0, none⟩ (str s')) rb s' f := Blk.set h _
theorem St.set1 {w : World} {rb : Nat} {s : List UInt8} {f : Bool} (h : St w rb s f) (f' : Bool) : St (w.setCell ⟨rb, 1, none⟩ (.bool f')) rb s f' := Blk.set h _
theorem St.below {w w' : World} {rb : Nat} {s : List UInt8} {f : Bool} (h : St w rb s f) (hb : Below w.heap.size w w') : St w' rb s f := Blk.below h hb (Blk.lt h)
abbrev str' (b : ByteArray) : Value := .string b
abbrev rp (rb : Nat) : Value := .pointer (some ⟨rb, 0, none⟩)

set_option maxHeartbeats 400000 in
theorem fail_any (rb : Nat) (s : List UInt8) (f : Bool) (w : World) (h : St w rb s f) :
    Calls Tryz.prog 113 #[rp rb] w fun e w' => e = .returned (.tuple #[]) ∧ St w' rb [] true ∧ Fr rb w w' := by
  have c0 := h.c0
  have z0 := Blk.frozen h 0
  have z1 := Blk.frozen h 1
  have c1 := h.c1
  have q0 := h.set0 []
  have q1 := q0.set1 true
  have d1 := q0.c1
  have y1 := Blk.frozen q0 1
  have HF := Lib.hid ((Fr.set rb 0 w (str [])).trans (Fr.set rb 1 _ (.bool true)))
  have HQ := Lib.hid q1
  clear h q0 q1
  go_enter Tryz.func113, Tryz.ntmps113
  go_wp2
  go_end0
  exact ⟨rfl, HQ.out, HF.out⟩

theorem cut_yes {p s r : List UInt8} (h : strip p s = some r) : Lib.trimPrefix s p = r ∧ Lib.hasPrefix s p = true := by
  unfold strip at h
  split at h
  · rename_i hp
    have hb : Lib.hasPrefix s p = true := by unfold Lib.hasPrefix; rw [List.isPrefixOf_iff_prefix]; exact hp
    refine ⟨?_, hb⟩
    unfold Lib.trimPrefix
    rw [if_pos hb]; exact Option.some.inj h
  · cases h
theorem cut_no {p s : List UInt8} (h : strip p s = none) : Lib.trimPrefix s p = s ∧ Lib.hasPrefix s p = false := by
  unfold strip at h
  split at h
  · cases h
  · rename_i hp
    have hb : Lib.hasPrefix s p = false := by
      rw [Bool.eq_false_iff]
      unfold Lib.hasPrefix
      rw [Ne, List.isPrefixOf_iff_prefix]; exact hp
    refine ⟨?_, hb⟩
    unfold Lib.trimPrefix
    rw [hb]; rfl
/-- what is left behind a prefix, or all -/
def cutR (p s : List UInt8) : List UInt8 := (strip p s).getD s
set_option maxHeartbeats 400000 in
theorem found_any (rb : Nat) (s p : List UInt8) (f : Bool) (w : World) (h : St w rb s f) :
    Calls Tryz.prog 109 #[rp rb, str p] w fun e w' => e = .returned (.bool (strip p s).isSome) ∧ St w' rb (cutR p s) f ∧ Fr rb w w' := by
  have hc : Lib.trimPrefix s p = cutR p s ∧ Lib.hasPrefix s p = (strip p s).isSome := by
    unfold cutR
    cases hs : strip p s with
    | none => exact cut_no hs
    | some r => exact cut_yes hs
  have c0 := h.c0
  have z0 := Blk.frozen h 0
  have q0 := h.set0 (cutR p s)
  have HF := Lib.hid (Fr.set rb 0 w (str (cutR p s)))
  have HQ := Lib.hid q0
  clear h q0
  have hcall := Tryz.strings_CutPrefix ⟨s.toArray⟩ ⟨p.toArray⟩ w
  simp only [hc.1, hc.2] at hcall
  go_enter Tryz.func109, Tryz.ntmps109
  go_wp2_with fail
  refine hcall.mono ?_
  rintro e w1 ⟨rfl, rfl⟩
  clear hcall hc
  go_wp2_with fail
  go_ret
  exact ⟨rfl, HQ.out, HF.out⟩
set_option maxHeartbeats 400000 in
theorem need_yes (rb : Nat) (s p r : List UInt8) (f : Bool) (w : World) (h : St w rb s f) (hp : strip p s = some r) :
    Calls Tryz.prog 132 #[rp rb, str p] w fun e w' => e = .returned (.tuple #[]) ∧ St w' rb r f ∧ Fr rb w w' := by
  have hcall := found_any rb s p f w h
  unfold cutR at hcall
  rw [hp] at hcall
  clear h
  go_enter Tryz.func132, Tryz.ntmps132
  go_wp2_with fail
  refine hcall.mono ?_
  rintro e w1 ⟨rfl, h1, hf⟩
  clear hcall
  dsimp only [Option.isSome, Option.getD] at h1 ⊢
  go_wp2_with fail
  go_end0
  exact ⟨rfl, h1, hf⟩
set_option maxHeartbeats 400000 in
theorem need_no (rb : Nat) (s p : List UInt8) (f : Bool) (w : World) (h : St w rb s f) (hp : strip p s = none) :
    Calls Tryz.prog 132 #[rp rb, str p] w fun e w' => e = .returned (.tuple #[]) ∧ St w' rb [] true ∧ Fr rb w w' := by
  have hcall := found_any rb s p f w h
  unfold cutR at hcall
  rw [hp] at hcall
  clear h
  go_enter Tryz.func132, Tryz.ntmps132
  go_wp2_with fail
  refine hcall.mono ?_
  rintro e w1 ⟨rfl, h1, hf⟩
  clear hcall
  dsimp only [Option.isSome, Option.getD] at h1 ⊢
  go_wp2_with fail
  refine (fail_any rb _ _ w1 h1).mono ?_
  rintro e w2 ⟨rfl, h2, hf2⟩
  go_wp2_with fail
  go_end0
  exact ⟨rfl, h2, hf.trans hf2⟩
set_option maxHeartbeats 400000 in
theorem letter_nil (rb : Nat) (f : Bool) (w : World) (h : St w rb [] f) :
    Calls Tryz.prog 111 #[rp rb] w fun e w' => e = .returned (.int .u8 0) ∧ w' = w := by
  have c0 := h.c0
  go_enter Tryz.func111, Tryz.ntmps111
  go_wp2_with fail
  go_ret
  exact ⟨rfl, rfl⟩
theorem ext_one (c : UInt8) (s : List UInt8) : str' (ByteArray.extract ⟨(c :: s).toArray⟩ 1 (s.length + 1)) = str s := by
  unfold str' str
  congr 1
  rw [ByteArray.extract_mk]
  simp
set_option maxHeartbeats 400000 in
theorem letter_cons (rb : Nat) (c : UInt8) (s : List UInt8) (f : Bool) (w : World) (h : St w rb (c :: s) f) :
    Calls Tryz.prog 111 #[rp rb] w fun e w' => e = .returned (.int .u8 c.toNat) ∧ St w' rb s f ∧ Fr rb w w' := by
  have c0 := h.c0
  have z0 := Blk.frozen h 0
  have q0 := h.set0 s
  have HF := Lib.hid (Fr.set rb 0 w (str s))
  have HQ := Lib.hid q0
  clear h q0
  rw [← ext_one c s] at HF HQ
  go_enter Tryz.func111, Tryz.ntmps111
  go_wp2_with fail
  go_ret
  exact ⟨rfl, HQ.out, HF.out⟩
end Go.Proofs.YticjhkfidgkecaaGreatDoor
