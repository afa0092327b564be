/- Keys of maps: a name and a day; a line without its count; a number. -/
import Derived.Test.YtbdnocijhbkclaaGreatDoorW3
import Derived.WideKeyPair
import Derived.DeepKeys4
namespace Go.Proofs.YtbdnocijhbkclaaGreatDoor
open Go.RowKit Go.Shelf

theorem laidOutK : laidOutB Tryz.prog = true := by kernel_rfl
theorem szT : ∃ m, Tryz.prog.types.size = m + 1 := ⟨Tryz.prog.types.size - 1, by have h : 0 < Tryz.prog.types.size := of_decide_eq_true (by kernel_rfl); omega⟩
theorem szT2 : ∃ m, Tryz.prog.types.size = m + 2 := ⟨Tryz.prog.types.size - 2, by have h : 1 < Tryz.prog.types.size := of_decide_eq_true (by kernel_rfl); omega⟩
theorem cellsSc' : Tryz.prog.cellsOf 79 = 2 := by kernel_rfl
theorem cellsLn' : Tryz.prog.cellsOf 45 = 4 := by kernel_rfl
theorem cellsInt' : Tryz.prog.cellsOf 3 = 1 := by kernel_rfl
theorem cellsStr' : Tryz.prog.cellsOf 9 = 1 := by kernel_rfl
theorem rowSc : (79 : TypeId) < Tryz.prog.types.size := of_decide_eq_true (by kernel_rfl)
theorem deepSc : Tryz.prog.keyTypeAt 2 79 = true := by kernel_rfl
theorem lawSc : Go.WideMaps.KeyLaw Tryz.prog 79 := deep_law_laid laidOutK (m := 2) (by omega) rowSc deepSc (by rw [Tryz.underlying79])
theorem keyTypeSc : Tryz.prog.keyType 79 = true := by kernel_rfl
theorem rowLn : (45 : TypeId) < Tryz.prog.types.size := of_decide_eq_true (by kernel_rfl)
theorem deepLn : Tryz.prog.keyTypeAt 2 45 = true := by kernel_rfl
theorem lawLn : Go.WideMaps.KeyLaw Tryz.prog 45 := deep_law_laid laidOutK (m := 2) (by omega) rowLn deepLn (by rw [Tryz.underlying45])
theorem keyTypeLn : Tryz.prog.keyType 45 = true := by kernel_rfl

set_option maxRecDepth 100000 in
theorem scKey {s : ByteArray} {d : Int} (hs : s.size ≤ maxLen) (hd : (Lit.int .i64 d).wf = true) :
    keyOf Tryz.prog 79 (.agg #[.string s, .int .i64 d]) = some (.string (keyBytes [.string s.data.toList, .int .i64 d])) := by
  obtain ⟨m, hm⟩ := szT
  unfold keyOf
  simp only [Tryz.underlying79]
  rw [if_pos (by simp [keyTypeSc, Value.formed, Tryz.underlying79, cellsSc']), hm]
  unfold Program.keyLits
  simp only [Tryz.underlying79, Value.cells]
  rw [if_pos (by rw [cellsSc']; exact ⟨rfl, by simp⟩)]
  simp [cellsInt', cellsStr', Program.keyLits, Tryz.underlying3, Tryz.underlying9, hs, hd]
set_option maxRecDepth 100000 in
theorem lnKey {s : ByteArray} {a b c : Int} (hs : s.size ≤ maxLen) (ha : (Lit.int .i64 a).wf = true) (hb : (Lit.int .i64 b).wf = true) (hc : (Lit.int .i64 c).wf = true) :
    keyOf Tryz.prog 45 (.agg #[.string s, .int .i64 a, .int .i64 b, .int .i64 c]) = some (.string (keyBytes [.string s.data.toList, .int .i64 a, .int .i64 b, .int .i64 c])) := by
  obtain ⟨m, hm⟩ := szT
  unfold keyOf
  simp only [Tryz.underlying45]
  rw [if_pos (by simp [keyTypeLn, Value.formed, Tryz.underlying45, cellsLn']), hm]
  unfold Program.keyLits
  simp only [Tryz.underlying45, Value.cells]
  rw [if_pos (by rw [cellsLn']; exact ⟨rfl, by simp⟩)]
  simp [cellsInt', cellsStr', Program.keyLits, Tryz.underlying3, Tryz.underlying9, hs, ha, hb, hc]
/-- names and days as keys -/
def scT : KeyT Pl.Ky where
  t := 79
  mt := 98
  val k := .agg (scA k)
  lit k := .string (keyBytes [.string k.1.data.toList, .int .i64 k.2])
  ok k := k.1.size ≤ maxLen ∧ (Lit.int .i64 k.2).wf = true
  keyed := Go.Maps.Keyed.of_law lawSc
  map := Tryz.underlying98
  key k h := scKey h.1 h.2
  inj a b h := by
    obtain ⟨a1, a2⟩ := a
    obtain ⟨b1, b2⟩ := b
    simp [scA] at h
    rw [h.1, h.2]
end Go.Proofs.YtbdnocijhbkclaaGreatDoor
