/- Keys of maps: a name and a day; a line without its count; a number. -/
import Derived.Test.YtdihnbjmeppbcaaDoorW3
import Derived.WideKeyPair
import Derived.DeepKeys4
namespace Go.Proofs.YtdihnbjmeppbcaaDoor
open Go.RowKit Go.Shelf

theorem laidOutK : laidOutB Tryd.prog = true := by kernel_rfl
theorem szT : ∃ m, Tryd.prog.types.size = m + 1 := ⟨Tryd.prog.types.size - 1, by have h : 0 < Tryd.prog.types.size := of_decide_eq_true (by kernel_rfl); omega⟩
theorem szT2 : ∃ m, Tryd.prog.types.size = m + 2 := ⟨Tryd.prog.types.size - 2, by have h : 1 < Tryd.prog.types.size := of_decide_eq_true (by kernel_rfl); omega⟩
theorem cellsSc' : Tryd.prog.cellsOf 75 = 2 := by kernel_rfl
theorem cellsLn' : Tryd.prog.cellsOf 55 = 4 := by kernel_rfl
theorem cellsInt' : Tryd.prog.cellsOf 3 = 1 := by kernel_rfl
theorem cellsStr' : Tryd.prog.cellsOf 9 = 1 := by kernel_rfl
theorem rowSc : (75 : TypeId) < Tryd.prog.types.size := of_decide_eq_true (by kernel_rfl)
theorem deepSc : Tryd.prog.keyTypeAt 2 75 = true := by kernel_rfl
theorem lawSc : Go.WideMaps.KeyLaw Tryd.prog 75 := deep_law_laid laidOutK (m := 2) (by omega) rowSc deepSc (by rw [Tryd.underlying75])
theorem keyTypeSc : Tryd.prog.keyType 75 = true := by kernel_rfl
theorem rowLn : (55 : TypeId) < Tryd.prog.types.size := of_decide_eq_true (by kernel_rfl)
theorem deepLn : Tryd.prog.keyTypeAt 2 55 = true := by kernel_rfl
theorem lawLn : Go.WideMaps.KeyLaw Tryd.prog 55 := deep_law_laid laidOutK (m := 2) (by omega) rowLn deepLn (by rw [Tryd.underlying55])
theorem keyTypeLn : Tryd.prog.keyType 55 = true := by kernel_rfl

set_option maxRecDepth 100000 in
theorem scKey {s : ByteArray} {d : Int} (hs : s.size ≤ maxLen) (hd : (Lit.int .i64 d).wf = true) :
    keyOf Tryd.prog 75 (.agg #[.string s, .int .i64 d]) = some (.string (keyBytes [.string s.data.toList, .int .i64 d])) := by
  obtain ⟨m, hm⟩ := szT
  unfold keyOf
  simp only [Tryd.underlying75]
  rw [if_pos (by simp [keyTypeSc, Value.formed, Tryd.underlying75, cellsSc']), hm]
  unfold Program.keyLits
  simp only [Tryd.underlying75, Value.cells]
  rw [if_pos (by rw [cellsSc']; exact ⟨rfl, by simp⟩)]
  simp [cellsInt', cellsStr', Program.keyLits, Tryd.underlying3, Tryd.underlying9, hs, hd]
set_option maxRecDepth 100000 in
theorem lnKey {s : ByteArray} {a b c : Int} (hs : s.size ≤ maxLen) (ha : (Lit.int .i64 a).wf = true) (hb : (Lit.int .i64 b).wf = true) (hc : (Lit.int .i64 c).wf = true) :
    keyOf Tryd.prog 55 (.agg #[.string s, .int .i64 a, .int .i64 b, .int .i64 c]) = some (.string (keyBytes [.string s.data.toList, .int .i64 a, .int .i64 b, .int .i64 c])) := by
  obtain ⟨m, hm⟩ := szT
  unfold keyOf
  simp only [Tryd.underlying55]
  rw [if_pos (by simp [keyTypeLn, Value.formed, Tryd.underlying55, cellsLn']), hm]
  unfold Program.keyLits
  simp only [Tryd.underlying55, Value.cells]
  rw [if_pos (by rw [cellsLn']; exact ⟨rfl, by simp⟩)]
  simp [cellsInt', cellsStr', Program.keyLits, Tryd.underlying3, Tryd.underlying9, hs, ha, hb, hc]
/-- names and days as keys -/
def scT : KeyT Pl.Ky where
  t := 75
  mt := 111
  val k := .agg (scA k)
  lit k := .string (keyBytes [.string k.1.data.toList, .int .i64 k.2])
  ok k := k.1.size ≤ maxLen ∧ (Lit.int .i64 k.2).wf = true
  keyed := Go.Maps.Keyed.of_law lawSc
  map := Tryd.underlying111
  key k h := scKey h.1 h.2
  inj a b h := by
    obtain ⟨a1, a2⟩ := a
    obtain ⟨b1, b2⟩ := b
    simp [scA] at h
    rw [h.1, h.2]
/-- numbers as keys -/
def inT : KeyT Int where
  t := 3
  mt := 119
  val k := .int .i64 k
  lit k := .int .i64 k
  ok k := (Lit.int .i64 k).wf = true
  keyed := keyedInt
  map := Tryd.underlying119
  key k h := Go.Maps.keyOf_int_mk Tryd.underlying3 h
  inj a b h := by injection h
end Go.Proofs.YtdihnbjmeppbcaaDoor
