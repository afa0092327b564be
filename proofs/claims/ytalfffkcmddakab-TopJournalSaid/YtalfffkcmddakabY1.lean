/- Bytes as values; rows of them; a string of them. -/
import Derived.Test.YtalfffkcmddakabF2
import Derived.Lib.SlBytesRow
import Derived.Laws.BytesArg
namespace Go.Proofs.Ytalfffkcmddakab
open Go.RowKit Go.Shelf

abbrev u8L (x : UInt8) : List Value := [.int .u8 (x.toNat : Int)]
theorem encU8 : Enc u8L 1 where
  pos := by decide
  len _ := rfl
  one x v hv := by simp [u8L] at hv; subst hv; rfl
theorem infoU8 : (Try.prog.info? 5).map (fun i => (i.zero, i.size, i.bytes)) = some (some (.int .u8 0), 1, 1) := by kernel_rfl
theorem u8_cells (l : List UInt8) : flt u8L l = l.map fun x => Value.int .u8 (x.toNat : Int) := by
  induction l with
  | nil => rfl
  | cons x l ih => rw [flt_cons, ih]; rfl
/-- a string of bytes -/
abbrev str (l : List UInt8) : ByteArray := ⟨l.toArray⟩
theorem str_nums (l : List UInt8) : strOfNums (l.map fun x => (x.toNat : Int)) = str l := by
  apply ByteArray.ext
  apply Array.toList_inj.1
  rw [strOfNums_data, List.map_map]
  show _ = l
  conv => rhs; rw [← List.map_id l]
  apply List.map_congr_left
  intro x _
  simp
theorem conv_rows {W : World} {A : Option Addr} {l : List UInt8} (h : Rows u8L 1 W A l) (n c : Nat) (hn : l.length = n) :
    (convert 29 9 (.slice A n c)).run Try.prog W = .ok (.string (str l)) W := by
  subst hn
  rcases h with rfl | ⟨b, off, rfl, hb, hc⟩
  · cases A with
    | none => exact run_convert_bytes_nil W 29 5 Try.underlying29 Try.underlying5 0 c 9 Try.underlying9
    | some a =>
      obtain ⟨b, off, sp⟩ := a
      have h := run_convert_bytes_string (P := Try.prog) W 29 9 5 (some ⟨b, off, sp⟩) 0 c Try.underlying29 Try.underlying5 Try.underlying9
      rw [List.length_nil, h, run_bytesToString W _ 0 c [] (by simp [loadCells, loadCellsFrom])]
      rfl
  · have h := run_convert_bytes_arg (P := Try.prog) W 29 5 Try.underlying29 Try.underlying5 b off l.length c (l.map fun x => (x.toNat : Int)) (by simp) (fun i hi => by
      have := hc i hi 0 _ rfl
      rw [Nat.mul_one] at this
      rw [show off + i + 0 = off + i from rfl] at this
      rw [this, List.getD_eq_getElem?_getD, List.getElem?_map, List.getElem?_eq_getElem hi]; rfl) 9 Try.underlying9
    rw [h, str_nums]
end Go.Proofs.Ytalfffkcmddakab
