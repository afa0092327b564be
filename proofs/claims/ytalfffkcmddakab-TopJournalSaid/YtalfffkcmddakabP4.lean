/- Plain: calls for disks, steps, cuts, posts. -/
import Derived.Test.YtalfffkcmddakabP3
import Derived.Test.YtalfffkcmddakabH0
namespace Go.Proofs.Ytalfffkcmddakab.Pl
open Go
/-- a call for a disk, and where its bytes lie -/
structure Ac where
  k : Int
  s : Int
  n : Int
  kp : Int
  b : Bs
  a : Option Addr
  c : Nat
instance : Inhabited Ac := ⟨⟨0, 0, 0, 0, [], none, 0⟩⟩
/-- a step of a journal -/
structure Gs where
  x : Ac
  im : Bs
  a : Option Addr
  c : Nat
instance : Inhabited Gs := ⟨⟨default, [], none, 0⟩⟩
/-- a Save during which the power may fail -/
structure Ct where
  im : Bs
  a : Option Addr
  c : Nat
  at_ : Int
  kp : Int
instance : Inhabited Ct := ⟨⟨[], none, 0, 0, 0⟩⟩
/-- an entry, and whether the power fails -/
structure Ps where
  e : En
  ls : Bool
  kp : Int
instance : Inhabited Ps := ⟨⟨default, false, 0⟩⟩
end Go.Proofs.Ytalfffkcmddakab.Pl
