import Derived.Test.YtkfcilandmhomaaDoorEbD
namespace Go.Proofs.YtkfcilandmhomaaDoor
open Go.RowKit
set_option maxRecDepth 8000
end Go.Proofs.YtkfcilandmhomaaDoor

namespace Go.Proofs.YtkfcilandmhomaaDoor
open Go.RowKit
set_option maxRecDepth 8000
end Go.Proofs.YtkfcilandmhomaaDoor

namespace Go.Proofs.YtkfcilandmhomaaDoor
open Go.RowKit
set_option maxRecDepth 8000
/-- a file of the reference's disk -/
structure RO where
  name : ByteArray
  sp : Option Addr
  sn : Nat
  sc : Nat
  sf : Nat → Int
  lp : Option Addr
  ln : Nat
  lc : Nat
  lf : Nat → Int
def RO.zs (o : RO) : List Int := (List.range o.sn).map o.sf ++ (List.range o.ln).map o.lf
def RO.key (o : RO) : ByteArray × List Int × Int := (o.name, o.zs, (o.sn : Int))
theorem streq (a b : ByteArray) : (a.toList == b.toList) = decide (a = b) := by
  rw [ByteArray.toList_eq, ByteArray.toList_eq]
  by_cases h : a = b
  · subst h; simp
  · have : a.data ≠ b.data := fun e => h (ByteArray.ext e)
    simp [h, this]
/-- is there a file of this name? -/
def hasN (A : LT RO) (s : ByteArray) : Bool := (List.range A.n).any fun j => decide ((A.item j).name = s)
end Go.Proofs.YtkfcilandmhomaaDoor
