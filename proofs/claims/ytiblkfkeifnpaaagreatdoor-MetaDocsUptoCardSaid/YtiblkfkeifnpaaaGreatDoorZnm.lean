/- Notes and checkpoints, on lists: lines, what each side takes a text for, and that both take a good one for what it is. -/
import Derived.Lib.AtoiAllCases
import Derived.Lib.IndexMore
import Derived.Lib.Split
import Derived.Lib.ItoaNum
import Derived.Test.YtiblkfkeifnpaaaGreatDoorZa6
set_option linter.all false
namespace Go.Proofs.YtiblkfkeifnpaaaGreatDoor.Nt
open Go Go.RowKit

theorem ba_ext {a b : ByteArray} (h : a.data.toList = b.data.toList) : a = b := by
  cases a with | mk a => cases b with | mk b => exact congrArg ByteArray.mk (Array.toList_inj.1 h)
/-! Digits. -/
/-! Lines. -/
def jn (ls : List (List UInt8)) : List UInt8 := ls.flatMap (· ++ [10])
/-! Good texts. -/
/-! Notes. -/
/-! Checkpoints. -/
def gO (o : List UInt8) : Bool := o.all (fun c => decide (33 ≤ c.toNat ∧ c.toNat ≤ 126)) && decide (1 ≤ o.length ∧ o.length ≤ 64)
structure Ck where
  o : ByteArray
  n : Int
  r : ByteArray
def gC (c : Ck) : Bool := gO c.o.data.toList && decide (0 ≤ c.n) && decide (c.n ≤ 1024) && decide (c.r.size = 32)
def lTitle : List UInt8 := [111, 115, 116, 108, 101, 114, 32, 99, 104, 101, 99, 107, 112, 111, 105, 110, 116]
def ckL (c : Ck) : List UInt8 := jn [lTitle, c.o.data.toList, Lib.itoa c.n, hexL c.r.data.toList]
theorem gC_iff {c : Ck} : gC c = true ↔ gO c.o.data.toList = true ∧ 0 ≤ c.n ∧ c.n ≤ 1024 ∧ c.r.size = 32 := by
  unfold gC; simp [and_assoc]
/-! One more signature. -/
end Go.Proofs.YtiblkfkeifnpaaaGreatDoor.Nt
