/- Notes and checkpoints, on lists: lines, what each side takes a text for, and that both take a good one for what it is. -/
import Derived.Lib.AtoiAllCases
import Derived.Lib.IndexMore
import Derived.Lib.Split
import Derived.Lib.ItoaNum
import Derived.Test.YthkfefkcjcgfkaaGreatDoorWb5
set_option linter.all false
namespace Go.Proofs.YthkfefkcjcgfkaaGreatDoor.Nt
open Go Go.RowKit

theorem ba_ext {a b : ByteArray} (h : a.data.toList = b.data.toList) : a = b := by
  cases a with | mk a => cases b with | mk b => exact congrArg ByteArray.mk (Array.toList_inj.1 h)
/-- Two ways to guess what a text is, looked at in the same way. -/
def chkC {β : Type} (good : β → Bool) (by_ : β → List UInt8) (s : List UInt8) (o : Option β) : Option β := match o with
  | none => none
  | some n => if good n = true ∧ by_ n = s then some n else none
theorem chkC_some {β : Type} {good : β → Bool} {by_ : β → List UInt8} {s : List UInt8} {o : Option β} {n : β} (h : chkC good by_ s o = some n) : good n = true ∧ by_ n = s := by
  unfold chkC at h
  cases o with
  | none => cases h
  | some m =>
    by_cases hc : good m = true ∧ by_ m = s
    · simp only [if_pos hc] at h; cases h; exact hc
    · simp only [if_neg hc] at h; cases h
/-! Digits. -/
def numI (l : List UInt8) : Int := match Lib.atoiAll l with
  | .ok v => v
  | _ => -1
/-! Lines. -/
def jn (ls : List (List UInt8)) : List UInt8 := ls.flatMap (· ++ [10])
theorem jn_cons (a : List UInt8) (ls : List (List UInt8)) : jn (a :: ls) = a ++ 10 :: jn ls := by simp [jn]
theorem jn_app (a b : List (List UInt8)) : jn (a ++ b) = jn a ++ jn b := by simp [jn]
/-! Good texts. -/
def nl : List UInt8 := [10]
def nl2 : List UInt8 := [10, 10]
def gT (t : List UInt8) : Bool := Lib.hasSuffix t nl && !Lib.hasPrefix t nl && !Lib.contains t nl2
/-! Notes. -/
def lSig : List UInt8 := [115, 105, 103, 32]
def sLn (x : ByteArray × ByteArray) : List UInt8 := lSig ++ (hexL x.1.data.toList ++ 32 :: hexL x.2.data.toList)
def sgL (sg : List (ByteArray × ByteArray)) : List UInt8 := jn (sg.map sLn)
def byN (n : ByteArray × List (ByteArray × ByteArray)) : List UInt8 := n.1.data.toList ++ 10 :: sgL n.2
def gS (x : ByteArray × ByteArray) : Bool := decide (x.1.size = 32) && decide (1 ≤ x.2.size) && decide (x.2.size ≤ 1024)
def gN (n : ByteArray × List (ByteArray × ByteArray)) : Bool := gT n.1.data.toList && decide (n.2.length ≤ 16) && n.2.all gS
/-- What the program takes a line for. -/
def rdS (line : List UInt8) : ByteArray × ByteArray := (unT (Lib.cut (Lib.trimPrefix line lSig) [32]).1, unT (Lib.cut (Lib.trimPrefix line lSig) [32]).2.1)
def rdsL : Nat → List UInt8 → List (ByteArray × ByteArray)
  | 0, _ => []
  | n + 1, rest => if rest = [] then [] else rdS (Lib.cut rest nl).1 :: rdsL n (Lib.cut rest nl).2.1
/-- What the program takes a text for. -/
def candP (s : List UInt8) : Option (ByteArray × List (ByteArray × ByteArray)) :=
  if Lib.index s nl2 < 0 then none else some (⟨(s.take ((Lib.index s nl2).toNat + 1)).toArray⟩, rdsL 17 (s.drop ((Lib.index s nl2).toNat + 2)))
/-- The note whose bytes it is. -/
def rdN (s : List UInt8) : Option (ByteArray × List (ByteArray × ByteArray)) := chkC gN byN s (candP s)
theorem rdN_some {s : List UInt8} {n : ByteArray × List (ByteArray × ByteArray)} (h : rdN s = some n) : gN n = true ∧ byN n = s := chkC_some h
/-! Checkpoints. -/
def gO (o : List UInt8) : Bool := o.all (fun c => decide (33 ≤ c.toNat ∧ c.toNat ≤ 126)) && decide (1 ≤ o.length ∧ o.length ≤ 64)
structure Ck where
  o : ByteArray
  n : Int
  r : ByteArray
def gC (c : Ck) : Bool := gO c.o.data.toList && decide (0 ≤ c.n) && decide (c.n ≤ 1024) && decide (c.r.size = 32)
def lTitle : List UInt8 := [111, 115, 116, 108, 101, 114, 32, 99, 104, 101, 99, 107, 112, 111, 105, 110, 116]
def ckL (c : Ck) : List UInt8 := jn [lTitle, c.o.data.toList, Lib.itoa c.n, hexL c.r.data.toList]
theorem gC_iff {c : Ck} : gC c = true ↔ gO c.o.data.toList = true ∧ 0 ≤ c.n ∧ c.n ≤ 1024 ∧ c.r.size = 32 := by
  unfold gC; simp [and_assoc]
/-- What the program takes a text for. -/
def ckP (s : List UInt8) : Option Ck :=
  let p := Lib.splitK nl 0 (min 5 (s.length + 1) - 1) s
  if p.length ≤ 4 then none else some ⟨⟨(p.getD 1 []).toArray⟩, numI (p.getD 2 []), unT (p.getD 3 [])⟩
/-- The checkpoint whose text it is. -/
def pCk (s : List UInt8) : Option Ck := chkC gC ckL s (ckP s)
theorem pCk_some {s : List UInt8} {c : Ck} (h : pCk s = some c) : gC c = true ∧ ckL c = s := chkC_some h

/-! One more signature. -/
def fmtN (n : ByteArray × List (ByteArray × ByteArray)) : ByteArray := if gN n = true then ⟨(byN n).toArray⟩ else ByteArray.empty
def fmtE (n : ByteArray × List (ByteArray × ByteArray)) : Int := if gN n = true then 0 else 1
end Go.Proofs.YthkfefkcjcgfkaaGreatDoor.Nt
