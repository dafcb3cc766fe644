/- Walks of the scalar functions of package sha: a word turned, and the sums of turned words. No conditions. -/
import Derived.Test.YtdjppgmaokcgiaaDoorRows
import Derived.Test.YtdjppgmaokcgiaaDoorShaM
import Derived.WalkKit
import Derived.WalkSpells
import Derived.WalkLawsBesides
import Derived.Deep.QuietTactic
import Derived.BigQuiet
import Derived.Laws.BytesArg
import Derived.IntWalk
namespace Go.Proofs.YtdjppgmaokcgiaaDoor
open Go.RowKit

theorem quiet_same {P : Program} {f : FuncId} {args : Array Value} {w : World} {n : Nat} {v : Value}
    (h : Calls P f args (w.drewN n) fun e w' => e = .returned v ∧ w.drewN n = w') : Calls P f args (w.drewN n) fun e w'' => e = .returned v ∧ ∃ m, w'' = w.drewN m :=
  h.mono fun _ _ ⟨he, hm⟩ => ⟨he, n, hm.symm⟩

/-- The four bytes of a word. -/
def bytes4 (x : BitVec 32) : List Int := [U (x >>> 24) % 256, U (x >>> 16) % 256, U (x >>> 8) % 256, U x % 256]
end Go.Proofs.YtdjppgmaokcgiaaDoor
