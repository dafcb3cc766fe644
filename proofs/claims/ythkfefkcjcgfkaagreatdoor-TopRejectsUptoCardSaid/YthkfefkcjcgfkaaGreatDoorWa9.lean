/- region_calm_tail with the head and the tail told by lists of places: the head's operations needn't stand first in the text. No program is named. | A drawn region, one operation at a time: a calm one that may go first (go_calm), one that must go next (go_forced), two of which either may go next (go_fork). For regions whose guards stand between calls, and whose buildSlice isn't ordered against a call. No program is named. -/
import Derived.Test.YthkfefkcjcgfkaaGreatDoorWa5
set_option linter.all false
namespace Go.Proofs.YthkfefkcjcgfkaaGreatDoor
open Go

/-- The operations at these places. -/
def nth (ops : Array Oper) (is : List Nat) : List Oper := is.filterMap fun k => ops[k]?
theorem nth_cons {ops : Array Oper} {k : Nat} {o : Oper} (is : List Nat) (h : ops[k]? = some o) : nth ops (k :: is) = o :: nth ops is := by simp [nth, h]

section
variable {P : Program} {md : Region.Mode} {ops : Array Oper} {C : World → Prop}
end

end Go.Proofs.YthkfefkcjcgfkaaGreatDoor

namespace Go.Proofs.YthkfefkcjcgfkaaGreatDoor
open Go

section
variable {P : Program} {md : Region.Mode} {ops : Array Oper} {C : World → Prop} {Q : Act → World → Prop} {fuel : Nat} {listed : Array Bool} {a : Act} {w : World}

end

/-- Which places are marked behind these. -/
def marked : List Nat → Array Bool → Array Bool
  | [], listed => listed
  | k :: is, listed => marked is (listed.setIfInBounds k true)
def headG (md : Region.Mode) (ops : Array Oper) : List Nat → Array Bool → Bool
  | [], _ => true
  | k :: is, listed => (Region.ready md ops listed).contains k && Region.free md ops listed k && headG md ops is (listed.setIfInBounds k true)
end Go.Proofs.YthkfefkcjcgfkaaGreatDoor
