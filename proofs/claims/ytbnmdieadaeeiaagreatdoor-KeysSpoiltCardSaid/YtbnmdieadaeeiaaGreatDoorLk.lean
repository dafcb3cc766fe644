/- The numbers under which this dump holds sync.Mutex, and that it holds it. -/
import Derived.Test.YtbnmdieadaeeiaaGreatDoorProg
import Derived.Conc.MuLone
import Derived.Conc.MuLib
import Derived.KernelRfl
namespace Go.Proofs
abbrev Tryz.muLink : Go.Conc.Locks.MuLink := { lock := 121, unlock := 122, ilock := 140, iunlock := 141, lockSlow := 150, unlockSlow := 152, disable := 103, enable := 105, acquire := 106, relMerge := 125, cas32 := 149, add32 := 151, tMutex := 72, tIMutex := 70, tPMutex := 182, tPIMutex := 187, tPI32 := 189, tUP := 149, tNoCopy := 65, tU32 := 66 }
theorem Tryz.muLib : Go.Conc.Locks.MuLib Tryz.prog Tryz.muLink :=
  ⟨Tryz.func121, Tryz.func122, Tryz.func140, Tryz.func141, Tryz.func103, Tryz.func105, Tryz.func106, Tryz.func125, Tryz.func149, Tryz.func151, Tryz.underlying70, Tryz.runUnderlying70, Tryz.sizeOf70, Tryz.isAgg70, Tryz.zeroValue70, Tryz.underlying72, Tryz.runUnderlying72, Tryz.sizeOf72, Tryz.isAgg72, Tryz.zeroValue72, Tryz.underlying182, Tryz.runUnderlying182, Tryz.sizeOf182, Tryz.isAgg182, Tryz.zeroValue182, Tryz.underlying187, Tryz.runUnderlying187, Tryz.sizeOf187, Tryz.isAgg187, Tryz.zeroValue187, Tryz.underlying189, Tryz.runUnderlying189, Tryz.sizeOf189, Tryz.isAgg189, Tryz.zeroValue189, Tryz.underlying149, Tryz.runUnderlying149, Tryz.sizeOf149, Tryz.isAgg149, Tryz.zeroValue149, Tryz.underlying65, Tryz.runUnderlying65, Tryz.sizeOf65, Tryz.isAgg65, Tryz.zeroValue65, Tryz.underlying21, Tryz.runUnderlying21, Tryz.sizeOf21, Tryz.isAgg21, Tryz.zeroValue21, (by kernel_rfl)⟩
end Go.Proofs
