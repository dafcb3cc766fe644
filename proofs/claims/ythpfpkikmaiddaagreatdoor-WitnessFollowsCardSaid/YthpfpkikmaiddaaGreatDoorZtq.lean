/- - -/
import Derived.Test.YthpfpkikmaiddaaGreatDoorZtl
set_option linter.all false
namespace Go.Proofs.YthpfpkikmaiddaaGreatDoor.Tg
open Go Go.RowKit Go.Proofs.YthpfpkikmaiddaaGreatDoor.Pk Go.Proofs.YthpfpkikmaiddaaGreatDoor.Nt
structure PcGo (b h:Nat) (D D':Dev) (C C':CellM) (ct:Ct):Prop where
 now:C'.now=ct
 was:C'.was=ct
 num:C'.num=C.num+1
 sound:Sound b h D' C'
 fall:D'.fall=0
 len:D'.safe.length=D.safe.length
def NoO:Pk.Obj:=fun w F=>∀ k,F k->k<w.heap.size
theorem NoO.good:Pk.Good NoO where
 lt:=fun h=>h
 chg:=fun h hc _=>fun k hk=>Nat.lt_of_lt_of_le (h k hk) hc.size
 wide:=fun _ _ hl=>hl
theorem kept_no {w0 w:World} {A:Pk.Obj} (g:Pk.Good A) (h:Kept w0 A w):Kept w0 (Pair2 A NoO) w:=
 kept_cv h fun _ F k=>⟨F,fun _=>False,k,fun _ e=>e.elim,fun _ _ e=>e,fun _=>id,fun _ e=>e.elim,g.lt k⟩
theorem new_bd (n:Nat):Bd 0 (Dev.new n) Pk.M0:=⟨Nat.le_refl _,by simp [Dev.new],Nat.le_refl _,by simp [Dev.new]⟩
end Go.Proofs.YthpfpkikmaiddaaGreatDoor.Tg
