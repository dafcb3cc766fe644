/- - -/
import Derived.Test.YthpfpkikmaiddaaGreatDoorZti
set_option linter.all false
namespace Go.Proofs.YthpfpkikmaiddaaGreatDoor.Tg
open Go Go.RowKit Go.Proofs.YthpfpkikmaiddaaGreatDoor.Pk Go.Proofs.YthpfpkikmaiddaaGreatDoor.Nt
section
variable {w0 w:World} {bd bc b h:Nat} {C:CellM} {Y:Pk.Obj}
theorem kept_row {w w':World} {O:Pk.Obj} {v:Value} {P:List ByteArray} (hk:Kept w0 O w) (g:Pk.Good O) (hb:Below w.heap.size w w') (hR:TxR w.heap.size w' v P):Kept w0 (Pair2 (RowO v P) O) w':=
 kept_new hk g (RowO.good _ _) hb ⟨TxR.base hR (Nat.zero_le _),fun k hk=>hR.own k hk,fun _ hk=>hk.2⟩
theorem ctT_list (c:Ct) (n:Bs):(ctT c n).data.toList=ctB c n:=by unfold ctT; rw [mk_list]
end
section
variable {A B C E:Pk.Obj}
theorem cvDropL (gC:Pk.Good C):Conv (Pair2 B C) C:=fun _ _ ⟨_,_,_,h2,_,_,e2,hl⟩=>gC.wide h2 e2 hl
theorem cvDropR (gB:Pk.Good B):Conv (Pair2 B C) B:=cvSwap.trans (cvDropL gB)
end
section
variable {w0 w:World} {bd b h:Nat}
theorem pa0 (w:World):PA w none 0 0 []:=⟨rfl,Nat.le_refl _,by omega,fun h=>absurd h (Nat.lt_irrefl 0)⟩
theorem fit_nil:Fit []:=fun x hx=>by cases hx
end
end Go.Proofs.YthpfpkikmaiddaaGreatDoor.Tg
