/- - -/
import Derived.Test.YthpfpkikmaiddaaGreatDoorZtb
set_option linter.all false
namespace Go.Proofs.YthpfpkikmaiddaaGreatDoor.Tg
open Go Go.RowKit Go.Proofs.YthpfpkikmaiddaaGreatDoor.Pk Go.Proofs.YthpfpkikmaiddaaGreatDoor.Nt
structure Bd (k:Nat) (D:Dev) (C:CellM):Prop where
 t:D.taken<=1000*k
 w:D.ws.length<=1000*k
 n:C.num<=k
 f:D.fall<=9223372036854775807
theorem Bd.up {k m:Nat} {D:Dev} {C:CellM} (h:Bd k D C) (hm:k<=m):Bd m D C:=⟨by have:=h.t; omega,by have:=h.w; omega,by have:=h.n; omega,h.f⟩
theorem stepD_bd (D:Dev):D.stepD.taken<=D.taken+1/\D.stepD.ws=D.ws/\D.stepD.fall<=D.fall:=by
 unfold Dev.stepD
 split
 ·exact ⟨Nat.le_succ _,rfl,Nat.zero_le _⟩
 ·exact ⟨Nat.le_refl _,rfl,Nat.sub_le _ _⟩
theorem write_bd (D:Dev) (n:Nat) (t:Bs):(D.write n t).taken<=D.taken+1/\(D.write n t).ws.length<=D.ws.length+1/\(D.write n t).fall<=D.fall:=by
 obtain ⟨h1,h2,h3⟩:=stepD_bd D
 unfold Dev.write
 split
 ·omega
 ·split
  ·omega
  ·split
   ·refine ⟨h1,?_,h3⟩
    show (D.ws++[((n:Int).toNat,padS t)]).length<=_
    simp
   ·rw [h2]; omega
theorem barrier_bd (D:Dev):D.barrier.taken<=D.taken+1/\D.barrier.ws.length<=D.ws.length/\D.barrier.fall<=D.fall:=by
 obtain ⟨h1,h2,h3⟩:=stepD_bd D
 unfold Dev.barrier
 split
 ·omega
 ·split
  ·exact ⟨h1,Nat.zero_le _,h3⟩
  ·rw [h2]; omega
theorem layM_bd:∀ (l:List Bs) (D:Dev) (n:Nat),(layM l D n).2.taken<=D.taken+l.length+1/\(layM l D n).2.ws.length<=D.ws.length+l.length/\(layM l D n).2.fall<=D.fall
 | [],D,n=>by have:=barrier_bd D; simpa [layM] using this
 | t::r,D,n=>by
  have h1:=write_bd D n t
  unfold layM
  split
  ·have h2:=layM_bd r (D.write n t) (n+1)
   simp only [List.length_cons]
   omega
  ·simp only [List.length_cons]
   omega
theorem commitM_bd (D:Dev) (a:Nat) (h:Bs) (l:List Bs):(commitM D a h l).2.taken<=D.taken+l.length+5/\(commitM D a h l).2.ws.length<=D.ws.length+l.length+2/\(commitM D a h l).2.fall<=D.fall:=by
 have h1:=layM_bd [zeros] D a
 have h2:=layM_bd l (layM [zeros] D a).2 (a+1)
 have h3:=layM_bd [h] (layM l (layM [zeros] D a).2 (a+1)).2 a
 simp only [List.length_singleton] at h1 h3
 unfold commitM
 split
 ·split <;> omega
 ·omega
theorem commit_bd {k b h:Nat} {D:Dev} {C:CellM} (hb:Bd k D C) (hh:h<=300):Bd (k+1) (commitD b h D C) (commitC b h D C):=by
 have ht:=hb.t
 have hw:=hb.w
 have hn:=hb.n
 have hf:=hb.f
 unfold commitD commitC
 split
 ·exact hb.up (by omega)
 ·split
  ·exact hb.up (by omega)
  ·next hl=>
   have hp:=pieces_len C.now h (by omega)
   have hm:=commitM_bd D (toC b h C.last) (hdr (C.num+1) (bytesC C.now).length) (pieces C.now)
   split
   ·exact ⟨by omega,by omega,by show C.num+1<=_; omega,by omega⟩
   ·exact ⟨by omega,by omega,by show C.num<=_; omega,by omega⟩
structure Pl where
 bd:Nat
 bl:Nat
 bc:Nat
 bk:Nat
end Go.Proofs.YthpfpkikmaiddaaGreatDoor.Tg
