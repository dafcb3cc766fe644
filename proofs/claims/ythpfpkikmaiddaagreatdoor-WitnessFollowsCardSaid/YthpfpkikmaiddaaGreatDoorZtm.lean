/- - -/
import Derived.Test.YthpfpkikmaiddaaGreatDoorZck
import Derived.Test.YthpfpkikmaiddaaGreatDoorZtr
import Derived.Test.YthpfpkikmaiddaaGreatDoorZnj
set_option linter.all false
namespace Go.Proofs.YthpfpkikmaiddaaGreatDoor.Tg
open Go Go.RowKit Go.Proofs.YthpfpkikmaiddaaGreatDoor.Pk Go.Proofs.YthpfpkikmaiddaaGreatDoor.Nt
def nUs:Bs:=[117,115,101,100]
def ctB (c:Ct) (n:Bs):Bs:=(getC c n).getD []
def ctT (c:Ct) (n:Bs):ByteArray:=btx (ctB c n)
theorem gO_ne {o:List UInt8} (h:gO o=true):o ≠ []:=by
 unfold gO at h
 simp only [Bool.and_eq_true,decide_eq_true_eq] at h
 intro e; rw [e] at h; simp at h
theorem dec_ne (u:Nat):Lib.decDigits u ≠ []:=fun e=>by
 have h1:=Lib.decDigits_length u
 rw [e] at h1
 have h2:=Lib.nDigits_pos u
 simp at h1; omega
theorem gT_ck {k:Ck} (h:gC k=true):gT (ckL k)=true:=by
 obtain ⟨h1,h2,h3,h4⟩:=gC_iff.1 h
 refine (gT_iff _).2 ⟨[lTitle,k.o.data.toList,Lib.itoa k.n,hexL k.r.data.toList],by simp,fun a ha=>?_,rfl⟩
 simp only [List.mem_cons,List.not_mem_nil,or_false] at ha
 rcases ha with rfl | rfl | rfl | rfl
 ·exact ⟨by decide,title_no10⟩
 ·exact ⟨gO_ne h1,gO_no10 h1⟩
 ·rw [itoa_of h2]; exact ⟨dec_ne _,dec_no10 _⟩
 ·refine ⟨fun e=>?_,hex_no10 _⟩
  have:=congrArg List.length e
  rw [hexL_length,Pk.data_len,h4] at this
  simp at this
theorem keyID_size (s:ByteArray) (h:Nat):(keyID s h).size=32:=idV_size _ _
end Go.Proofs.YthpfpkikmaiddaaGreatDoor.Tg
