/- - -/
import Derived.Test.YthpfpkikmaiddaaGreatDoorZwd
set_option linter.all false
set_option maxHeartbeats 6400000
set_option maxRecDepth 100000
namespace Go.Proofs.YthpfpkikmaiddaaGreatDoor.Wt
open Go Go.RowKit Go.Proofs.YthpfpkikmaiddaaGreatDoor.Pk Go.Proofs.YthpfpkikmaiddaaGreatDoor.Nt Go.Proofs.YthpfpkikmaiddaaGreatDoor.Tg
section
variable {w0 w:World} {p:Pl} {b h kk:Nat} {c:WCfg} {D:Dev} {W:WitM} {vi:Value} {X Z:Pk.Obj}
theorem wused_any (hk:Kept w0 (Pair2 (WtO p b h c D W vi) X) w):Calls Tryz.prog 47 #[.pointer (some ⟨p.bk,0,none⟩)] w fun e w'=>e=.returned (.int .i64 (W.u:Int))/\Below w.heap.size w w':=by
 obtain ⟨F,⟨⟨O,h1,_⟩,_⟩,_⟩:=kept_look (kept_cv hk (cvWb.trans ((cvRight cvFlip).trans cvFlip)))
 exact (used_any p.bk O c.s c.h W.u w h1).mono fun e w' ⟨he,hw⟩=>⟨he,hw ▸ Below.refl _ _⟩
theorem wtcommit (gZ:Pk.Good Z) (hk:Kept w0 (Pair2 (WtO p b h c D W vi) Z) w) (hB:Bd kk D W.C) (h99:kk<=99) (n u:Nat) (r:ByteArray) (hn:n<4294967296) (hu:u<4294967296) (hr:r.size<=maxLen) (hp:Puts W.C.now (Pk.beN n 4) r.data.toList (Pk.beN u 4)) :
  Calls Tryz.prog 108 #[rcV (n:Int) r (u:Int),.pointer (some ⟨p.bc,0,none⟩)] w fun e w'=>e=.returned (.int .i64 (cmE b h D W.C (p3 W.C.now (Pk.beN n 4) r.data.toList (Pk.beN u 4)))) /\
   Box (Kept w0 (Pair2 (WtO p b h c (cmD b h D W.C (p3 W.C.now (Pk.beN n 4) r.data.toList (Pk.beN u 4))) { W with C:=cmX b h D W.C (p3 W.C.now (Pk.beN n 4) r.data.toList (Pk.beN u 4)) } vi) Z) w'):=
 (wcommit_any (Pair2.good gOwn gZ) (kept_cv hk cvAssoc) hB h99 n u r hn hu hr hp).mono fun _ _ ⟨he,hk2⟩=>⟨he,⟨kept_cv hk2.out cvAssoc'⟩⟩
theorem wtundo (gZ:Pk.Good Z) (hk:Kept w0 (Pair2 (WtO p b h c D W vi) Z) w):Calls Tryz.prog 80 #[.pointer (some ⟨p.bc,0,none⟩)] w fun e w'=>e=.returned (.tuple #[])/\Box (Kept w0 (Pair2 (WtO p b h c D { W with C:={ W.C with now:=W.C.was } } vi) Z) w'):=
 kept_step hk (wlift_cel gZ (undo_does p.bd p.bc b h W.C).in_)
theorem gWb (gZ:Pk.Good Z):Pk.Good (Pair2 (RowO vi [c.l]) (Pair2 (KeyO p.bk c.s c.h W.u) (Pair2 (Pair2 (DevO p.bd D) (CelO p.bd p.bc b h W.C)) Z))):=Pair2.good (RowO.good _ _) (Pair2.good (KeyO.good _ _ _ _) (Pair2.good (Pair2.good (DevO.good _ _) (CelO.good _ _ _ _ _)) gZ))
theorem wt_size (gZ:Pk.Good Z) (hk:Kept w0 (Pair2 (WtO p b h c D W vi) Z) w) (n:Int):Kept w0 (Pair2 (WtO p b h c D { W with n:=n } vi) Z) (w.setCell ⟨p.bl,5,none⟩ (.int .i64 n)):=
 kept_cv (kept_set (gWb gZ) (kept_cv hk cvWb) 5 (.int .i64 n)) (cvWb' (p:=p) (c:=c) (W:={ W with n:=n }))
theorem wt_root (gZ:Pk.Good Z) (hk:Kept w0 (Pair2 (WtO p b h c D W vi) Z) w) (r:ByteArray):Kept w0 (Pair2 (WtO p b h c D { W with r:=r } vi) Z) (w.setCell ⟨p.bl,6,none⟩ (.string r)):=
 kept_cv (kept_set (gWb gZ) (kept_cv hk cvWb) 6 (.string r)) (cvWb' (p:=p) (c:=c) (W:={ W with r:=r }))
theorem wremember_any (hk:Kept w0 (Pair2 (WtO p b h c D W vi) X) w) (gX:Pk.Good X) (hB:Bd kk D W.C) (h99:kk<=99) (k:Ck) (hn:0<=k.n/\k.n<=4294967295) (hr:k.r.size<=maxLen) (hu:W.u<=16) (hp:Puts W.C.now (Pk.beN k.n.toNat 4) k.r.data.toList (Pk.beN (W.u+1) 4)) :
  Calls Tryz.prog 60 #[.pointer (some ⟨p.bl,0,none⟩),ckA k] w fun e w'=>e=.returned (.int .i64 (cmE b h D W.C (nxC W k)))/\Box (Kept w0 (Pair2 (WtO p b h c (cmD b h D W.C (nxC W k)) (rmM b h D W k) vi) X) w'):=by
 have gY:Pk.Good (Pair2 (WtO p b h c D W vi) X):=Pair2.good WtO.good gX
 have hk0:=ck_new (k:=k) gY hk
 obtain ⟨bk,hbk⟩:∃ x,w.heap.size=x:=⟨_,rfl⟩
 rw [hbk] at hk0
 obtain ⟨W1,hW1⟩:∃ x,w.alloc (.cells #[.string k.o,.int .i64 k.n,.string k.r] 109)=x:=⟨_,rfl⟩
 rw [hW1] at hk0
 have gO:Pk.Good (Pair2 (BlO bk [.string k.o,.int .i64 k.n,.string k.r] 109) (Pair2 (WtO p b h c D W vi) X)):=Pair2.good (BlO.good _ _ _) gY
 have hcl:Box (∀ w1,Kept w0 (Pair2 (BlO bk [.string k.o,.int .i64 k.n,.string k.r] 109) (Pair2 (WtO p b h c D W vi) X)) w1->w1.cell? ⟨bk,1,none⟩=some (.int .i64 k.n)/\w1.cell? ⟨bk,2,none⟩=some (.string k.r)/\w1.cell? ⟨p.bl,3,none⟩=some (.pointer (some ⟨p.bk,0,none⟩))):=⟨fun w1 h1=>by
  obtain ⟨F,h2,_⟩:=kept_look h1
  have h3:=wt_blk (kept_cv h1 (cvDropL gY))
  exact ⟨h2.1.cell 1,h2.1.cell 2,h3.cell 3⟩⟩
 have hUs:Box (∀ w1,Kept w0 (Pair2 (BlO bk [.string k.o,.int .i64 k.n,.string k.r] 109) (Pair2 (WtO p b h c D W vi) X)) w1->_):=⟨fun w1 h1=>wused_any (kept_cv h1 (cvDropL gY))⟩
 obtain ⟨ko,kn,kr⟩:=k
 obtain ⟨N,rfl⟩:∃ N:Nat,kn=(N:Int):=⟨kn.toNat,by have:=hn.1; simp only at this; omega⟩
 rw [Int.toNat_natCast] at hp
 have hu1:Box (W.u+1<=17):=⟨by omega⟩
 unfold ckA
 simp only at hcl hUs hk0 gO
 replace hUs:=Box.mk hUs.out
 clear hk gY
 go_enter Tryz.func60,Tryz.ntmps60
 go_wp2_with fail
 refine region_steady (fun w'=>Kept w0 (Pair2 (BlO bk [.string ko,.int .i64 (N:Int),.string kr] 109) (Pair2 (WtO p b h c D W vi) X)) w') (fun w w'=>Below w.heap.size w w') rfl (hk0.below gO (dB W1)) ?_
 refine anyS_calms [0,1,2,3,4,5,6,7] 5 rfl (fun _=>Below.refl _ _) (kept_st gO) (by kernel_rfl) (by kernel_rfl) (by kernel_rfl) ?_
 simp [nth]
 try simp only [Act.put,zT9,zS9,zZ9]
 repeat (go_big_quiet_step (first | exact fun _=>rfl | rfl))
 refine quiet_val rfl (.int .i64 (N:Int)) (fun w' hw'=>by have h3:=(hcl.out w' hw').1; go_simp) ?_
 simp only [Act.put,zT9,zS9,zZ9]
 repeat (go_big_quiet_step (first | exact fun _=>rfl | rfl))
 refine quiet_val rfl (.string kr) (fun w' hw'=>by have h3:=(hcl.out w' hw').2.1; go_simp) ?_
 simp only [Act.put,zT9,zS9,zZ9]
 repeat (go_big_quiet_step (first | exact fun _=>rfl | rfl))
 refine quiet_val rfl (.pointer (some ⟨p.bk,0,none⟩)) (fun w' hw'=>by have h3:=(hcl.out w' hw').2.2; go_simp) ?_
 simp only [Act.put,zT9,zS9,zZ9]
 refine wpQuiet_nil ?_
 refine anyS_call 8 (.int .i64 (W.u:Int)) (fun _=>Below.refl _ _) (kept_st gO) (by kernel_rfl) rfl (by kernel_rfl) (by kernel_rfl) rfl (fun w' hw'=>hUs.out w' hw') (fun w' _=>by go_simp) ?_
 refine anyS_calms [9,10] 2 rfl (fun _=>Below.refl _ _) (kept_st gO) (by kernel_rfl) (by kernel_rfl) (by kernel_rfl) ?_
 simp [nth]
 try simp only [Act.put,zT9,zS9,zZ9]
 repeat (go_big_quiet_step (first | exact fun _=>rfl | rfl))
 refine wpQuiet_nil ?_
 refine anyS_forced 11 (by kernel_rfl) rfl rfl (fun wa hWa K hK=>?_)
 go_simp
 have hkb:=kept_new hWa gO (BlO.good wa.heap.size [.int .i64 0,.string ⟨#[]⟩,.int .i64 0] 100) (bel_alloc wa (.cells #[.int .i64 0,.string ⟨#[]⟩,.int .i64 0] 100))
  ⟨Pk.Blk.new wa [.int .i64 0,.string ⟨#[]⟩,.int .i64 0] _,⟨Nat.le_refl _,(Pk.Blk.new wa [.int .i64 0,.string ⟨#[]⟩,.int .i64 0] 100).lt⟩,fun _ hk=>hk.2⟩
 refine hK _ _ (Kept w0 (Pair2 (BlO wa.heap.size [.int .i64 0,.string ⟨#[]⟩,.int .i64 0] 100) (Pair2 (BlO bk [.string ko,.int .i64 (N:Int),.string kr] 109) (Pair2 (WtO p b h c D W vi) X)))) (kept_st2 gO (BlO.good _ _ _)) hkb ?_
 clear hK K hkb hWa
 generalize wa.heap.size=b5
 clear wa
 refine anyS_forced 12 (by kernel_rfl) rfl rfl (fun wa hWa K hK=>?_)
 have hbl:Pk.Blk wa b5 [.int .i64 0,.string ⟨#[]⟩,.int .i64 0] 100:=by
  obtain ⟨F,h2,_⟩:=kept_look hWa
  exact h2.1
 have q0:=hbl.cell 0
 have q1:=hbl.cell 1
 have q2:=hbl.cell 2
 have f0:=hbl.free 0
 have f1:=hbl.free 1
 have f2:=hbl.free 2
 have hkc:=kept_set gO (kept_set gO (kept_set gO hWa 0 (.int .i64 (N:Int))) 1 (.string kr)) 2 (.int .i64 ((W.u:Int)+1))
 go_simp
 refine hK _ _ (Kept w0 (Pair2 (BlO b5 [.int .i64 (N:Int),.string kr,.int .i64 ((W.u:Int)+1)] 100) (Pair2 (BlO bk [.string ko,.int .i64 (N:Int),.string kr] 109) (Pair2 (WtO p b h c D W vi) X)))) (kept_st2 gO (BlO.good _ _ _)) hkc ?_
 clear hK K hkc hWa hbl q0 q1 q2 f0 f1 f2
 refine anyS_done (by kernel_rfl) (fun w2 hk2=>?_)
 clear hk0 hUs hW1 hcl
 have gZ:Pk.Good (Pair2 (BlO b5 [.int .i64 (N:Int),.string kr,.int .i64 ((W.u:Int)+1)] 100) (Pair2 (BlO bk [.string ko,.int .i64 (N:Int),.string kr] 109) X)):=Pair2.good (BlO.good _ _ _) (Pair2.good (BlO.good _ _ _) gX)
 have hk3:Kept w0 (Pair2 (WtO p b h c D W vi) (Pair2 (BlO b5 [.int .i64 (N:Int),.string kr,.int .i64 ((W.u:Int)+1)] 100) (Pair2 (BlO bk [.string ko,.int .i64 (N:Int),.string kr] 109) X))) w2:=kept_cv hk2 ((cvRight cvFlip).trans cvFlip)
 have hCom:=Box.mk (fun w1 (hk1:Kept w0 (Pair2 (WtO p b h c D W vi) (Pair2 (BlO b5 [.int .i64 (N:Int),.string kr,.int .i64 ((W.u:Int)+1)] 100) (Pair2 (BlO bk [.string ko,.int .i64 (N:Int),.string kr] 109) X))) w1)=>wtcommit gZ hk1 hB h99 N (W.u+1) kr (by have:=hn.2; omega) (by omega) hr hp)
 have hnx:p3 W.C.now (Pk.beN N 4) kr.data.toList (Pk.beN (W.u+1) 4)=nxC W ⟨ko,(N:Int),kr⟩:=by unfold nxC; rw [Int.toNat_natCast]
 rw [hnx] at hCom
 unfold rcV at hCom
 rw [show (((W.u+1:Nat)):Int)=(W.u:Int)+1 by omega] at hCom
 have hfa:Box (∀ (D':Dev) (W':WitM) w1,Kept w0 (Pair2 (WtO p b h c D' W' vi) (Pair2 (BlO b5 [.int .i64 (N:Int),.string kr,.int .i64 ((W.u:Int)+1)] 100) (Pair2 (BlO bk [.string ko,.int .i64 (N:Int),.string kr] 109) X))) w1 ->
   w1.cell? ⟨b5,0,none⟩=some (.int .i64 (N:Int))/\w1.cell? ⟨b5,1,none⟩=some (.string kr)/\w1.cell? ⟨b5,2,none⟩=some (.int .i64 ((W.u:Int)+1))/\w1.cell? ⟨p.bl,4,none⟩=some (.pointer (some ⟨p.bc,0,none⟩))/\w1.cell? ⟨bk,1,none⟩=some (.int .i64 (N:Int))/\w1.cell? ⟨bk,2,none⟩=some (.string kr)):=⟨fun D' W' w1 h1=>by
  obtain ⟨F,h2,_⟩:=kept_look (kept_cv h1 (cvSwap.trans cvAssoc))
  have h4:=wt_blk h1
  obtain ⟨F5,h5,_⟩:=kept_look (kept_cv h1 (cvSwap.trans ((cvLeft cvFlip).trans cvAssoc)))
  exact ⟨h2.1.cell 0,h2.1.cell 1,h2.1.cell 2,h4.cell 4,h5.1.cell 1,h5.1.cell 2⟩⟩
 obtain ⟨ZZ,hZZ⟩:∃ ZZ,(Pair2 (BlO b5 [.int .i64 (N:Int),.string kr,.int .i64 ((W.u:Int)+1)] 100) (Pair2 (BlO bk [.string ko,.int .i64 (N:Int),.string kr] 109) X))=ZZ:=⟨_,rfl⟩
 have hdr:Box (∀ (D':Dev) (W':WitM) w1,Kept w0 (Pair2 (WtO p b h c D' W' vi) ZZ) w1->Kept w0 (Pair2 (WtO p b h c D' W' vi) X) w1):=⟨fun D' W' w1 h1=>by
  rw [<- hZZ] at h1
  exact kept_cv h1 (cvRight ((cvDropL (Pair2.good (BlO.good _ _ _) gX)).trans (cvDropL gX)))⟩
 rw [hZZ] at hk3 gZ hfa
 simp only [hZZ] at hCom
 go_wp2_with fail
 have gWZ:∀ D' W',Pk.Good (Pair2 (WtO p b h c D' W' vi) ZZ):=fun D' W'=>Pair2.good WtO.good gZ
 refine Tg.region_steadyC (fun w'=>w'.cell? ⟨b5,0,none⟩=some (.int .i64 (N:Int))/\w'.cell? ⟨b5,1,none⟩=some (.string kr)/\w'.cell? ⟨b5,2,none⟩=some (.int .i64 ((W.u:Int)+1))/\w'.cell? ⟨p.bl,4,none⟩=some (.pointer (some ⟨p.bc,0,none⟩))/\w'.cell? ⟨bk,1,none⟩=some (.int .i64 (N:Int))/\w'.cell? ⟨bk,2,none⟩=some (.string kr)) (fun w'=>Kept w0 (Pair2 (WtO p b h c D W vi) ZZ) w') (fun w w'=>w=w') rfl (hk3.below (gWZ _ _) (dB w2)) ?_
 refine anyS_calms [0,1,2,3,4] 2 rfl (fun _=>rfl) (Tg.st_eq fun w' h=>hfa.out _ _ w' h) (by kernel_rfl) (by kernel_rfl) (by kernel_rfl) ?_
 simp [nth]
 try simp only [Act.put,zT9,zS9,zZ9]
 repeat (go_big_quiet_step (first | exact fun _=>rfl | rfl))
 refine quiet_val rfl (.agg #[.int .i64 (N:Int),.string kr,.int .i64 ((W.u:Int)+1)]) (fun w' hw'=>by obtain ⟨h3,h4,h5,_⟩:=hw'; go_simp) ?_
 simp only [Act.put,zT9,zS9,zZ9]
 repeat (go_big_quiet_step (first | exact fun _=>rfl | rfl))
 refine quiet_val rfl (.pointer (some ⟨p.bl,0,none⟩)) (fun w' hw'=>by go_simp) ?_
 simp only [Act.put,zT9,zS9,zZ9]
 repeat (go_big_quiet_step (first | exact fun _=>rfl | rfl))
 refine quiet_val rfl (.pointer (some ⟨p.bl,4,none⟩)) (fun w' hw'=>by go_simp) ?_
 simp only [Act.put,zT9,zS9,zZ9]
 repeat (go_big_quiet_step (first | exact fun _=>rfl | rfl))
 refine quiet_val rfl (.pointer (some ⟨p.bc,0,none⟩)) (fun w' hw'=>by obtain ⟨_,_,_,h3,_⟩:=hw'; go_simp) ?_
 simp only [Act.put,zT9,zS9,zZ9]
 refine wpQuiet_nil ?_
 refine anyS_forced 5 (by kernel_rfl) rfl rfl (fun wa hWa K hK=>?_)
 have hF:=hCom.out wa hWa
 go_simp
 refine hF.mono ?_
 rintro e wb ⟨rfl,hkb⟩
 refine hK _ _ (fun w'=>w'=wb) (Tg.st_eq fun w' e=>e ▸ hfa.out _ _ _ hkb.out) rfl ?_
 clear hK K hF hWa hCom hk3 hk2
 refine anyS_calms [6] 0 rfl (fun _=>rfl) (Tg.st_eq fun w' e=>e ▸ hfa.out _ _ _ hkb.out) (by kernel_rfl) (by kernel_rfl) (by kernel_rfl) ?_
 simp [nth]
 try simp only [Act.put,zT9,zS9,zZ9]
 repeat (go_big_quiet_step (first | exact fun _=>rfl | rfl))
 refine wpQuiet_nil ?_
 refine anyS_done (by kernel_rfl) (fun wc hC=>?_)
 subst hC
 have hUn:=Box.mk (wtundo gZ hkb.out)
 have hrm:(cmE b h D W.C (nxC W ⟨ko,(N:Int),kr⟩)=0->rmM b h D W ⟨ko,(N:Int),kr⟩={ ({ W with C:=cmX b h D W.C (nxC W ⟨ko,(N:Int),kr⟩) }:WitM) with n:=(N:Int),r:=kr })/\(cmE b h D W.C (nxC W ⟨ko,(N:Int),kr⟩) ≠ 0->rmM b h D W ⟨ko,(N:Int),kr⟩={ ({ W with C:=cmX b h D W.C (nxC W ⟨ko,(N:Int),kr⟩) }:WitM) with C:={ cmX b h D W.C (nxC W ⟨ko,(N:Int),kr⟩) with now:=(cmX b h D W.C (nxC W ⟨ko,(N:Int),kr⟩)).was } }):=
  ⟨fun e=>by unfold rmM cmC; rw [if_pos e,if_pos e],fun e=>by unfold rmM cmC; rw [if_neg e,if_neg e]⟩
 have hfz:=hfa.out _ _ _ hkb.out
 obtain ⟨_,_,_,r4,k1,k2⟩:=hfz
 replace hrm:=Box.mk hrm
 obtain ⟨CE,hCE⟩:∃ x,cmE b h D W.C (nxC W ⟨ko,(N:Int),kr⟩)=x:=⟨_,rfl⟩
 rw [hCE]
 replace hCE:=Box.mk hCE
 by_cases h0:CE=0
 ·have h0b:(CE==0)=true:=by simpa using h0
  clear hUn hB hp hn hr hnx hu
  go_wp2_with fail
  obtain ⟨W9,hW9⟩:∃ x,({ W with C:=cmX b h D W.C (nxC W ⟨ko,(N:Int),kr⟩) }:WitM)=x:=⟨_,rfl⟩
  obtain ⟨D9,hD9⟩:∃ x,cmD b h D W.C (nxC W ⟨ko,(N:Int),kr⟩)=x:=⟨_,rfl⟩
  rw [hW9,hD9] at hkb
  have hkd:=hkb.out.below (gWZ _ _) (dB wc)
  refine Tg.region_steadyC (fun w'=>w'.cell? ⟨bk,1,none⟩=some (.int .i64 (N:Int))/\w'.cell? ⟨bk,2,none⟩=some (.string kr)) (fun w'=>Kept w0 (Pair2 (WtO p b h c D9 W9 vi) ZZ) w') (fun w w'=>w=w') rfl hkd ?_
  clear hkd r4 k1 k2
  have hfb:Box (∀ (D':Dev) (W':WitM) w1,Kept w0 (Pair2 (WtO p b h c D' W' vi) ZZ) w1->w1.cell? ⟨bk,1,none⟩=some (.int .i64 (N:Int))/\w1.cell? ⟨bk,2,none⟩=some (.string kr)):=⟨fun D' W' w1 h1=>(hfa.out D' W' w1 h1).2.2.2.2⟩
  refine anyS_calms [0,1,2,3,4,5,6,7] 4 rfl (fun _=>rfl) (Tg.st_eq fun w' h=>hfb.out _ _ w' h) (by kernel_rfl) (by kernel_rfl) (by kernel_rfl) ?_
  simp [nth]
  try simp only [Act.put,zT9,zS9,zZ9]
  repeat (go_big_quiet_step (first | exact fun _=>rfl | rfl))
  refine quiet_val rfl (.pointer (some ⟨bk,1,none⟩)) (fun w' hw'=>by go_simp) ?_
  simp only [Act.put,zT9,zS9,zZ9]
  repeat (go_big_quiet_step (first | exact fun _=>rfl | rfl))
  refine quiet_val rfl (.int .i64 (N:Int)) (fun w' hw'=>by obtain ⟨h3,h4⟩:=hw'; go_simp) ?_
  simp only [Act.put,zT9,zS9,zZ9]
  repeat (go_big_quiet_step (first | exact fun _=>rfl | rfl))
  refine quiet_val rfl (.pointer (some ⟨bk,2,none⟩)) (fun w' hw'=>by go_simp) ?_
  simp only [Act.put,zT9,zS9,zZ9]
  repeat (go_big_quiet_step (first | exact fun _=>rfl | rfl))
  refine quiet_val rfl (.string kr) (fun w' hw'=>by obtain ⟨h3,h4⟩:=hw'; go_simp) ?_
  simp only [Act.put,zT9,zS9,zZ9]
  repeat (go_big_quiet_step (first | exact fun _=>rfl | rfl))
  refine quiet_val rfl (.pointer (some ⟨p.bl,0,none⟩)) (fun w' hw'=>by go_simp) ?_
  simp only [Act.put,zT9,zS9,zZ9]
  repeat (go_big_quiet_step (first | exact fun _=>rfl | rfl))
  refine quiet_val rfl (.pointer (some ⟨p.bl,5,none⟩)) (fun w' hw'=>by go_simp) ?_
  simp only [Act.put,zT9,zS9,zZ9]
  repeat (go_big_quiet_step (first | exact fun _=>rfl | rfl))
  refine wpQuiet_nil ?_
  refine anyS_forced 8 (by kernel_rfl) rfl rfl (fun wa hWa K hK=>?_)
  have c5:wa.cell? ⟨p.bl,5,none⟩=some (.int .i64 W9.n):=(wt_blk hWa).cell 5
  have f5:=(wt_blk hWa).free 5
  have hka:=Box.mk (wt_size gZ hWa (N:Int))
  go_simp
  refine hK _ _ (fun w'=>w'=wa.setCell ⟨p.bl,5,none⟩ (.int .i64 (N:Int))) (Tg.st_eq fun w' e=>e ▸ hfb.out _ _ _ hka.out) rfl ?_
  clear hK K c5 f5 hWa
  refine anyS_calms [9,10] 1 rfl (fun _=>rfl) (Tg.st_eq fun w' e=>e ▸ hfb.out _ _ _ hka.out) (by kernel_rfl) (by kernel_rfl) (by kernel_rfl) ?_
  simp [nth]
  try simp only [Act.put,zT9,zS9,zZ9]
  repeat (go_big_quiet_step (first | exact fun _=>rfl | rfl))
  refine quiet_val rfl (.pointer (some ⟨p.bl,0,none⟩)) (fun w' hw'=>by go_simp) ?_
  simp only [Act.put,zT9,zS9,zZ9]
  repeat (go_big_quiet_step (first | exact fun _=>rfl | rfl))
  refine quiet_val rfl (.pointer (some ⟨p.bl,6,none⟩)) (fun w' hw'=>by go_simp) ?_
  simp only [Act.put,zT9,zS9,zZ9]
  repeat (go_big_quiet_step (first | exact fun _=>rfl | rfl))
  refine wpQuiet_nil ?_
  refine anyS_forced 11 (by kernel_rfl) rfl rfl (fun wb hWb K hK=>?_)
  subst hWb
  have c6:(wa.setCell ⟨p.bl,5,none⟩ (.int .i64 (N:Int))).cell? ⟨p.bl,6,none⟩=some (.string W9.r):=(wt_blk hka.out).cell 6
  have f6:=(wt_blk hka.out).free 6
  have hkb2:=Box.mk (wt_root gZ hka.out kr)
  obtain ⟨wx,hwx⟩:∃ wx,wa.setCell ⟨p.bl,5,none⟩ (.int .i64 (N:Int))=wx:=⟨_,rfl⟩
  rw [hwx] at c6 f6 hkb2 ⊢
  go_simp
  refine hK _ _ (fun w'=>w'=wx.setCell ⟨p.bl,6,none⟩ (.string kr)) (Tg.st_eq fun w' e=>e ▸ hfb.out _ _ _ hkb2.out) rfl ?_
  clear hK K c6 f6
  refine anyS_done (by kernel_rfl) (fun wd hC=>?_)
  subst hC
  go_wp2_with fail
  go_ret
  refine ⟨by rw [hCE.out,h0]; rfl,⟨?_⟩⟩
  rw [hrm.out.1 (by rw [hCE.out]; exact h0)]
  rw [<- hW9] at hkb2
  exact hdr.out _ _ _ hkb2.out
 ·have h0b:(CE==0)=false:=by simpa using h0
  clear hB hp hn hr hnx hu
  go_wp2_with fail
  refine hUn.out.mono ?_
  rintro e w5 ⟨rfl,hk5⟩
  clear hUn hkb r4 k1 k2
  go_wp2_with fail
  go_ret
  refine ⟨by rw [hCE.out]; rfl,⟨?_⟩⟩
  rw [hrm.out.2 (by rw [hCE.out]; exact h0)]
  exact hdr.out _ _ _ hk5.out
end
section
variable {w0 w:World} {p:Pl} {b h kk:Nat} {c:WCfg} {D:Dev} {W:WitM} {vi:Value} {X Z:Pk.Obj}
theorem wt_blkN (gZ:Pk.Good Z) (hk:Kept w0 (Pair2 (WtO p b h c D W vi) Z) w) (cs:List Value) (t:TypeId):Kept w0 (Pair2 (WtO p b h c D W vi) (Pair2 (BlO w.heap.size cs t) Z)) (w.alloc (.cells cs.toArray t)):=
 kept_cv (kept_new hk (Pair2.good WtO.good gZ) (BlO.good w.heap.size cs t) (bel_alloc w (.cells cs.toArray t))
  ⟨Pk.Blk.new w cs t,⟨Nat.le_refl _,(Pk.Blk.new w cs t).lt⟩,fun _ hk=>hk.2⟩) cvFlip
theorem wt_bl {br:Nat} {cs:List Value} {t:TypeId} (hk:Kept w0 (Pair2 (WtO p b h c D W vi) (Pair2 (BlO br cs t) Z)) w):Pk.Blk w br cs t:=by
 obtain ⟨F,h1,_⟩:=kept_look (kept_cv hk cvFlip)
 exact h1.1
theorem wt_bset {br:Nat} {cs:List Value} {t:TypeId} (gZ:Pk.Good Z) (hk:Kept w0 (Pair2 (WtO p b h c D W vi) (Pair2 (BlO br cs t) Z)) w) (i:Nat) (u:Value):Kept w0 (Pair2 (WtO p b h c D W vi) (Pair2 (BlO br (cs.set i u) t) Z)) (w.setCell ⟨br,i,none⟩ u):=
 kept_cv (kept_set (Pair2.good WtO.good gZ) (kept_cv hk cvFlip) i u) cvFlip
theorem wt_sig {br:Nat} {a0 a1:Value} {t:TypeId} (gZ:Pk.Good Z) (hk:Kept w0 (Pair2 (WtO p b h c D W vi) (Pair2 (BlO br [a0,a1] t) Z)) w) (x y:Value) :
  ((w.setCell ⟨br,0,none⟩ x).setCell ⟨br,1,none⟩ y).cell? ⟨br,0,none⟩=some x/\((w.setCell ⟨br,0,none⟩ x).setCell ⟨br,1,none⟩ y).cell? ⟨br,1,none⟩=some y/\Kept w0 (Pair2 (WtO p b h c D W vi) Z) ((w.setCell ⟨br,0,none⟩ x).setCell ⟨br,1,none⟩ y):=by
 have h3:=wt_bset gZ (wt_bset gZ hk 0 x) 1 y
 have hb:=wt_bl h3
 exact ⟨hb.cell 0,hb.cell 1,kept_cv h3 (cvRight (cvDropL gZ))⟩
theorem wsign_any (hE:Env w0) (hk:Kept w0 (Pair2 (WtO p b h c D W vi) X) w) (gX:Pk.Good X) (hc:c.ok) (hu:W.u<2 ^ c.h) (k:Ck) (hg:gC k=true) :
  Calls Tryz.prog 61 #[.pointer (some ⟨p.bl,0,none⟩),ckA k] w fun e w'=>e=.returned (.tuple #[.agg #[.string (keyID c.s c.h),.string (keyS c.s c.h W.u (ckT k))],.int .i64 0])/\Box (Kept w0 (Pair2 (WtO p b h c D { W with u:=W.u+1 } vi) X) w'):=by
 have hk1:=wt_blkN gX hk [.string k.o,.int .i64 k.n,.string k.r] 109
 obtain ⟨bk,hbk⟩:∃ x,w.heap.size=x:=⟨_,rfl⟩
 rw [hbk] at hk1
 obtain ⟨W1,hW1⟩:∃ x,w.alloc (.cells #[.string k.o,.int .i64 k.n,.string k.r] 109)=x:=⟨_,rfl⟩
 rw [hW1] at hk1
 have gZ1:Pk.Good (Pair2 (BlO bk [.string k.o,.int .i64 k.n,.string k.r] 109) X):=Pair2.good (BlO.good _ _ _) gX
 have hbl1:=wt_bl hk1
 have hk2:=wt_blkN gZ1 hk1 [.string ⟨#[]⟩,.string ⟨#[]⟩] 58
 obtain ⟨br,hbr⟩:∃ x,W1.heap.size=x:=⟨_,rfl⟩
 rw [hbr] at hk2
 obtain ⟨W2,hW2⟩:∃ x,W1.alloc (.cells #[.string ⟨#[]⟩,.string ⟨#[]⟩] 58)=x:=⟨_,rfl⟩
 replace hk2:Kept w0 (Pair2 (WtO p b h c D W vi) (Pair2 (BlO br [.string ⟨#[]⟩,.string ⟨#[]⟩] 58) (Pair2 (BlO bk [.string k.o,.int .i64 k.n,.string k.r] 109) X))) W2:=hW2 ▸ hk2
 have hbl2:=wt_bl (kept_cv hk2 (cvRight cvFlip))
 have c0:W2.cell? ⟨bk,0,none⟩=some (.string k.o):=hbl2.cell 0
 have c1:W2.cell? ⟨bk,1,none⟩=some (.int .i64 k.n):=hbl2.cell 1
 have c2:W2.cell? ⟨bk,2,none⟩=some (.string k.r):=hbl2.cell 2
 have gZ2:∀ cs,Pk.Good (Pair2 (BlO br cs 58) (Pair2 (BlO bk [.string k.o,.int .i64 k.n,.string k.r] 109) X)):=fun cs=>Pair2.good (BlO.good _ _ _) gZ1
 obtain ⟨hg1,_,_,hg4⟩:=gC_iff.1 hg
 have hT:=Box.mk (fun w1 (hb:Below w0.heap.size w0 w1)=>text_any k w0.heap.size w1 (hE.nlAt hb) hb.size (by have:=gO_size hg1; omega) (by omega))
 rw [txtV_yes hg] at hT
 unfold ckV at hT
 have hts:(ckT k).size<=1000:=ckT_le hg
 have hSg:=Box.mk (fun (ZZ:Pk.Obj) w1 (gZZ:Pk.Good ZZ) (hk1:Kept w0 (Pair2 (WtO p b h c D W vi) ZZ) w1)=>kept_step hk1 (wlift_key gZZ (ksign_does hE (ckT k) hc.s (by omega) hu)))
 have hId:=Box.mk (fun (ZZ:Pk.Obj) w1 (gZZ:Pk.Good ZZ) (hk1:Kept w0 (Pair2 (WtO p b h c D { W with u:=W.u+1 } vi) ZZ) w1)=>wid_any hE hk1 gZZ hc)
 have hkc:=Box.mk (fun (ZZ:Pk.Obj) w1 (hk1:Kept w0 (Pair2 (WtO p b h c D W vi) ZZ) w1)=>(show w1.cell? ⟨p.bl,3,none⟩=some (.pointer (some ⟨p.bk,0,none⟩)) from (wt_blk hk1).cell 3))
 obtain ⟨T,hTe⟩:∃ x,ckT k=x:=⟨_,rfl⟩
 rw [hTe] at hT hSg ⊢
 obtain ⟨sg,hsg⟩:∃ x,keyS c.s c.h W.u T=x:=⟨_,rfl⟩
 obtain ⟨id,hid⟩:∃ x,keyID c.s c.h=x:=⟨_,rfl⟩
 rw [hsg] at hSg ⊢
 rw [hid] at hId ⊢
 obtain ⟨bl,hbl⟩:∃ x,p.bl=x:=⟨_,rfl⟩
 obtain ⟨bq,hbq⟩:∃ x,p.bk=x:=⟨_,rfl⟩
 rw [hbl] at hId hkc ⊢
 rw [hbq] at hSg hkc
 replace hk2:=Box.mk hk2
 replace gZ2:=Box.mk gZ2
 replace gZ1:=Box.mk gZ1
 have gXB:=Box.mk gX
 clear hk hk1 hbl1 hbl2 hE hc hu hg hg1 hg4 hts hTe hsg hid hbl hbq gX
 unfold ckA
 go_enter Tryz.func61,Tryz.ntmps61
 go_wp2_with fail
 refine (hT.out _ hk2.out.k).mono ?_
 clear hT c0 c1 c2
 rintro e w3 ⟨rfl,hb3⟩
 have hk3:=hk2.out.below (Pair2.good WtO.good (gZ2.out _)) hb3
 have c3:=hkc.out _ _ hk3
 have hG:=hSg.out _ _ (gZ2.out _) hk3
 clear hb3 hk2 hk3 hSg
 go_wp2_with fail
 refine hG.mono ?_
 clear hG c3 hkc
 rintro e w4 ⟨rfl,hk4⟩
 have hG:=hId.out _ _ (gZ2.out _) hk4.out
 clear hk4 hId
 go_wp2_with fail
 refine hG.mono ?_
 clear hG
 rintro e w5 ⟨rfl,hk5⟩
 have hb:=wt_bl hk5.out
 have q0:=hb.cell 0
 have q1:=hb.cell 1
 have f0:=hb.free 0
 have f1:=hb.free 1
 have hfin:=Box.mk (wt_sig gZ1.out hk5.out (.string id) (.string sg))
 clear hb
 go_wp2_with fail
 obtain ⟨d0,d1,hkz⟩:=hfin.out
 refine bodyPost_ret (v:=.tuple #[.agg #[.string id,.string sg],.int .i64 0]) (by simp [results,Tryz.results61,go_sem,d0,d1]; try rfl) rfl ⟨rfl,⟨kept_cv hkz (cvRight (cvDropL gXB.out))⟩⟩
theorem rmM_u (b h:Nat) (D:Dev) (W:WitM) (k:Ck):(rmM b h D W k).u=W.u:=by unfold rmM; split <;> rfl
section
variable {s:ByteArray} {ps:List ByteArray}
theorem as_no (h0:asE0 c W s ps ≠ 0):asE b h c D W s ps=asE0 c W s ps/\asI b h c D W s ps=⟨#[]⟩/\asT b h c D W s ps=⟨#[]⟩/\asD b h c D W s ps=D/\asM b h c D W s ps=W:=by
 have e:asE b h c D W s ps=asE0 c W s ps:=by unfold asE; rw [if_pos h0]
 exact ⟨e,by unfold asI; rw [if_neg (by rw [e]; exact h0)],by unfold asT; rw [if_neg (by rw [e]; exact h0)],by unfold asD; rw [if_pos h0],by unfold asM; rw [if_pos h0]⟩
theorem as_com (h0:asE0 c W s ps=0) (h1:cmE b h D W.C (nxC W (sdV s [c.l] 1).1) ≠ 0):asE b h c D W s ps=cmE b h D W.C (nxC W (sdV s [c.l] 1).1)/\asI b h c D W s ps=⟨#[]⟩/\asT b h c D W s ps=⟨#[]⟩/\asD b h c D W s ps=cmD b h D W.C (nxC W (sdV s [c.l] 1).1)/\asM b h c D W s ps=rmM b h D W (sdV s [c.l] 1).1:=by
 have hn:¬ asE0 c W s ps ≠ 0:=fun e=>e h0
 have e:asE b h c D W s ps=cmE b h D W.C (nxC W (sdV s [c.l] 1).1):=by unfold asE; rw [if_neg hn]
 exact ⟨e,by unfold asI; rw [if_neg (by rw [e]; exact h1)],by unfold asT; rw [if_neg (by rw [e]; exact h1)],by unfold asD; rw [if_neg hn],by unfold asM; rw [if_neg hn,if_neg h1]⟩
theorem as_yes (h0:asE0 c W s ps=0) (h1:cmE b h D W.C (nxC W (sdV s [c.l] 1).1)=0):asE b h c D W s ps=0/\asI b h c D W s ps=keyID c.s c.h/\asT b h c D W s ps=keyS c.s c.h W.u (ckT (sdV s [c.l] 1).1)/\asD b h c D W s ps=cmD b h D W.C (nxC W (sdV s [c.l] 1).1)/\asM b h c D W s ps={ rmM b h D W (sdV s [c.l] 1).1 with u:=W.u+1 }:=by
 have hn:¬ asE0 c W s ps ≠ 0:=fun e=>e h0
 have e:asE b h c D W s ps=0:=by unfold asE; rw [if_neg hn,h1]
 exact ⟨e,by unfold asI; rw [if_pos e],by unfold asT; rw [if_pos e],by unfold asD; rw [if_neg hn],by unfold asM; rw [if_neg hn,if_pos h1]⟩
end
theorem ask_ends {br bc:Nat} {cs:List Value} {t:TypeId} (gX:Pk.Good X) (hk:Kept w0 (Pair2 (WtO p b h c D W vi) (Pair2 (BlO bc cs t) (Pair2 (BlO br [.string ⟨#[]⟩,.string ⟨#[]⟩] 58) X))) w) (x y:ByteArray) :
  (w.cell? ⟨br,0,none⟩=some (.string ⟨#[]⟩)/\w.cell? ⟨br,1,none⟩=some (.string ⟨#[]⟩)/\w.frozen? ⟨br,0,none⟩=false/\w.frozen? ⟨br,1,none⟩=false) /\
   ((w.setCell ⟨br,0,none⟩ (.string x)).setCell ⟨br,1,none⟩ (.string y)).cell? ⟨br,0,none⟩=some (.string x)/\((w.setCell ⟨br,0,none⟩ (.string x)).setCell ⟨br,1,none⟩ (.string y)).cell? ⟨br,1,none⟩=some (.string y)/\Kept w0 (Pair2 (WtO p b h c D W vi) X) ((w.setCell ⟨br,0,none⟩ (.string x)).setCell ⟨br,1,none⟩ (.string y)):=by
 have h1:=kept_cv hk (cvRight cvFlip)
 have hb:=wt_bl h1
 have h2:=wt_sig (Pair2.good (BlO.good _ _ _) gX) h1 (.string x) (.string y)
 exact ⟨⟨hb.cell 0,hb.cell 1,hb.free 0,hb.free 1⟩,h2.1,h2.2.1,kept_cv h2.2.2 (cvRight (cvDropL gX))⟩
theorem wask_any (hE:Env w0) (hk:Kept w0 (Pair2 (WtO p b h c D W vi) X) w) (gX:Pk.Good X) (hc:c.ok) (hW:W.ok c) (hB:Bd kk D W.C) (h99:kk<=99) (hK:WtK W.C.now) (s:ByteArray) (hs:s.size<=536870912) (ps:List ByteArray) (pa:Option Addr) (pn pc:Nat) (hP:PA w pa pn pc ps) (hF:Fit ps) :
  Calls Tryz.prog 24 #[.pointer (some ⟨p.bl,0,none⟩),.string s,.slice pa pn pc] w fun e w'=>e=.returned (.tuple #[.agg #[.string (asI b h c D W s ps),.string (asT b h c D W s ps)],.int .i64 (asE b h c D W s ps)])/\Box (Kept w0 (Pair2 (WtO p b h c (asD b h c D W s ps) (asM b h c D W s ps) vi) X) w'):=by
 have hk1:=wt_blkN gX hk [.string ⟨#[]⟩,.string ⟨#[]⟩] 58
 obtain ⟨br,hbr⟩:∃ x,w.heap.size=x:=⟨_,rfl⟩
 rw [hbr] at hk1
 obtain ⟨W1,hW1⟩:∃ x,w.alloc (.cells #[.string ⟨#[]⟩,.string ⟨#[]⟩] 58)=x:=⟨_,rfl⟩
 replace hk1:Kept w0 (Pair2 (WtO p b h c D W vi) (Pair2 (BlO br [.string ⟨#[]⟩,.string ⟨#[]⟩] 58) X)) W1:=hW1 ▸ hk1
 have hP1:PA W1 pa pn pc ps:=hW1 ▸ hP.here (bel_alloc w _)
 have gZ:Pk.Good (Pair2 (BlO br [.string ⟨#[]⟩,.string ⟨#[]⟩] 58) X):=Pair2.good (BlO.good _ _ _) gX
 obtain ⟨⟨va,vc,rfl,_⟩,hvp⟩:=wt_row hk1
 have c0:W1.cell? ⟨p.bl,0,none⟩=some (.slice va 1 vc):=(wt_blk hk1).cell 0
 have c1:W1.cell? ⟨p.bl,1,none⟩=some (.int .i64 1):=(wt_blk hk1).cell 1
 have hSd:=Nt.signed_any s (.slice va 1 vc) [c.l] 1 w0.heap.size W1 (hE.nlAt hk1.k) hk1.k.size (hE.kisAt hk1.k) hs hvp (by show 1<=maxLen; decide)
 obtain ⟨sd,hsd⟩:∃ x,sdV s [c.l] 1=x:=⟨_,rfl⟩
 have hsm:=fun (e:sd.2=0)=>sdV_some (s:=s) (ids:=[c.l]) (need:=1) (hsd ▸ e)
 rw [hsd] at hSd
 simp only [hsd] at hsm
 have hE0:asE0 c W s ps=if sd.2 ≠ 0 then sd.2 else rfE c W sd.1 ps:=by unfold asE0; rw [hsd]
 have hNo:=Box.mk (fun e=>as_no (b:=b) (h:=h) (c:=c) (D:=D) (W:=W) (s:=s) (ps:=ps) e)
 have hCo:=Box.mk (fun e e2=>as_com (b:=b) (h:=h) (c:=c) (D:=D) (W:=W) (s:=s) (ps:=ps) e e2)
 have hYe:=Box.mk (fun e e2=>as_yes (b:=b) (h:=h) (c:=c) (D:=D) (W:=W) (s:=s) (ps:=ps) e e2)
 rw [hsd] at hCo hYe
 obtain ⟨k,E0⟩:=sd
 simp only at hSd hsm hE0 hCo hYe
 replace hE0:=Box.mk hE0
 have h16:W.u<=16:=by
  have h1:=hW.u
  have h2:2 ^ c.h<=2 ^ 4:=Nat.pow_le_pow_right (by decide) hc.h
  omega
 have hRf:=Box.mk (fun (Z:Pk.Obj) w1 (gZ:Pk.Good Z) (hg:gC k=true) (hk1:Kept w0 (Pair2 (WtO p b h c D W (.slice va 1 vc)) Z) w1) (hP:PA w1 pa pn pc ps)=>wrefused_any hE hk1 gZ hW k (by have:=(gC_iff.1 hg).2.2.1; omega) ps pa pn pc hP hF)
 have hRm:=Box.mk (fun (Z:Pk.Obj) w1 (gZ:Pk.Good Z) (hg:gC k=true) (hk1:Kept w0 (Pair2 (WtO p b h c D W (.slice va 1 vc)) Z) w1)=>wremember_any hk1 gZ hB h99 k ⟨(gC_iff.1 hg).2.1,by have:=(gC_iff.1 hg).2.2.1; omega⟩ (by have:=(gC_iff.1 hg).2.2.2; unfold maxLen; omega) h16 (puts_of hK _ _ _ (by rw [Pk.beN_length]; omega) (by have:=(gC_iff.1 hg).2.2.2; rw [Pk.data_len]; omega) (by rw [Pk.beN_length]; omega)))
 have hSg:=Box.mk (fun (Z:Pk.Obj) (D':Dev) (W':WitM) w1 (gZ:Pk.Good Z) (hg:gC k=true) (hu:W'.u<2 ^ c.h) (hk1:Kept w0 (Pair2 (WtO p b h c D' W' (.slice va 1 vc)) Z) w1)=>wsign_any hE hk1 gZ hc hu k hg)
 unfold ckA at hRf hRm hSg
 have hWu:=Box.mk hW.u
 have hgX:=Box.mk gX
 replace gZ:=Box.mk gZ
 replace hk1:=Box.mk hk1
 replace hP1:=Box.mk hP1
 clear hk hP hE hc hW hB h99 hK hs hF hsd hvp gX h16
 go_enter Tryz.func24,Tryz.ntmps24
 go_wp2_with fail
 refine hSd.mono ?_
 clear hSd c0 c1
 rintro e w3 ⟨rfl,hb3⟩
 have hk3:=hk1.out.below (Pair2.good WtO.good gZ.out) hb3
 have hk4:=wt_blkN gZ.out hk3 [.string k.o,.int .i64 k.n,.string k.r] 109
 have hP4:=Box.mk ((hP1.out.here hb3).here (bel_alloc w3 (.cells #[.string k.o,.int .i64 k.n,.string k.r] 109)))
 obtain ⟨bq,hbq⟩:∃ x,w3.heap.size=x:=⟨_,rfl⟩
 rw [hbq] at hk4
 have gQ:Box (Pk.Good (Pair2 (BlO bq [.string k.o,.int .i64 k.n,.string k.r] 109) (Pair2 (BlO br [.string ⟨#[]⟩,.string ⟨#[]⟩] 58) X))):=⟨Pair2.good (BlO.good _ _ _) gZ.out⟩
 obtain ⟨W4,hW4⟩:∃ x,w3.alloc (.cells #[.string k.o,.int .i64 k.n,.string k.r] 109)=x:=⟨_,rfl⟩
 rw [hW4] at hP4
 replace hk4:Box (Kept w0 (Pair2 (WtO p b h c D W (.slice va 1 vc)) (Pair2 (BlO bq [.string k.o,.int .i64 k.n,.string k.r] 109) (Pair2 (BlO br [.string ⟨#[]⟩,.string ⟨#[]⟩] 58) X))) W4):=⟨hW4 ▸ hk4⟩
 have hbl4:=wt_bl hk4.out
 have c0:W4.cell? ⟨bq,0,none⟩=some (.string k.o):=hbl4.cell 0
 have c1:W4.cell? ⟨bq,1,none⟩=some (.int .i64 k.n):=hbl4.cell 1
 have c2:W4.cell? ⟨bq,2,none⟩=some (.string k.r):=hbl4.cell 2
 clear hb3 hk3 hk1 hP1 hbl4
 by_cases h0:E0=0
 ·subst h0
  have hg:gC k=true:=(hsm rfl).2.2.1
  have hG:=hRf.out _ _ gQ.out hg hk4.out hP4.out
  obtain ⟨R,hR⟩:∃ x,rfE c W k ps=x:=⟨_,rfl⟩
  rw [hR] at hG
  have hzu:=fun e=>(rfE_zero (c:=c) (W:=W) (k:=k) (ps:=ps) e).2.2.2.2
  rw [hR] at hzu
  replace hR:=Box.mk hR
  clear hRf hsm
  go_wp2_with fail
  refine hG.mono ?_
  clear hG hk4 hP4 c0 c1 c2
  rintro e w5 ⟨rfl,hk5⟩
  have hbl5:=wt_bl hk5.out
  have c0:w5.cell? ⟨bq,0,none⟩=some (.string k.o):=hbl5.cell 0
  have c1:w5.cell? ⟨bq,1,none⟩=some (.int .i64 k.n):=hbl5.cell 1
  have c2:w5.cell? ⟨bq,2,none⟩=some (.string k.r):=hbl5.cell 2
  clear hbl5
  by_cases hr0:R=0
  ·subst hr0
   have hu2:W.u ≠ 2 ^ c.h:=hzu rfl
   have hG:=hRm.out _ _ gQ.out hg hk5.out
   obtain ⟨CE,hCE⟩:∃ x,cmE b h D W.C (nxC W k)=x:=⟨_,rfl⟩
   rw [hCE] at hG
   replace hCE:=Box.mk hCE
   clear hRm hzu
   go_wp2_with fail
   refine hG.mono ?_
   clear hG hk5 c0 c1 c2
   rintro e w6 ⟨rfl,hk6⟩
   have hbl6:=wt_bl hk6.out
   have c0:w6.cell? ⟨bq,0,none⟩=some (.string k.o):=hbl6.cell 0
   have c1:w6.cell? ⟨bq,1,none⟩=some (.int .i64 k.n):=hbl6.cell 1
   have c2:w6.cell? ⟨bq,2,none⟩=some (.string k.r):=hbl6.cell 2
   clear hbl6
   by_cases hc0:CE=0
   ·subst hc0
    have hG:=hSg.out _ _ _ _ gQ.out hg (by rw [rmM_u]; have:=hWu.out; omega) hk6.out
    rw [rmM_u] at hG
    obtain ⟨sg,hsg⟩:∃ x,keyS c.s c.h W.u (ckT k)=x:=⟨_,rfl⟩
    obtain ⟨id,hid⟩:∃ x,keyID c.s c.h=x:=⟨_,rfl⟩
    rw [hsg,hid] at hG
    replace hsg:=Box.mk (And.intro hsg hid)
    clear hSg hid
    go_wp2_with fail
    refine hG.mono ?_
    clear hG hk6
    rintro e w7 ⟨rfl,hk7⟩
    have hen:=Box.mk (ask_ends hgX.out hk7.out id sg)
    obtain ⟨q0,q1,f0,f1⟩:=hen.out.1
    clear c0 c1 c2
    go_wp2_with fail
    obtain ⟨_,d0,d1,hkz⟩:=hen.out
    refine bodyPost_ret (v:=.tuple #[.agg #[.string id,.string sg],.int .i64 0]) (by simp [results,Tryz.results24,go_sem,d0,d1]; try rfl) rfl ?_
    obtain ⟨e1,e2,e3,e4,e5⟩:=hYe.out (by rw [hE0.out,if_neg (by simp),hR.out]) hCE.out
    rw [e1,e2,e3,e4,e5,hsg.out.1,hsg.out.2]
    exact ⟨rfl,⟨hkz⟩⟩
   ·have hcb:(CE==0)=false:=by simpa using hc0
    clear hSg
    have hen:=Box.mk (ask_ends hgX.out hk6.out ⟨#[]⟩ ⟨#[]⟩)
    obtain ⟨q0,q1,f0,f1⟩:=hen.out.1
    clear c0 c1 c2
    go_wp2_with fail
    obtain ⟨_,d0,d1,hkz⟩:=hen.out
    refine bodyPost_ret (v:=.tuple #[.agg #[.string ⟨#[]⟩,.string ⟨#[]⟩],.int .i64 CE]) (by simp [results,Tryz.results24,go_sem,d0,d1]; try rfl) rfl ?_
    obtain ⟨e1,e2,e3,e4,e5⟩:=hCo.out (by rw [hE0.out,if_neg (by simp),hR.out]) (by rw [hCE.out]; exact hc0)
    rw [e1,e2,e3,e4,e5,hCE.out]
    exact ⟨rfl,⟨hkz⟩⟩
  ·have hrb:(R==0)=false:=by simpa using hr0
   clear hRm hSg hzu
   have hen:=Box.mk (ask_ends hgX.out hk5.out ⟨#[]⟩ ⟨#[]⟩)
   obtain ⟨q0,q1,f0,f1⟩:=hen.out.1
   clear c0 c1 c2
   go_wp2_with fail
   obtain ⟨_,d0,d1,hkz⟩:=hen.out
   refine bodyPost_ret (v:=.tuple #[.agg #[.string ⟨#[]⟩,.string ⟨#[]⟩],.int .i64 R]) (by simp [results,Tryz.results24,go_sem,d0,d1]; try rfl) rfl ?_
   have e0:asE0 c W s ps=R:=by rw [hE0.out,if_neg (by simp),hR.out]
   obtain ⟨e1,e2,e3,e4,e5⟩:=hNo.out (by rw [e0]; exact hr0)
   rw [e1,e2,e3,e4,e5,e0]
   exact ⟨rfl,⟨hkz⟩⟩
 ·have h0b:(E0==0)=false:=by simpa using h0
  clear hRf hRm hSg hsm
  have hen:=Box.mk (ask_ends hgX.out hk4.out ⟨#[]⟩ ⟨#[]⟩)
  obtain ⟨q0,q1,f0,f1⟩:=hen.out.1
  clear c0 c1 c2
  go_wp2_with fail
  obtain ⟨_,d0,d1,hkz⟩:=hen.out
  refine bodyPost_ret (v:=.tuple #[.agg #[.string ⟨#[]⟩,.string ⟨#[]⟩],.int .i64 E0]) (by simp [results,Tryz.results24,go_sem,d0,d1]; try rfl) rfl ?_
  have e0:asE0 c W s ps=E0:=by rw [hE0.out,if_pos h0]
  obtain ⟨e1,e2,e3,e4,e5⟩:=hNo.out (by rw [e0]; exact h0)
  rw [e1,e2,e3,e4,e5,e0]
  exact ⟨rfl,⟨hkz⟩⟩
end
end Go.Proofs.YthpfpkikmaiddaaGreatDoor.Wt
