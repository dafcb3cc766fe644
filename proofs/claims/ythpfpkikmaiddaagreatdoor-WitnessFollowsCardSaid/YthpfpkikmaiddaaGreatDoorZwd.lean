/- - -/
import Derived.Test.YthpfpkikmaiddaaGreatDoorZwc
import Derived.Test.YthpfpkikmaiddaaGreatDoorZsd
set_option linter.all false
set_option maxHeartbeats 6400000
set_option maxRecDepth 100000
namespace Go.Proofs.YthpfpkikmaiddaaGreatDoor.Wt
open Go Go.RowKit Go.Proofs.YthpfpkikmaiddaaGreatDoor.Pk Go.Proofs.YthpfpkikmaiddaaGreatDoor.Nt Go.Proofs.YthpfpkikmaiddaaGreatDoor.Tg
theorem kept_st {w0:World} {O:Pk.Obj} (g:Pk.Good O):St (Kept w0 O) (fun w w'=>Below w.heap.size w w') (Kept w0 O):=⟨fun _ h=>h,fun _ _ h hb=>h.below g hb⟩
theorem kept_st2 {w0:World} {O O2:Pk.Obj} (g:Pk.Good O) (g2:Pk.Good O2):St (Kept w0 O) (fun w w'=>Below w.heap.size w w') (Kept w0 (Pair2 O2 O)):=⟨fun _ h=>kept_cv h (cvDropL g),fun _ _ h hb=>h.below (Pair2.good g2 g) hb⟩
section
variable {w0 w:World} {bd bc b h k:Nat} {D:Dev} {C:CellM} {X:Pk.Obj}
def nmI (i:Nat):ByteArray:=if i=0 then ⟨#[115,105,122,101]⟩ else if i=1 then ⟨#[114,111,111,116]⟩ else ⟨#[117,115,101,100]⟩
def txI (s1 s2 s3:ByteArray) (i:Nat):ByteArray:=if i=0 then s1 else if i=1 then s2 else s3
def ctI (c:Ct) (a b d:Bs) (i:Nat):Ct:=if i=0 then c else if i=1 then p1 c a else if i=2 then p2 c a b else p3 c a b d
def rowP (s1 s2 s3:ByteArray):List Value:=[.string ⟨#[115,105,122,101]⟩,.string s1,.string ⟨#[114,111,111,116]⟩,.string s2,.string ⟨#[117,115,101,100]⟩,.string s3]
theorem wcommit_any (gX:Pk.Good X) (hk:Kept w0 (Pair2 (Pair2 (DevO bd D) (CelO bd bc b h C)) X) w) (hB:Bd k D C) (h99:k<=99) (n u:Nat) (r:ByteArray) (hn:n<4294967296) (hu:u<4294967296) (hr:r.size<=maxLen) (hp:Puts C.now (Pk.beN n 4) r.data.toList (Pk.beN u 4)) :
  Calls Tryz.prog 108 #[rcV (n:Int) r (u:Int),.pointer (some ⟨bc,0,none⟩)] w fun e w'=>e=.returned (.int .i64 (cmE b h D C (p3 C.now (Pk.beN n 4) r.data.toList (Pk.beN u 4)))) /\
   Box (Kept w0 (Pair2 (Pair2 (DevO bd (cmD b h D C (p3 C.now (Pk.beN n 4) r.data.toList (Pk.beN u 4)))) (CelO bd bc b h (cmX b h D C (p3 C.now (Pk.beN n 4) r.data.toList (Pk.beN u 4))))) X) w'):=by
 have gDC:∀ C',Pk.Good (Pair2 (Pair2 (DevO bd D) (CelO bd bc b h C')) X):=fun C'=>Pair2.good (Pair2.good (DevO.good _ _) (CelO.good _ _ _ _ _)) gX
 have hk0:=kept_new hk (gDC C) (BlO.good w.heap.size [.int .i64 (n:Int),.string r,.int .i64 (u:Int)] 100) (bel_alloc w (.cells #[.int .i64 (n:Int),.string r,.int .i64 (u:Int)] 100))
  ⟨Pk.Blk.new w [.int .i64 (n:Int),.string r,.int .i64 (u:Int)] _,⟨Nat.le_refl _,(Pk.Blk.new w [.int .i64 (n:Int),.string r,.int .i64 (u:Int)] 100).lt⟩,fun _ hk=>hk.2⟩
 obtain ⟨br,hbr⟩:∃ x,w.heap.size=x:=⟨_,rfl⟩
 rw [hbr] at hk0
 obtain ⟨W1,hW1⟩:∃ x,w.alloc (.cells #[.int .i64 (n:Int),.string r,.int .i64 (u:Int)] 100)=x:=⟨_,rfl⟩
 rw [hW1] at hk0
 have gB:Pk.Good (Pair2 (BlO br [.int .i64 (n:Int),.string r,.int .i64 (u:Int)] 100) (Pair2 (Pair2 (DevO bd D) (CelO bd bc b h C)) X)):=Pair2.good (BlO.good _ _ _) (gDC C)
 have hcl:Box (∀ w1,Kept w0 (Pair2 (BlO br [.int .i64 (n:Int),.string r,.int .i64 (u:Int)] 100) (Pair2 (Pair2 (DevO bd D) (CelO bd bc b h C)) X)) w1->w1.cell? ⟨br,0,none⟩=some (.int .i64 (n:Int))/\w1.cell? ⟨br,1,none⟩=some (.string r)/\w1.cell? ⟨br,2,none⟩=some (.int .i64 (u:Int))):=⟨fun w1 hk1=>by
  obtain ⟨F,h1,_⟩:=kept_look hk1
  exact ⟨h1.1.cell 0,h1.1.cell 1,h1.1.cell 2⟩⟩
 have h4:=Box.mk (fun w1=>wfour_any n w1 hn)
 have h5:=Box.mk (fun w1=>wfour_any u w1 hu)
 obtain ⟨s1,hs1⟩:∃ x,btx (Pk.beN n 4)=x:=⟨_,rfl⟩
 obtain ⟨s3,hs3⟩:∃ x,btx (Pk.beN u 4)=x:=⟨_,rfl⟩
 rw [hs1] at h4
 rw [hs3] at h5
 have hStep:Box (∀ i,i<3->∀ bs w1,Kept w0 (Pair2 (BlO bs (rowP s1 r s3) 238) (Pair2 (Pair2 (DevO bd D) (CelO bd bc b h { C with now:=ctI C.now (Pk.beN n 4) r.data.toList (Pk.beN u 4) i })) X)) w1 ->
   Calls Tryz.prog 88 #[.pointer (some ⟨bc,0,none⟩),.string (nmI i),.string (txI s1 r s3 i)] w1 fun e w'=>e=.returned (.int .i64 0)/\Box (Kept w0 (Pair2 (BlO bs (rowP s1 r s3) 238) (Pair2 (Pair2 (DevO bd D) (CelO bd bc b h { C with now:=ctI C.now (Pk.beN n 4) r.data.toList (Pk.beN u 4) (i+1) })) X)) w')):=⟨fun i hi bs w1 hk1=>by
  have hl1:s1.size<=maxLen:=by rw [<- hs1,mk_size,Pk.beN_length]; decide
  have hl3:s3.size<=maxLen:=by rw [<- hs3,mk_size,Pk.beN_length]; decide
  have e1:s1.data.toList=Pk.beN n 4:=by rw [<- hs1,mk_list]
  have e3:s3.data.toList=Pk.beN u 4:=by rw [<- hs3,mk_list]
  have hS:=fun (c:Ct) (nm tx:ByteArray) (h1:nm.size<=maxLen) (h2:tx.size<=maxLen) (hkc:Kept w0 (Pair2 (BlO bs (rowP s1 r s3) 238) (Pair2 (Pair2 (DevO bd D) (CelO bd bc b h { C with now:=c })) X)) w1)=>
   kept_step hkc ((((put_does bd bc b h { C with now:=c } nm tx h1 h2).in_.ret' (DevO.good bd D)).ret gX).ret' (BlO.good bs (rowP s1 r s3) 238))
  obtain rfl | rfl | rfl:i=0∨i=1∨i=2:=by omega
  ·have:=hS C.now (nmI 0) (txI s1 r s3 0) (by decide) hl1 hk1
   rw [show putE C.now (nmI 0).data.toList (txI s1 r s3 0).data.toList=0 by rw [<- hp.e1,<- e1]; rfl,show putM C.now (nmI 0).data.toList (txI s1 r s3 0).data.toList=p1 C.now (Pk.beN n 4) by rw [<- e1]; rfl] at this
   exact this
  ·have:=hS (p1 C.now (Pk.beN n 4)) (nmI 1) (txI s1 r s3 1) (by decide) hr hk1
   rw [show putE (p1 C.now (Pk.beN n 4)) (nmI 1).data.toList (txI s1 r s3 1).data.toList=0 from hp.e2] at this
   exact this
  ·have:=hS (p2 C.now (Pk.beN n 4) r.data.toList) (nmI 2) (txI s1 r s3 2) (by decide) hl3 hk1
   rw [show putE (p2 C.now (Pk.beN n 4) r.data.toList) (nmI 2).data.toList (txI s1 r s3 2).data.toList=0 by rw [<- hp.e3,<- e3]; rfl,show putM (p2 C.now (Pk.beN n 4) r.data.toList) (nmI 2).data.toList (txI s1 r s3 2).data.toList=p3 C.now (Pk.beN n 4) r.data.toList (Pk.beN u 4) by rw [<- e3]; rfl] at this
   exact this⟩
 have hCom:Box (∀ bs w1,Kept w0 (Pair2 (BlO bs (rowP s1 r s3) 238) (Pair2 (Pair2 (DevO bd D) (CelO bd bc b h { C with now:=ctI C.now (Pk.beN n 4) r.data.toList (Pk.beN u 4) 3 })) X)) w1 ->
   Calls Tryz.prog 89 #[.pointer (some ⟨bc,0,none⟩)] w1 fun e w'=>e=.returned (.int .i64 (cmE b h D C (p3 C.now (Pk.beN n 4) r.data.toList (Pk.beN u 4))))/\Box (Kept w0 (Pair2 (Pair2 (DevO bd (cmD b h D C (p3 C.now (Pk.beN n 4) r.data.toList (Pk.beN u 4)))) (CelO bd bc b h (cmX b h D C (p3 C.now (Pk.beN n 4) r.data.toList (Pk.beN u 4))))) X) w')):=⟨fun bs w1 hk1=>by
  have:=kept_step hk1 (((commit_does bd bc b h D { C with now:=p3 C.now (Pk.beN n 4) r.data.toList (Pk.beN u 4) } (by have:=hB.t; omega) hB.f (by have:=hB.w; omega) (by have:=hB.n; show C.num<_; omega)).in_.ret gX).ret' (BlO.good bs (rowP s1 r s3) 238))
  exact this.mono fun e w' ⟨he,hk2⟩=>⟨he,⟨kept_cv hk2.out (cvDropL (Pair2.good (Pair2.good (DevO.good _ _) (CelO.good _ _ _ _ _)) gX))⟩⟩⟩
 obtain ⟨E9,hE9⟩:∃ x,cmE b h D C (p3 C.now (Pk.beN n 4) r.data.toList (Pk.beN u 4))=x:=⟨_,rfl⟩
 rw [hE9] at hCom ⊢
 have hrB:=Box.mk (And.intro hs1 hs3)
 clear hE9 hB h99 hn hu hr hp hs1 hs3
 unfold rcV
 go_enter Tryz.func108,Tryz.ntmps108
 go_wp2_with fail
 refine region_steady (fun w'=>Kept w0 (Pair2 (BlO br [.int .i64 (n:Int),.string r,.int .i64 (u:Int)] 100) (Pair2 (Pair2 (DevO bd D) (CelO bd bc b h C)) X)) w') (fun w w'=>Below w.heap.size w w') rfl (hk0.below gB (dB W1)) ?_
 refine anyS_calms [0,1,4,5,6,7,8,13] 6 rfl (fun _=>Below.refl _ _) (kept_st gB) (by kernel_rfl) (by kernel_rfl) (by kernel_rfl) ?_
 simp [nth]
 try simp only [Act.put,zT9,zS9,zZ9]
 repeat (go_big_quiet_step (first | exact fun _=>rfl | rfl))
 refine quiet_val rfl (.int .i64 (n:Int)) (fun w' hw'=>by have h3:=(hcl.out w' hw').1; go_simp) ?_
 simp only [Act.put,zT9,zS9,zZ9]
 repeat (go_big_quiet_step (first | exact fun _=>rfl | rfl))
 refine quiet_val rfl (.string r) (fun w' hw'=>by have h3:=(hcl.out w' hw').2.1; go_simp) ?_
 simp only [Act.put,zT9,zS9,zZ9]
 repeat (go_big_quiet_step (first | exact fun _=>rfl | rfl))
 refine quiet_val rfl (.int .i64 (u:Int)) (fun w' hw'=>by have h3:=(hcl.out w' hw').2.2; go_simp) ?_
 simp only [Act.put,zT9,zS9,zZ9]
 repeat (go_big_quiet_step (first | exact fun _=>rfl | rfl))
 refine wpQuiet_nil ?_
 refine anyS_call 2 (.string s1) (fun _=>Below.refl _ _) (kept_st gB) (by kernel_rfl) rfl (by kernel_rfl) (by kernel_rfl) rfl (fun w' _=>h4.out w') (fun w' _=>by go_simp) ?_
 refine anyS_calms [3] 4 rfl (fun _=>Below.refl _ _) (kept_st gB) (by kernel_rfl) (by kernel_rfl) (by kernel_rfl) ?_
 simp [nth]
 try simp only [Act.put,zT9,zS9,zZ9]
 repeat (go_big_quiet_step (first | exact fun _=>rfl | rfl))
 refine wpQuiet_nil ?_
 refine anyS_call 9 (.string s3) (fun _=>Below.refl _ _) (kept_st gB) (by kernel_rfl) rfl (by kernel_rfl) (by kernel_rfl) rfl (fun w' _=>h5.out w') (fun w' _=>by go_simp) ?_
 refine anyS_calms [10] 2 rfl (fun _=>Below.refl _ _) (kept_st gB) (by kernel_rfl) (by kernel_rfl) (by kernel_rfl) ?_
 simp [nth]
 try simp only [Act.put,zT9,zS9,zZ9]
 repeat (go_big_quiet_step (first | exact fun _=>rfl | rfl))
 refine wpQuiet_nil ?_
 refine anyS_forced 11 (by kernel_rfl) rfl rfl (fun wa hWa K hK=>?_)
 go_simp
 have hkb:=kept_new hWa gB (BlO.good wa.heap.size (rowP s1 r s3) 238) (bel_alloc wa (.cells (rowP s1 r s3).toArray 238))
  ⟨Pk.Blk.new wa (rowP s1 r s3) _,⟨Nat.le_refl _,(Pk.Blk.new wa (rowP s1 r s3) 238).lt⟩,fun _ hk=>hk.2⟩
 refine hK _ _ (Kept w0 (Pair2 (BlO wa.heap.size (rowP s1 r s3) 238) (Pair2 (BlO br [.int .i64 (n:Int),.string r,.int .i64 (u:Int)] 100) (Pair2 (Pair2 (DevO bd D) (CelO bd bc b h C)) X)))) (kept_st2 gB (BlO.good _ _ _)) hkb ?_
 clear hK K hkb hWa
 generalize wa.heap.size=bs
 clear wa
 refine anyS_calms [12] 0 rfl (fun _=>Below.refl _ _) (kept_st2 gB (BlO.good _ _ _)) (by kernel_rfl) (by kernel_rfl) (by kernel_rfl) ?_
 simp [nth]
 refine quiet_val rfl (.int .i64 3) (fun w' hw'=>by go_simp; try rfl) ?_
 simp only [Act.put,zT9,zS9,zZ9]
 refine wpQuiet_nil ?_
 refine anyS_done (by kernel_rfl) (fun wr0 hk2=>?_)
 have hk3:Box (Kept w0 (Pair2 (BlO bs (rowP s1 r s3) 238) (Pair2 (Pair2 (DevO bd D) (CelO bd bc b h { C with now:=ctI C.now (Pk.beN n 4) r.data.toList (Pk.beN u 4) 0 })) X)) wr0):=⟨kept_cv hk2 (cvRight (cvDropL (gDC C)))⟩
 clear hk2 gB hcl h4 h5 hk0 hW1
 go_wp2_with fail
 go_loopw [21] (fun s21 wr=>∃ i:Nat,i<=3/\s21=.int .i64 (i:Int)/\Box (Kept w0 (Pair2 (BlO bs (rowP s1 r s3) 238) (Pair2 (Pair2 (DevO bd D) (CelO bd bc b h { C with now:=ctI C.now (Pk.beN n 4) r.data.toList (Pk.beN u 4) i })) X)) wr)) (fun s21 _=>3-(intOf s21).toNat)
 case atStart=>exact ⟨0,by omega,rfl,hk3⟩
 case round=>
  clear hk3
  obtain ⟨i,hi,rfl,hK⟩:=hrel
  have gR:∀ C',Pk.Good (Pair2 (BlO bs (rowP s1 r s3) 238) (Pair2 (Pair2 (DevO bd D) (CelO bd bc b h C')) X)):=fun C'=>Pair2.good (BlO.good _ _ _) (gDC C')
  obtain ⟨F,hrow,_⟩:=kept_look hK.out
  by_cases hlt:i<3
  ·obtain rfl | rfl | rfl:i=0∨i=1∨i=2:=by omega
   ·have c0:wr.cell? ⟨bs,0,none⟩=some (.string ⟨#[115,105,122,101]⟩):=hrow.1.cell 0
    have c1:wr.cell? ⟨bs,1,none⟩=some (.string s1):=hrow.1.cell 1
    have hP:Calls Tryz.prog 88 #[.pointer (some ⟨bc,0,none⟩),.string ⟨#[115,105,122,101]⟩,.string s1] (wr.alloc (.cells #[.string ⟨#[115,105,122,101]⟩,.string s1] 238)) fun e w'=>_:=hStep.out 0 (by omega) bs _ (hK.out.below (gR _) (bel_alloc wr (.cells #[.string ⟨#[115,105,122,101]⟩,.string s1] 238)))
    have hbs:bs<wr.heap.size:=hrow.1.lt
    clear hrow gR hK
    go_wp2_with fail
    refine hP.mono ?_
    clear hP
    rintro e w5 ⟨rfl,hk5⟩
    go_wp2_with fail
    exact ⟨⟨1,by omega,by first | rfl | go_num,hk5⟩,by simp [intOf]⟩
   ·have c0:wr.cell? ⟨bs,2,none⟩=some (.string ⟨#[114,111,111,116]⟩):=hrow.1.cell 2
    have c1:wr.cell? ⟨bs,3,none⟩=some (.string r):=hrow.1.cell 3
    have hP:Calls Tryz.prog 88 #[.pointer (some ⟨bc,0,none⟩),.string ⟨#[114,111,111,116]⟩,.string r] (wr.alloc (.cells #[.string ⟨#[114,111,111,116]⟩,.string r] 238)) fun e w'=>_:=hStep.out 1 (by omega) bs _ (hK.out.below (gR _) (bel_alloc wr (.cells #[.string ⟨#[114,111,111,116]⟩,.string r] 238)))
    have hbs:bs<wr.heap.size:=hrow.1.lt
    clear hrow gR hK
    go_wp2_with fail
    refine hP.mono ?_
    clear hP
    rintro e w5 ⟨rfl,hk5⟩
    go_wp2_with fail
    exact ⟨⟨2,by omega,by first | rfl | go_num,hk5⟩,by simp [intOf]⟩
   ·have c0:wr.cell? ⟨bs,4,none⟩=some (.string ⟨#[117,115,101,100]⟩):=hrow.1.cell 4
    have c1:wr.cell? ⟨bs,5,none⟩=some (.string s3):=hrow.1.cell 5
    have hP:Calls Tryz.prog 88 #[.pointer (some ⟨bc,0,none⟩),.string ⟨#[117,115,101,100]⟩,.string s3] (wr.alloc (.cells #[.string ⟨#[117,115,101,100]⟩,.string s3] 238)) fun e w'=>_:=hStep.out 2 (by omega) bs _ (hK.out.below (gR _) (bel_alloc wr (.cells #[.string ⟨#[117,115,101,100]⟩,.string s3] 238)))
    have hbs:bs<wr.heap.size:=hrow.1.lt
    clear hrow gR hK
    go_wp2_with fail
    refine hP.mono ?_
    clear hP
    rintro e w5 ⟨rfl,hk5⟩
    go_wp2_with fail
    exact ⟨⟨3,by omega,by first | rfl | go_num,hk5⟩,by simp [intOf]⟩
  ·obtain rfl:i=3:=by omega
   have hP:=hCom.out bs _ hK.out
   clear hrow gR hK hlt
   go_wp2_with fail
   refine hP.mono ?_
   clear hP
   rintro e w5 ⟨rfl,hk5⟩
   go_wp2_with fail
   go_ret
   exact ⟨rfl,hk5⟩
end
section
variable {w0 w:World} {p:Pl} {b h k:Nat} {c:WCfg} {D:Dev} {W:WitM} {vi:Value} {X:Pk.Obj}
theorem wid_any (hE:Env w0) (hk:Kept w0 (Pair2 (WtO p b h c D W vi) X) w) (gX:Pk.Good X) (hc:c.ok):Calls Tryz.prog 30 #[.pointer (some ⟨p.bl,0,none⟩)] w fun e w'=>e=.returned (.string (keyID c.s c.h))/\Box (Kept w0 (Pair2 (WtO p b h c D W vi) X) w'):=by
 have hI:=kept_step hk (wlift_key gX (kid_does hE hc.s))
 have c3:w.cell? ⟨p.bl,3,none⟩=some (.pointer (some ⟨p.bk,0,none⟩)):=(wt_blk hk).cell 3
 obtain ⟨bl,hbl⟩:∃ x,p.bl=x:=⟨_,rfl⟩
 obtain ⟨bk,hbk⟩:∃ x,p.bk=x:=⟨_,rfl⟩
 rw [hbl,hbk] at c3
 rw [hbk] at hI
 rw [hbl]
 obtain ⟨id,hid⟩:∃ x,keyID c.s c.h=x:=⟨_,rfl⟩
 rw [hid] at hI ⊢
 clear hbl hbk hE hc gX hk hid
 go_enter Tryz.func30,Tryz.ntmps30
 go_wp2_with fail
 refine hI.mono ?_
 clear hI c3
 rintro e w1 ⟨rfl,hk1⟩
 go_wp2_with fail
 go_ret
 exact ⟨rfl,hk1⟩
theorem wleft_any (hk:Kept w0 (Pair2 (WtO p b h c D W vi) X) w) (gX:Pk.Good X) (hW:W.ok c):Calls Tryz.prog 31 #[.pointer (some ⟨p.bl,0,none⟩)] w fun e w'=>e=.returned (.int .i64 ((2 ^ c.h-W.u:Nat):Int))/\Box (Kept w0 (Pair2 (WtO p b h c D W vi) X) w'):=by
 have hI:=kept_step hk (wlift_key gX (kleft_does hW.u))
 have c3:w.cell? ⟨p.bl,3,none⟩=some (.pointer (some ⟨p.bk,0,none⟩)):=(wt_blk hk).cell 3
 obtain ⟨bl,hbl⟩:∃ x,p.bl=x:=⟨_,rfl⟩
 obtain ⟨bk,hbk⟩:∃ x,p.bk=x:=⟨_,rfl⟩
 rw [hbl,hbk] at c3
 rw [hbk] at hI
 rw [hbl]
 obtain ⟨z,hz⟩:∃ x,((2 ^ c.h-W.u:Nat):Int)=x:=⟨_,rfl⟩
 rw [hz] at hI ⊢
 clear hbl hbk gX hk hz hW
 go_enter Tryz.func31,Tryz.ntmps31
 go_wp2_with fail
 refine hI.mono ?_
 clear hI c3
 rintro e w1 ⟨rfl,hk1⟩
 go_wp2_with fail
 go_ret
 exact ⟨rfl,hk1⟩
theorem wlast_any (hk:Kept w0 (Pair2 (WtO p b h c D W vi) X) w) (gX:Pk.Good X):Calls Tryz.prog 27 #[.pointer (some ⟨p.bl,0,none⟩)] w fun e w'=>e=.returned (.tuple #[.int .i64 W.n,.string W.r])/\Box (Kept w0 (Pair2 (WtO p b h c D W vi) X) w'):=by
 have hcl:Box (∀ w1,Kept w0 (Pair2 (WtO p b h c D W vi) X) w1->w1.cell? ⟨p.bl,5,none⟩=some (.int .i64 W.n)/\w1.cell? ⟨p.bl,6,none⟩=some (.string W.r)):=⟨fun w1 hk1=>⟨(wt_blk hk1).cell 5,(wt_blk hk1).cell 6⟩⟩
 have hd:Kept w0 (Pair2 (WtO p b h c D W vi) X) w.drew:=wt_here hk gX (dB w)
 clear hk
 go_enter Tryz.func27,Tryz.ntmps27
 go_wp2_with fail
 refine region_quiet (fun w'=>Kept w0 (Pair2 (WtO p b h c D W vi) X) w') (by kernel_rfl) (by kernel_rfl) hd ?_
 repeat (go_big_quiet_step (first | exact fun _=>rfl | rfl))
 refine quiet_val rfl (.int .i64 W.n) (fun w' hw'=>by have h3:=(hcl.out w' hw').1; go_simp) ?_
 simp only [Act.put,zT9,zS9,zZ9]
 repeat (go_big_quiet_step (first | exact fun _=>rfl | rfl))
 refine quiet_val rfl (.string W.r) (fun w' hw'=>by have h3:=(hcl.out w' hw').2; go_simp) ?_
 simp only [Act.put,zT9,zS9,zZ9]
 repeat (go_big_quiet_step (first | exact fun _=>rfl | rfl))
 refine wpQuiet_nil ?_
 intro w1 hk1
 clear hd hcl
 replace hk1:=Box.mk hk1
 go_wp2_with fail
 go_returns
 exact ⟨rfl,hk1⟩
def ckA (k:Ck):Value:=.agg #[.string k.o,.int .i64 k.n,.string k.r]
theorem ck_new {k:Ck} {Y:Pk.Obj} (gY:Pk.Good Y) (hk:Kept w0 Y w):Kept w0 (Pair2 (BlO w.heap.size [.string k.o,.int .i64 k.n,.string k.r] 109) Y) (w.alloc (.cells #[.string k.o,.int .i64 k.n,.string k.r] 109)):=
 kept_new hk gY (BlO.good w.heap.size [.string k.o,.int .i64 k.n,.string k.r] 109) (bel_alloc w (.cells #[.string k.o,.int .i64 k.n,.string k.r] 109))
  ⟨Pk.Blk.new w [.string k.o,.int .i64 k.n,.string k.r] _,⟨Nat.le_refl _,(Pk.Blk.new w [.string k.o,.int .i64 k.n,.string k.r] 109).lt⟩,fun _ hk=>hk.2⟩
theorem sz0 (x y:Nat) (h:y<=x):((((x-y:Nat):Int))==0)=decide (y=x):=by rw [Bool.eq_iff_iff]; simp; omega
structure RfK (w0:World) (O:Pk.Obj) (pa:Option Addr) (pn pc:Nat) (ps:List ByteArray) (w:World):Prop where
 k:Kept w0 O w
 p:PA w pa pn pc ps
theorem RfK.st {O:Pk.Obj} {pa:Option Addr} {pn pc:Nat} {ps:List ByteArray} (g:Pk.Good O) {w w':World} (h:RfK w0 O pa pn pc ps w) (hb:Below w.heap.size w w'):RfK w0 O pa pn pc ps w':=⟨h.k.below g hb,h.p.here hb⟩
theorem wrefused_any (hE:Env w0) (hk:Kept w0 (Pair2 (WtO p b h c D W vi) X) w) (gX:Pk.Good X) (hW:W.ok c) (k:Ck) (hkn:k.n<=9223372036854775807) (ps:List ByteArray) (pa:Option Addr) (pn pc:Nat) (hP:PA w pa pn pc ps) (hF:Fit ps) :
  Calls Tryz.prog 59 #[.pointer (some ⟨p.bl,0,none⟩),ckA k,.slice pa pn pc] w fun e w'=>e=.returned (.int .i64 (rfE c W k ps))/\Box (Kept w0 (Pair2 (WtO p b h c D W vi) X) w'):=by
 have gY:Pk.Good (Pair2 (WtO p b h c D W vi) X):=Pair2.good WtO.good gX
 have hk0:=ck_new (k:=k) gY hk
 obtain ⟨bk,hbk⟩:∃ x,w.heap.size=x:=⟨_,rfl⟩
 rw [hbk] at hk0
 obtain ⟨W1,hW1⟩:∃ x,w.alloc (.cells #[.string k.o,.int .i64 k.n,.string k.r] 109)=x:=⟨_,rfl⟩
 rw [hW1] at hk0
 have hP1:PA W1 pa pn pc ps:=hW1 ▸ hP.here (bel_alloc w _)
 obtain ⟨O,hO⟩:∃ O,Pair2 (BlO bk [.string k.o,.int .i64 k.n,.string k.r] 109) (Pair2 (WtO p b h c D W vi) X)=O:=⟨_,rfl⟩
 have gO:Pk.Good O:=hO ▸ Pair2.good (BlO.good _ _ _) gY
 have hcl:Box (∀ w1,RfK w0 O pa pn pc ps w1->w1.cell? ⟨bk,0,none⟩=some (.string k.o)/\w1.cell? ⟨bk,1,none⟩=some (.int .i64 k.n)/\w1.cell? ⟨bk,2,none⟩=some (.string k.r)/\w1.cell? ⟨p.bl,2,none⟩=some (.string c.o)/\w1.cell? ⟨p.bl,5,none⟩=some (.int .i64 W.n)/\w1.cell? ⟨p.bl,6,none⟩=some (.string W.r)):=⟨fun w1 hk1=>by
  have h1:=hk1.k
  rw [<- hO] at h1
  obtain ⟨F,h2,_⟩:=kept_look h1
  have h3:=wt_blk (kept_cv h1 (cvDropL gY))
  exact ⟨h2.1.cell 0,h2.1.cell 1,h2.1.cell 2,h3.cell 2,h3.cell 5,h3.cell 6⟩⟩
 have hR0:RfK w0 O pa pn pc ps W1:=⟨hO ▸ hk0,hP1⟩
 have hLe:Box (∀ w1,RfK w0 O pa pn pc ps w1->Calls Tryz.prog 31 #[.pointer (some ⟨p.bl,0,none⟩)] w1 fun e w'=>e=.returned (.int .i64 ((2 ^ c.h-W.u:Nat):Int))/\Box (Kept w0 (Pair2 (WtO p b h c D W vi) X) w')):=⟨fun w1 hk1=>by
  have h1:=hk1.k
  rw [<- hO] at h1
  exact wleft_any (kept_cv h1 (cvDropL gY)) gX hW⟩
 have hCo:Box (∀ w1,RfK w0 O pa pn pc ps w1->Calls Tryz.prog 107 #[.int .i64 W.n,.int .i64 k.n,.slice pa pn pc,.string W.r,.string k.r] w1 fun e w'=>e=.returned (.int .i64 (cosE W.n k.n ps W.r k.r))/\Below w1.heap.size w1 w'):=⟨fun w1 hk1=>
  consistent_any W.n k.n W.r k.r ps pn pa pc w1 hk1.p (hE.kisAt hk1.k.k) hF (by have:=hW.r; omega) hkn⟩
 have hkf:Box (∀ w1,RfK w0 O pa pn pc ps w1->Kept w0 (Pair2 (WtO p b h c D W vi) X) w1):=⟨fun w1 hk1=>by
  have h1:=hk1.k
  rw [<- hO] at h1
  exact kept_cv h1 (cvDropL gY)⟩
 replace gO:=Box.mk gO
 have hu:=hW.u
 unfold rfE
 obtain ⟨ko,kn,kr⟩:=k
 obtain ⟨bl,hbl⟩:∃ x,p.bl=x:=⟨_,rfl⟩
 rw [hbl] at hcl hLe ⊢
 obtain ⟨CE,hCE⟩:∃ x,cosE W.n kn ps W.r kr=x:=⟨_,rfl⟩
 simp only [hCE] at hCo ⊢
 clear hk hk0 hP1 hP hF hE gX hW hkn hO gY hbl hCE
 unfold ckA
 go_enter Tryz.func59,Tryz.ntmps59
 go_wp2_with fail
 refine region_quiet (RfK w0 O pa pn pc ps) (by kernel_rfl) (by kernel_rfl) (hR0.st gO.out (dB W1)) ?_
 repeat (go_big_quiet_step (first | exact fun _=>rfl | rfl))
 refine quiet_val rfl (.string ko) (fun w' hw'=>by have h3:=(hcl.out w' hw').1; go_simp) ?_
 simp only [Act.put,zT9,zS9,zZ9]
 repeat (go_big_quiet_step (first | exact fun _=>rfl | rfl))
 refine quiet_val rfl (.string c.o) (fun w' hw'=>by have h3:=(hcl.out w' hw').2.2.2.1; go_simp) ?_
 simp only [Act.put,zT9,zS9,zZ9]
 repeat (go_big_quiet_step (first | exact fun _=>rfl | rfl))
 refine wpQuiet_nil ?_
 intro w1 hR1
 clear hR0
 by_cases ho:ko=c.o
 ·simp only [eq_toList,decide_eq_true ho,Bool.not_true]
  go_wp2_with fail
  refine region_quiet (RfK w0 O pa pn pc ps) (by kernel_rfl) (by kernel_rfl) (hR1.st gO.out (dB w1)) ?_
  repeat (go_big_quiet_step (first | exact fun _=>rfl | rfl))
  refine quiet_val rfl (.int .i64 kn) (fun w' hw'=>by have h3:=(hcl.out w' hw').2.1; go_simp) ?_
  simp only [Act.put,zT9,zS9,zZ9]
  repeat (go_big_quiet_step (first | exact fun _=>rfl | rfl))
  refine quiet_val rfl (.int .i64 W.n) (fun w' hw'=>by have h3:=(hcl.out w' hw').2.2.2.2.1; go_simp) ?_
  simp only [Act.put,zT9,zS9,zZ9]
  repeat (go_big_quiet_step (first | exact fun _=>rfl | rfl))
  refine wpQuiet_nil ?_
  intro w2 hR2
  clear hR1
  by_cases h1:kn<W.n
  ·go_wp2_with fail
   go_ret
   exact ⟨by simp [ho,h1],⟨hkf.out _ hR2⟩⟩
  ·go_wp2_with fail
   by_cases h2:kn=W.n
   ·have h2b:(kn==W.n)=true:=by simpa using h2
    refine region_quiet (RfK w0 O pa pn pc ps) (by kernel_rfl) (by kernel_rfl) (hR2.st gO.out (dB w2)) ?_
    repeat (go_big_quiet_step (first | exact fun _=>rfl | rfl))
    refine quiet_val rfl (.int .i64 kn) (fun w' hw'=>by have h3:=(hcl.out w' hw').2.1; go_simp) ?_
    simp only [Act.put,zT9,zS9,zZ9]
    repeat (go_big_quiet_step (first | exact fun _=>rfl | rfl))
    refine quiet_val rfl (.int .i64 W.n) (fun w' hw'=>by have h3:=(hcl.out w' hw').2.2.2.2.1; go_simp) ?_
    simp only [Act.put,zT9,zS9,zZ9]
    repeat (go_big_quiet_step (first | exact fun _=>rfl | rfl))
    refine quiet_val rfl (.string kr) (fun w' hw'=>by have h3:=(hcl.out w' hw').2.2.1; go_simp) ?_
    simp only [Act.put,zT9,zS9,zZ9]
    repeat (go_big_quiet_step (first | exact fun _=>rfl | rfl))
    refine quiet_val rfl (.string W.r) (fun w' hw'=>by have h3:=(hcl.out w' hw').2.2.2.2.2; go_simp) ?_
    simp only [Act.put,zT9,zS9,zZ9]
    repeat (go_big_quiet_step (first | exact fun _=>rfl | rfl))
    refine wpQuiet_nil ?_
    intro w3 hR3
    clear hR2
    by_cases h3:kr=W.r
    ·simp only [eq_toList,decide_eq_true h3,Bool.not_true]
     have h4:¬ W.n<kn:=by omega
     go_wp2_with fail
     refine region_quiet (RfK w0 O pa pn pc ps) (by kernel_rfl) (by kernel_rfl) (hR3.st gO.out (dB w3)) ?_
     repeat (go_big_quiet_step (first | exact fun _=>rfl | rfl))
     refine quiet_val rfl (.int .i64 kn) (fun w' hw'=>by have h3:=(hcl.out w' hw').2.1; go_simp) ?_
     simp only [Act.put,zT9,zS9,zZ9]
     repeat (go_big_quiet_step (first | exact fun _=>rfl | rfl))
     refine quiet_val rfl (.int .i64 W.n) (fun w' hw'=>by have h3:=(hcl.out w' hw').2.2.2.2.1; go_simp) ?_
     simp only [Act.put,zT9,zS9,zZ9]
     repeat (go_big_quiet_step (first | exact fun _=>rfl | rfl))
     refine wpQuiet_nil ?_
     intro w4 hR4
     clear hR3
     go_wp2_with fail
     refine (hLe.out _ hR4).mono ?_
     rintro e w7 ⟨rfl,hk7⟩
     have hz:=sz0 (2 ^ c.h) W.u hu
     obtain ⟨Z,hZ⟩:∃ x,((2 ^ c.h-W.u:Nat):Int)=x:=⟨_,rfl⟩
     rw [hZ] at hz ⊢
     clear hZ hLe hCo
     by_cases h6:W.u=2 ^ c.h
     ·have hz0:Z=0:=by simpa [h6] using hz
      go_wp2_with fail
      go_ret
      exact ⟨by simp [ho,h1,h2,h3,h6],hk7⟩
     ·have hz0:¬ Z=0:=by simpa [h6] using hz
      go_wp2_with fail
      go_ret
      exact ⟨by simp [ho,h1,h2,h3,h6],hk7⟩
    ·simp only [eq_toList,decide_eq_false h3,Bool.not_false]
     go_wp2_with fail
     go_ret
     exact ⟨by simp [ho,h1,h2,h3],⟨hkf.out _ hR3⟩⟩
   ·have h2b:(kn==W.n)=false:=by simpa using h2
    refine region_quiet (RfK w0 O pa pn pc ps) (by kernel_rfl) (by kernel_rfl) (hR2.st gO.out (dB w2)) ?_
    repeat (go_big_quiet_step (first | exact fun _=>rfl | rfl))
    refine quiet_val rfl (.int .i64 kn) (fun w' hw'=>by have h3:=(hcl.out w' hw').2.1; go_simp) ?_
    simp only [Act.put,zT9,zS9,zZ9]
    repeat (go_big_quiet_step (first | exact fun _=>rfl | rfl))
    refine quiet_val rfl (.int .i64 W.n) (fun w' hw'=>by have h3:=(hcl.out w' hw').2.2.2.2.1; go_simp) ?_
    simp only [Act.put,zT9,zS9,zZ9]
    repeat (go_big_quiet_step (first | exact fun _=>rfl | rfl))
    refine wpQuiet_nil ?_
    intro w3 hR3
    clear hR2
    have h4:W.n<kn:=by omega
    go_wp2_with fail
    refine region_quiet (RfK w0 O pa pn pc ps) (by kernel_rfl) (by kernel_rfl) (hR3.st gO.out (dB w3)) ?_
    repeat (go_big_quiet_step (first | exact fun _=>rfl | rfl))
    refine quiet_val rfl (.int .i64 kn) (fun w' hw'=>by have h3:=(hcl.out w' hw').2.1; go_simp) ?_
    simp only [Act.put,zT9,zS9,zZ9]
    repeat (go_big_quiet_step (first | exact fun _=>rfl | rfl))
    refine quiet_val rfl (.int .i64 W.n) (fun w' hw'=>by have h3:=(hcl.out w' hw').2.2.2.2.1; go_simp) ?_
    simp only [Act.put,zT9,zS9,zZ9]
    repeat (go_big_quiet_step (first | exact fun _=>rfl | rfl))
    refine quiet_val rfl (.int .i64 W.n) (fun w' hw'=>by have h3:=(hcl.out w' hw').2.2.2.2.1; go_simp) ?_
    simp only [Act.put,zT9,zS9,zZ9]
    repeat (go_big_quiet_step (first | exact fun _=>rfl | rfl))
    refine quiet_val rfl (.int .i64 kn) (fun w' hw'=>by have h3:=(hcl.out w' hw').2.1; go_simp) ?_
    simp only [Act.put,zT9,zS9,zZ9]
    repeat (go_big_quiet_step (first | exact fun _=>rfl | rfl))
    refine quiet_val rfl (.string W.r) (fun w' hw'=>by have h3:=(hcl.out w' hw').2.2.2.2.2; go_simp) ?_
    simp only [Act.put,zT9,zS9,zZ9]
    repeat (go_big_quiet_step (first | exact fun _=>rfl | rfl))
    refine quiet_val rfl (.string kr) (fun w' hw'=>by have h3:=(hcl.out w' hw').2.2.1; go_simp) ?_
    simp only [Act.put,zT9,zS9,zZ9]
    repeat (go_big_quiet_step (first | exact fun _=>rfl | rfl))
    refine quiet_call rfl (.int .i64 CE) (fun w' hw'=>(hCo.out w' hw').mono fun e w'' ⟨he,hb⟩=>⟨he,hw'.st gO.out hb⟩) (fun w' _=>by go_simp) ?_
    simp only [Act.put,zT9,zS9,zZ9]
    repeat (go_big_quiet_step (first | exact fun _=>rfl | rfl))
    refine wpQuiet_nil ?_
    intro w4 hR4
    clear hR3
    by_cases h5:CE=0
    ·have h5b:(CE==0)=true:=by simpa using h5
     go_wp2_with fail
     refine (hLe.out _ hR4).mono ?_
     rintro e w7 ⟨rfl,hk7⟩
     have hz:=sz0 (2 ^ c.h) W.u hu
     obtain ⟨Z,hZ⟩:∃ x,((2 ^ c.h-W.u:Nat):Int)=x:=⟨_,rfl⟩
     rw [hZ] at hz ⊢
     clear hZ hLe hCo
     by_cases h6:W.u=2 ^ c.h
     ·have hz0:Z=0:=by simpa [h6] using hz
      go_wp2_with fail
      go_ret
      exact ⟨by simp [ho,h1,h2,h4,h5,h6],hk7⟩
     ·have hz0:¬ Z=0:=by simpa [h6] using hz
      go_wp2_with fail
      go_ret
      exact ⟨by simp [ho,h1,h2,h4,h5,h6],hk7⟩
    ·have h5b:(CE==0)=false:=by simpa using h5
     go_wp2_with fail
     go_ret
     exact ⟨by simp [ho,h1,h2,h4,h5],⟨hkf.out _ hR4⟩⟩
 ·simp only [eq_toList,decide_eq_false ho,Bool.not_false]
  go_wp2_with fail
  go_ret
  exact ⟨by simp [ho],⟨hkf.out _ hR1⟩⟩
end
end Go.Proofs.YthpfpkikmaiddaaGreatDoor.Wt
