/- - -/
import Derived.Test.YthpfpkikmaiddaaGreatDoorZop
set_option linter.all false
set_option maxHeartbeats 12800000
set_option maxRecDepth 100000
namespace Go.Proofs.YthpfpkikmaiddaaGreatDoor
open Go Go.RowKit
def Bw (w0 w:World):Prop:=Below w0.heap.size w0 w
theorem bw_on {w0 w w':World} (h:Bw w0 w) (k:Below w.heap.size w w'):Bw w0 w':=Below.trans h (k.mono (Below.size h))
theorem bw_al {w0 w:World} (h:Bw w0 w) (o:Obj):Bw w0 (w.alloc o):=Below.alloc h (Below.size h) o
def Rw (a:Nat) (x:UInt8) (w:World):Prop:=w.ownsRow a 5 1 (.slice (some ⟨a,0,none⟩) 1 1) [x].length ([x].map yc)
theorem rw_new (w:World) (x:UInt8):Rw w.heap.size x (w.alloc (.cells #[Value.int .u8 (x.toNat:Int)] 5)):=own_one w x
theorem Rw.here {a:Nat} {x:UInt8} {w w':World} (h:Rw a x w) (hb:Below w.heap.size w w'):Rw a x w':=ownsRow_below h hb
theorem Rw.text {a:Nat} {x:UInt8} {w:World} (h:Rw a x w):(convert 23 9 (.slice (some ⟨a,0,none⟩) 1 1)).run Tryz.prog w=.ok (.string (one x)) w:=own_text h
theorem stB (w0:World):St (fun w'=>Bw w0 w') (fun w w'=>Below w.heap.size w w') (fun w'=>Bw w0 w'):=⟨fun _ h=>h,fun _ _ h k=>bw_on h k⟩
theorem st1 (w0:World) (a:Nat) (x:UInt8):St (fun w'=>Bw w0 w') (fun w w'=>Below w.heap.size w w') (fun w'=>Bw w0 w'/\Rw a x w'):=⟨fun _ h=>h.1,fun _ _ h k=>⟨bw_on h.1 k,h.2.here k⟩⟩
theorem st2 (w0:World) (a b:Nat) (x y:UInt8):St (fun w'=>Bw w0 w') (fun w w'=>Below w.heap.size w w') (fun w'=>Bw w0 w'/\Rw a x w'/\Rw b y w'):=⟨fun _ h=>h.1,fun _ _ h k=>⟨bw_on h.1 k,h.2.1.here k,h.2.2.here k⟩⟩
theorem parts_here {w w':World} {v:Value} {ps:List ByteArray} (h:PartsAt w v ps) (hb:Below w.heap.size w w'):PartsAt w' v ps:=by
 obtain ⟨a,c,e,hc⟩:=h.ex
 refine ⟨a,c,e,fun h0=>?_⟩
 obtain ⟨blk,off,ea,hl,hcell⟩:=hc h0
 exact ⟨blk,off,ea,Nat.lt_of_lt_of_le hl hb.size,fun j hj=>(hb.cell (p:=⟨blk,off+j,none⟩) hl).trans (hcell j hj)⟩
theorem stP (w0:World) (v:Value) (ps:List ByteArray):St (fun w'=>Bw w0 w') (fun w w'=>Below w.heap.size w w') (fun w'=>Bw w0 w'/\PartsAt w' v ps):=⟨fun _ h=>h.1,fun _ _ h k=>⟨bw_on h.1 k,parts_here h.2 k⟩⟩
theorem beN_two (n:Nat):beN n 2=[UInt8.ofNat (n / 256),UInt8.ofNat n]:=by
 have h:∀ m:Nat,UInt8.ofNat (m % 256)=UInt8.ofNat m:=fun m=>by
  apply UInt8.toNat_inj.1
  rw [UInt8.toNat_ofNat',UInt8.toNat_ofNat']; omega
 simp [beN,h]
theorem rnumber_any (n:Nat) (w:World) :
  Calls Tryz.prog 113 #[.int .u64 (n:Int),.int .i64 2] w fun e w'=>e=.returned (.string (by2 n))/\Below w.heap.size w w':=by
 have hN:Calls Tryz.prog 162 #[.slice none 0 0,.int .u64 (n:Int),.int .i64 2] w _:=number_any w.heap.size w w (.slice none 0 0) [] n 2 (by omega) ⟨World.ownsRow_nil _ _ _ _⟩ ⟨Below.refl _ _⟩ (Nat.le_refl _) (by simp)
 rw [List.nil_append,beN_two] at hN
 go_enter Tryz.func113,Tryz.ntmps113
 go_wp2_with fail
 refine hN.mono ?_
 clear hN
 rintro e w1 ⟨v1,rfl,hO,hB,_,b1,n1,c1,rfl⟩
 have hcv:=own_text hO.out
 rw [show (⟨[UInt8.ofNat (n / 256),UInt8.ofNat n].toArray⟩:ByteArray)=by2 n from rfl] at hcv
 clear hO
 go_wp2_with fail
 go_ret
 exact ⟨rfl,hB.out⟩
theorem rsec_any (s:ByteArray) (n i:Nat) (w:World) (hs:s.size<=140737488351232) (hn:n<65536) (hi:i<256) :
  Calls Tryz.prog 170 #[.string s,.int .i64 (n:Int),.int .i64 (i:Int)] w fun e w'=>e=.returned (.string (secV s n i))/\Below w.heap.size w w':=by
 have hNum:=fun w=>rnumber_any n w
 have hsz:(tagL 32 [s,by2 n,by1 i]).length<=140737488354000:=by
  have h2:(by2 n).size=2:=rfl
  have h1:(by1 i).size=1:=rfl
  simp only [tagL,tagP,List.flatMap_cons,List.flatMap_nil,List.length_cons,List.length_append,data_len,be4_length,List.length_nil,h1,h2]
  omega
 have hts:=tagS_size 32 [s,by2 n,by1 i]
 have hval:(tagS 32 [s,by2 n,by1 i]).extract 0 16=secV s n i:=rfl
 obtain ⟨ts,hTS⟩:∃ ts,tagS 32 [s,by2 n,by1 i]=ts:=⟨_,rfl⟩
 have hTg:=fun w1=>parts_new w1 [s,by2 n,by1 i] 9
 have hTg':=fun w1 v (h:PartsAt w1 v [s,by2 n,by1 i])=>rtag_parts 32 v [s,by2 n,by1 i] w1 h hsz (by simp)
 rw [show hashOf (tagL 32 [s,by2 n,by1 i])=ts from hTS] at hTg'
 rw [hTS] at hts hval
 obtain ⟨x,hx⟩:∃ x,UInt8.ofNat i=x:=⟨_,rfl⟩
 have hv:(i:Int)=(x.toNat:Int):=by rw [<- hx,UInt8.toNat_ofNat']; omega
 have hxl:x.toNat<256:=x.toNat_lt
 rw [show by1 i=one x by rw [by1,hx]] at hTg hTg'
 obtain ⟨y,hy⟩:∃ y,secV s n i=y:=⟨_,rfl⟩
 rw [hy] at hval ⊢
 rw [hv]
 have hBd:Box (Below w.heap.size w w.drew):=⟨Drawn.below ⟨1,rfl⟩⟩
 replace hy:=Box.mk hy
 clear hsz hTS hx hv
 go_enter Tryz.func170,Tryz.ntmps170
 go_wp2_with fail
 refine region_steady (fun w'=>Bw w w') (fun w w'=>Below w.heap.size w w') rfl hBd.out ?_
 refine anyS_calms [0,1,2,4,5] 7 rfl (fun _=>Below.refl _ _) (stB w) (by kernel_rfl) (by kernel_rfl) (by kernel_rfl) ?_
 simp [nth]
 try simp only [Act.put]
 repeat (go_big_quiet_step (first | exact fun _=>rfl | rfl))
 refine wpQuiet_nil ?_
 refine anyS_call 3 (.string (by2 n)) (fun _=>Below.refl _ _) (stB w) (by kernel_rfl) rfl (by kernel_rfl) (by kernel_rfl) rfl (fun w' _=>hNum w') (fun w' _=>by go_simp) ?_
 refine anyS_forced 6 (by kernel_rfl) rfl rfl (fun wa hWa K hK=>?_)
 go_simp
 have hb:=bw_al hWa (.cells #[Value.int .u8 (x.toNat:Int)] 5)
 have hr6:=rw_new wa x
 obtain ⟨a6,ha⟩:∃ a,wa.heap.size=a:=⟨_,rfl⟩
 rw [ha] at hr6 ⊢
 refine hK _ _ (fun w'=>Bw w w'/\Rw a6 x w') (st1 w _ _) ⟨hb,hr6⟩ ?_
 clear hK K hWa hb ha hr6
 refine anyS_forced 7 (by kernel_rfl) rfl rfl (fun wa hWa K hK=>?_)
 have hcv:=Rw.text hWa.2
 go_simp
 refine hK _ _ (fun w'=>Bw w w') (stB w) hWa.1 ?_
 clear hK K hWa hcv
 refine anyS_forced 8 (by kernel_rfl) rfl rfl (fun wa hWa K hK=>?_)
 have hF:=hTg wa
 have hBt:=bw_al hWa (.cells #[.string s,.string (by2 n),.string (one x)] 9)
 go_simp
 obtain ⟨at12,ha⟩:∃ a,wa.heap.size=a:=⟨_,rfl⟩
 rw [ha] at hF ⊢
 refine hK _ _ (fun w'=>Bw w w'/\PartsAt w' (.slice (some ⟨at12,0,none⟩) 3 3) [s,by2 n,one x]) (stP w _ _) ⟨hBt,hF⟩ ?_
 clear hK K hWa hF hBt ha
 refine anyS_end 9 (by kernel_rfl) rfl rfl (by kernel_rfl) (fun wa hWa K hK=>?_)
 have hF:=hTg' wa _ hWa.2
 go_simp
 refine hF.mono ?_
 rintro e we ⟨rfl,hbe⟩
 refine hK _ _ ?_
 have hBe:Box (Below w.heap.size w we):=⟨bw_on hWa.1 hbe⟩
 clear hK K hF hWa hbe
 refine go_calms [10,11] 0 rfl (by kernel_rfl) (by kernel_rfl) (by kernel_rfl) True.intro ?_
 simp [nth]
 try simp only [Act.put]
 repeat (go_big_quiet_step (first | exact fun _=>rfl | rfl))
 refine wpQuiet_nil ?_
 refine go_done (by kernel_rfl) ?_
 go_simp
 go_wp2_with fail
 go_ret
 exact ⟨rfl,hBe.out⟩
theorem rlinks_any (s:ByteArray) (n i a c:Nat) (w:World) (hs:s.size=16) (hn:n<65536) (hi:i<256) (hac:a+c<=15) :
  Calls Tryz.prog 161 #[.int .i64 (n:Int),.int .i64 (i:Int),.int .i64 (a:Int),.int .i64 ((a+c:Nat):Int),.string s] w fun e w'=>e=.returned (.string (linksV n i a c s))/\Below w.heap.size w w':=by
 obtain ⟨b,hb⟩:∃ b,a+c=b:=⟨_,rfl⟩
 rw [hb]
 have hNum:=fun w=>rnumber_any n w
 have hB0:Box (Below w.heap.size w w):=⟨Below.refl _ _⟩
 obtain ⟨x,hx⟩:∃ x,UInt8.ofNat i=x:=⟨_,rfl⟩
 have hv:(i:Int)=(x.toNat:Int):=by rw [<- hx,UInt8.toNat_ofNat']; omega
 have hxl:x.toNat<256:=x.toNat_lt
 have hbx:by1 i=one x:=by rw [by1,hx]
 rw [hv]
 clear hx hv
 go_enter Tryz.func161,Tryz.ntmps161
 go_wp2_with fail
 go_loopw [4,11] (fun v q wr=>∃ k:Nat,k<=c/\v=.string (linksV n i a k s)/\q=.int .i64 ((a:Int)+(k:Int))/\Box (Below w.heap.size w wr)) (fun _ q _=>b-(intOf q).toNat)
 case atStart=>exact ⟨0,by omega,rfl,by simp,hB0⟩
 case round=>
  clear hB0
  obtain ⟨k,hk,rfl,rfl,hB⟩:=hrel
  by_cases hlt:k<c
  ·obtain ⟨z,hz⟩:∃ z,linksV n i a k s=z:=⟨_,rfl⟩
   have hzs:z.size=16:=by rw [<- hz]; exact linksV_size n i a s hs k
   have hnext:linkV n i (a+k) z=linksV n i a (k+1) s:=by rw [linksV,hz]
   have hsz:(tagL 33 [by2 n,by1 i,by1 (a+k),z]).length<=140737488354000:=by
    have h2:(by2 n).size=2:=rfl
    have h1:(by1 i).size=1:=rfl
    have h3:(by1 (a+k)).size=1:=rfl
    simp only [tagL,tagP,List.flatMap_cons,List.flatMap_nil,List.length_cons,List.length_append,data_len,be4_length,List.length_nil,h1,h2,h3,hzs]
    omega
   have hts:=tagS_size 33 [by2 n,by1 i,by1 (a+k),z]
   have hval:(tagS 33 [by2 n,by1 i,by1 (a+k),z]).extract 0 16=linksV n i a (k+1) s:=hnext
   obtain ⟨ts,hTS⟩:∃ ts,tagS 33 [by2 n,by1 i,by1 (a+k),z]=ts:=⟨_,rfl⟩
   have hTg:=fun w1=>parts_new w1 [by2 n,by1 i,by1 (a+k),z] 9
   have hTg':=fun w1 v (h:PartsAt w1 v [by2 n,by1 i,by1 (a+k),z])=>rtag_parts 33 v [by2 n,by1 i,by1 (a+k),z] w1 h hsz (by simp)
   rw [show hashOf (tagL 33 [by2 n,by1 i,by1 (a+k),z])=ts from hTS] at hTg'
   rw [hTS] at hts hval
   obtain ⟨p,hp⟩:∃ p,UInt8.ofNat (a+k)=p:=⟨_,rfl⟩
   have hpv:(a:Int)+(k:Int)=(p.toNat:Int):=by rw [<- hp,UInt8.toNat_ofNat']; omega
   have hpl:p.toNat<256:=p.toNat_lt
   rw [hbx,show by1 (a+k)=one p by rw [by1,hp]] at hTg hTg'
   obtain ⟨y,hy⟩:∃ y,linksV n i a (k+1) s=y:=⟨_,rfl⟩
   rw [hy] at hval
   rw [hz,hpv]
   have hpb:p.toNat<b:=by omega
   have hpv2:(p.toNat:Int)+1=(a:Int)+((k+1:Nat):Int):=by omega
   replace hpv2:=Box.mk hpv2
   replace hz:=Box.mk hz
   replace hy:=Box.mk hy
   clear hsz hTS hnext hp hpv hbx
   go_wp2_with fail
   have hBd:Box (Below w.heap.size w wr.drew):=⟨hB.out.trans (Drawn.below ⟨1,rfl⟩)⟩
   clear hB
   refine region_steady (fun w'=>Bw w w') (fun w w'=>Below w.heap.size w w') rfl hBd.out ?_
   refine anyS_calms [0,1,3,4,7,8,11] 9 rfl (fun _=>Below.refl _ _) (stB w) (by kernel_rfl) (by kernel_rfl) (by kernel_rfl) ?_
   simp [nth]
   try simp only [Act.put]
   repeat (go_big_quiet_step (first | exact fun _=>rfl | rfl))
   refine wpQuiet_nil ?_
   refine anyS_call 2 (.string (by2 n)) (fun _=>Below.refl _ _) (stB w) (by kernel_rfl) rfl (by kernel_rfl) (by kernel_rfl) rfl (fun w' _=>hNum w') (fun w' _=>by go_simp) ?_
   refine anyS_fork 5 9 (by kernel_rfl) rfl rfl rfl rfl (fun wa hWa K hK=>?_) (fun wa hWa K hK=>?_)
   ·go_simp
    have hb:=bw_al hWa (.cells #[Value.int .u8 (x.toNat:Int)] 5)
    have hr5:=rw_new wa x
    obtain ⟨a5,ha⟩:∃ a,wa.heap.size=a:=⟨_,rfl⟩
    rw [ha] at hr5 ⊢
    refine hK _ _ (fun w'=>Bw w w'/\Rw a5 x w') (st1 w _ _) ⟨hb,hr5⟩ ?_
    clear hK K hWa hb ha hr5
    refine anyS_fork 6 9 (by kernel_rfl) rfl rfl rfl rfl (fun wa hWa K hK=>?_) (fun wa hWa K hK=>?_)
    ·have hcv:=Rw.text hWa.2
     go_simp
     refine hK _ _ (fun w'=>Bw w w') (stB w) hWa.1 ?_
     clear hK K hWa hcv
     refine anyS_forced 9 (by kernel_rfl) rfl rfl (fun wa hWa K hK=>?_)
     go_simp
     have hb:=bw_al hWa (.cells #[Value.int .u8 (p.toNat:Int)] 5)
     have hr9:=rw_new wa p
     obtain ⟨a9,ha⟩:∃ a,wa.heap.size=a:=⟨_,rfl⟩
     rw [ha] at hr9 ⊢
     refine hK _ _ (fun w'=>Bw w w'/\Rw a9 p w') (st1 w _ _) ⟨hb,hr9⟩ ?_
     clear hK K hWa hb ha hr9
     refine anyS_forced 10 (by kernel_rfl) rfl rfl (fun wa hWa K hK=>?_)
     have hcv:=Rw.text hWa.2
     go_simp
     refine hK _ _ (fun w'=>Bw w w') (stB w) hWa.1 ?_
     clear hK K hWa hcv
     refine anyS_forced 12 (by kernel_rfl) rfl rfl (fun wa hWa K hK=>?_)
     have hF:=hTg wa
     have hBt:=bw_al hWa (.cells #[.string (by2 n),.string (one x),.string (one p),.string z] 9)
     go_simp
     obtain ⟨at12,ha⟩:∃ a,wa.heap.size=a:=⟨_,rfl⟩
     rw [ha] at hF ⊢
     refine hK _ _ (fun w'=>Bw w w'/\PartsAt w' (.slice (some ⟨at12,0,none⟩) 4 4) [by2 n,one x,one p,z]) (stP w _ _) ⟨hBt,hF⟩ ?_
     clear hK K hWa hF hBt ha
     refine anyS_end 13 (by kernel_rfl) rfl rfl (by kernel_rfl) (fun wa hWa K hK=>?_)
     have hF:=hTg' wa _ hWa.2
     go_simp
     refine hF.mono ?_
     rintro e we ⟨rfl,hbe⟩
     refine hK _ _ ?_
     have hBe:Box (Below w.heap.size w we):=⟨bw_on hWa.1 hbe⟩
     clear hK K hF hWa hbe
     refine go_calms [14,15] 0 rfl (by kernel_rfl) (by kernel_rfl) (by kernel_rfl) True.intro ?_
     simp [nth]
     try simp only [Act.put]
     repeat (go_big_quiet_step (first | exact fun _=>rfl | rfl))
     refine wpQuiet_nil ?_
     refine go_done (by kernel_rfl) ?_
     go_simp
     go_wp2_with fail
     exact ⟨⟨k+1,by omega,by rw [hy.out],by rw [hpv2.out],hBe⟩,by simp [intOf]; omega⟩
    ·go_simp
     have hb:=bw_al hWa.1 (.cells #[Value.int .u8 (p.toNat:Int)] 5)
     have hr9:=rw_new wa p
     have hr5:=Rw.here hWa.2 ((Below.refl _ _).alloc (Nat.le_refl _) (.cells #[Value.int .u8 (p.toNat:Int)] 5))
     obtain ⟨a9,ha⟩:∃ a,wa.heap.size=a:=⟨_,rfl⟩
     rw [ha] at hr9 ⊢
     refine hK _ _ (fun w'=>Bw w w'/\Rw a5 x w'/\Rw a9 p w') (st2 w _ _ _ _) ⟨hb,hr5,hr9⟩ ?_
     clear hK K hWa hb ha hr5 hr9
     refine anyS_fork 6 10 (by kernel_rfl) rfl rfl rfl rfl (fun wa hWa K hK=>?_) (fun wa hWa K hK=>?_)
     ·have hcv:=Rw.text hWa.2.1
      go_simp
      refine hK _ _ (fun w'=>Bw w w'/\Rw a9 p w') (st1 w _ _) ⟨hWa.1,hWa.2.2⟩ ?_
      clear hK K hWa hcv
      refine anyS_forced 10 (by kernel_rfl) rfl rfl (fun wa hWa K hK=>?_)
      have hcv:=Rw.text hWa.2
      go_simp
      refine hK _ _ (fun w'=>Bw w w') (stB w) hWa.1 ?_
      clear hK K hWa hcv
      refine anyS_forced 12 (by kernel_rfl) rfl rfl (fun wa hWa K hK=>?_)
      have hF:=hTg wa
      have hBt:=bw_al hWa (.cells #[.string (by2 n),.string (one x),.string (one p),.string z] 9)
      go_simp
      obtain ⟨at12,ha⟩:∃ a,wa.heap.size=a:=⟨_,rfl⟩
      rw [ha] at hF ⊢
      refine hK _ _ (fun w'=>Bw w w'/\PartsAt w' (.slice (some ⟨at12,0,none⟩) 4 4) [by2 n,one x,one p,z]) (stP w _ _) ⟨hBt,hF⟩ ?_
      clear hK K hWa hF hBt ha
      refine anyS_end 13 (by kernel_rfl) rfl rfl (by kernel_rfl) (fun wa hWa K hK=>?_)
      have hF:=hTg' wa _ hWa.2
      go_simp
      refine hF.mono ?_
      rintro e we ⟨rfl,hbe⟩
      refine hK _ _ ?_
      have hBe:Box (Below w.heap.size w we):=⟨bw_on hWa.1 hbe⟩
      clear hK K hF hWa hbe
      refine go_calms [14,15] 0 rfl (by kernel_rfl) (by kernel_rfl) (by kernel_rfl) True.intro ?_
      simp [nth]
      try simp only [Act.put]
      repeat (go_big_quiet_step (first | exact fun _=>rfl | rfl))
      refine wpQuiet_nil ?_
      refine go_done (by kernel_rfl) ?_
      go_simp
      go_wp2_with fail
      exact ⟨⟨k+1,by omega,by rw [hy.out],by rw [hpv2.out],hBe⟩,by simp [intOf]; omega⟩
     ·have hcv:=Rw.text hWa.2.2
      go_simp
      refine hK _ _ (fun w'=>Bw w w'/\Rw a5 x w') (st1 w _ _) ⟨hWa.1,hWa.2.1⟩ ?_
      clear hK K hWa hcv
      refine anyS_forced 6 (by kernel_rfl) rfl rfl (fun wa hWa K hK=>?_)
      have hcv:=Rw.text hWa.2
      go_simp
      refine hK _ _ (fun w'=>Bw w w') (stB w) hWa.1 ?_
      clear hK K hWa hcv
      refine anyS_forced 12 (by kernel_rfl) rfl rfl (fun wa hWa K hK=>?_)
      have hF:=hTg wa
      have hBt:=bw_al hWa (.cells #[.string (by2 n),.string (one x),.string (one p),.string z] 9)
      go_simp
      obtain ⟨at12,ha⟩:∃ a,wa.heap.size=a:=⟨_,rfl⟩
      rw [ha] at hF ⊢
      refine hK _ _ (fun w'=>Bw w w'/\PartsAt w' (.slice (some ⟨at12,0,none⟩) 4 4) [by2 n,one x,one p,z]) (stP w _ _) ⟨hBt,hF⟩ ?_
      clear hK K hWa hF hBt ha
      refine anyS_end 13 (by kernel_rfl) rfl rfl (by kernel_rfl) (fun wa hWa K hK=>?_)
      have hF:=hTg' wa _ hWa.2
      go_simp
      refine hF.mono ?_
      rintro e we ⟨rfl,hbe⟩
      refine hK _ _ ?_
      have hBe:Box (Below w.heap.size w we):=⟨bw_on hWa.1 hbe⟩
      clear hK K hF hWa hbe
      refine go_calms [14,15] 0 rfl (by kernel_rfl) (by kernel_rfl) (by kernel_rfl) True.intro ?_
      simp [nth]
      try simp only [Act.put]
      repeat (go_big_quiet_step (first | exact fun _=>rfl | rfl))
      refine wpQuiet_nil ?_
      refine go_done (by kernel_rfl) ?_
      go_simp
      go_wp2_with fail
      exact ⟨⟨k+1,by omega,by rw [hy.out],by rw [hpv2.out],hBe⟩,by simp [intOf]; omega⟩
   ·go_simp
    have hb:=bw_al hWa (.cells #[Value.int .u8 (p.toNat:Int)] 5)
    have hr9:=rw_new wa p
    obtain ⟨a9,ha⟩:∃ a,wa.heap.size=a:=⟨_,rfl⟩
    rw [ha] at hr9 ⊢
    refine hK _ _ (fun w'=>Bw w w'/\Rw a9 p w') (st1 w _ _) ⟨hb,hr9⟩ ?_
    clear hK K hWa hb ha hr9
    refine anyS_fork 5 10 (by kernel_rfl) rfl rfl rfl rfl (fun wa hWa K hK=>?_) (fun wa hWa K hK=>?_)
    ·go_simp
     have hb:=bw_al hWa.1 (.cells #[Value.int .u8 (x.toNat:Int)] 5)
     have hr5:=rw_new wa x
     have hr9:=Rw.here hWa.2 ((Below.refl _ _).alloc (Nat.le_refl _) (.cells #[Value.int .u8 (x.toNat:Int)] 5))
     obtain ⟨a5,ha⟩:∃ a,wa.heap.size=a:=⟨_,rfl⟩
     rw [ha] at hr5 ⊢
     refine hK _ _ (fun w'=>Bw w w'/\Rw a5 x w'/\Rw a9 p w') (st2 w _ _ _ _) ⟨hb,hr5,hr9⟩ ?_
     clear hK K hWa hb ha hr5 hr9
     refine anyS_fork 6 10 (by kernel_rfl) rfl rfl rfl rfl (fun wa hWa K hK=>?_) (fun wa hWa K hK=>?_)
     ·have hcv:=Rw.text hWa.2.1
      go_simp
      refine hK _ _ (fun w'=>Bw w w'/\Rw a9 p w') (st1 w _ _) ⟨hWa.1,hWa.2.2⟩ ?_
      clear hK K hWa hcv
      refine anyS_forced 10 (by kernel_rfl) rfl rfl (fun wa hWa K hK=>?_)
      have hcv:=Rw.text hWa.2
      go_simp
      refine hK _ _ (fun w'=>Bw w w') (stB w) hWa.1 ?_
      clear hK K hWa hcv
      refine anyS_forced 12 (by kernel_rfl) rfl rfl (fun wa hWa K hK=>?_)
      have hF:=hTg wa
      have hBt:=bw_al hWa (.cells #[.string (by2 n),.string (one x),.string (one p),.string z] 9)
      go_simp
      obtain ⟨at12,ha⟩:∃ a,wa.heap.size=a:=⟨_,rfl⟩
      rw [ha] at hF ⊢
      refine hK _ _ (fun w'=>Bw w w'/\PartsAt w' (.slice (some ⟨at12,0,none⟩) 4 4) [by2 n,one x,one p,z]) (stP w _ _) ⟨hBt,hF⟩ ?_
      clear hK K hWa hF hBt ha
      refine anyS_end 13 (by kernel_rfl) rfl rfl (by kernel_rfl) (fun wa hWa K hK=>?_)
      have hF:=hTg' wa _ hWa.2
      go_simp
      refine hF.mono ?_
      rintro e we ⟨rfl,hbe⟩
      refine hK _ _ ?_
      have hBe:Box (Below w.heap.size w we):=⟨bw_on hWa.1 hbe⟩
      clear hK K hF hWa hbe
      refine go_calms [14,15] 0 rfl (by kernel_rfl) (by kernel_rfl) (by kernel_rfl) True.intro ?_
      simp [nth]
      try simp only [Act.put]
      repeat (go_big_quiet_step (first | exact fun _=>rfl | rfl))
      refine wpQuiet_nil ?_
      refine go_done (by kernel_rfl) ?_
      go_simp
      go_wp2_with fail
      exact ⟨⟨k+1,by omega,by rw [hy.out],by rw [hpv2.out],hBe⟩,by simp [intOf]; omega⟩
     ·have hcv:=Rw.text hWa.2.2
      go_simp
      refine hK _ _ (fun w'=>Bw w w'/\Rw a5 x w') (st1 w _ _) ⟨hWa.1,hWa.2.1⟩ ?_
      clear hK K hWa hcv
      refine anyS_forced 6 (by kernel_rfl) rfl rfl (fun wa hWa K hK=>?_)
      have hcv:=Rw.text hWa.2
      go_simp
      refine hK _ _ (fun w'=>Bw w w') (stB w) hWa.1 ?_
      clear hK K hWa hcv
      refine anyS_forced 12 (by kernel_rfl) rfl rfl (fun wa hWa K hK=>?_)
      have hF:=hTg wa
      have hBt:=bw_al hWa (.cells #[.string (by2 n),.string (one x),.string (one p),.string z] 9)
      go_simp
      obtain ⟨at12,ha⟩:∃ a,wa.heap.size=a:=⟨_,rfl⟩
      rw [ha] at hF ⊢
      refine hK _ _ (fun w'=>Bw w w'/\PartsAt w' (.slice (some ⟨at12,0,none⟩) 4 4) [by2 n,one x,one p,z]) (stP w _ _) ⟨hBt,hF⟩ ?_
      clear hK K hWa hF hBt ha
      refine anyS_end 13 (by kernel_rfl) rfl rfl (by kernel_rfl) (fun wa hWa K hK=>?_)
      have hF:=hTg' wa _ hWa.2
      go_simp
      refine hF.mono ?_
      rintro e we ⟨rfl,hbe⟩
      refine hK _ _ ?_
      have hBe:Box (Below w.heap.size w we):=⟨bw_on hWa.1 hbe⟩
      clear hK K hF hWa hbe
      refine go_calms [14,15] 0 rfl (by kernel_rfl) (by kernel_rfl) (by kernel_rfl) True.intro ?_
      simp [nth]
      try simp only [Act.put]
      repeat (go_big_quiet_step (first | exact fun _=>rfl | rfl))
      refine wpQuiet_nil ?_
      refine go_done (by kernel_rfl) ?_
      go_simp
      go_wp2_with fail
      exact ⟨⟨k+1,by omega,by rw [hy.out],by rw [hpv2.out],hBe⟩,by simp [intOf]; omega⟩
    ·have hcv:=Rw.text hWa.2
     go_simp
     refine hK _ _ (fun w'=>Bw w w') (stB w) hWa.1 ?_
     clear hK K hWa hcv
     refine anyS_forced 5 (by kernel_rfl) rfl rfl (fun wa hWa K hK=>?_)
     go_simp
     have hb:=bw_al hWa (.cells #[Value.int .u8 (x.toNat:Int)] 5)
     have hr5:=rw_new wa x
     obtain ⟨a5,ha⟩:∃ a,wa.heap.size=a:=⟨_,rfl⟩
     rw [ha] at hr5 ⊢
     refine hK _ _ (fun w'=>Bw w w'/\Rw a5 x w') (st1 w _ _) ⟨hb,hr5⟩ ?_
     clear hK K hWa hb ha hr5
     refine anyS_forced 6 (by kernel_rfl) rfl rfl (fun wa hWa K hK=>?_)
     have hcv:=Rw.text hWa.2
     go_simp
     refine hK _ _ (fun w'=>Bw w w') (stB w) hWa.1 ?_
     clear hK K hWa hcv
     refine anyS_forced 12 (by kernel_rfl) rfl rfl (fun wa hWa K hK=>?_)
     have hF:=hTg wa
     have hBt:=bw_al hWa (.cells #[.string (by2 n),.string (one x),.string (one p),.string z] 9)
     go_simp
     obtain ⟨at12,ha⟩:∃ a,wa.heap.size=a:=⟨_,rfl⟩
     rw [ha] at hF ⊢
     refine hK _ _ (fun w'=>Bw w w'/\PartsAt w' (.slice (some ⟨at12,0,none⟩) 4 4) [by2 n,one x,one p,z]) (stP w _ _) ⟨hBt,hF⟩ ?_
     clear hK K hWa hF hBt ha
     refine anyS_end 13 (by kernel_rfl) rfl rfl (by kernel_rfl) (fun wa hWa K hK=>?_)
     have hF:=hTg' wa _ hWa.2
     go_simp
     refine hF.mono ?_
     rintro e we ⟨rfl,hbe⟩
     refine hK _ _ ?_
     have hBe:Box (Below w.heap.size w we):=⟨bw_on hWa.1 hbe⟩
     clear hK K hF hWa hbe
     refine go_calms [14,15] 0 rfl (by kernel_rfl) (by kernel_rfl) (by kernel_rfl) True.intro ?_
     simp [nth]
     try simp only [Act.put]
     repeat (go_big_quiet_step (first | exact fun _=>rfl | rfl))
     refine wpQuiet_nil ?_
     refine go_done (by kernel_rfl) ?_
     go_simp
     go_wp2_with fail
     exact ⟨⟨k+1,by omega,by rw [hy.out],by rw [hpv2.out],hBe⟩,by simp [intOf]; omega⟩
  ·obtain rfl:k=c:=by omega
   go_wp2_with fail
   go_ret
   exact ⟨rfl,hB.out⟩
end Go.Proofs.YthpfpkikmaiddaaGreatDoor
