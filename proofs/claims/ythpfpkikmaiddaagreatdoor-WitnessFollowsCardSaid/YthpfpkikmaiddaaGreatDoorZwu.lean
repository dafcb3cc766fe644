/- - -/
import Derived.Test.YthpfpkikmaiddaaGreatDoorZwn
set_option linter.all false
set_option maxHeartbeats 12800000
set_option maxRecDepth 100000
namespace Go.Proofs.YthpfpkikmaiddaaGreatDoor.Wt
open Go Go.RowKit Go.Proofs.YthpfpkikmaiddaaGreatDoor.Pk Go.Proofs.YthpfpkikmaiddaaGreatDoor.Nt Go.Proofs.YthpfpkikmaiddaaGreatDoor.Tg
def All:List ByteArray:=hsL 80 80 0
theorem All_len:All.length=80:=hsL_len 80 80 0
theorem All_32:∀ x ∈ All,x.size=32:=hsL_32 80 80 0
theorem con_32 {l:List ByteArray} (h:∀ x ∈ l,x.size=32) (m:Int):∀ x ∈ conL l m,x.size=32:=fun x hx=>by
 unfold conL at hx
 split at hx
 ·exact part32 h _ true x hx
 ·cases hx
structure FS (hh i m:Nat) (D:Dev) (W:WitM):Prop where
 s:WitS 0 6 (cW hh) D W
 n:W.n=(m:Int)
 le:m<=80
 r:W.r=rootL (All.take m)
 u:W.u=min i (2 ^ hh)
 num:W.C.num<=i
 bd:Bd i D W.C
theorem f_new {hh:Nat}:FS hh 0 0 (Dev.new 12) ⟨Pk.M0,0,noneH,0⟩:=
 ⟨new_witS (by decide) (by decide) (by decide),rfl,by decide,by rw [List.take_zero,rootL_nil],(Nat.zero_min _).symm,Nat.le_refl _,new_bd 12⟩
section
variable {hh i m m2 n:Nat} {D:Dev} {W:WitM}
theorem f_e0 (g:FS hh i m D W) (hm:m<=m2) (h2:m2<=80) (hn:n<4) :
  asE0 (cW hh) W (ntH sLg sO1 (All.take m2) n) (conL (All.take m2) (m:Int))=if W.u=2 ^ hh then 8 else 0:=by
 have hl:(All.take m2).length=m2:=by rw [List.length_take,All_len]; omega
 have hn2:=g.n
 rw [(asE0_note rfl (take_32 All_32 m2) (by omega) hn).1]
 have hc:cosE W.n ((All.take m2).length:Int) (conL (All.take m2) (m:Int)) W.r (rootL (All.take m2))=0:=by
  have:=(con_own (All.take m2) m m2 hl hm).2.1
  rw [List.take_take,Nat.min_eq_left hm] at this
  rw [g.n,g.r,hl]
  exact this
 unfold rfE
 rw [if_neg (fun h=>h rfl),if_neg (by show ¬ ((All.take m2).length:Int)<W.n; omega),if_neg (fun h=>h.2 (by
  have h1:((All.take m2).length:Int)=W.n:=h.1
  have h2:m=m2:=by omega
  show rootL (All.take m2)=W.r
  rw [g.r,h2])),if_neg (fun h=>h.2 hc)]
 rfl
theorem f_yes (g:FS hh i m D W) (hm:m<=m2) (h2:m2<=80) (hn:n<4) (h4:hh<=4) (hi:i<2 ^ hh) (h99:i<=98) :
  asE 0 6 (cW hh) D W (ntH sLg sO1 (All.take m2) n) (conL (All.take m2) (m:Int))=0/\FS hh (i+1) m2 (asD 0 6 (cW hh) D W (ntH sLg sO1 (All.take m2) n) (conL (All.take m2) (m:Int))) (asM 0 6 (cW hh) D W (ntH sLg sO1 (All.take m2) n) (conL (All.take m2) (m:Int))):=by
 have hl:(All.take m2).length=m2:=by rw [List.length_take,All_len]; omega
 have hu:W.u=i:=by rw [g.u]; exact Nat.min_eq_left (by omega)
 have e0:=f_e0 g hm h2 hn
 rw [if_neg (by omega)] at e0
 have hsd:=(asE0_note (c:=cW hh) (W:=W) (n:=n) (ps:=conL (All.take m2) (m:Int)) rfl (take_32 All_32 m2) (by omega) hn).2
 have hnum:=g.num
 obtain ⟨a1,_,_,k1,n1,r1,u1,m1⟩:=g.s.ask (cW_ok h4) (by omega) (by decide) e0
 have b1:=as_bd (b:=0) (h:=6) (c:=cW hh) (s:=ntH sLg sO1 (All.take m2) n) (ps:=conL (All.take m2) (m:Int)) g.bd (by decide)
 rw [hsd] at n1 r1
 refine ⟨a1,k1,n1.trans ?_,h2,r1,u1.trans ?_,by omega,b1⟩
 ·show ((All.take m2).length:Int)=_
  rw [hl]
 ·rw [hu]; exact (Nat.min_eq_left (by omega)).symm
theorem f_no (g:FS hh i m D W) (hm:m<=m2) (h2:m2<=80) (hn:n<4) (hi:¬ i<2 ^ hh) :
  asE 0 6 (cW hh) D W (ntH sLg sO1 (All.take m2) n) (conL (All.take m2) (m:Int))=8/\FS hh (i+1) m (asD 0 6 (cW hh) D W (ntH sLg sO1 (All.take m2) n) (conL (All.take m2) (m:Int))) (asM 0 6 (cW hh) D W (ntH sLg sO1 (All.take m2) n) (conL (All.take m2) (m:Int))):=by
 have hu:W.u=2 ^ hh:=by rw [g.u]; exact Nat.min_eq_right (by omega)
 have e0:=f_e0 g hm h2 hn
 rw [if_pos hu] at e0
 obtain ⟨a1,_,_,a4,a5⟩:=as_no (b:=0) (h:=6) (c:=cW hh) (D:=D) (W:=W) (s:=ntH sLg sO1 (All.take m2) n) (ps:=conL (All.take m2) (m:Int)) (by rw [e0]; decide)
 rw [a1,a4,a5,e0]
 exact ⟨rfl,g.s,g.n,g.le,g.r,by rw [hu]; exact (Nat.min_eq_right (by omega)).symm,by have:=g.num; omega,g.bd.up (Nat.le_succ _)⟩
end
section
variable {w0 w:World} {p:Pl} {hh i m m2:Nat} {D:Dev} {W:WitM} {X:Pk.Obj}
structure FA (w0:World) (p:Pl) (hh i m:Nat) (X:Pk.Obj) (D:Dev) (W:WitM) (w:World):Prop where
 k:Kept w0 (Pair2 (WtX p 0 6 (cW hh) D W) X) w
 s:FS hh i m D W
theorem f_ask (hE:Env w0) (gX:Pk.Good X) (g:FA w0 p hh i m X D W w) (hm:m<=m2) (h2:m2<=80) (h4:hh<=4) (h99:i<=98) (pa:Option Addr) (pn pc:Nat) (hP:PA w pa pn pc (conL (All.take m2) (m:Int))) :
  Calls Tryz.prog 24 #[.pointer (some ⟨p.bl,0,none⟩),.string (ntH sLg sO1 (All.take m2) (i % 4)),.slice pa pn pc] w fun e w'=>∃ I T:ByteArray,
   (i<2 ^ hh/\e=.returned (.tuple #[.agg #[.string I,.string T],.int .i64 0])/\Box (∃ D2 W2,FA w0 p hh (i+1) m2 X D2 W2 w'))∨(¬ i<2 ^ hh/\e=.returned (.tuple #[.agg #[.string I,.string T],.int .i64 8])/\Box (∃ D2 W2,FA w0 p hh (i+1) m X D2 W2 w')):=by
 have hn:i % 4<4:=by omega
 have hl:(All.take m2).length=m2:=by rw [List.length_take,All_len]; omega
 have hA:=wtx_ask hE g.k gX (cW_ok h4) g.s.s.ok g.s.bd (by omega) g.s.s.now (ntH sLg sO1 (All.take m2) (i % 4)) (by have:=ntH_size sLg (o:=sO1) (hs:=All.take m2) (i % 4) (gC_hs (take_32 All_32 m2) (by omega)); omega) (conL (All.take m2) (m:Int)) pa pn pc hP (fun x hx=>by rw [con_32 (take_32 All_32 m2) _ x hx]; omega)
 by_cases hi:i<2 ^ hh
 ·obtain ⟨e1,f1⟩:=f_yes g.s hm h2 hn h4 hi h99
  rw [e1] at hA
  exact hA.mono fun e w' ⟨he,hk⟩=>⟨_,_,.inl ⟨hi,he,⟨_,_,hk.out,f1⟩⟩⟩
 ·obtain ⟨e1,f1⟩:=f_no (hn:=hn) g.s hm h2 hi
  rw [e1] at hA
  exact hA.mono fun e w' ⟨he,hk⟩=>⟨_,_,.inr ⟨hi,he,⟨_,_,hk.out,f1⟩⟩⟩
theorem f_last (gX:Pk.Good X) (g:FA w0 p hh i m X D W w) :
  Calls Tryz.prog 27 #[.pointer (some ⟨p.bl,0,none⟩)] w fun e w'=>e=.returned (.tuple #[.int .i64 (m:Int),.string (rootL (All.take m))])/\Box (FA w0 p hh i m X D W w'):=by
 have h:=wtx_last g.k gX
 rw [g.s.n,g.s.r] at h
 exact h.mono fun e w' ⟨he,hk⟩=>⟨he,⟨hk.out,g.s⟩⟩
end
section
variable {w0 w:World} {p:Pl} {hh i m m2:Nat} {D:Dev} {W:WitM} {X:Pk.Obj} {va vp:Value}
theorem FA.below {w':World} (gX:Pk.Good X) (g:FA w0 p hh i m X D W w) (hb:Below w.heap.size w w'):FA w0 p hh i m X D W w':=⟨g.k.below (Pair2.good WtX.good gX) hb,g.s⟩
theorem FA.blk (gX:Pk.Good X) (g:FA w0 p hh i m X D W w) (cs:List Value) (t:TypeId):FA w0 p hh i m (Pair2 (BlO w.heap.size cs t) X) D W (w.alloc (.cells cs.toArray t)):=⟨kept_blk WtX.good gX g.k cs t,g.s⟩
theorem FA.bl {br:Nat} {cs:List Value} {t:TypeId} (g:FA w0 p hh i m (Pair2 (BlO br cs t) X) D W w):Pk.Blk w br cs t:=kept_bl g.k
theorem FA.sig {br:Nat} {a0 a1:Value} {t:TypeId} (gX:Pk.Good X) (g:FA w0 p hh i m (Pair2 (BlO br [a0,a1] t) X) D W w) (x y:Value):FA w0 p hh i m (Pair2 (BlO br [x,y] t) X) D W ((w.setCell ⟨br,0,none⟩ x).setCell ⟨br,1,none⟩ y):=⟨kept_sig WtX.good gX g.k x y,g.s⟩
theorem FA.drop {br:Nat} {cs:List Value} {t:TypeId} (gX:Pk.Good X) (g:FA w0 p hh i m (Pair2 (BlO br cs t) X) D W w):FA w0 p hh i m X D W w:=⟨kept_drop gX g.k,g.s⟩
theorem FA.row (g:FA w0 p hh i m (RowO va All) D W w):∃ a c,va=.slice a 80 c/\PA w a 80 c All:=by
 obtain ⟨F,h1,_⟩:=kept_look (kept_cv g.k cvSwap)
 obtain ⟨a,c,e,h⟩:=txr_pa h1.1
 rw [All_len] at e h
 exact ⟨a,c,e,h⟩
def FX (va vp:Value) (m m2:Nat):Pk.Obj:=Pair2 (RowO va All) (RowO vp (conL (All.take m2) (m:Int)))
theorem FX.good:Pk.Good (FX va vp m m2):=Pair2.good (RowO.good _ _) (RowO.good _ _)
theorem FA.rows {k k2:Nat} (g:FA w0 p hh i m (FX va vp k k2) D W w):(∃ a c,va=.slice a 80 c/\PA w a 80 c All)/\∃ a c,vp=.slice a (conL (All.take k2) (k:Int)).length c/\PA w a (conL (All.take k2) (k:Int)).length c (conL (All.take k2) (k:Int)):=by
 obtain ⟨F,h1,_⟩:=kept_look (kept_cv g.k (cvSwap.trans cvAssoc))
 obtain ⟨F2,h2,_⟩:=kept_look (kept_cv g.k (cvSwap.trans ((cvLeft cvSwap).trans cvAssoc)))
 obtain ⟨a,c,e,h⟩:=txr_pa h1.1
 rw [All_len] at e h
 exact ⟨⟨a,c,e,h⟩,txr_pa h2.1⟩
theorem FA.proof {w':World} {k2:Nat} (g:FA w0 p hh i m (RowO va All) D W w) (hb:Below w.heap.size w w') (hR:TxR w.heap.size w' vp (conL (All.take k2) (m:Int))):FA w0 p hh i m (FX va vp m k2) D W w':=
 ⟨kept_cv (kept_row g.k (Pair2.good WtX.good (RowO.good _ _)) hb hR) (cvFlip.trans (cvRight cvSwap)),g.s⟩
theorem FA.on {k k2:Nat} (g:FA w0 p hh i m (FX va vp k k2) D W w):FA w0 p hh i m (RowO va All) D W w:=
 ⟨kept_cv g.k (cvRight (cvDropR (RowO.good _ _))),g.s⟩
theorem f_ask2 {E:Int} {mm:Nat} (hEm:(i<2 ^ hh/\E=0/\mm=m2)∨(¬ i<2 ^ hh/\E=8/\mm=m)) (hE:Env w0) (gX:Pk.Good X) (g:FA w0 p hh i m X D W w) (hm:m<=m2) (h2:m2<=80) (h4:hh<=4) (h99:i<=98) (pa:Option Addr) (pn pc:Nat) (hP:PA w pa pn pc (conL (All.take m2) (m:Int))) :
  Calls Tryz.prog 24 #[.pointer (some ⟨p.bl,0,none⟩),.string (ntH sLg sO1 (All.take m2) (i % 4)),.slice pa pn pc] w fun e w'=>∃ I T:ByteArray,e=.returned (.tuple #[.agg #[.string I,.string T],.int .i64 E])/\Box (∃ D2 W2,FA w0 p hh (i+1) mm X D2 W2 w'):=
 (f_ask hE gX g hm h2 h4 h99 pa pn pc hP).mono fun e w' ⟨I,T,h⟩=>⟨I,T,by
  rcases hEm with ⟨h1,rfl,rfl⟩ | ⟨h1,rfl,rfl⟩
  ·rcases h with ⟨_,h3⟩ | ⟨h2,_⟩
   ·exact h3
   ·exact absurd h1 h2
  ·rcases h with ⟨h2,_⟩ | ⟨_,h3⟩
   ·exact absurd h2 h1
   ·exact h3⟩
end
theorem law_follows (a:Option Addr) (n c:Nat) (hv:Nat) (w:World) (hE:Env w) (hF:Pk.RowIn w a n Pk.IsU8) (hnc:n<=c) (hh:hv<=255) :
  Calls Tryz.prog 4 #[.slice a n c,.int .u8 (hv:Int)] w fun e w'=>e=.returned (.bool true)/\Below w.heap.size w w':=by
 have hL:=Box.mk (looks_any w hE)
 obtain ⟨q,hq⟩:∃ q,hv % 4=q:=⟨_,rfl⟩
 have hq3:q<=3:=by omega
 have hrem:((hv:Int)).tmod 4=(q:Int):=by rw [Int.tmod_eq_emod_of_nonneg (by omega)]; omega
 have hC:=Box.mk (fun w1=>config_any (q:Int) w1)
 rw [show cfgN (q:Int)=(q:Int) from by unfold cfgN; rw [if_neg (by omega)]] at hC
 have hO:=Box.mk (fun bd w1 (hk:Kept w (Pair2 (DevO bd (Dev.new 12)) NoO) w1)=>wopen_new hE NoO.good (cW q) (cW_ok (by omega)) 12 0 6 (by decide) (by decide) (by decide) hk)
 unfold cW at hO
 simp only at hO
 obtain ⟨id,hid⟩:∃ x,keyID sLg 2=x:=⟨_,rfl⟩
 rw [hid] at hC hO
 have hH:=Box.mk (fun w1=>history_any 80 80 0 w1 (by decide) (by decide))
 obtain ⟨M1,hM1⟩:∃ M,min n 12=M:=⟨_,rfl⟩
 have hm1:M1<=n/\M1<=12:=by omega
 have hi1:Box ((if (12:Int)<(n:Int) then 12 else (n:Int))=(M1:Int)):=⟨by split <;> omega⟩
 clear hM1 hq
 replace hE:=Box.mk hE
 replace hid:=Box.mk hid
 replace hF:=Box.mk hF
 go_enter Tryz.func4,Tryz.ntmps4
 go_wp2_with fail
 refine hL.out.mono ?_
 clear hL
 rintro e wa ⟨rfl,hba⟩
 have hN:=newdev_kept hba.out 12 (by decide) (by decide)
 clear hba
 go_wp2_with fail
 refine hN.mono ?_
 clear hN
 rintro e w1 ⟨bd,rfl,hk1⟩
 have hG:=hC.out w1
 unfold wcfV sW1 sO1 at hG
 clear hC
 go_wp2_with fail
 refine hG.mono ?_
 clear hG
 rintro e w2 ⟨rfl,hb2⟩
 have hG:=hO.out bd _ (kept_no (DevO.good _ _) ((hk1.out.below (DevO.good _ _) hb2).below (DevO.good _ _) (bel_alloc w2 (.cells #[.string ⟨#[119]⟩,.int .i64 (q:Int),.string id,.string ⟨#[111]⟩] 49))))
 unfold wcfV sW1 sO1 at hG
 clear hO hk1 hb2
 go_wp2_with fail
 refine hG.mono ?_
 clear hG
 rintro e w3 ⟨bl,bc,bk,rfl,hk3⟩
 have hG:=hH.out w3
 clear hH
 go_wp2_with fail
 refine hG.mono ?_
 clear hG
 rintro e w4 ⟨vh,rfl,hr4,hb4⟩
 have hk4:=kept_row hk3.out (Pair2.good WtX.good NoO.good) hb4 hr4
 obtain ⟨F4,hr4',_⟩:=kept_look hk4
 obtain ⟨av,cv,hvh,hPh⟩:=txr_pa hr4'.1
 rw [show (hsL 80 80 0).length=80 from hsL_len 80 80 0] at hvh hPh
 subst hvh
 have hch:80<=cv:=hPh.cap
 have hch2:cv<=9223372036854775807:=hPh.top
 have hS:Box (∃ D W,FA w ⟨bd,bl,bc,bk⟩ q 0 0 (RowO (.slice av 80 cv) All) D W w4):=⟨_,_,by
  rw [<- hid.out] at hk4
  exact kept_cv hk4 (cvFlip.trans (cvRight (cvDropR (RowO.good _ _)))),f_new⟩
 clear hk3 hk4 hr4 hr4' hb4 hPh
 obtain ⟨p9,hp9⟩:∃ p:Pl,(⟨bd,bl,bc,bk⟩:Pl)=p:=⟨_,rfl⟩
 have hpb:Box (p9.bl=bl):=⟨by rw [<- hp9]⟩
 rw [hp9] at hS
 clear hp9
 go_wp2_with (refine wpList_min2 rfl (.tmp 42) (.const (.int .i64 12)) 3 rfl (n:Int) 12 (M1:Int) rfl rfl hi1.out ?_)
 go_loopw [46,11] (fun s46 s11 wr=>∃ i m:Nat,i<=M1/\s46=.int .i64 i/\s11=.int .i64 m/\Box (∃ D W,FA w p9 q i m (RowO (.slice av 80 cv) All) D W wr)) (fun s46 _ _=>M1-(intOf s46).toNat)
 case atStart=>exact ⟨0,0,by omega,rfl,rfl,hS⟩
 case round=>
  clear hS
  obtain ⟨i,m,hi,rfl,rfl,hK⟩:=hrel
  by_cases hlt:i<M1
  ·obtain ⟨D,W,hK⟩:=hK.out
   obtain ⟨cb,co,rfl,hcb,hcs⟩:=hF.out.out (by omega)
   obtain ⟨_,d0,y,rfl⟩:=hcs i (by omega)
   rw [<- hK.k.k.cell (p:=⟨cb,_,none⟩) hcb] at d0
   obtain ⟨z,hz⟩:∃ z,y.toNat % 7=z:=⟨_,rfl⟩
   have hz6:z<=6:=by omega
   have hy7:((y.toNat:Int)).tmod 7=(z:Int):=by rw [Int.tmod_eq_emod_of_nonneg (by omega)]; omega
   have hm80:=hK.s.le
   obtain ⟨m2,hm2⟩:∃ M,min (m+z) 80=M:=⟨_,rfl⟩
   have hmm:m<=m2/\m2<=80:=by omega
   have hip:Box ((if (80:Int)<(m:Int)+(z:Int) then 80 else (m:Int)+(z:Int))=(m2:Int)):=⟨by split <;> omega⟩
   have hyl:=y.toNat_lt
   clear hcs hz hm2
   obtain ⟨av',cv',e',hPA⟩:=hK.row
   injection e' with e1 e2 e3
   subst e1 e3
   have hCn:=rconsistency_any m2 (All.take m2) (m:Int) av cv wr (hPA.take (by omega)) (fun x hx=>by rw [take_32 All_32 m2 x hx]; omega)
   unfold RowsE at hCn
   rw [show conE (All.take m2) (m:Int)=0 from by unfold conE; rw [List.length_take,All_len,if_pos ⟨by omega,by omega⟩]] at hCn
   replace hK:=Box.mk hK
   clear hPA e2
   go_wp2_with (refine wpList_min2 rfl (.tmp 56) (.const (.int .i64 80)) 3 rfl ((m:Int)+(z:Int)) 80 (m2:Int) rfl rfl hip.out ?_)
   refine hCn.mono ?_
   clear hCn d0
   rintro e w5 ⟨vp,rfl,hr5,hb5⟩
   have hK5:=hK.out.proof hb5 hr5
   clear hK hr5 hb5
   obtain ⟨_,pa,pc,hvp,_⟩:=hK5.rows
   obtain ⟨pn,hpn⟩:∃ x,(conL (All.take m2) (m:Int)).length=x:=⟨_,rfl⟩
   rw [hpn] at hvp
   subst hvp
   obtain ⟨E,mm,hEm⟩:∃ E mm,(i<2 ^ q/\E=(0:Int)/\mm=m2)∨(¬ i<2 ^ q/\E=8/\mm=m):=by
    by_cases h:i<2 ^ q
    ·exact ⟨0,m2,.inl ⟨h,rfl,rfl⟩⟩
    ·exact ⟨8,m,.inr ⟨h,rfl,rfl⟩⟩
   obtain ⟨NT,hNT⟩:∃ x,ntH sLg sO1 (All.take m2) (i % 4)=x:=⟨_,rfl⟩
   replace hEm:=Box.mk hEm
   have hN:Box (∀ kb w1,FA w p9 q i m (FX (.slice av 80 cv) (.slice pa pn pc) m m2) D W w1->QKey w1 kb sLg 2 0->Calls Tryz.prog 25 #[.pointer (some ⟨kb,0,none⟩),.string ⟨#[111]⟩,.slice av m2 cv,.int .i64 (i:Int)] w1 fun e w'=>e=.returned (.string NT)/\Below w1.heap.size w1 w'):=⟨fun kb w1 hk1 hq=>by
    obtain ⟨⟨a,cc,e,hP⟩,_⟩:=hk1.rows
    cases e
    rw [<- hNT]
    exact noted_any hE.out kb sLg sO1 (All.take m2) av m2 cv i w1 hk1.k.k hq (by decide) sO1_ok (hP.take (by omega)) (by omega) (take_32 All_32 m2)⟩
   have hA:Box (∀ (Z:Pk.Obj) w1,Pk.Good Z->FA w p9 q i m Z D W w1->PA w1 pa pn pc (conL (All.take m2) (m:Int))->Calls Tryz.prog 24 #[.pointer (some ⟨bl,0,none⟩),.string NT,.slice pa pn pc] w1 fun e w'=>∃ I T:ByteArray,e=.returned (.tuple #[.agg #[.string I,.string T],.int .i64 E])/\Box (∃ D2 W2,FA w p9 q (i+1) mm Z D2 W2 w')):=⟨fun Z w1 gZ hk1 hP=>by
    rw [<- hNT,<- hpb.out]
    exact f_ask2 hEm.out hE.out gZ hk1 hmm.1 hmm.2 (by omega) (by omega) pa pn pc hP⟩
   have hPp:Box (∀ w1,FA w p9 q i m (FX (.slice av 80 cv) (.slice pa pn pc) m m2) D W w1->PA w1 pa pn pc (conL (All.take m2) (m:Int))):=⟨fun w1 hk1=>by
    obtain ⟨_,a,cc,e,hP⟩:=hk1.rows
    rw [hpn] at e hP
    cases e
    exact hP⟩
   replace hpn:=Box.mk hpn
   replace hNT:=Box.mk hNT
   replace hK5:=Box.mk hK5
   go_upto_region 16 with fail
   go_cut [17,18] from 66 to 77 (fun v17 v18 wc=>∃ b9:Nat,v17=.pointer (some ⟨b9,0,none⟩)/\v18=.int .i64 E/\Box (∃ D2 W2,FA w p9 q (i+1) mm (RowO (.slice av 80 cv) All) D2 W2 wc))
   case first=>
    go_wp2_with fail
    refine Tg.region_steadyC (fun _=>True) (fun w'=>FA w p9 q i m (FX (.slice av 80 cv) (.slice pa pn pc) m m2) D W w') (fun w w'=>w=w') rfl (hK5.out.below FX.good (dB _)) ?_
    refine anyS_calms [0,2,3,4,5,7] 9 rfl (fun _=>rfl) (Tg.st_eq fun _ _=>trivial) (by kernel_rfl) (by kernel_rfl) (by kernel_rfl) ?_
    simp [nth]
    try simp only [Act.put,zT9,zS9,zZ9]
    repeat (go_big_quiet_step (first | exact fun _=>rfl | rfl))
    refine wpQuiet_nil ?_
    refine anyS_fork 1 12 (by kernel_rfl) rfl rfl rfl rfl (fun wa hWa K hK=>?_) (fun wa hWa K hK=>?_)
    ·have hF:=log_any wa
     go_simp
     refine hF.mono ?_
     rintro e wb ⟨rfl,hq,hb⟩
     obtain ⟨kb,hkb⟩:∃ x,wa.heap.size=x:=⟨_,rfl⟩
     rw [hkb] at hq ⊢
     have hkq:FA w p9 q i m (FX (.slice av 80 cv) (.slice pa pn pc) m m2) D W wb:=hWa.below FX.good hb
     refine hK _ _ (fun w'=>FA w p9 q i m (FX (.slice av 80 cv) (.slice pa pn pc) m m2) D W w'/\QKey w' kb sLg 2 0) (Tg.st_eq fun _ _=>trivial) ⟨hkq,hq⟩ ?_
     clear hK K hF hb hkb hWa hkq hq
     refine anyS_fork 6 12 (by kernel_rfl) rfl rfl rfl rfl (fun wa hWa K hK=>?_) (fun wa hWa K hK=>?_)
     ·have hF:=hN.out kb wa hWa.1 hWa.2
      go_simp
      refine hF.mono ?_
      rintro e wb ⟨rfl,hb⟩
      have hkq:FA w p9 q i m (FX (.slice av 80 cv) (.slice pa pn pc) m m2) D W wb:=hWa.1.below FX.good hb
      refine hK _ _ (fun w'=>FA w p9 q i m (FX (.slice av 80 cv) (.slice pa pn pc) m m2) D W w') (Tg.st_eq fun _ _=>trivial) hkq ?_
      clear hK K hF hb hWa hkq
      refine anyS_fork 8 12 (by kernel_rfl) rfl rfl rfl rfl (fun wa hWa K hK=>?_) (fun wa hWa K hK=>?_)
      ·have hF:=hA.out (FX (.slice av 80 cv) (.slice pa pn pc) m m2) wa FX.good hWa (hPp.out wa hWa)
       go_simp
       refine hF.mono ?_
       rintro e wb ⟨I,T,rfl,hkb⟩
       obtain ⟨D2,W2,hkb⟩:=hkb.out
       refine hK _ _ (fun w'=>FA w p9 q (i+1) mm (FX (.slice av 80 cv) (.slice pa pn pc) m m2) D2 W2 w') (Tg.st_eq fun _ _=>trivial) hkb ?_
       clear hK K hF hWa hkb
       refine anyS_calms [9,10,11] 3 rfl (fun _=>rfl) (Tg.st_eq fun _ _=>trivial) (by kernel_rfl) (by kernel_rfl) (by kernel_rfl) ?_
       simp [nth]
       try simp only [Act.put,zT9,zS9,zZ9]
       repeat (go_big_quiet_step (first | exact fun _=>rfl | rfl))
       refine wpQuiet_nil ?_
       refine anyS_forced 12 (by kernel_rfl) rfl rfl (fun wa hWa K hK=>?_)
       go_simp
       have hkb:=FA.blk FX.good hWa nilS 58
       obtain ⟨b9,hb8⟩:∃ x,wa.heap.size=x:=⟨_,rfl⟩
       rw [hb8] at hkb ⊢
       refine hK _ _ (fun w'=>FA w p9 q (i+1) mm (Pair2 (BlO b9 nilS 58) (FX (.slice av 80 cv) (.slice pa pn pc) m m2)) D2 W2 w') (Tg.st_eq fun _ _=>trivial) hkb ?_
       clear hK K hWa hkb hb8
       refine anyS_forced 13 (by kernel_rfl) rfl rfl (fun wa hWa K hK=>?_)
       have hbl:=FA.bl hWa
       have q0:wa.cell? ⟨b9,0,none⟩=some (.string ⟨#[]⟩):=hbl.cell 0
       have q1:wa.cell? ⟨b9,1,none⟩=some (.string ⟨#[]⟩):=hbl.cell 1
       have f0:=hbl.free 0
       have f1:=hbl.free 1
       have hks:=FA.on (FA.drop FX.good (FA.sig FX.good hWa (.string I) (.string T)))
       go_simp
       refine hK _ _ (fun w'=>FA w p9 q (i+1) mm (RowO (.slice av 80 cv) All) D2 W2 w') (Tg.st_eq fun _ _=>trivial) hks ?_
       clear hK K hWa hbl q0 q1 f0 f1 hks
       refine anyS_calms [14] 0 rfl (fun _=>rfl) (Tg.st_eq fun _ _=>trivial) (by kernel_rfl) (by kernel_rfl) (by kernel_rfl) ?_
       simp [nth]
       try simp only [Act.put,zT9,zS9,zZ9]
       repeat (go_big_quiet_step (first | exact fun _=>rfl | rfl))
       refine wpQuiet_nil ?_
       refine anyS_done (by kernel_rfl) (fun wc hC=>?_)
       clear wa
       go_wp2_with fail
       go_meet
       exact ⟨b9,rfl,rfl,⟨D2,W2,hC⟩⟩
      ·go_simp
       have hkb:=FA.blk FX.good hWa nilS 58
       obtain ⟨b9,hb8⟩:∃ x,wa.heap.size=x:=⟨_,rfl⟩
       rw [hb8] at hkb ⊢
       refine hK _ _ (fun w'=>FA w p9 q i m (Pair2 (BlO b9 nilS 58) (FX (.slice av 80 cv) (.slice pa pn pc) m m2)) D W w') (Tg.st_eq fun _ _=>trivial) hkb ?_
       clear hK K hWa hkb hb8
       refine anyS_forced 8 (by kernel_rfl) rfl rfl (fun wa hWa K hK=>?_)
       have hF:=hA.out (Pair2 (BlO b9 nilS 58) (FX (.slice av 80 cv) (.slice pa pn pc) m m2)) wa (Pair2.good (BlO.good _ _ _) FX.good) hWa (hPp.out wa (hWa.drop FX.good))
       go_simp
       refine hF.mono ?_
       rintro e wb ⟨I,T,rfl,hkb⟩
       obtain ⟨D2,W2,hkb⟩:=hkb.out
       refine hK _ _ (fun w'=>FA w p9 q (i+1) mm (Pair2 (BlO b9 nilS 58) (FX (.slice av 80 cv) (.slice pa pn pc) m m2)) D2 W2 w') (Tg.st_eq fun _ _=>trivial) hkb ?_
       clear hK K hF hWa hkb
       refine anyS_calms [9,10,11] 2 rfl (fun _=>rfl) (Tg.st_eq fun _ _=>trivial) (by kernel_rfl) (by kernel_rfl) (by kernel_rfl) ?_
       simp [nth]
       try simp only [Act.put,zT9,zS9,zZ9]
       repeat (go_big_quiet_step (first | exact fun _=>rfl | rfl))
       refine wpQuiet_nil ?_
       refine anyS_forced 13 (by kernel_rfl) rfl rfl (fun wa hWa K hK=>?_)
       have hbl:=FA.bl hWa
       have q0:wa.cell? ⟨b9,0,none⟩=some (.string ⟨#[]⟩):=hbl.cell 0
       have q1:wa.cell? ⟨b9,1,none⟩=some (.string ⟨#[]⟩):=hbl.cell 1
       have f0:=hbl.free 0
       have f1:=hbl.free 1
       have hks:=FA.on (FA.drop FX.good (FA.sig FX.good hWa (.string I) (.string T)))
       go_simp
       refine hK _ _ (fun w'=>FA w p9 q (i+1) mm (RowO (.slice av 80 cv) All) D2 W2 w') (Tg.st_eq fun _ _=>trivial) hks ?_
       clear hK K hWa hbl q0 q1 f0 f1 hks
       refine anyS_calms [14] 0 rfl (fun _=>rfl) (Tg.st_eq fun _ _=>trivial) (by kernel_rfl) (by kernel_rfl) (by kernel_rfl) ?_
       simp [nth]
       try simp only [Act.put,zT9,zS9,zZ9]
       repeat (go_big_quiet_step (first | exact fun _=>rfl | rfl))
       refine wpQuiet_nil ?_
       refine anyS_done (by kernel_rfl) (fun wc hC=>?_)
       clear wa
       go_wp2_with fail
       go_meet
       exact ⟨b9,rfl,rfl,⟨D2,W2,hC⟩⟩
     ·go_simp
      have hkb:=FA.blk FX.good hWa.1 nilS 58
      have hqa:=hWa.2.here (bel_alloc wa (.cells nilS.toArray 58))
      obtain ⟨b9,hb8⟩:∃ x,wa.heap.size=x:=⟨_,rfl⟩
      rw [hb8] at hkb ⊢
      refine hK _ _ (fun w'=>FA w p9 q i m (Pair2 (BlO b9 nilS 58) (FX (.slice av 80 cv) (.slice pa pn pc) m m2)) D W w'/\QKey w' kb sLg 2 0) (Tg.st_eq fun _ _=>trivial) ⟨hkb,hqa⟩ ?_
      clear hK K hWa hkb hb8 hqa
      refine anyS_forced 6 (by kernel_rfl) rfl rfl (fun wa hWa K hK=>?_)
      have hF:=hN.out kb wa (hWa.1.drop FX.good) hWa.2
      go_simp
      refine hF.mono ?_
      rintro e wb ⟨rfl,hb⟩
      have hkq:FA w p9 q i m (Pair2 (BlO b9 nilS 58) (FX (.slice av 80 cv) (.slice pa pn pc) m m2)) D W wb:=hWa.1.below (Pair2.good (BlO.good _ _ _) FX.good) hb
      refine hK _ _ (fun w'=>FA w p9 q i m (Pair2 (BlO b9 nilS 58) (FX (.slice av 80 cv) (.slice pa pn pc) m m2)) D W w') (Tg.st_eq fun _ _=>trivial) hkq ?_
      clear hK K hF hb hWa hkq
      refine anyS_forced 8 (by kernel_rfl) rfl rfl (fun wa hWa K hK=>?_)
      have hF:=hA.out (Pair2 (BlO b9 nilS 58) (FX (.slice av 80 cv) (.slice pa pn pc) m m2)) wa (Pair2.good (BlO.good _ _ _) FX.good) hWa (hPp.out wa (hWa.drop FX.good))
      go_simp
      refine hF.mono ?_
      rintro e wb ⟨I,T,rfl,hkb⟩
      obtain ⟨D2,W2,hkb⟩:=hkb.out
      refine hK _ _ (fun w'=>FA w p9 q (i+1) mm (Pair2 (BlO b9 nilS 58) (FX (.slice av 80 cv) (.slice pa pn pc) m m2)) D2 W2 w') (Tg.st_eq fun _ _=>trivial) hkb ?_
      clear hK K hF hWa hkb
      refine anyS_calms [9,10,11] 2 rfl (fun _=>rfl) (Tg.st_eq fun _ _=>trivial) (by kernel_rfl) (by kernel_rfl) (by kernel_rfl) ?_
      simp [nth]
      try simp only [Act.put,zT9,zS9,zZ9]
      repeat (go_big_quiet_step (first | exact fun _=>rfl | rfl))
      refine wpQuiet_nil ?_
      refine anyS_forced 13 (by kernel_rfl) rfl rfl (fun wa hWa K hK=>?_)
      have hbl:=FA.bl hWa
      have q0:wa.cell? ⟨b9,0,none⟩=some (.string ⟨#[]⟩):=hbl.cell 0
      have q1:wa.cell? ⟨b9,1,none⟩=some (.string ⟨#[]⟩):=hbl.cell 1
      have f0:=hbl.free 0
      have f1:=hbl.free 1
      have hks:=FA.on (FA.drop FX.good (FA.sig FX.good hWa (.string I) (.string T)))
      go_simp
      refine hK _ _ (fun w'=>FA w p9 q (i+1) mm (RowO (.slice av 80 cv) All) D2 W2 w') (Tg.st_eq fun _ _=>trivial) hks ?_
      clear hK K hWa hbl q0 q1 f0 f1 hks
      refine anyS_calms [14] 0 rfl (fun _=>rfl) (Tg.st_eq fun _ _=>trivial) (by kernel_rfl) (by kernel_rfl) (by kernel_rfl) ?_
      simp [nth]
      try simp only [Act.put,zT9,zS9,zZ9]
      repeat (go_big_quiet_step (first | exact fun _=>rfl | rfl))
      refine wpQuiet_nil ?_
      refine anyS_done (by kernel_rfl) (fun wc hC=>?_)
      clear wa
      go_wp2_with fail
      go_meet
      exact ⟨b9,rfl,rfl,⟨D2,W2,hC⟩⟩
    ·go_simp
     have hkb:=FA.blk FX.good hWa nilS 58
     obtain ⟨b9,hb8⟩:∃ x,wa.heap.size=x:=⟨_,rfl⟩
     rw [hb8] at hkb ⊢
     refine hK _ _ (fun w'=>FA w p9 q i m (Pair2 (BlO b9 nilS 58) (FX (.slice av 80 cv) (.slice pa pn pc) m m2)) D W w') (Tg.st_eq fun _ _=>trivial) hkb ?_
     clear hK K hWa hkb hb8
     refine anyS_forced 1 (by kernel_rfl) rfl rfl (fun wa hWa K hK=>?_)
     have hF:=log_any wa
     go_simp
     refine hF.mono ?_
     rintro e wb ⟨rfl,hq,hb⟩
     obtain ⟨kb,hkb⟩:∃ x,wa.heap.size=x:=⟨_,rfl⟩
     rw [hkb] at hq ⊢
     have hkq:FA w p9 q i m (Pair2 (BlO b9 nilS 58) (FX (.slice av 80 cv) (.slice pa pn pc) m m2)) D W wb:=hWa.below (Pair2.good (BlO.good _ _ _) FX.good) hb
     refine hK _ _ (fun w'=>FA w p9 q i m (Pair2 (BlO b9 nilS 58) (FX (.slice av 80 cv) (.slice pa pn pc) m m2)) D W w'/\QKey w' kb sLg 2 0) (Tg.st_eq fun _ _=>trivial) ⟨hkq,hq⟩ ?_
     clear hK K hF hb hkb hWa hkq hq
     refine anyS_forced 6 (by kernel_rfl) rfl rfl (fun wa hWa K hK=>?_)
     have hF:=hN.out kb wa (hWa.1.drop FX.good) hWa.2
     go_simp
     refine hF.mono ?_
     rintro e wb ⟨rfl,hb⟩
     have hkq:FA w p9 q i m (Pair2 (BlO b9 nilS 58) (FX (.slice av 80 cv) (.slice pa pn pc) m m2)) D W wb:=hWa.1.below (Pair2.good (BlO.good _ _ _) FX.good) hb
     refine hK _ _ (fun w'=>FA w p9 q i m (Pair2 (BlO b9 nilS 58) (FX (.slice av 80 cv) (.slice pa pn pc) m m2)) D W w') (Tg.st_eq fun _ _=>trivial) hkq ?_
     clear hK K hF hb hWa hkq
     refine anyS_forced 8 (by kernel_rfl) rfl rfl (fun wa hWa K hK=>?_)
     have hF:=hA.out (Pair2 (BlO b9 nilS 58) (FX (.slice av 80 cv) (.slice pa pn pc) m m2)) wa (Pair2.good (BlO.good _ _ _) FX.good) hWa (hPp.out wa (hWa.drop FX.good))
     go_simp
     refine hF.mono ?_
     rintro e wb ⟨I,T,rfl,hkb⟩
     obtain ⟨D2,W2,hkb⟩:=hkb.out
     refine hK _ _ (fun w'=>FA w p9 q (i+1) mm (Pair2 (BlO b9 nilS 58) (FX (.slice av 80 cv) (.slice pa pn pc) m m2)) D2 W2 w') (Tg.st_eq fun _ _=>trivial) hkb ?_
     clear hK K hF hWa hkb
     refine anyS_calms [9,10,11] 2 rfl (fun _=>rfl) (Tg.st_eq fun _ _=>trivial) (by kernel_rfl) (by kernel_rfl) (by kernel_rfl) ?_
     simp [nth]
     try simp only [Act.put,zT9,zS9,zZ9]
     repeat (go_big_quiet_step (first | exact fun _=>rfl | rfl))
     refine wpQuiet_nil ?_
     refine anyS_forced 13 (by kernel_rfl) rfl rfl (fun wa hWa K hK=>?_)
     have hbl:=FA.bl hWa
     have q0:wa.cell? ⟨b9,0,none⟩=some (.string ⟨#[]⟩):=hbl.cell 0
     have q1:wa.cell? ⟨b9,1,none⟩=some (.string ⟨#[]⟩):=hbl.cell 1
     have f0:=hbl.free 0
     have f1:=hbl.free 1
     have hks:=FA.on (FA.drop FX.good (FA.sig FX.good hWa (.string I) (.string T)))
     go_simp
     refine hK _ _ (fun w'=>FA w p9 q (i+1) mm (RowO (.slice av 80 cv) All) D2 W2 w') (Tg.st_eq fun _ _=>trivial) hks ?_
     clear hK K hWa hbl q0 q1 f0 f1 hks
     refine anyS_calms [14] 0 rfl (fun _=>rfl) (Tg.st_eq fun _ _=>trivial) (by kernel_rfl) (by kernel_rfl) (by kernel_rfl) ?_
     simp [nth]
     try simp only [Act.put,zT9,zS9,zZ9]
     repeat (go_big_quiet_step (first | exact fun _=>rfl | rfl))
     refine wpQuiet_nil ?_
     refine anyS_done (by kernel_rfl) (fun wc hC=>?_)
     clear wa
     go_wp2_with fail
     go_meet
     exact ⟨b9,rfl,rfl,⟨D2,W2,hC⟩⟩
   case rest=>
    obtain ⟨b9,rfl,rfl,hcut⟩:=hcut
    clear hK5 hN hA hPp
    obtain ⟨D2,W2,hK6⟩:=hcut.out
    clear hcut
    have hLs:=f_last (RowO.good _ _) hK6
    rw [hpb.out] at hLs
    have hmm80:mm<=80:=hK6.s.le
    replace hK6:=Box.mk hK6
    have hRt0:Box (∀ w1,FA w p9 q (i+1) mm (RowO (.slice av 80 cv) All) D2 W2 w1->Calls Tryz.prog 28 #[.slice av mm cv] w1 fun e w'=>e=.returned (.string (rootL (All.take mm)))/\Below w1.heap.size w1 w'):=⟨fun w1 hk1=>by
     obtain ⟨a,cc,e,hP⟩:=hk1.row
     cases e
     exact rroot_any mm (All.take mm) av cv w1 (hP.take hmm80) (fun x hx=>by rw [take_32 All_32 mm x hx]; omega)⟩
    obtain ⟨R,hR⟩:∃ R,rootL (All.take mm)=R:=⟨_,rfl⟩
    rw [hR] at hLs hRt0
    clear hR
    have hq4:q=0∨q=1∨q=2∨q=3:=by omega
    have hpn2:=hEm.out
    clear hEm
    rcases hq4 with hq0 | hq0 | hq0 | hq0
    ·have hrem2:((hv:Int)).tmod 4=0:=by rw [hrem,hq0]; rfl
     rw [hq0] at hpn2
     replace hpn2:(i<1/\E=0/\mm=m2)∨(¬ i<1/\E=8/\mm=m):=hpn2
     clear hrem hq0
     rcases hpn2 with ⟨h1,rfl,rfl⟩ | ⟨h1,rfl,rfl⟩
     ·go_wp2_with fail
      refine hLs.mono ?_
      clear hLs hK6
      rintro e w7 ⟨rfl,hK7⟩
      have hRt:=hRt0.out w7 hK7.out
      clear hRt0
      go_wp2_with fail
      refine hRt.mono ?_
      clear hRt
      rintro e w8 ⟨rfl,hb8⟩
      have hK8:=Box.mk (hK7.out.below (RowO.good _ _) hb8)
      clear hK7 hb8
      go_wp2_with fail
      exact ⟨⟨i+1,mm,by omega,by go_num,rfl,⟨_,_,hK8.out⟩⟩,by simp [intOf]; omega⟩
     ·go_wp2_with fail
      refine hLs.mono ?_
      clear hLs hK6
      rintro e w7 ⟨rfl,hK7⟩
      have hRt:=hRt0.out w7 hK7.out
      clear hRt0
      go_wp2_with fail
      refine hRt.mono ?_
      clear hRt
      rintro e w8 ⟨rfl,hb8⟩
      have hK8:=Box.mk (hK7.out.below (RowO.good _ _) hb8)
      clear hK7 hb8
      go_wp2_with fail
      exact ⟨⟨i+1,mm,by omega,by go_num,rfl,⟨_,_,hK8.out⟩⟩,by simp [intOf]; omega⟩
    ·have hrem2:((hv:Int)).tmod 4=1:=by rw [hrem,hq0]; rfl
     rw [hq0] at hpn2
     replace hpn2:(i<2/\E=0/\mm=m2)∨(¬ i<2/\E=8/\mm=m):=hpn2
     clear hrem hq0
     rcases hpn2 with ⟨h1,rfl,rfl⟩ | ⟨h1,rfl,rfl⟩
     ·go_wp2_with fail
      refine hLs.mono ?_
      clear hLs hK6
      rintro e w7 ⟨rfl,hK7⟩
      have hRt:=hRt0.out w7 hK7.out
      clear hRt0
      go_wp2_with fail
      refine hRt.mono ?_
      clear hRt
      rintro e w8 ⟨rfl,hb8⟩
      have hK8:=Box.mk (hK7.out.below (RowO.good _ _) hb8)
      clear hK7 hb8
      go_wp2_with fail
      exact ⟨⟨i+1,mm,by omega,by go_num,rfl,⟨_,_,hK8.out⟩⟩,by simp [intOf]; omega⟩
     ·go_wp2_with fail
      refine hLs.mono ?_
      clear hLs hK6
      rintro e w7 ⟨rfl,hK7⟩
      have hRt:=hRt0.out w7 hK7.out
      clear hRt0
      go_wp2_with fail
      refine hRt.mono ?_
      clear hRt
      rintro e w8 ⟨rfl,hb8⟩
      have hK8:=Box.mk (hK7.out.below (RowO.good _ _) hb8)
      clear hK7 hb8
      go_wp2_with fail
      exact ⟨⟨i+1,mm,by omega,by go_num,rfl,⟨_,_,hK8.out⟩⟩,by simp [intOf]; omega⟩
    ·have hrem2:((hv:Int)).tmod 4=2:=by rw [hrem,hq0]; rfl
     rw [hq0] at hpn2
     replace hpn2:(i<4/\E=0/\mm=m2)∨(¬ i<4/\E=8/\mm=m):=hpn2
     clear hrem hq0
     rcases hpn2 with ⟨h1,rfl,rfl⟩ | ⟨h1,rfl,rfl⟩
     ·go_wp2_with fail
      refine hLs.mono ?_
      clear hLs hK6
      rintro e w7 ⟨rfl,hK7⟩
      have hRt:=hRt0.out w7 hK7.out
      clear hRt0
      go_wp2_with fail
      refine hRt.mono ?_
      clear hRt
      rintro e w8 ⟨rfl,hb8⟩
      have hK8:=Box.mk (hK7.out.below (RowO.good _ _) hb8)
      clear hK7 hb8
      go_wp2_with fail
      exact ⟨⟨i+1,mm,by omega,by go_num,rfl,⟨_,_,hK8.out⟩⟩,by simp [intOf]; omega⟩
     ·go_wp2_with fail
      refine hLs.mono ?_
      clear hLs hK6
      rintro e w7 ⟨rfl,hK7⟩
      have hRt:=hRt0.out w7 hK7.out
      clear hRt0
      go_wp2_with fail
      refine hRt.mono ?_
      clear hRt
      rintro e w8 ⟨rfl,hb8⟩
      have hK8:=Box.mk (hK7.out.below (RowO.good _ _) hb8)
      clear hK7 hb8
      go_wp2_with fail
      exact ⟨⟨i+1,mm,by omega,by go_num,rfl,⟨_,_,hK8.out⟩⟩,by simp [intOf]; omega⟩
    ·have hrem2:((hv:Int)).tmod 4=3:=by rw [hrem,hq0]; rfl
     rw [hq0] at hpn2
     replace hpn2:(i<8/\E=0/\mm=m2)∨(¬ i<8/\E=8/\mm=m):=hpn2
     clear hrem hq0
     rcases hpn2 with ⟨h1,rfl,rfl⟩ | ⟨h1,rfl,rfl⟩
     ·go_wp2_with fail
      refine hLs.mono ?_
      clear hLs hK6
      rintro e w7 ⟨rfl,hK7⟩
      have hRt:=hRt0.out w7 hK7.out
      clear hRt0
      go_wp2_with fail
      refine hRt.mono ?_
      clear hRt
      rintro e w8 ⟨rfl,hb8⟩
      have hK8:=Box.mk (hK7.out.below (RowO.good _ _) hb8)
      clear hK7 hb8
      go_wp2_with fail
      exact ⟨⟨i+1,mm,by omega,by go_num,rfl,⟨_,_,hK8.out⟩⟩,by simp [intOf]; omega⟩
     ·go_wp2_with fail
      refine hLs.mono ?_
      clear hLs hK6
      rintro e w7 ⟨rfl,hK7⟩
      have hRt:=hRt0.out w7 hK7.out
      clear hRt0
      go_wp2_with fail
      refine hRt.mono ?_
      clear hRt
      rintro e w8 ⟨rfl,hb8⟩
      have hK8:=Box.mk (hK7.out.below (RowO.good _ _) hb8)
      clear hK7 hb8
      go_wp2_with fail
      exact ⟨⟨i+1,mm,by omega,by go_num,rfl,⟨_,_,hK8.out⟩⟩,by simp [intOf]; omega⟩
  ·have hiM:i=M1:=by omega
   obtain ⟨D,W,hK⟩:=hK.out
   have hBf:Box (Below w.heap.size w wr):=⟨hK.k.k⟩
   subst hiM
   clear hK hlt
   go_wp2_with fail
   go_ret
   exact ⟨rfl,hBf.out⟩
end Go.Proofs.YthpfpkikmaiddaaGreatDoor.Wt
