/- - -/
import Derived.Test.YthpfpkikmaiddaaGreatDoorZwf
import Derived.Test.YthpfpkikmaiddaaGreatDoorZky
set_option linter.all false
set_option maxHeartbeats 3200000
set_option maxRecDepth 100000
namespace Go.Proofs.YthpfpkikmaiddaaGreatDoor.Wt
open Go Go.RowKit Go.Proofs.YthpfpkikmaiddaaGreatDoor.Pk Go.Proofs.YthpfpkikmaiddaaGreatDoor.Nt Go.Proofs.YthpfpkikmaiddaaGreatDoor.Tg
def hsB (same:Nat) (own:UInt8) (i:Nat):ByteArray:=if same<=i then ⟨#[UInt8.ofNat i,own]⟩ else ⟨#[UInt8.ofNat i]⟩
def hsL (n same:Nat) (own:UInt8):List ByteArray:=(List.range n).map fun i=>leafH (hsB same own i)
theorem hsL_len (n same:Nat) (own:UInt8):(hsL n same own).length=n:=by simp [hsL]
theorem hsL_succ (n same:Nat) (own:UInt8):hsL (n+1) same own=hsL n same own++[leafH (hsB same own n)]:=by simp [hsL,List.range_succ]
structure HsAt (w0:World) (same:Nat) (own:UInt8) (i:Nat) (v:Value) (w:World):Prop where
 row:TxR w0.heap.size w v (hsL i same own)
 bel:Below w0.heap.size w0 w
theorem HsAt.here {w0 w w':World} {same:Nat} {own:UInt8} {i:Nat} {v:Value} (h:HsAt w0 same own i v w) (hb:Below w.heap.size w w'):HsAt w0 same own i v w':=⟨h.row.here hb,mono_bel h.bel hb (Nat.le_refl _)⟩
theorem own_one (w:World) (x:UInt8):Pk.Own (w.alloc (.cells #[.int .u8 (x.toNat:Int)] 5)) (.slice (some ⟨w.heap.size,0,none⟩) 1 1) [x]:=
 ⟨rfl,.inr ⟨w.heap.size,1,#[.int .u8 (x.toNat:Int)],rfl,Nat.zero_le _,Pk.Blk.new w [.int .u8 (x.toNat:Int)] _,Nat.le_refl _,by decide,rfl,rfl⟩⟩
theorem history_any (n same:Nat) (own:UInt8) (w:World) (hn:n<=200) (hs:same<=9223372036854775807) :
  Calls Tryz.prog 22 #[.int .i64 (n:Int),.int .i64 (same:Int),.int .u8 (own.toNat:Int)] w fun e w'=>∃ v,e=.returned v/\TxR w.heap.size w' v (hsL n same own)/\Below w.heap.size w w':=by
 have hS0:Box (HsAt w same own 0 (.slice none 0 0) w):=⟨⟨TxR.nil _ _,Below.refl _ _⟩⟩
 go_enter Tryz.func22,Tryz.ntmps22
 go_wp2_with fail
 go_loopw [7,11] (fun v7 v11 wr=>∃ i:Nat,i<=n/\v11=.int .i64 (i:Int)/\Box (HsAt w same own i v7 wr)) (fun _ v11 _=>n-(intOf v11).toNat)
 case atStart=>exact ⟨0,by omega,rfl,hS0⟩
 case round=>
  clear hS0
  obtain ⟨i,hi,rfl,hA⟩:=hrel
  by_cases hlt:i<n
  ·have h8:(UInt8.ofNat i).toNat=i:=by rw [UInt8.toNat_ofNat']; omega
   have ho1:=own_one wr (UInt8.ofNat i)
   rw [h8] at ho1
   have hyz:=leafH_size (hsB same own i)
   by_cases hsm:same<=i
   ·have hsm2:(same:Int)<=(i:Int):=by omega
    have ho2:Pk.Own ((wr.alloc (.cells #[.int .u8 (i:Int)] 5)).alloc (.cells #[.int .u8 (own.toNat:Int)] 5)) (.slice (some ⟨wr.heap.size,0,none⟩) 1 1) [UInt8.ofNat i]:=ho1.kept fun k hk=>by
     cases hk
     exact (bel_alloc _ _).block _ (by simp)
    have hn2:∀ j,j<[own].length->((wr.alloc (.cells #[.int .u8 (i:Int)] 5)).alloc (.cells #[.int .u8 (own.toNat:Int)] 5)).cell? ⟨(wr.alloc (.cells #[.int .u8 (i:Int)] 5)).heap.size,j,none⟩=([own].map Pk.yc)[j]?:=fun j hj=>by
     obtain rfl:j=0:=by simpa using hj
     exact (Pk.Blk.new (wr.alloc (.cells #[.int .u8 (i:Int)] 5)) [.int .u8 (own.toNat:Int)] _).cell 0
    have hy:=Box.mk (show leafH (hsB same own i)=leafH ⟨#[UInt8.ofNat i,own]⟩ by unfold hsB; rw [if_pos hsm])
    obtain ⟨y,hye⟩:∃ y,leafH ⟨#[UInt8.ofNat i,own]⟩=y:=⟨_,rfl⟩
    have hLf0:=Box.mk (fun w1=>rleaf_any ⟨#[UInt8.ofNat i,own]⟩ w1 (by show 2<=_; decide))
    rw [hye] at hLf0 hy
    clear hye ho1 h8 hyz
    go_wp2_with (at_builtin; refine Pk.wpList_pushB rfl (.tmp 20) (.tmp 22) rfl _ [UInt8.ofNat i] rfl ho2 (wr.heap.size+1) 1 [own] rfl (by simpa using hn2) (by simp) ?_; intro vo w2 hp; obtain ⟨ao,co,hvo⟩:=hp.own.shape; have hcv0:=Pk.own_text hp.own; have hbw:=((bel_alloc wr (.cells #[.int .u8 (i:Int)] 5)).trans ((bel_alloc (wr.alloc (.cells #[.int .u8 (i:Int)] 5)) (.cells #[.int .u8 (own.toNat:Int)] 5)).mono (by simp))).trans (hp.chg.below (by simp; omega) fun k hk=>(by cases hk; exact Nat.le_refl _)); have hA2:=Box.mk (hA.out.here hbw); have hLf:=hLf0.out w2; subst hvo; have hcv:(convert 23 9 (.slice ao 2 co)).run Tryz.prog w2=.ok (.string ⟨#[UInt8.ofNat i,own]⟩) w2:=hcv0; clear hcv0 hp ho2 hn2 hbw hLf0 hA)
    refine hLf.mono ?_
    clear hLf hcv
    rintro e w3 ⟨rfl,hb3⟩
    have hA3:=Box.mk (hA2.out.here hb3)
    clear hb3 hA2
    obtain ⟨av,cv,hv⟩:=hA3.out.row.shape
    rw [hsL_len] at hv
    subst hv
    have hrow:=hA3.out.row.here (bel_alloc w3 (.cells #[.string y] 9))
    have hlen:=Box.mk (hsL_len i same own)
    have hbel:=Box.mk (mono_bel hA3.out.bel (bel_alloc w3 (.cells #[.string y] 9)) (Nat.le_refl _))
    go_wp2_with (at_builtin; refine wpList_pushT rfl (.tmp 24) (.tmp 28) rfl w.heap.size _ (hsL i same own) [y] rfl hrow (by have:=hbel.out.size; simpa using this) (some ⟨w3.heap.size,0,none⟩) 1 1 rfl rfl (parts_new w3 [y] 9) (by rw [hlen.out]; omega) ?_)
    rintro v4 w4 hp
    have hA4:Box (HsAt w same own (i+1) v4 w4):=⟨⟨by rw [hsL_succ,hy.out]; exact hp.row,hp.bel hbel.out hrow⟩⟩
    clear hp hrow hA3 hbel
    go_wp2_with fail
    exact ⟨⟨i+1,by omega,by go_num,hA4⟩,by simp [intOf]; omega⟩
   ·have hsm2:¬ (same:Int)<=(i:Int):=by omega
    have hcv:=Pk.own_text ho1
    have hy:=Box.mk (show leafH (hsB same own i)=leafH ⟨#[UInt8.ofNat i]⟩ by unfold hsB; rw [if_neg hsm])
    obtain ⟨y,hye⟩:∃ y,leafH ⟨#[UInt8.ofNat i]⟩=y:=⟨_,rfl⟩
    have hLf:=rleaf_any ⟨#[UInt8.ofNat i]⟩ (wr.alloc (.cells #[.int .u8 (i:Int)] 5)) (by show 1<=_; decide)
    rw [hye] at hLf hy
    have hA2:=Box.mk (hA.out.here (bel_alloc wr (.cells #[.int .u8 (i:Int)] 5)))
    clear hye ho1 h8 hyz hA
    go_wp2_with fail
    refine hLf.mono ?_
    clear hLf hcv
    rintro e w3 ⟨rfl,hb3⟩
    have hA3:=Box.mk (hA2.out.here hb3)
    clear hb3 hA2
    obtain ⟨av,cv,hv⟩:=hA3.out.row.shape
    rw [hsL_len] at hv
    subst hv
    have hrow:=hA3.out.row.here (bel_alloc w3 (.cells #[.string y] 9))
    have hlen:=Box.mk (hsL_len i same own)
    have hbel:=Box.mk (mono_bel hA3.out.bel (bel_alloc w3 (.cells #[.string y] 9)) (Nat.le_refl _))
    go_wp2_with (at_builtin; refine wpList_pushT rfl (.tmp 24) (.tmp 28) rfl w.heap.size _ (hsL i same own) [y] rfl hrow (by have:=hbel.out.size; simpa using this) (some ⟨w3.heap.size,0,none⟩) 1 1 rfl rfl (parts_new w3 [y] 9) (by rw [hlen.out]; omega) ?_)
    rintro v4 w4 hp
    have hA4:Box (HsAt w same own (i+1) v4 w4):=⟨⟨by rw [hsL_succ,hy.out]; exact hp.row,hp.bel hbel.out hrow⟩⟩
    clear hp hrow hA3 hbel
    go_wp2_with fail
    exact ⟨⟨i+1,by omega,by go_num,hA4⟩,by simp [intOf]; omega⟩
  ·obtain rfl:i=n:=by omega
   obtain ⟨a,c,rfl⟩:=hA.out.row.shape
   go_wp2_with fail
   go_ret
   exact ⟨_,rfl,hA.out.row,hA.out.bel⟩
def sLg:ByteArray:=⟨#[108,111,103]⟩
theorem log_any (w:World):Calls Tryz.prog 26 #[] w fun e w'=>e=.returned (.pointer (some ⟨w.heap.size,0,none⟩))/\QKey w' w.heap.size sLg 2 0/\Below w.heap.size w w':=by
 have hN:=r6new_ok sLg 2 w (by decide) (by decide)
 unfold sLg at hN
 go_enter Tryz.func26,Tryz.ntmps26
 go_wp2_with fail
 refine hN.mono ?_
 clear hN
 rintro e w1 ⟨rfl,hq,hb⟩
 replace hq:=Box.mk hq
 replace hb:=Box.mk hb
 go_wp2_with fail
 go_ret
 exact ⟨rfl,⟨hq.out,by decide⟩,hb.out⟩
def ckH (o:ByteArray) (hs:List ByteArray):Ck:=⟨o,(hs.length:Int),rootL hs⟩
def ntH (s o:ByteArray) (hs:List ByteArray) (n:Nat):ByteArray:=⟨(byN (ckT (ckH o hs),[(keyID s 2,keyS s 2 n (ckT (ckH o hs)))])).toArray⟩
theorem gC_H {o:ByteArray} {hs:List ByteArray} (ho:gO o.data.toList=true) (hl:hs.length<=1024) (hr:(rootL hs).size=32):gC (ckH o hs)=true:=
 gC_iff.2 ⟨ho,by show (0:Int)<=(hs.length:Int); omega,by show (hs.length:Int)<=1024; omega,hr⟩
theorem root32 {hs:List ByteArray} (h:∀ x ∈ hs,x.size=32):(rootL hs).size=32:=by
 cases hs with
 | nil=>rw [rootL_nil]; exact noneH_size
 | cons x r=>
  cases r with
  | nil=>rw [rootL_one]; exact h x List.mem_cons_self
  | cons y r=>rw [rootL_cut _ (by simp)]; exact nodeH_size _ _
theorem gN_H (s:ByteArray) {o:ByteArray} {hs:List ByteArray} (n:Nat) (hg:gC (ckH o hs)=true):gN (ckT (ckH o hs),[(keyID s 2,keyS s 2 n (ckT (ckH o hs)))])=true:=by
 refine gN_iff.2 ⟨gT_ck hg,by simp,fun x hx=>?_⟩
 rw [List.mem_singleton.1 hx]
 have:=keyS_size s 2 n (ckT (ckH o hs))
 exact ⟨keyID_size _ _,by show 1<=(keyS s 2 n (ckT (ckH o hs))).size; omega,by show (keyS s 2 n (ckT (ckH o hs))).size<=1024; omega⟩
theorem ntH_size (s:ByteArray) {o:ByteArray} {hs:List ByteArray} (n:Nat) (hg:gC (ckH o hs)=true):(ntH s o hs n).size<=4000:=by
 obtain ⟨_,h2,h3⟩:=gN_iff.1 (gN_H s n hg)
 have h4:=sgL_len [(keyID s 2,keyS s 2 n (ckT (ckH o hs)))] fun x hx=>⟨(h3 x hx).1,(h3 x hx).2.2⟩
 have h5:(ckT (ckH o hs)).size<=1000:=ckT_le hg
 have h7:((ckT (ckH o hs)).data.toList++10::sgL [(keyID s 2,keyS s 2 n (ckT (ckH o hs)))]).length<=4000:=by
  rw [List.length_append,List.length_cons,Pk.data_len]
  simp only [List.length_singleton] at h4
  omega
 unfold ntH
 show (List.toArray _).size<=_
 rw [List.size_toArray]
 exact h7
theorem noted_any {w0:World} (hE:Env w0) (kb:Nat) (s o:ByteArray) (hs:List ByteArray) (a:Option Addr) (n c N:Nat) (w:World) (hw:Below w0.heap.size w0 w) (hq:QKey w kb s 2 0) (hsz:s.size<=140737488351232) (ho:gO o.data.toList=true) (hP:PA w a n c hs) (hn:n<=1024) (h32:∀ x ∈ hs,x.size=32) :
  Calls Tryz.prog 25 #[.pointer (some ⟨kb,0,none⟩),.string o,.slice a n c,.int .i64 (N:Int)] w fun e w'=>e=.returned (.string (ntH s o hs (N % 4)))/\Below w.heap.size w w':=by
 have hlen:hs.length=n:=hP.len
 have hF:Fit hs:=fun x hx=>by rw [h32 x hx]; omega
 have hg:gC (ckH o hs)=true:=gC_H ho (by omega) (root32 h32)
 have hR:=rroot_any n hs a c w hP hF
 have hT:=Box.mk (fun w1 (hb:Below w.heap.size w w1)=>dtext_any (ckH o hs) w0.heap.size w1 (hE.nlAt (mono_bel hw hb (Nat.le_refl _))) (Nat.le_trans hw.size hb.size) (by have:=gO_size ho; show o.size<=_; omega) (by show (rootL hs).size<=_; rw [root32 h32]; omega))
 rw [txtV_yes hg] at hT
 unfold ckV at hT
 have hI:=Box.mk (fun w1 (hb:Below w.heap.size w w1)=>r6ID_any kb s 2 0 w1 (hq.here hb))
 have hA:=Box.mk (fun w1 (hb:Below w.heap.size w w1)=>r6at_any kb s (ckT (ckH o hs)) 2 0 (N % 4) w1 (hq.here hb) (by omega) hsz (by have:=ckT_le hg; omega))
 have hFm:=Box.mk (fun w1 aa (hv:Nt.SigsAt w1 (.slice aa 1 1) [(keyID s 2,keyS s 2 (N % 4) (ckT (ckH o hs)))])=>dformat_any (ckT (ckH o hs)) aa 1 1 _ w1 (by have:=ckT_le hg; omega) hv rfl (by decide))
 rw [fmV_yes (gN_H s (N % 4) hg)] at hFm
 have hsn:=Box.mk (fun w1=>sig_new w1 (keyID s 2,keyS s 2 (N % 4) (ckT (ckH o hs))))
 have hrem:((N:Int)).tmod 4=((N % 4:Nat):Int):=by rw [Int.tmod_eq_emod_of_nonneg (by omega)]; omega
 obtain ⟨NT,hNT⟩:∃ x,ntH s o hs (N % 4)=x:=⟨_,rfl⟩
 unfold ntH at hNT
 rw [hNT] at hFm
 rw [show ntH s o hs (N % 4)=NT from hNT]
 unfold ckH at hT hA hFm hsn
 rw [hlen] at hT hA hFm hsn
 simp only at hT
 obtain ⟨R,hRe⟩:∃ x,rootL hs=x:=⟨_,rfl⟩
 rw [hRe] at hR hT hA hFm hsn
 obtain ⟨T,hTe⟩:∃ x,ckT ⟨o,(n:Int),R⟩=x:=⟨_,rfl⟩
 rw [hTe] at hT hA hFm hsn
 obtain ⟨M,hM⟩:∃ x,N % 4=x:=⟨_,rfl⟩
 rw [hM] at hA hFm hsn hrem
 obtain ⟨sg,hsg⟩:∃ x,keyS s 2 M T=x:=⟨_,rfl⟩
 obtain ⟨id,hid⟩:∃ x,keyID s 2=x:=⟨_,rfl⟩
 rw [hsg] at hA hFm hsn
 rw [hid] at hI hFm hsn
 clear hE hw hq hsz ho hP h32 hF hg hNT hRe hTe hM hsg hid hlen
 go_enter Tryz.func25,Tryz.ntmps25
 go_wp2_with fail
 refine hR.mono ?_
 clear hR
 rintro e w1 ⟨rfl,hb1⟩
 have hG:=hT.out w1 hb1
 replace hb1:=Box.mk hb1
 clear hT
 go_wp2_with fail
 refine hG.mono ?_
 clear hG
 rintro e w2 ⟨rfl,hb2⟩
 replace hb2:=Box.mk (mono_bel hb1.out hb2 (Nat.le_refl _))
 have hG:=hI.out w2 hb2.out
 clear hb1 hI
 go_wp2_with fail
 refine hG.mono ?_
 clear hG
 rintro e w3 ⟨rfl,hb3⟩
 replace hb3:=Box.mk (mono_bel hb2.out hb3 (Nat.le_refl _))
 have hG:=hA.out w3 hb3.out
 clear hb2 hA
 go_wp2_with fail
 refine hG.mono ?_
 clear hG
 rintro e w4 ⟨rfl,hb4⟩
 replace hb4:=Box.mk (mono_bel (mono_bel hb3.out hb4 (Nat.le_refl _)) (bel_alloc w4 (.cells #[.string id,.string sg] 58)) (Nat.le_refl _))
 have hG:=hFm.out _ _ (hsn.out w4)
 clear hb3 hFm hsn
 go_wp2_with fail
 refine hG.mono ?_
 clear hG
 rintro e w5 ⟨rfl,hb5⟩
 replace hb5:=Box.mk (mono_bel hb4.out hb5 (Nat.le_refl _))
 go_wp2_with fail
 go_ret
 exact ⟨rfl,hb5.out⟩
def sW1:ByteArray:=⟨#[119]⟩
def sO1:ByteArray:=⟨#[111]⟩
def cW (h:Nat):WCfg:=⟨keyID sLg 2,sO1,sW1,h⟩
theorem sO1_ok:gO sO1.data.toList=true:=by decide +kernel
theorem cW_ok {h:Nat} (hh:h<=4):(cW h).ok:=⟨keyID_size _ _,sO1_ok,hh,by show sW1.size<=_; decide⟩
theorem sd_noted {o:ByteArray} {hs:List ByteArray} {n:Nat} (hg:gC (ckH o hs)=true) (hn:n<4):sdV (ntH sLg o hs n) [keyID sLg 2] 1=(ckH o hs,0):=by
 have hN:=gN_H sLg n hg
 have hr:rdN (ntH sLg o hs n).data.toList=some (ckT (ckH o hs),[(keyID sLg 2,keyS sLg 2 n (ckT (ckH o hs)))]):=rdN_by hN
 obtain ⟨h1,h2,h3⟩:=rd_some hr
 have hp:pCk (rdT (ntH sLg o hs n)).data.toList=some (ckH o hs):=by
  rw [h1]
  show pCk (ckL (ckH o hs))=some (ckH o hs)
  exact pCk_by hg
 have hid:=keyID_size sLg 2
 have hchk:chkB [keyID sLg 2] 1=true:=(chkB_iff _ _).2 ⟨by decide,by simp,by simp,fun i hi=>by
  obtain rfl:i=0:=by simpa using hi
  simp [okAt,hid]⟩
 have hver:=ver_back sLg 2 n (ckT (ckH o hs)) (by decide) (by omega)
 have hen:enB [keyID sLg 2] 1 (rdT (ntH sLg o hs n)) (rdG (ntH sLg o hs n))=true:=by
  rw [h1,h2]
  unfold enB
  rw [hchk]
  simp [whoL,sgnB,hver]
 exact sdV_yes h3 hp hchk hen
structure WitS (b h:Nat) (c:WCfg) (D:Dev) (W:WitM):Prop where
 snd:Sound b h D W.C
 fall:D.fall=0
 now:WtK W.C.now
 ok:W.ok c
theorem cm_goes {b h:Nat} {D:Dev} {C:CellM} {ct:Ct} (hS:Sound b h D C) (hf:D.fall=0) (hnum:C.num<1000000) (hok:ct.ok) (hl:(bytesC ct).length<=64*(h-1)) :
  cmE b h D C ct=0/\PcGo b h D (cmD b h D C ct) C (cmC b h D C ct) ct:=by
 have hG:=(hS.now hok).goes hf hnum hl
 have e1:cmE b h D C ct=0:=hG.e
 have e3:cmC b h D C ct=commitC b h D { C with now:=ct }:=by unfold cmC; rw [if_pos e1]; rfl
 refine ⟨e1,?_⟩
 rw [e3]
 unfold cmD
 exact ⟨by rw [hG.c],by rw [hG.c],by rw [hG.c],hG.sound,hG.fall,hG.len⟩
theorem nxC_of {W:WitM} {c:WCfg} {k:Ck} (hn:WtK W.C.now) (hW:W.ok c) (hc:c.h<=4) (hg:gC k=true):nxC W k=wtC (Pk.beN k.n.toNat 4) k.r.data.toList (Pk.beN (W.u+1) 4)/\(nxC W k).ok/\(bytesC (nxC W k)).length<=66:=by
 have hr:=(gC_iff.1 hg).2.2.2
 have hp:=puts_of hn (Pk.beN k.n.toNat 4) k.r.data.toList (Pk.beN (W.u+1) 4) (by rw [Pk.beN_length]; omega) (by rw [Pk.data_len]; omega) (by rw [Pk.beN_length]; omega)
 have e:nxC W k=wtC (Pk.beN k.n.toNat 4) k.r.data.toList (Pk.beN (W.u+1) 4):=hp.all
 rw [e]
 exact ⟨rfl,wtC_ok _ _ _ (by rw [Pk.beN_length]; omega) (by rw [Pk.data_len]; omega) (by rw [Pk.beN_length]; omega),by rw [wtC_len,Pk.beN_length,Pk.beN_length,Pk.data_len]; omega⟩
section
variable {b h:Nat} {c:WCfg} {D:Dev} {W:WitM} {s:ByteArray} {ps:List ByteArray}
theorem WitS.ask (k:WitS b h c D W) (hc:c.ok) (hnum:W.C.num<999999) (h6:3<=h) (h0:asE0 c W s ps=0) :
  asE b h c D W s ps=0/\asI b h c D W s ps=keyID c.s c.h/\asT b h c D W s ps=keyS c.s c.h W.u (ckT (sdV s [c.l] 1).1)/\WitS b h c (asD b h c D W s ps) (asM b h c D W s ps) /\
   (asM b h c D W s ps).n=(sdV s [c.l] 1).1.n/\(asM b h c D W s ps).r=(sdV s [c.l] 1).1.r/\(asM b h c D W s ps).u=W.u+1/\(asM b h c D W s ps).C.num=W.C.num+1:=by
 obtain ⟨e0,er⟩:=asE0_zero h0
 obtain ⟨_,_,hg,_⟩:=sdV_some e0
 obtain ⟨_,hn,_,_,hu⟩:=rfE_zero er
 obtain ⟨hx,hok,hl⟩:=nxC_of k.now k.ok hc.h hg
 obtain ⟨g1,g2⟩:=cm_goes (b:=b) (h:=h) k.snd k.fall (by omega) hok (by omega)
 obtain ⟨a1,a2,a3,a4,a5⟩:=as_yes h0 g1
 have er:rmM b h D W (sdV s [c.l] 1).1={ W with C:=cmC b h D W.C (nxC W (sdV s [c.l] 1).1),n:=(sdV s [c.l] 1).1.n,r:=(sdV s [c.l] 1).1.r }:=by unfold rmM; rw [if_pos g1]
 rw [a4,a5,er]
 obtain ⟨q1,q2,q3,q4⟩:=gC_iff.1 hg
 refine ⟨a1,a2,a3,⟨g2.sound,g2.fall,?_,⟨q2,by show (sdV s [c.l] 1).1.n<=_; omega⟩,q4,?_⟩,rfl,rfl,rfl,g2.num⟩
 ·show WtK (cmC b h D W.C (nxC W (sdV s [c.l] 1).1)).now
  rw [g2.now,hx]
  exact .inr ⟨_,_,_,rfl⟩
 ·show W.u+1<=2 ^ c.h
  have:=k.ok.u
  omega
end
theorem new_witS {h0 n b h:Nat} (hn:n<=4096) (h2:2<=h) (hf:b+2*h<=n):WitS b h (cW h0) (Dev.new n) ⟨Pk.M0,0,noneH,0⟩:=
 ⟨Sound.new n b h hn h2 hf,rfl,.inl rfl,⟨by show (0:Int)<=0; decide,by show (0:Int)<=4294967295; decide⟩,noneH_size,Nat.zero_le _⟩
theorem wopen_new {w0 w:World} {bd:Nat} {X:Pk.Obj} (hE:Env w0) (gX:Pk.Good X) (c:WCfg) (hc:c.ok) (n b h:Nat) (hn:n<=4096) (h2:2<=h) (hf:b+2*h<=n) (hk:Kept w0 (Pair2 (DevO bd (Dev.new n)) X) w) :
  Calls Tryz.prog 21 #[.pointer (some ⟨bd,0,none⟩),.int .i64 (b:Int),.int .i64 (h:Int),wcfV c.s (c.h:Int) c.l c.o] w fun e w'=>∃ bl bc bk,e=.returned (.tuple #[.pointer (some ⟨bl,0,none⟩),.int .i64 0])/\Box (Kept w0 (Pair2 (WtX ⟨bd,bl,bc,bk⟩ b h c (Dev.new n) ⟨Pk.M0,0,noneH,0⟩) X) w'):=by
 have s0:=Sound.new n b h hn h2 hf
 have:=wopen_any (b:=b) (h:=h) (c:=c) (M:=Pk.M0) hE gX hk hc rfl h2 (by show b+2*h<=(List.replicate n zeroS).length; rw [List.length_replicate]; exact hf) s0.opens rfl rfl s0.ok
 have e1:rdR Pk.M0.now=⟨0,noneH,0⟩:=rfl
 have e2:rdK Pk.M0.now=true:=rfl
 rw [e1,e2] at this
 refine this.mono fun e w' h=>?_
 rcases h with ⟨_,bl,bc,bk,he,hk2⟩ | ⟨hf,_⟩
 ·have e3:skipN 0 0 c.h=0:=by unfold skipN; simp
  simp only [e3] at hk2
  exact ⟨bl,bc,bk,he,hk2⟩
 ·cases hf
end Go.Proofs.YthpfpkikmaiddaaGreatDoor.Wt
namespace Go.Proofs.YthpfpkikmaiddaaGreatDoor
open Go Go.RowKit
theorem con_own (l:List ByteArray) (m n:Nat) (hl:l.length=n) (hm:m<=n) :
  conE l m=0/\cosE m n (conL l m) (rootL (l.take m)) (rootL l)=0/\(∀ x,cosE m n (conL l m++[x]) (rootL (l.take m)) (rootL l)=11)/\(0<(conL l m).length->cosE m n ((conL l m).take ((conL l m).length-1)) (rootL (l.take m)) (rootL l)=11):=by
 have h0:conE l m=0:=by unfold conE; rw [if_pos ⟨by omega,by omega⟩]
 have hif:(0:Int)<=(m:Int)/\(m:Int)<=(n:Int):=⟨by omega,by omega⟩
 refine ⟨h0,?_⟩
 unfold cosE
 simp only [if_pos hif,Int.toNat_natCast]
 by_cases hz:m=0
 ·subst hz
  have hc:conL l ((0:Nat):Int)=[]:=by unfold conL; rw [if_neg (by omega)]
  rw [hc]
  unfold cosB
  by_cases hn:(0:Nat)=n
  ·obtain rfl:l=[]:=List.length_eq_zero_iff.1 (by omega)
   subst hn
   simp [errB]
  ·simp [hn,errB,rootL_nil]
 ·have hc:conL l (m:Int)=partL m l true:=by unfold conL; rw [if_pos ⟨by omega,by omega⟩,Int.toNat_natCast]
  rw [hc]
  obtain ⟨h1,h2⟩:=part_steps n l m true hl (by omega) hm
  unfold cosB
  by_cases hmn:m=n
  ·subst hmn
   rw [partL_all m l true hl.symm,List.take_of_length_le (by omega)]
   simp [errB]
  ·simp only [if_neg hmn,if_neg hz]
   refine ⟨by simp [h1,h2,errB],fun x=>by simp [h1,errB],fun h=>?_⟩
   have:¬ (List.take ((partL m l true).length-1) (partL m l true)).length=wants m n true:=by
    rw [List.length_take,Nat.min_eq_left (by omega),h1]; omega
   simp only [decide_eq_false (fun h=>this (And.left h))]
   rfl
end Go.Proofs.YthpfpkikmaiddaaGreatDoor
namespace Go.Proofs.YthpfpkikmaiddaaGreatDoor.Wt
open Go Go.RowKit Go.Proofs.YthpfpkikmaiddaaGreatDoor.Pk Go.Proofs.YthpfpkikmaiddaaGreatDoor.Nt Go.Proofs.YthpfpkikmaiddaaGreatDoor.Tg
def cfgN (n:Int):Int:=if 3<n/\n<=4 then 3 else n
theorem config_any (n:Int) (w:World):Calls Tryz.prog 20 #[.int .i64 n] w fun e w'=>e=.returned (wcfV sW1 (cfgN n) (keyID sLg 2) sO1)/\Below w.heap.size w w':=by
 have hL:=Box.mk (fun w1=>log_any w1)
 have hI:=Box.mk (fun kb w1 (hq:QKey w1 kb sLg 2 0)=>r6ID_any kb sLg 2 0 w1 hq)
 obtain ⟨id,hid⟩:∃ x,keyID sLg 2=x:=⟨_,rfl⟩
 rw [hid] at hI
 rw [hid]
 have hb0:=Box.mk (bel_alloc w (.cells #[.string ⟨#[]⟩,.int .i64 0,.string ⟨#[]⟩,.string ⟨#[]⟩] 49))
 have hblk:=Box.mk (Pk.Blk.new w [.string ⟨#[]⟩,.int .i64 0,.string ⟨#[]⟩,.string ⟨#[]⟩] 49)
 obtain ⟨bc,hbc⟩:∃ x,w.heap.size=x:=⟨_,rfl⟩
 obtain ⟨W1,hW1⟩:∃ x,w.alloc (.cells #[.string ⟨#[]⟩,.int .i64 0,.string ⟨#[]⟩,.string ⟨#[]⟩] 49)=x:=⟨_,rfl⟩
 have hb1:Box (Below w.heap.size w W1):=⟨hW1 ▸ hb0.out⟩
 have hblk1:Box (Pk.Blk W1 bc [.string ⟨#[]⟩,.int .i64 0,.string ⟨#[]⟩,.string ⟨#[]⟩] 49):=⟨by have:=hblk.out; rw [hbc] at this; exact hW1 ▸ this⟩
 have hbcB:=Box.mk hbc
 obtain ⟨N,hN⟩:∃ x,cfgN n=x:=⟨_,rfl⟩
 rw [hN]
 unfold cfgN at hN
 clear hid hb0 hblk
 unfold wcfV sW1 sO1
 have hfin:=Box.mk (fun (w3:World) (hk:Pk.Blk w3 bc [.string ⟨#[]⟩,.int .i64 0,.string ⟨#[]⟩,.string ⟨#[]⟩] 49) (hb:Below w.heap.size w w3)=>
  (show (((((w3.setCell ⟨bc,0,none⟩ (.string ⟨#[119]⟩)).setCell ⟨bc,1,none⟩ (.int .i64 N)).setCell ⟨bc,2,none⟩ (.string id)).setCell ⟨bc,3,none⟩ (.string ⟨#[111]⟩)).cell? ⟨bc,0,none⟩=some (.string ⟨#[119]⟩)/\((((w3.setCell ⟨bc,0,none⟩ (.string ⟨#[119]⟩)).setCell ⟨bc,1,none⟩ (.int .i64 N)).setCell ⟨bc,2,none⟩ (.string id)).setCell ⟨bc,3,none⟩ (.string ⟨#[111]⟩)).cell? ⟨bc,1,none⟩=some (.int .i64 N)/\((((w3.setCell ⟨bc,0,none⟩ (.string ⟨#[119]⟩)).setCell ⟨bc,1,none⟩ (.int .i64 N)).setCell ⟨bc,2,none⟩ (.string id)).setCell ⟨bc,3,none⟩ (.string ⟨#[111]⟩)).cell? ⟨bc,2,none⟩=some (.string id)/\((((w3.setCell ⟨bc,0,none⟩ (.string ⟨#[119]⟩)).setCell ⟨bc,1,none⟩ (.int .i64 N)).setCell ⟨bc,2,none⟩ (.string id)).setCell ⟨bc,3,none⟩ (.string ⟨#[111]⟩)).cell? ⟨bc,3,none⟩=some (.string ⟨#[111]⟩)/\Below w.heap.size w ((((w3.setCell ⟨bc,0,none⟩ (.string ⟨#[119]⟩)).setCell ⟨bc,1,none⟩ (.int .i64 N)).setCell ⟨bc,2,none⟩ (.string id)).setCell ⟨bc,3,none⟩ (.string ⟨#[111]⟩))) from by
   have k4:=(((hk.setCell 0 (.string ⟨#[119]⟩)).setCell 1 (.int .i64 N)).setCell 2 (.string id)).setCell 3 (.string ⟨#[111]⟩)
   have hl:w.heap.size<=bc:=Nat.le_of_eq hbcB.out
   exact ⟨k4.cell 0,k4.cell 1,k4.cell 2,k4.cell 3,(((hb.setCell (p:=⟨bc,0,none⟩) hl _).setCell (p:=⟨bc,1,none⟩) hl _).setCell (p:=⟨bc,2,none⟩) hl _).setCell (p:=⟨bc,3,none⟩) hl _⟩))
 have hcase:(3<n/\n<=4/\N=3)∨(3<n/\¬ n<=4/\N=n)∨(¬ 3<n/\N=n):=by
  by_cases h1:3<n
  ·by_cases h2:n<=4
   ·rw [if_pos ⟨h1,h2⟩] at hN; exact .inl ⟨h1,h2,hN.symm⟩
   ·rw [if_neg (fun h=>h2 h.2)] at hN; exact .inr (.inl ⟨h1,h2,hN.symm⟩)
  ·rw [if_neg (fun h=>h1 h.1)] at hN; exact .inr (.inr ⟨h1,hN.symm⟩)
 clear hN
 rcases hcase with ⟨h1,h2,rfl⟩ | ⟨h1,h2,rfl⟩ | ⟨h1,rfl⟩
 all_goals
  go_enter Tryz.func20,Tryz.ntmps20
  go_wp2_with fail
  refine (hL.out _).mono ?_
  clear hL
  rintro e w2 ⟨rfl,hq,hb2⟩
  have hG:=hI.out _ w2 hq
  have hblk2:=Box.mk ((hb2.block _ hblk1.out.lt).trans hblk1.out)
  replace hb2:=Box.mk (mono_bel hb1.out hb2 (Nat.le_refl _))
  clear hI hq
  go_wp2_with fail
  refine hG.mono ?_
  clear hG
  rintro e w3 ⟨rfl,hb3⟩
  have hk3:Pk.Blk w3 bc [.string ⟨#[]⟩,.int .i64 0,.string ⟨#[]⟩,.string ⟨#[]⟩] 49:=(hb3.block _ (Pk.Blk.lt (hblk2.out))).trans hblk2.out
  have q0:=hk3.cell 0
  have q1:=hk3.cell 1
  have q2:=hk3.cell 2
  have q3:=hk3.cell 3
  have f0:=hk3.free 0
  have f1:=hk3.free 1
  have f2:=hk3.free 2
  have f3:=hk3.free 3
  have hfz:=Box.mk (hfin.out w3 hk3 (mono_bel hb2.out hb3 (Nat.le_refl _)))
  clear hk3 hfin
  go_wp2_with fail
  obtain ⟨d0,d1,d2,d3,hbz⟩:=hfz.out
  refine bodyPost_ret (v:=.agg #[.string ⟨#[119]⟩,.int .i64 _,.string id,.string ⟨#[111]⟩]) (by simp [results,Tryz.results20,go_sem,d0,d1,d2,d3]; try rfl) rfl ⟨rfl,hbz⟩
end Go.Proofs.YthpfpkikmaiddaaGreatDoor.Wt
namespace Go.Proofs.YthpfpkikmaiddaaGreatDoor.Wt
open Go Go.RowKit Go.Proofs.YthpfpkikmaiddaaGreatDoor.Pk Go.Proofs.YthpfpkikmaiddaaGreatDoor.Nt Go.Proofs.YthpfpkikmaiddaaGreatDoor.Tg
theorem wtext_any (s:ByteArray) (w:World) (hs:s.size<=536870912):Calls Tryz.prog 52 #[.string s] w fun e w'=>e=.returned (.string (rdT s))/\Below w.heap.size w w':=by
 have hR:=dread_any s w hs
 unfold Nt.RdI at hR
 obtain ⟨T,hT⟩:∃ x,rdT s=x:=⟨_,rfl⟩
 obtain ⟨E,hE⟩:∃ x,rdE s=x:=⟨_,rfl⟩
 obtain ⟨g,hg⟩:∃ x,rdG s=x:=⟨_,rfl⟩
 rw [hT,hE,hg] at hR
 rw [hT]
 clear hT hE hg hs
 go_enter Tryz.func52,Tryz.ntmps52
 go_wp2_with fail
 refine hR.mono ?_
 clear hR
 rintro e w1 ⟨v,rfl,hr⟩
 obtain ⟨a,c,rfl⟩:=hr.row.shape
 have hb:=Box.mk (mono_bel hr.bel (bel_alloc w1 (.cells #[.string T,.slice a g.length c] 120)) (Nat.le_refl _))
 clear hr
 go_wp2_with fail
 go_ret
 exact ⟨rfl,hb.out⟩
def H3:List ByteArray:=hsL 3 3 0
def P2:List ByteArray:=conL H3 2
def sn1:ByteArray:=ntH sLg sO1 (H3.take 2) 0
def sn2:ByteArray:=ntH sLg sO1 (H3.take 1) 0
def sn3:ByteArray:=ntH sLg sO1 H3 1
theorem hsL_32 (n same:Nat) (own:UInt8):∀ x ∈ hsL n same own,x.size=32:=fun x hx=>by
 obtain ⟨i,_,rfl⟩:=List.mem_map.1 hx
 exact leafH_size _
theorem gC_hs {hs:List ByteArray} (h:∀ x ∈ hs,x.size=32) (hl:hs.length<=1024):gC (ckH sO1 hs)=true:=gC_H sO1_ok hl (root32 h)
theorem H3_32:∀ x ∈ H3,x.size=32:=hsL_32 3 3 0
theorem H3_len:H3.length=3:=hsL_len 3 3 0
theorem take_32 {l:List ByteArray} (h:∀ x ∈ l,x.size=32) (k:Nat):∀ x ∈ l.take k,x.size=32:=fun x hx=>h x (List.mem_of_mem_take hx)
theorem asE0_note {c:WCfg} {W:WitM} {hs:List ByteArray} {n:Nat} {ps:List ByteArray} (hcl:c.l=keyID sLg 2) (h:∀ x ∈ hs,x.size=32) (hl:hs.length<=1024) (hn:n<4):asE0 c W (ntH sLg sO1 hs n) ps=rfE c W (ckH sO1 hs) ps/\(sdV (ntH sLg sO1 hs n) [c.l] 1).1=ckH sO1 hs:=by
 have hg:=gC_hs h hl
 have e:=sd_noted hg hn
 unfold asE0
 rw [hcl,e]
 exact ⟨if_neg (by simp),rfl⟩
section
variable {D:Dev} {W:WitM}
def w00:WitM:=⟨Pk.M0,0,noneH,0⟩
theorem e_one:asE0 (cW 2) w00 sn1 []=0:=by
 have hl:(H3.take 2).length=2:=by rw [List.length_take,H3_len]; rfl
 rw [show sn1=ntH sLg sO1 (H3.take 2) 0 from rfl,(asE0_note rfl (take_32 H3_32 2) (by omega) (by decide)).1]
 have hc:cosE 0 ((H3.take 2).length:Int) [] noneH (rootL (H3.take 2))=0:=by
  have:=(con_own (H3.take 2) 0 2 hl (by omega)).2.1
  have hz:conL (H3.take 2) ((0:Nat):Int)=[]:=by unfold conL; rw [if_neg (by omega)]
  rw [hz,List.take_zero,rootL_nil] at this
  rw [hl]
  exact this
 unfold rfE
 rw [if_neg (fun h=>h rfl),if_neg (by show ¬ ((H3.take 2).length:Int)<0; omega),if_neg (fun h=>by have h1:((H3.take 2).length:Int)=0:=h.1; omega),if_neg (fun h=>h.2 hc),if_neg (by show ¬ 0=2 ^ 2; decide)]
theorem e_two (hn:W.n=2) (ps:List ByteArray):asE0 (cW 2) W sn2 ps=12:=by
 have hl:(H3.take 1).length=1:=by rw [List.length_take,H3_len]; rfl
 rw [show sn2=ntH sLg sO1 (H3.take 1) 0 from rfl,(asE0_note rfl (take_32 H3_32 1) (by omega) (by decide)).1]
 unfold rfE
 rw [if_neg (fun h=>h rfl),if_pos (by show ((H3.take 1).length:Int)<W.n; omega)]
theorem e_three (hn:W.n=2) (hr:W.r=rootL (H3.take 2)) (hu:W.u=1):asE0 (cW 2) W sn3 P2=0:=by
 have hl:=H3_len
 rw [show sn3=ntH sLg sO1 H3 1 from rfl,(asE0_note rfl H3_32 (by omega) (by decide)).1]
 have hc:cosE W.n (H3.length:Int) P2 W.r (rootL H3)=0:=by
  have:=(con_own H3 2 3 hl (by omega)).2.1
  rw [hn,hr,hl]
  exact this
 unfold rfE
 rw [if_neg (fun h=>h rfl),if_neg (by show ¬ (H3.length:Int)<W.n; omega),if_neg (fun h=>by have h1:(H3.length:Int)=W.n:=h.1; omega),if_neg (fun h=>h.2 hc),if_neg (by show ¬ W.u=2 ^ 2; rw [hu]; decide)]
end
end Go.Proofs.YthpfpkikmaiddaaGreatDoor.Wt
