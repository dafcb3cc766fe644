/- - -/
import Derived.Test.YthpfpkikmaiddaaGreatDoorZwh
set_option linter.all false
set_option maxHeartbeats 12800000
set_option maxRecDepth 100000
namespace Go.Proofs.YthpfpkikmaiddaaGreatDoor.Wt
open Go Go.RowKit Go.Proofs.YthpfpkikmaiddaaGreatDoor.Pk Go.Proofs.YthpfpkikmaiddaaGreatDoor.Nt Go.Proofs.YthpfpkikmaiddaaGreatDoor.Tg
def LkX (vh vp:Value):Pk.Obj:=Pair2 (RowO vh H3) (RowO vp P2)
theorem LkX.good (vh vp:Value):Pk.Good (LkX vh vp):=Pair2.good (RowO.good _ _) (RowO.good _ _)
section
variable {w0 w:World} {p:Pl} {b h kk:Nat} {c:WCfg} {D:Dev} {W:WitM} {X A Z:Pk.Obj}
theorem wtx_ask (hE:Env w0) (hk:Kept w0 (Pair2 (WtX p b h c D W) X) w) (gX:Pk.Good X) (hc:c.ok) (hW:W.ok c) (hB:Bd kk D W.C) (h99:kk<=99) (hK:WtK W.C.now) (s:ByteArray) (hs:s.size<=536870912) (ps:List ByteArray) (pa:Option Addr) (pn pc:Nat) (hP:PA w pa pn pc ps) (hF:Fit ps) :
  Calls Tryz.prog 24 #[.pointer (some ⟨p.bl,0,none⟩),.string s,.slice pa pn pc] w fun e w'=>e=.returned (.tuple #[.agg #[.string (asI b h c D W s ps),.string (asT b h c D W s ps)],.int .i64 (asE b h c D W s ps)])/\Box (Kept w0 (Pair2 (WtX p b h c (asD b h c D W s ps) (asM b h c D W s ps)) X) w'):=by
 obtain ⟨vi,hk2⟩:=wtx_open hk
 exact (wask_any hE hk2 gX hc hW hB h99 hK s hs ps pa pn pc hP hF).mono fun e w' ⟨he,h2⟩=>⟨he,⟨wtx_close h2.out⟩⟩
theorem wtx_last (hk:Kept w0 (Pair2 (WtX p b h c D W) X) w) (gX:Pk.Good X):Calls Tryz.prog 27 #[.pointer (some ⟨p.bl,0,none⟩)] w fun e w'=>e=.returned (.tuple #[.int .i64 W.n,.string W.r])/\Box (Kept w0 (Pair2 (WtX p b h c D W) X) w'):=by
 obtain ⟨vi,hk2⟩:=wtx_open hk
 exact (wlast_any hk2 gX).mono fun e w' ⟨he,h2⟩=>⟨he,⟨wtx_close h2.out⟩⟩
theorem wtx_left (hk:Kept w0 (Pair2 (WtX p b h c D W) X) w) (gX:Pk.Good X) (hW:W.ok c):Calls Tryz.prog 31 #[.pointer (some ⟨p.bl,0,none⟩)] w fun e w'=>e=.returned (.int .i64 ((2 ^ c.h-W.u:Nat):Int))/\Box (Kept w0 (Pair2 (WtX p b h c D W) X) w'):=by
 obtain ⟨vi,hk2⟩:=wtx_open hk
 exact (wleft_any hk2 gX hW).mono fun e w' ⟨he,h2⟩=>⟨he,⟨wtx_close h2.out⟩⟩
theorem wtx_id (hE:Env w0) (hk:Kept w0 (Pair2 (WtX p b h c D W) X) w) (gX:Pk.Good X) (hc:c.ok):Calls Tryz.prog 30 #[.pointer (some ⟨p.bl,0,none⟩)] w fun e w'=>e=.returned (.string (keyID c.s c.h))/\Box (Kept w0 (Pair2 (WtX p b h c D W) X) w'):=by
 obtain ⟨vi,hk2⟩:=wtx_open hk
 exact (wid_any hE hk2 gX hc).mono fun e w' ⟨he,h2⟩=>⟨he,⟨wtx_close h2.out⟩⟩
theorem as_bd {s:ByteArray} {ps:List ByteArray} (hB:Bd kk D W.C) (hh:h<=300):Bd (kk+1) (asD b h c D W s ps) (asM b h c D W s ps).C:=by
 by_cases h0:asE0 c W s ps=0
 ·have h1:=cm_bd (b:=b) hB hh (nxC W (sdV s [c.l] 1).1)
  by_cases h2:cmE b h D W.C (nxC W (sdV s [c.l] 1).1)=0
  ·obtain ⟨_,_,_,e4,e5⟩:=as_yes h0 h2
   rw [e4,e5]
   unfold rmM
   rw [if_pos h2]
   exact h1
  ·obtain ⟨_,_,_,e4,e5⟩:=as_com h0 h2
   rw [e4,e5]
   unfold rmM
   rw [if_neg h2]
   exact h1
 ·obtain ⟨_,_,_,e4,e5⟩:=as_no (b:=b) (h:=h) (D:=D) h0
  rw [e4,e5]
  exact hB.up (Nat.le_succ _)
theorem lk_row {vh vp:Value} (hk:Kept w0 (Pair2 A (LkX vh vp)) w):(∃ a cc,vh=.slice a H3.length cc/\PA w a H3.length cc H3)/\∃ a cc,vp=.slice a P2.length cc/\PA w a P2.length cc P2:=by
 obtain ⟨F,h1,_⟩:=kept_look (kept_cv hk (cvSwap.trans cvAssoc))
 obtain ⟨F2,h2,_⟩:=kept_look (kept_cv hk (cvSwap.trans ((cvLeft cvSwap).trans cvAssoc)))
 exact ⟨txr_pa h1.1,txr_pa h2.1⟩
theorem kept_drop {O B:Pk.Obj} (gO:Pk.Good O) (hk:Kept w0 (Pair2 A (Pair2 B O)) w):Kept w0 (Pair2 A O) w:=kept_cv hk (cvRight (cvDropL gO))
theorem kept_blk {O:Pk.Obj} (gA:Pk.Good A) (gO:Pk.Good O) (hk:Kept w0 (Pair2 A O) w) (cs:List Value) (t:TypeId):Kept w0 (Pair2 A (Pair2 (BlO w.heap.size cs t) O)) (w.alloc (.cells cs.toArray t)):=
 kept_cv (kept_new hk (Pair2.good gA gO) (BlO.good w.heap.size cs t) (bel_alloc w (.cells cs.toArray t))
  ⟨Pk.Blk.new w cs t,⟨Nat.le_refl _,(Pk.Blk.new w cs t).lt⟩,fun _ hk=>hk.2⟩) cvFlip
theorem kept_bl {O:Pk.Obj} {br:Nat} {cs:List Value} {t:TypeId} (hk:Kept w0 (Pair2 A (Pair2 (BlO br cs t) O)) w):Pk.Blk w br cs t:=by
 obtain ⟨F,h1,_⟩:=kept_look (kept_cv hk cvFlip)
 exact h1.1
theorem kept_bset {O:Pk.Obj} {br:Nat} {cs:List Value} {t:TypeId} (gA:Pk.Good A) (gO:Pk.Good O) (hk:Kept w0 (Pair2 A (Pair2 (BlO br cs t) O)) w) (i:Nat) (u:Value):Kept w0 (Pair2 A (Pair2 (BlO br (cs.set i u) t) O)) (w.setCell ⟨br,i,none⟩ u):=
 kept_cv (kept_set (Pair2.good gA gO) (kept_cv hk cvFlip) i u) cvFlip
theorem kept_sig {O:Pk.Obj} {br:Nat} {a0 a1:Value} {t:TypeId} (gA:Pk.Good A) (gO:Pk.Good O) (hk:Kept w0 (Pair2 A (Pair2 (BlO br [a0,a1] t) O)) w) (x y:Value):Kept w0 (Pair2 A (Pair2 (BlO br [x,y] t) O)) ((w.setCell ⟨br,0,none⟩ x).setCell ⟨br,1,none⟩ y):=
 kept_bset gA gO (kept_bset gA gO hk 0 x) 1 y
end
theorem part32:∀ {l:List ByteArray},(∀ x ∈ l,x.size=32)->∀ (m:Nat) (b:Bool),∀ x ∈ partL m l b,x.size=32:=by
 intro l
 induction hn:l.length using Nat.strongRecOn generalizing l with
 | _ n ih=>
  intro h m b x hx
  have hd:∀ k,∀ y ∈ l.drop k,y.size=32:=fun k y hy=>h y (List.mem_of_mem_drop hy)
  by_cases h1:m=l.length
  ·rw [partL_all m l b h1] at hx
   cases b with
   | true=>simp at hx
   | false=>
    rw [if_neg (by simp)] at hx
    rw [List.mem_singleton.1 hx]; exact root32 h
  ·by_cases h2:l.length<=1
   ·rw [partL,if_neg h1,dif_pos h2] at hx; cases hx
   ·have hc:=cutN_lt (n:=l.length) (by omega)
    have hp:=cutN_pos l.length
    by_cases h3:m<=cutN l.length
    ·rw [partL_left m l b (by omega) h1 h3] at hx
     rcases List.mem_append.1 hx with hx | hx
     ·exact ih (l.take (cutN l.length)).length (by rw [List.length_take]; omega) rfl (take_32 h _) m b x hx
     ·rw [List.mem_singleton.1 hx]; exact root32 (hd _)
    ·rw [partL_right m l b (by omega) h1 (by omega)] at hx
     rcases List.mem_append.1 hx with hx | hx
     ·exact ih (l.drop (cutN l.length)).length (by rw [List.length_drop]; omega) rfl (hd _) _ false x hx
     ·rw [List.mem_singleton.1 hx]; exact root32 (take_32 h _)
def nilS:List Value:=[.string ⟨#[]⟩,.string ⟨#[]⟩]
theorem looks_any (w:World) (hE:Env w):Calls Tryz.prog 19 #[] w fun e w'=>e=.returned (.bool true)/\Box (Below w.heap.size w w'):=by
 have hN:=Box.mk (newdev_kept (Below.refl w.heap.size w) 20 (by decide) (by decide))
 have hC:=Box.mk (fun w1=>config_any 2 w1)
 rw [show cfgN 2=2 from by unfold cfgN; decide] at hC
 have hO:=Box.mk (fun bd w1 (hk:Kept w (Pair2 (DevO bd (Dev.new 20)) NoO) w1)=>wopen_new hE NoO.good (cW 2) (cW_ok (by decide)) 20 0 10 (by decide) (by decide) (by decide) hk)
 unfold cW at hO
 simp only at hO
 obtain ⟨id,hid⟩:∃ x,keyID sLg 2=x:=⟨_,rfl⟩
 rw [hid] at hC hO
 have hH:=Box.mk (fun w1=>history_any 3 3 0 w1 (by decide) (by decide))
 replace hE:=Box.mk hE
 replace hid:=Box.mk hid
 go_enter Tryz.func19,Tryz.ntmps19
 go_wp2_with fail
 refine hN.out.mono ?_
 rintro e w1 ⟨bd,rfl,hk1⟩
 have hG:=hC.out w1
 unfold wcfV sW1 sO1 at hG
 clear hN hC
 go_wp2_with fail
 refine hG.mono ?_
 clear hG
 rintro e w2 ⟨rfl,hb2⟩
 have hG:=hO.out bd w2 (kept_no (DevO.good _ _) (hk1.out.below (DevO.good _ _) hb2))
 unfold wcfV sW1 sO1 at hG
 clear hO hk1 hb2
 go_wp2_with fail
 refine hG.mono ?_
 clear hG
 rintro e w3 ⟨bl,bc,bk,rfl,hk3⟩
 have hG:=hH.out w3
 clear hH
 go_wp2_with fail
 refine hG.mono ?_
 clear hG
 rintro e w4 ⟨vh,rfl,hr4,hb4⟩
 have hk4:=kept_row hk3.out (Pair2.good WtX.good NoO.good) hb4 hr4
 obtain ⟨F4,hr4',_⟩:=kept_look hk4
 obtain ⟨ah,ch,hvh,hPh⟩:=txr_pa hr4'.1
 rw [show (hsL 3 3 0).length=3 from hsL_len 3 3 0] at hvh hPh
 subst hvh
 have hch:3<=ch:=hPh.cap
 have hch2:ch<=9223372036854775807:=hPh.top
 have hG:=rconsistency_any 3 (hsL 3 3 0) 2 ah ch w4 hPh (fun x hx=>by rw [hsL_32 3 3 0 x hx]; omega)
 unfold RowsE at hG
 rw [show conE (hsL 3 3 0) 2=0 by unfold conE; rw [hsL_len]; decide] at hG
 replace hk4:=Box.mk hk4
 clear hk3 hr4 hr4' hb4 hPh
 go_wp2_with fail
 refine hG.mono ?_
 clear hG
 rintro e w5 ⟨vp,rfl,hr5,hb5⟩
 have hk5:=kept_row hk4.out (Pair2.good (RowO.good _ _) (Pair2.good WtX.good NoO.good)) hb5 hr5
 have hk6:Kept w (Pair2 (WtX ⟨bd,bl,bc,bk⟩ 0 10 (cW 2) (Dev.new 20) w00) (LkX (.slice ah 3 ch) vp)) w5:=by
  rw [<- hid.out] at hk5
  exact kept_cv hk5 ((cvRight cvFlip).trans (cvFlip.trans (cvRight (cvSwap.trans (cvLeft (cvDropR (RowO.good _ _) (B:=RowO (.slice ah 3 ch) (hsL 3 3 0)) (C:=NoO)) )))))
 clear hk4 hk5 hr5 hb5
 obtain ⟨p9,hp9⟩:∃ p:Pl,(⟨bd,bl,bc,bk⟩:Pl)=p:=⟨_,rfl⟩
 have hpb:p9.bl=bl:=by rw [<- hp9]
 rw [hp9] at hk6
 clear hp9
 have k0:WitS 0 10 (cW 2) (Dev.new 20) w00:=new_witS (h0:=2) (by decide) (by decide) (by decide)
 obtain ⟨a1,a2,a3,k1,n1,r1,u1,m1⟩:=k0.ask (cW_ok (by decide)) (by decide) (by decide) e_one
 have b1:=as_bd (b:=0) (h:=10) (c:=cW 2) (s:=sn1) (ps:=[]) (new_bd 20) (W:=w00) (by decide)
 have hsd1:=(asE0_note (c:=cW 2) (W:=w00) (hs:=H3.take 2) (n:=0) (ps:=[]) rfl (take_32 H3_32 2) (by rw [List.length_take,H3_len]; decide) (by decide)).2
 rw [show ntH sLg sO1 (H3.take 2) 0=sn1 from rfl] at hsd1
 rw [hsd1] at n1 r1 a3
 have hA1:=Box.mk (fun (Z:Pk.Obj) w1 (gZ:Pk.Good Z) (hk1:Kept w (Pair2 (WtX p9 0 10 (cW 2) (Dev.new 20) w00) Z) w1)=>wtx_ask hE.out hk1 gZ (cW_ok (by decide)) k0.ok (new_bd 20) (by decide) k0.now sn1 (by have:=ntH_size sLg (o:=sO1) (hs:=H3.take 2) 0 (gC_hs (take_32 H3_32 2) (by rw [List.length_take,H3_len]; decide)); show (ntH sLg sO1 (H3.take 2) 0).size<=_; omega) [] none 0 0 (pa0 w1) fit_nil)
 rw [a1,a2,a3,show keyID (cW 2).s (cW 2).h=keyID sW1 2 from rfl,hpb] at hA1
 obtain ⟨D1,hD1⟩:∃ x,asD 0 10 (cW 2) (Dev.new 20) w00 sn1 []=x:=⟨_,rfl⟩
 obtain ⟨W1,hW1⟩:∃ x,asM 0 10 (cW 2) (Dev.new 20) w00 sn1 []=x:=⟨_,rfl⟩
 rw [hD1,hW1] at hA1 k1 b1
 rw [hW1] at n1 r1 u1 m1
 obtain ⟨wid,hwid⟩:∃ x,keyID sW1 2=x:=⟨_,rfl⟩
 obtain ⟨sg,hsg⟩:∃ x,keyS (cW 2).s (cW 2).h w00.u (ckT (ckH sO1 (H3.take 2)))=x:=⟨_,rfl⟩
 rw [hwid,hsg] at hA1
 have hN1:Box (∀ kb w1,Kept w (Pair2 (WtX p9 0 10 (cW 2) (Dev.new 20) w00) (LkX (.slice ah 3 ch) vp)) w1->QKey w1 kb sLg 2 0->Calls Tryz.prog 25 #[.pointer (some ⟨kb,0,none⟩),.string ⟨#[111]⟩,.slice ah 2 ch,.int .i64 0] w1 fun e w'=>e=.returned (.string sn1)/\Below w1.heap.size w1 w'):=⟨fun kb w1 hk1 hq=>by
  obtain ⟨⟨a,cc,e,hP⟩,_⟩:=lk_row hk1
  rw [H3_len] at e hP
  cases e
  exact noted_any hE.out kb sLg sO1 (H3.take 2) ah 2 ch 0 w1 hk1.k hq (by decide) sO1_ok (hP.take (by omega)) (by omega) (take_32 H3_32 2)⟩
 clear a1 a2 a3 hsd1 k0 hD1 hW1
 replace hwid:=Box.mk hwid
 replace hsg:=Box.mk hsg
 replace hid:=Box.mk hid.out
 replace k1:=Box.mk k1
 replace b1:=Box.mk b1
 replace n1:=Box.mk n1
 replace r1:=Box.mk r1
 replace u1:=Box.mk u1
 replace m1:=Box.mk m1
 go_upto_region 7 with fail
 go_cut [4,8] from 37 to 45 (fun v4 v8 wc=>∃ b8:Nat,v8=.pointer (some ⟨b8,0,none⟩)/\v4=.int .i64 0/\Box (Kept w (Pair2 (WtX p9 0 10 (cW 2) D1 W1) (Pair2 (BlO b8 [.string wid,.string sg] 58) (LkX (.slice ah 3 ch) vp))) wc))
 case first=>
  go_wp2_with fail
  refine Tg.region_steadyC (fun _=>True) (fun w'=>Kept w (Pair2 (WtX p9 0 10 (cW 2) (Dev.new 20) w00) (LkX (.slice ah 3 ch) vp)) w') (fun w w'=>w=w') rfl (hk6.below (Pair2.good WtX.good (LkX.good _ _)) (dB _)) ?_
  refine anyS_calms [0,2,3] 9 rfl (fun _=>rfl) (Tg.st_eq fun _ _=>trivial) (by kernel_rfl) (by kernel_rfl) (by kernel_rfl) ?_
  simp [nth]
  try simp only [Act.put,zT9,zS9,zZ9]
  repeat (go_big_quiet_step (first | exact fun _=>rfl | rfl))
  refine wpQuiet_nil ?_
  refine anyS_fork 1 9 (by kernel_rfl) rfl rfl rfl rfl (fun wa hWa K hK=>?_) (fun wa hWa K hK=>?_)
  ·have hF:=log_any wa
   go_simp
   refine hF.mono ?_
   rintro e wb ⟨rfl,hq,hb⟩
   obtain ⟨kb,hkb⟩:∃ x,wa.heap.size=x:=⟨_,rfl⟩
   rw [hkb] at hq ⊢
   have hkq:Kept w (Pair2 (WtX p9 0 10 (cW 2) (Dev.new 20) w00) (LkX (.slice ah 3 ch) vp)) wb:=hWa.below (Pair2.good WtX.good (LkX.good _ _)) hb
   refine hK _ _ (fun w'=>Kept w (Pair2 (WtX p9 0 10 (cW 2) (Dev.new 20) w00) (LkX (.slice ah 3 ch) vp)) w'/\QKey w' kb sLg 2 0) (Tg.st_eq fun _ _=>trivial) ⟨hkq,hq⟩ ?_
   clear hK K hF hb hkb hWa hkq hq
   refine anyS_fork 4 9 (by kernel_rfl) rfl rfl rfl rfl (fun wa hWa K hK=>?_) (fun wa hWa K hK=>?_)
   ·have hF:=hN1.out kb wa hWa.1 hWa.2
    go_simp
    refine hF.mono ?_
    rintro e wb ⟨rfl,hb⟩
    have hkq:Kept w (Pair2 (WtX p9 0 10 (cW 2) (Dev.new 20) w00) (LkX (.slice ah 3 ch) vp)) wb:=hWa.1.below (Pair2.good WtX.good (LkX.good _ _)) hb
    refine hK _ _ (fun w'=>Kept w (Pair2 (WtX p9 0 10 (cW 2) (Dev.new 20) w00) (LkX (.slice ah 3 ch) vp)) w') (Tg.st_eq fun _ _=>trivial) hkq ?_
    clear hK K hF hb hWa hkq
    refine anyS_fork 5 9 (by kernel_rfl) rfl rfl rfl rfl (fun wa hWa K hK=>?_) (fun wa hWa K hK=>?_)
    ·have hF:=hA1.out (LkX (.slice ah 3 ch) vp) wa (LkX.good _ _) hWa
     go_simp
     refine hF.mono ?_
     rintro e wb ⟨rfl,hkb⟩
     refine hK _ _ (fun w'=>Kept w (Pair2 (WtX p9 0 10 (cW 2) D1 W1) (LkX (.slice ah 3 ch) vp)) w') (Tg.st_eq fun _ _=>trivial) hkb.out ?_
     clear hK K hF hWa hkb
     refine anyS_calms [6,7,8] 3 rfl (fun _=>rfl) (Tg.st_eq fun _ _=>trivial) (by kernel_rfl) (by kernel_rfl) (by kernel_rfl) ?_
     simp [nth]
     try simp only [Act.put,zT9,zS9,zZ9]
     repeat (go_big_quiet_step (first | exact fun _=>rfl | rfl))
     refine wpQuiet_nil ?_
     refine anyS_forced 9 (by kernel_rfl) rfl rfl (fun wa hWa K hK=>?_)
     go_simp
     have hkb:=kept_blk WtX.good (LkX.good _ _) hWa nilS 58
     obtain ⟨b8,hb8⟩:∃ x,wa.heap.size=x:=⟨_,rfl⟩
     rw [hb8] at hkb ⊢
     refine hK _ _ (fun w'=>Kept w (Pair2 (WtX p9 0 10 (cW 2) D1 W1) (Pair2 (BlO b8 nilS 58) (LkX (.slice ah 3 ch) vp))) w') (Tg.st_eq fun _ _=>trivial) hkb ?_
     clear hK K hWa hkb hb8
     refine anyS_forced 10 (by kernel_rfl) rfl rfl (fun wa hWa K hK=>?_)
     have hbl:=kept_bl hWa
     have q0:wa.cell? ⟨b8,0,none⟩=some (.string ⟨#[]⟩):=hbl.cell 0
     have q1:wa.cell? ⟨b8,1,none⟩=some (.string ⟨#[]⟩):=hbl.cell 1
     have f0:=hbl.free 0
     have f1:=hbl.free 1
     have hks:=kept_sig WtX.good (LkX.good _ _) hWa (.string wid) (.string sg)
     go_simp
     refine hK _ _ (fun w'=>Kept w (Pair2 (WtX p9 0 10 (cW 2) D1 W1) (Pair2 (BlO b8 [.string wid,.string sg] 58) (LkX (.slice ah 3 ch) vp))) w') (Tg.st_eq fun _ _=>trivial) hks ?_
     clear hK K hWa hbl q0 q1 f0 f1 hks
     refine anyS_calms [11] 0 rfl (fun _=>rfl) (Tg.st_eq fun _ _=>trivial) (by kernel_rfl) (by kernel_rfl) (by kernel_rfl) ?_
     simp [nth]
     try simp only [Act.put,zT9,zS9,zZ9]
     repeat (go_big_quiet_step (first | exact fun _=>rfl | rfl))
     refine wpQuiet_nil ?_
     refine anyS_done (by kernel_rfl) (fun wc hC=>?_)
     clear wa
     go_wp2_with fail
     go_meet
     exact ⟨b8,rfl,rfl,⟨hC⟩⟩
    ·go_simp
     have hkb:=kept_blk WtX.good (LkX.good _ _) hWa nilS 58
     obtain ⟨b8,hb8⟩:∃ x,wa.heap.size=x:=⟨_,rfl⟩
     rw [hb8] at hkb ⊢
     refine hK _ _ (fun w'=>Kept w (Pair2 (WtX p9 0 10 (cW 2) (Dev.new 20) w00) (Pair2 (BlO b8 nilS 58) (LkX (.slice ah 3 ch) vp))) w') (Tg.st_eq fun _ _=>trivial) hkb ?_
     clear hK K hWa hkb hb8
     refine anyS_forced 5 (by kernel_rfl) rfl rfl (fun wa hWa K hK=>?_)
     have hF:=hA1.out (Pair2 (BlO b8 nilS 58) (LkX (.slice ah 3 ch) vp)) wa (Pair2.good (BlO.good _ _ _) (LkX.good _ _)) hWa
     go_simp
     refine hF.mono ?_
     rintro e wb ⟨rfl,hkb⟩
     refine hK _ _ (fun w'=>Kept w (Pair2 (WtX p9 0 10 (cW 2) D1 W1) (Pair2 (BlO b8 nilS 58) (LkX (.slice ah 3 ch) vp))) w') (Tg.st_eq fun _ _=>trivial) hkb.out ?_
     clear hK K hF hWa hkb
     refine anyS_calms [6,7,8] 2 rfl (fun _=>rfl) (Tg.st_eq fun _ _=>trivial) (by kernel_rfl) (by kernel_rfl) (by kernel_rfl) ?_
     simp [nth]
     try simp only [Act.put,zT9,zS9,zZ9]
     repeat (go_big_quiet_step (first | exact fun _=>rfl | rfl))
     refine wpQuiet_nil ?_
     refine anyS_forced 10 (by kernel_rfl) rfl rfl (fun wa hWa K hK=>?_)
     have hbl:=kept_bl hWa
     have q0:wa.cell? ⟨b8,0,none⟩=some (.string ⟨#[]⟩):=hbl.cell 0
     have q1:wa.cell? ⟨b8,1,none⟩=some (.string ⟨#[]⟩):=hbl.cell 1
     have f0:=hbl.free 0
     have f1:=hbl.free 1
     have hks:=kept_sig WtX.good (LkX.good _ _) hWa (.string wid) (.string sg)
     go_simp
     refine hK _ _ (fun w'=>Kept w (Pair2 (WtX p9 0 10 (cW 2) D1 W1) (Pair2 (BlO b8 [.string wid,.string sg] 58) (LkX (.slice ah 3 ch) vp))) w') (Tg.st_eq fun _ _=>trivial) hks ?_
     clear hK K hWa hbl q0 q1 f0 f1 hks
     refine anyS_calms [11] 0 rfl (fun _=>rfl) (Tg.st_eq fun _ _=>trivial) (by kernel_rfl) (by kernel_rfl) (by kernel_rfl) ?_
     simp [nth]
     try simp only [Act.put,zT9,zS9,zZ9]
     repeat (go_big_quiet_step (first | exact fun _=>rfl | rfl))
     refine wpQuiet_nil ?_
     refine anyS_done (by kernel_rfl) (fun wc hC=>?_)
     clear wa
     go_wp2_with fail
     go_meet
     exact ⟨b8,rfl,rfl,⟨hC⟩⟩
   ·go_simp
    have hkb:=kept_blk WtX.good (LkX.good _ _) hWa.1 nilS 58
    have hqa:=hWa.2.here (bel_alloc wa (.cells nilS.toArray 58))
    obtain ⟨b8,hb8⟩:∃ x,wa.heap.size=x:=⟨_,rfl⟩
    rw [hb8] at hkb ⊢
    refine hK _ _ (fun w'=>Kept w (Pair2 (WtX p9 0 10 (cW 2) (Dev.new 20) w00) (Pair2 (BlO b8 nilS 58) (LkX (.slice ah 3 ch) vp))) w'/\QKey w' kb sLg 2 0) (Tg.st_eq fun _ _=>trivial) ⟨hkb,hqa⟩ ?_
    clear hK K hWa hkb hb8 hqa
    refine anyS_forced 4 (by kernel_rfl) rfl rfl (fun wa hWa K hK=>?_)
    have hF:=hN1.out kb wa (kept_drop (LkX.good _ _) hWa.1) hWa.2
    go_simp
    refine hF.mono ?_
    rintro e wb ⟨rfl,hb⟩
    have hkq:Kept w (Pair2 (WtX p9 0 10 (cW 2) (Dev.new 20) w00) (Pair2 (BlO b8 nilS 58) (LkX (.slice ah 3 ch) vp))) wb:=hWa.1.below (Pair2.good WtX.good (Pair2.good (BlO.good _ _ _) (LkX.good _ _))) hb
    refine hK _ _ (fun w'=>Kept w (Pair2 (WtX p9 0 10 (cW 2) (Dev.new 20) w00) (Pair2 (BlO b8 nilS 58) (LkX (.slice ah 3 ch) vp))) w') (Tg.st_eq fun _ _=>trivial) hkq ?_
    clear hK K hF hb hWa hkq
    refine anyS_forced 5 (by kernel_rfl) rfl rfl (fun wa hWa K hK=>?_)
    have hF:=hA1.out (Pair2 (BlO b8 nilS 58) (LkX (.slice ah 3 ch) vp)) wa (Pair2.good (BlO.good _ _ _) (LkX.good _ _)) hWa
    go_simp
    refine hF.mono ?_
    rintro e wb ⟨rfl,hkb⟩
    refine hK _ _ (fun w'=>Kept w (Pair2 (WtX p9 0 10 (cW 2) D1 W1) (Pair2 (BlO b8 nilS 58) (LkX (.slice ah 3 ch) vp))) w') (Tg.st_eq fun _ _=>trivial) hkb.out ?_
    clear hK K hF hWa hkb
    refine anyS_calms [6,7,8] 2 rfl (fun _=>rfl) (Tg.st_eq fun _ _=>trivial) (by kernel_rfl) (by kernel_rfl) (by kernel_rfl) ?_
    simp [nth]
    try simp only [Act.put,zT9,zS9,zZ9]
    repeat (go_big_quiet_step (first | exact fun _=>rfl | rfl))
    refine wpQuiet_nil ?_
    refine anyS_forced 10 (by kernel_rfl) rfl rfl (fun wa hWa K hK=>?_)
    have hbl:=kept_bl hWa
    have q0:wa.cell? ⟨b8,0,none⟩=some (.string ⟨#[]⟩):=hbl.cell 0
    have q1:wa.cell? ⟨b8,1,none⟩=some (.string ⟨#[]⟩):=hbl.cell 1
    have f0:=hbl.free 0
    have f1:=hbl.free 1
    have hks:=kept_sig WtX.good (LkX.good _ _) hWa (.string wid) (.string sg)
    go_simp
    refine hK _ _ (fun w'=>Kept w (Pair2 (WtX p9 0 10 (cW 2) D1 W1) (Pair2 (BlO b8 [.string wid,.string sg] 58) (LkX (.slice ah 3 ch) vp))) w') (Tg.st_eq fun _ _=>trivial) hks ?_
    clear hK K hWa hbl q0 q1 f0 f1 hks
    refine anyS_calms [11] 0 rfl (fun _=>rfl) (Tg.st_eq fun _ _=>trivial) (by kernel_rfl) (by kernel_rfl) (by kernel_rfl) ?_
    simp [nth]
    try simp only [Act.put,zT9,zS9,zZ9]
    repeat (go_big_quiet_step (first | exact fun _=>rfl | rfl))
    refine wpQuiet_nil ?_
    refine anyS_done (by kernel_rfl) (fun wc hC=>?_)
    clear wa
    go_wp2_with fail
    go_meet
    exact ⟨b8,rfl,rfl,⟨hC⟩⟩
  ·go_simp
   have hkb:=kept_blk WtX.good (LkX.good _ _) hWa nilS 58
   obtain ⟨b8,hb8⟩:∃ x,wa.heap.size=x:=⟨_,rfl⟩
   rw [hb8] at hkb ⊢
   refine hK _ _ (fun w'=>Kept w (Pair2 (WtX p9 0 10 (cW 2) (Dev.new 20) w00) (Pair2 (BlO b8 nilS 58) (LkX (.slice ah 3 ch) vp))) w') (Tg.st_eq fun _ _=>trivial) hkb ?_
   clear hK K hWa hkb hb8
   refine anyS_forced 1 (by kernel_rfl) rfl rfl (fun wa hWa K hK=>?_)
   have hF:=log_any wa
   go_simp
   refine hF.mono ?_
   rintro e wb ⟨rfl,hq,hb⟩
   obtain ⟨kb,hkb⟩:∃ x,wa.heap.size=x:=⟨_,rfl⟩
   rw [hkb] at hq ⊢
   have hkq:Kept w (Pair2 (WtX p9 0 10 (cW 2) (Dev.new 20) w00) (Pair2 (BlO b8 nilS 58) (LkX (.slice ah 3 ch) vp))) wb:=hWa.below (Pair2.good WtX.good (Pair2.good (BlO.good _ _ _) (LkX.good _ _))) hb
   refine hK _ _ (fun w'=>Kept w (Pair2 (WtX p9 0 10 (cW 2) (Dev.new 20) w00) (Pair2 (BlO b8 nilS 58) (LkX (.slice ah 3 ch) vp))) w'/\QKey w' kb sLg 2 0) (Tg.st_eq fun _ _=>trivial) ⟨hkq,hq⟩ ?_
   clear hK K hF hb hkb hWa hkq hq
   refine anyS_forced 4 (by kernel_rfl) rfl rfl (fun wa hWa K hK=>?_)
   have hF:=hN1.out kb wa (kept_drop (LkX.good _ _) hWa.1) hWa.2
   go_simp
   refine hF.mono ?_
   rintro e wb ⟨rfl,hb⟩
   have hkq:Kept w (Pair2 (WtX p9 0 10 (cW 2) (Dev.new 20) w00) (Pair2 (BlO b8 nilS 58) (LkX (.slice ah 3 ch) vp))) wb:=hWa.1.below (Pair2.good WtX.good (Pair2.good (BlO.good _ _ _) (LkX.good _ _))) hb
   refine hK _ _ (fun w'=>Kept w (Pair2 (WtX p9 0 10 (cW 2) (Dev.new 20) w00) (Pair2 (BlO b8 nilS 58) (LkX (.slice ah 3 ch) vp))) w') (Tg.st_eq fun _ _=>trivial) hkq ?_
   clear hK K hF hb hWa hkq
   refine anyS_forced 5 (by kernel_rfl) rfl rfl (fun wa hWa K hK=>?_)
   have hF:=hA1.out (Pair2 (BlO b8 nilS 58) (LkX (.slice ah 3 ch) vp)) wa (Pair2.good (BlO.good _ _ _) (LkX.good _ _)) hWa
   go_simp
   refine hF.mono ?_
   rintro e wb ⟨rfl,hkb⟩
   refine hK _ _ (fun w'=>Kept w (Pair2 (WtX p9 0 10 (cW 2) D1 W1) (Pair2 (BlO b8 nilS 58) (LkX (.slice ah 3 ch) vp))) w') (Tg.st_eq fun _ _=>trivial) hkb.out ?_
   clear hK K hF hWa hkb
   refine anyS_calms [6,7,8] 2 rfl (fun _=>rfl) (Tg.st_eq fun _ _=>trivial) (by kernel_rfl) (by kernel_rfl) (by kernel_rfl) ?_
   simp [nth]
   try simp only [Act.put,zT9,zS9,zZ9]
   repeat (go_big_quiet_step (first | exact fun _=>rfl | rfl))
   refine wpQuiet_nil ?_
   refine anyS_forced 10 (by kernel_rfl) rfl rfl (fun wa hWa K hK=>?_)
   have hbl:=kept_bl hWa
   have q0:wa.cell? ⟨b8,0,none⟩=some (.string ⟨#[]⟩):=hbl.cell 0
   have q1:wa.cell? ⟨b8,1,none⟩=some (.string ⟨#[]⟩):=hbl.cell 1
   have f0:=hbl.free 0
   have f1:=hbl.free 1
   have hks:=kept_sig WtX.good (LkX.good _ _) hWa (.string wid) (.string sg)
   go_simp
   refine hK _ _ (fun w'=>Kept w (Pair2 (WtX p9 0 10 (cW 2) D1 W1) (Pair2 (BlO b8 [.string wid,.string sg] 58) (LkX (.slice ah 3 ch) vp))) w') (Tg.st_eq fun _ _=>trivial) hks ?_
   clear hK K hWa hbl q0 q1 f0 f1 hks
   refine anyS_calms [11] 0 rfl (fun _=>rfl) (Tg.st_eq fun _ _=>trivial) (by kernel_rfl) (by kernel_rfl) (by kernel_rfl) ?_
   simp [nth]
   try simp only [Act.put,zT9,zS9,zZ9]
   repeat (go_big_quiet_step (first | exact fun _=>rfl | rfl))
   refine wpQuiet_nil ?_
   refine anyS_done (by kernel_rfl) (fun wc hC=>?_)
   clear wa
   go_wp2_with fail
   go_meet
   exact ⟨b8,rfl,rfl,⟨hC⟩⟩
 case rest=>
  obtain ⟨b8,rfl,rfl,hcut⟩:=hcut
  clear hk6 hN1 hA1
  have hA2:Box (∀ (Z:Pk.Obj) w1,Pk.Good Z->Kept w (Pair2 (WtX p9 0 10 (cW 2) D1 W1) Z) w1->Calls Tryz.prog 24 #[.pointer (some ⟨bl,0,none⟩),.string sn2,.slice none 0 0] w1 fun e w'=>e=.returned (.tuple #[.agg #[.string ⟨#[]⟩,.string ⟨#[]⟩],.int .i64 12])/\Box (Kept w (Pair2 (WtX p9 0 10 (cW 2) D1 W1) Z) w')):=⟨fun Z w1 gZ hk1=>by
   have h1:=wtx_ask hE.out hk1 gZ (cW_ok (by decide)) k1.out.ok b1.out (by decide) k1.out.now sn2 (by have:=ntH_size sLg (o:=sO1) (hs:=H3.take 1) 0 (gC_hs (take_32 H3_32 1) (by rw [List.length_take,H3_len]; decide)); show (ntH sLg sO1 (H3.take 1) 0).size<=_; omega) [] none 0 0 (pa0 w1) fit_nil
   have e0:=e_two (W:=W1) (by rw [n1.out]; show ((H3.take 2).length:Int)=2; rw [List.length_take,H3_len]; rfl) []
   obtain ⟨a1,a2,a3,a4,a5⟩:=as_no (b:=0) (h:=10) (c:=cW 2) (D:=D1) (W:=W1) (s:=sn2) (ps:=[]) (by rw [e0]; decide)
   rw [a1,a2,a3,a4,a5,e0,hpb] at h1
   exact h1⟩
  have hN2:Box (∀ kb w1,Kept w (Pair2 (WtX p9 0 10 (cW 2) D1 W1) (Pair2 (BlO b8 [.string wid,.string sg] 58) (LkX (.slice ah 3 ch) vp))) w1->QKey w1 kb sLg 2 0->Calls Tryz.prog 25 #[.pointer (some ⟨kb,0,none⟩),.string ⟨#[111]⟩,.slice ah 1 ch,.int .i64 0] w1 fun e w'=>e=.returned (.string sn2)/\Below w1.heap.size w1 w'):=⟨fun kb w1 hk1 hq=>by
   obtain ⟨⟨a,cc,e,hP⟩,_⟩:=lk_row (kept_drop (LkX.good _ _) hk1)
   rw [H3_len] at e hP
   cases e
   exact noted_any hE.out kb sLg sO1 (H3.take 1) ah 1 ch 0 w1 hk1.k hq (by decide) sO1_ok (hP.take (by omega)) (by omega) (take_32 H3_32 1)⟩
  go_upto_region 8 with fail
  go_cut [9,10] from 46 to 54 (fun v9 v10 wc=>∃ b9:Nat,v9=.pointer (some ⟨b9,0,none⟩)/\v10=.int .i64 12/\Box (Kept w (Pair2 (WtX p9 0 10 (cW 2) D1 W1) (Pair2 (BlO b9 [.string ⟨#[]⟩,.string ⟨#[]⟩] 58) (Pair2 (BlO b8 [.string wid,.string sg] 58) (LkX (.slice ah 3 ch) vp)))) wc))
  case first=>
   go_wp2_with fail
   refine Tg.region_steadyC (fun _=>True) (fun w'=>Kept w (Pair2 (WtX p9 0 10 (cW 2) D1 W1) (Pair2 (BlO b8 [.string wid,.string sg] 58) (LkX (.slice ah 3 ch) vp))) w') (fun w w'=>w=w') rfl (hcut.out.below (Pair2.good WtX.good (Pair2.good (BlO.good _ _ _) (LkX.good _ _))) (dB _)) ?_
   refine anyS_calms [0,2,3] 9 rfl (fun _=>rfl) (Tg.st_eq fun _ _=>trivial) (by kernel_rfl) (by kernel_rfl) (by kernel_rfl) ?_
   simp [nth]
   try simp only [Act.put,zT9,zS9,zZ9]
   repeat (go_big_quiet_step (first | exact fun _=>rfl | rfl))
   refine wpQuiet_nil ?_
   refine anyS_fork 1 9 (by kernel_rfl) rfl rfl rfl rfl (fun wa hWa K hK=>?_) (fun wa hWa K hK=>?_)
   ·have hF:=log_any wa
    go_simp
    refine hF.mono ?_
    rintro e wb ⟨rfl,hq,hb⟩
    obtain ⟨kb,hkb⟩:∃ x,wa.heap.size=x:=⟨_,rfl⟩
    rw [hkb] at hq ⊢
    have hkq:Kept w (Pair2 (WtX p9 0 10 (cW 2) D1 W1) (Pair2 (BlO b8 [.string wid,.string sg] 58) (LkX (.slice ah 3 ch) vp))) wb:=hWa.below (Pair2.good WtX.good (Pair2.good (BlO.good _ _ _) (LkX.good _ _))) hb
    refine hK _ _ (fun w'=>Kept w (Pair2 (WtX p9 0 10 (cW 2) D1 W1) (Pair2 (BlO b8 [.string wid,.string sg] 58) (LkX (.slice ah 3 ch) vp))) w'/\QKey w' kb sLg 2 0) (Tg.st_eq fun _ _=>trivial) ⟨hkq,hq⟩ ?_
    clear hK K hF hb hkb hWa hkq hq
    refine anyS_fork 4 9 (by kernel_rfl) rfl rfl rfl rfl (fun wa hWa K hK=>?_) (fun wa hWa K hK=>?_)
    ·have hF:=hN2.out kb wa hWa.1 hWa.2
     go_simp
     refine hF.mono ?_
     rintro e wb ⟨rfl,hb⟩
     have hkq:Kept w (Pair2 (WtX p9 0 10 (cW 2) D1 W1) (Pair2 (BlO b8 [.string wid,.string sg] 58) (LkX (.slice ah 3 ch) vp))) wb:=hWa.1.below (Pair2.good WtX.good (Pair2.good (BlO.good _ _ _) (LkX.good _ _))) hb
     refine hK _ _ (fun w'=>Kept w (Pair2 (WtX p9 0 10 (cW 2) D1 W1) (Pair2 (BlO b8 [.string wid,.string sg] 58) (LkX (.slice ah 3 ch) vp))) w') (Tg.st_eq fun _ _=>trivial) hkq ?_
     clear hK K hF hb hWa hkq
     refine anyS_fork 5 9 (by kernel_rfl) rfl rfl rfl rfl (fun wa hWa K hK=>?_) (fun wa hWa K hK=>?_)
     ·have hF:=hA2.out (Pair2 (BlO b8 [.string wid,.string sg] 58) (LkX (.slice ah 3 ch) vp)) wa (Pair2.good (BlO.good _ _ _) (LkX.good _ _)) hWa
      go_simp
      refine hF.mono ?_
      rintro e wb ⟨rfl,hkb⟩
      refine hK _ _ (fun w'=>Kept w (Pair2 (WtX p9 0 10 (cW 2) D1 W1) (Pair2 (BlO b8 [.string wid,.string sg] 58) (LkX (.slice ah 3 ch) vp))) w') (Tg.st_eq fun _ _=>trivial) hkb.out ?_
      clear hK K hF hWa hkb
      refine anyS_calms [6,7,8] 3 rfl (fun _=>rfl) (Tg.st_eq fun _ _=>trivial) (by kernel_rfl) (by kernel_rfl) (by kernel_rfl) ?_
      simp [nth]
      try simp only [Act.put,zT9,zS9,zZ9]
      repeat (go_big_quiet_step (first | exact fun _=>rfl | rfl))
      refine wpQuiet_nil ?_
      refine anyS_forced 9 (by kernel_rfl) rfl rfl (fun wa hWa K hK=>?_)
      go_simp
      have hkb:=kept_blk WtX.good (Pair2.good (BlO.good _ _ _) (LkX.good _ _)) hWa nilS 58
      obtain ⟨b9,hb8⟩:∃ x,wa.heap.size=x:=⟨_,rfl⟩
      rw [hb8] at hkb ⊢
      refine hK _ _ (fun w'=>Kept w (Pair2 (WtX p9 0 10 (cW 2) D1 W1) (Pair2 (BlO b9 nilS 58) (Pair2 (BlO b8 [.string wid,.string sg] 58) (LkX (.slice ah 3 ch) vp)))) w') (Tg.st_eq fun _ _=>trivial) hkb ?_
      clear hK K hWa hkb hb8
      refine anyS_forced 10 (by kernel_rfl) rfl rfl (fun wa hWa K hK=>?_)
      have hbl:=kept_bl hWa
      have q0:wa.cell? ⟨b9,0,none⟩=some (.string ⟨#[]⟩):=hbl.cell 0
      have q1:wa.cell? ⟨b9,1,none⟩=some (.string ⟨#[]⟩):=hbl.cell 1
      have f0:=hbl.free 0
      have f1:=hbl.free 1
      have hks:=kept_sig WtX.good (Pair2.good (BlO.good _ _ _) (LkX.good _ _)) hWa (.string ⟨#[]⟩) (.string ⟨#[]⟩)
      go_simp
      refine hK _ _ (fun w'=>Kept w (Pair2 (WtX p9 0 10 (cW 2) D1 W1) (Pair2 (BlO b9 [.string ⟨#[]⟩,.string ⟨#[]⟩] 58) (Pair2 (BlO b8 [.string wid,.string sg] 58) (LkX (.slice ah 3 ch) vp)))) w') (Tg.st_eq fun _ _=>trivial) hks ?_
      clear hK K hWa hbl q0 q1 f0 f1 hks
      refine anyS_calms [11] 0 rfl (fun _=>rfl) (Tg.st_eq fun _ _=>trivial) (by kernel_rfl) (by kernel_rfl) (by kernel_rfl) ?_
      simp [nth]
      try simp only [Act.put,zT9,zS9,zZ9]
      repeat (go_big_quiet_step (first | exact fun _=>rfl | rfl))
      refine wpQuiet_nil ?_
      refine anyS_done (by kernel_rfl) (fun wc hC=>?_)
      clear wa
      go_wp2_with fail
      go_meet
      exact ⟨b9,rfl,rfl,⟨hC⟩⟩
     ·go_simp
      have hkb:=kept_blk WtX.good (Pair2.good (BlO.good _ _ _) (LkX.good _ _)) hWa nilS 58
      obtain ⟨b9,hb8⟩:∃ x,wa.heap.size=x:=⟨_,rfl⟩
      rw [hb8] at hkb ⊢
      refine hK _ _ (fun w'=>Kept w (Pair2 (WtX p9 0 10 (cW 2) D1 W1) (Pair2 (BlO b9 nilS 58) (Pair2 (BlO b8 [.string wid,.string sg] 58) (LkX (.slice ah 3 ch) vp)))) w') (Tg.st_eq fun _ _=>trivial) hkb ?_
      clear hK K hWa hkb hb8
      refine anyS_forced 5 (by kernel_rfl) rfl rfl (fun wa hWa K hK=>?_)
      have hF:=hA2.out (Pair2 (BlO b9 nilS 58) (Pair2 (BlO b8 [.string wid,.string sg] 58) (LkX (.slice ah 3 ch) vp))) wa (Pair2.good (BlO.good _ _ _) (Pair2.good (BlO.good _ _ _) (LkX.good _ _))) hWa
      go_simp
      refine hF.mono ?_
      rintro e wb ⟨rfl,hkb⟩
      refine hK _ _ (fun w'=>Kept w (Pair2 (WtX p9 0 10 (cW 2) D1 W1) (Pair2 (BlO b9 nilS 58) (Pair2 (BlO b8 [.string wid,.string sg] 58) (LkX (.slice ah 3 ch) vp)))) w') (Tg.st_eq fun _ _=>trivial) hkb.out ?_
      clear hK K hF hWa hkb
      refine anyS_calms [6,7,8] 2 rfl (fun _=>rfl) (Tg.st_eq fun _ _=>trivial) (by kernel_rfl) (by kernel_rfl) (by kernel_rfl) ?_
      simp [nth]
      try simp only [Act.put,zT9,zS9,zZ9]
      repeat (go_big_quiet_step (first | exact fun _=>rfl | rfl))
      refine wpQuiet_nil ?_
      refine anyS_forced 10 (by kernel_rfl) rfl rfl (fun wa hWa K hK=>?_)
      have hbl:=kept_bl hWa
      have q0:wa.cell? ⟨b9,0,none⟩=some (.string ⟨#[]⟩):=hbl.cell 0
      have q1:wa.cell? ⟨b9,1,none⟩=some (.string ⟨#[]⟩):=hbl.cell 1
      have f0:=hbl.free 0
      have f1:=hbl.free 1
      have hks:=kept_sig WtX.good (Pair2.good (BlO.good _ _ _) (LkX.good _ _)) hWa (.string ⟨#[]⟩) (.string ⟨#[]⟩)
      go_simp
      refine hK _ _ (fun w'=>Kept w (Pair2 (WtX p9 0 10 (cW 2) D1 W1) (Pair2 (BlO b9 [.string ⟨#[]⟩,.string ⟨#[]⟩] 58) (Pair2 (BlO b8 [.string wid,.string sg] 58) (LkX (.slice ah 3 ch) vp)))) w') (Tg.st_eq fun _ _=>trivial) hks ?_
      clear hK K hWa hbl q0 q1 f0 f1 hks
      refine anyS_calms [11] 0 rfl (fun _=>rfl) (Tg.st_eq fun _ _=>trivial) (by kernel_rfl) (by kernel_rfl) (by kernel_rfl) ?_
      simp [nth]
      try simp only [Act.put,zT9,zS9,zZ9]
      repeat (go_big_quiet_step (first | exact fun _=>rfl | rfl))
      refine wpQuiet_nil ?_
      refine anyS_done (by kernel_rfl) (fun wc hC=>?_)
      clear wa
      go_wp2_with fail
      go_meet
      exact ⟨b9,rfl,rfl,⟨hC⟩⟩
    ·go_simp
     have hkb:=kept_blk WtX.good (Pair2.good (BlO.good _ _ _) (LkX.good _ _)) hWa.1 nilS 58
     have hqa:=hWa.2.here (bel_alloc wa (.cells nilS.toArray 58))
     obtain ⟨b9,hb8⟩:∃ x,wa.heap.size=x:=⟨_,rfl⟩
     rw [hb8] at hkb ⊢
     refine hK _ _ (fun w'=>Kept w (Pair2 (WtX p9 0 10 (cW 2) D1 W1) (Pair2 (BlO b9 nilS 58) (Pair2 (BlO b8 [.string wid,.string sg] 58) (LkX (.slice ah 3 ch) vp)))) w'/\QKey w' kb sLg 2 0) (Tg.st_eq fun _ _=>trivial) ⟨hkb,hqa⟩ ?_
     clear hK K hWa hkb hb8 hqa
     refine anyS_forced 4 (by kernel_rfl) rfl rfl (fun wa hWa K hK=>?_)
     have hF:=hN2.out kb wa (kept_drop (Pair2.good (BlO.good _ _ _) (LkX.good _ _)) hWa.1) hWa.2
     go_simp
     refine hF.mono ?_
     rintro e wb ⟨rfl,hb⟩
     have hkq:Kept w (Pair2 (WtX p9 0 10 (cW 2) D1 W1) (Pair2 (BlO b9 nilS 58) (Pair2 (BlO b8 [.string wid,.string sg] 58) (LkX (.slice ah 3 ch) vp)))) wb:=hWa.1.below (Pair2.good WtX.good (Pair2.good (BlO.good _ _ _) (Pair2.good (BlO.good _ _ _) (LkX.good _ _)))) hb
     refine hK _ _ (fun w'=>Kept w (Pair2 (WtX p9 0 10 (cW 2) D1 W1) (Pair2 (BlO b9 nilS 58) (Pair2 (BlO b8 [.string wid,.string sg] 58) (LkX (.slice ah 3 ch) vp)))) w') (Tg.st_eq fun _ _=>trivial) hkq ?_
     clear hK K hF hb hWa hkq
     refine anyS_forced 5 (by kernel_rfl) rfl rfl (fun wa hWa K hK=>?_)
     have hF:=hA2.out (Pair2 (BlO b9 nilS 58) (Pair2 (BlO b8 [.string wid,.string sg] 58) (LkX (.slice ah 3 ch) vp))) wa (Pair2.good (BlO.good _ _ _) (Pair2.good (BlO.good _ _ _) (LkX.good _ _))) hWa
     go_simp
     refine hF.mono ?_
     rintro e wb ⟨rfl,hkb⟩
     refine hK _ _ (fun w'=>Kept w (Pair2 (WtX p9 0 10 (cW 2) D1 W1) (Pair2 (BlO b9 nilS 58) (Pair2 (BlO b8 [.string wid,.string sg] 58) (LkX (.slice ah 3 ch) vp)))) w') (Tg.st_eq fun _ _=>trivial) hkb.out ?_
     clear hK K hF hWa hkb
     refine anyS_calms [6,7,8] 2 rfl (fun _=>rfl) (Tg.st_eq fun _ _=>trivial) (by kernel_rfl) (by kernel_rfl) (by kernel_rfl) ?_
     simp [nth]
     try simp only [Act.put,zT9,zS9,zZ9]
     repeat (go_big_quiet_step (first | exact fun _=>rfl | rfl))
     refine wpQuiet_nil ?_
     refine anyS_forced 10 (by kernel_rfl) rfl rfl (fun wa hWa K hK=>?_)
     have hbl:=kept_bl hWa
     have q0:wa.cell? ⟨b9,0,none⟩=some (.string ⟨#[]⟩):=hbl.cell 0
     have q1:wa.cell? ⟨b9,1,none⟩=some (.string ⟨#[]⟩):=hbl.cell 1
     have f0:=hbl.free 0
     have f1:=hbl.free 1
     have hks:=kept_sig WtX.good (Pair2.good (BlO.good _ _ _) (LkX.good _ _)) hWa (.string ⟨#[]⟩) (.string ⟨#[]⟩)
     go_simp
     refine hK _ _ (fun w'=>Kept w (Pair2 (WtX p9 0 10 (cW 2) D1 W1) (Pair2 (BlO b9 [.string ⟨#[]⟩,.string ⟨#[]⟩] 58) (Pair2 (BlO b8 [.string wid,.string sg] 58) (LkX (.slice ah 3 ch) vp)))) w') (Tg.st_eq fun _ _=>trivial) hks ?_
     clear hK K hWa hbl q0 q1 f0 f1 hks
     refine anyS_calms [11] 0 rfl (fun _=>rfl) (Tg.st_eq fun _ _=>trivial) (by kernel_rfl) (by kernel_rfl) (by kernel_rfl) ?_
     simp [nth]
     try simp only [Act.put,zT9,zS9,zZ9]
     repeat (go_big_quiet_step (first | exact fun _=>rfl | rfl))
     refine wpQuiet_nil ?_
     refine anyS_done (by kernel_rfl) (fun wc hC=>?_)
     clear wa
     go_wp2_with fail
     go_meet
     exact ⟨b9,rfl,rfl,⟨hC⟩⟩
   ·go_simp
    have hkb:=kept_blk WtX.good (Pair2.good (BlO.good _ _ _) (LkX.good _ _)) hWa nilS 58
    obtain ⟨b9,hb8⟩:∃ x,wa.heap.size=x:=⟨_,rfl⟩
    rw [hb8] at hkb ⊢
    refine hK _ _ (fun w'=>Kept w (Pair2 (WtX p9 0 10 (cW 2) D1 W1) (Pair2 (BlO b9 nilS 58) (Pair2 (BlO b8 [.string wid,.string sg] 58) (LkX (.slice ah 3 ch) vp)))) w') (Tg.st_eq fun _ _=>trivial) hkb ?_
    clear hK K hWa hkb hb8
    refine anyS_forced 1 (by kernel_rfl) rfl rfl (fun wa hWa K hK=>?_)
    have hF:=log_any wa
    go_simp
    refine hF.mono ?_
    rintro e wb ⟨rfl,hq,hb⟩
    obtain ⟨kb,hkb⟩:∃ x,wa.heap.size=x:=⟨_,rfl⟩
    rw [hkb] at hq ⊢
    have hkq:Kept w (Pair2 (WtX p9 0 10 (cW 2) D1 W1) (Pair2 (BlO b9 nilS 58) (Pair2 (BlO b8 [.string wid,.string sg] 58) (LkX (.slice ah 3 ch) vp)))) wb:=hWa.below (Pair2.good WtX.good (Pair2.good (BlO.good _ _ _) (Pair2.good (BlO.good _ _ _) (LkX.good _ _)))) hb
    refine hK _ _ (fun w'=>Kept w (Pair2 (WtX p9 0 10 (cW 2) D1 W1) (Pair2 (BlO b9 nilS 58) (Pair2 (BlO b8 [.string wid,.string sg] 58) (LkX (.slice ah 3 ch) vp)))) w'/\QKey w' kb sLg 2 0) (Tg.st_eq fun _ _=>trivial) ⟨hkq,hq⟩ ?_
    clear hK K hF hb hkb hWa hkq hq
    refine anyS_forced 4 (by kernel_rfl) rfl rfl (fun wa hWa K hK=>?_)
    have hF:=hN2.out kb wa (kept_drop (Pair2.good (BlO.good _ _ _) (LkX.good _ _)) hWa.1) hWa.2
    go_simp
    refine hF.mono ?_
    rintro e wb ⟨rfl,hb⟩
    have hkq:Kept w (Pair2 (WtX p9 0 10 (cW 2) D1 W1) (Pair2 (BlO b9 nilS 58) (Pair2 (BlO b8 [.string wid,.string sg] 58) (LkX (.slice ah 3 ch) vp)))) wb:=hWa.1.below (Pair2.good WtX.good (Pair2.good (BlO.good _ _ _) (Pair2.good (BlO.good _ _ _) (LkX.good _ _)))) hb
    refine hK _ _ (fun w'=>Kept w (Pair2 (WtX p9 0 10 (cW 2) D1 W1) (Pair2 (BlO b9 nilS 58) (Pair2 (BlO b8 [.string wid,.string sg] 58) (LkX (.slice ah 3 ch) vp)))) w') (Tg.st_eq fun _ _=>trivial) hkq ?_
    clear hK K hF hb hWa hkq
    refine anyS_forced 5 (by kernel_rfl) rfl rfl (fun wa hWa K hK=>?_)
    have hF:=hA2.out (Pair2 (BlO b9 nilS 58) (Pair2 (BlO b8 [.string wid,.string sg] 58) (LkX (.slice ah 3 ch) vp))) wa (Pair2.good (BlO.good _ _ _) (Pair2.good (BlO.good _ _ _) (LkX.good _ _))) hWa
    go_simp
    refine hF.mono ?_
    rintro e wb ⟨rfl,hkb⟩
    refine hK _ _ (fun w'=>Kept w (Pair2 (WtX p9 0 10 (cW 2) D1 W1) (Pair2 (BlO b9 nilS 58) (Pair2 (BlO b8 [.string wid,.string sg] 58) (LkX (.slice ah 3 ch) vp)))) w') (Tg.st_eq fun _ _=>trivial) hkb.out ?_
    clear hK K hF hWa hkb
    refine anyS_calms [6,7,8] 2 rfl (fun _=>rfl) (Tg.st_eq fun _ _=>trivial) (by kernel_rfl) (by kernel_rfl) (by kernel_rfl) ?_
    simp [nth]
    try simp only [Act.put,zT9,zS9,zZ9]
    repeat (go_big_quiet_step (first | exact fun _=>rfl | rfl))
    refine wpQuiet_nil ?_
    refine anyS_forced 10 (by kernel_rfl) rfl rfl (fun wa hWa K hK=>?_)
    have hbl:=kept_bl hWa
    have q0:wa.cell? ⟨b9,0,none⟩=some (.string ⟨#[]⟩):=hbl.cell 0
    have q1:wa.cell? ⟨b9,1,none⟩=some (.string ⟨#[]⟩):=hbl.cell 1
    have f0:=hbl.free 0
    have f1:=hbl.free 1
    have hks:=kept_sig WtX.good (Pair2.good (BlO.good _ _ _) (LkX.good _ _)) hWa (.string ⟨#[]⟩) (.string ⟨#[]⟩)
    go_simp
    refine hK _ _ (fun w'=>Kept w (Pair2 (WtX p9 0 10 (cW 2) D1 W1) (Pair2 (BlO b9 [.string ⟨#[]⟩,.string ⟨#[]⟩] 58) (Pair2 (BlO b8 [.string wid,.string sg] 58) (LkX (.slice ah 3 ch) vp)))) w') (Tg.st_eq fun _ _=>trivial) hks ?_
    clear hK K hWa hbl q0 q1 f0 f1 hks
    refine anyS_calms [11] 0 rfl (fun _=>rfl) (Tg.st_eq fun _ _=>trivial) (by kernel_rfl) (by kernel_rfl) (by kernel_rfl) ?_
    simp [nth]
    try simp only [Act.put,zT9,zS9,zZ9]
    repeat (go_big_quiet_step (first | exact fun _=>rfl | rfl))
    refine wpQuiet_nil ?_
    refine anyS_done (by kernel_rfl) (fun wc hC=>?_)
    clear wa
    go_wp2_with fail
    go_meet
    exact ⟨b9,rfl,rfl,⟨hC⟩⟩
  case rest=>
   obtain ⟨b9,rfl,rfl,hcut⟩:=hcut
   clear hA2 hN2
   have hk9:=kept_drop (Pair2.good (BlO.good _ _ _) (LkX.good _ _)) hcut.out
   clear hcut
   obtain ⟨_,pa,pc,hvp,_⟩:=lk_row (kept_drop (LkX.good _ _) hk9)
   obtain ⟨pn,hpn⟩:∃ x,P2.length=x:=⟨_,rfl⟩
   rw [hpn] at hvp
   subst hvp
   have er:W1.r=rootL (H3.take 2):=r1.out
   have en:W1.n=2:=by rw [n1.out]; show ((H3.take 2).length:Int)=2; rw [List.length_take,H3_len]; rfl
   have eu:W1.u=1:=u1.out
   have e3:=e_three en er eu
   obtain ⟨a1,a2,a3,k2,n2,r2,u2,m2⟩:=k1.out.ask (cW_ok (by decide)) (by rw [m1.out]; decide) (by decide) e3
   have hsd3:=(asE0_note (c:=cW 2) (W:=W1) (hs:=H3) (n:=1) (ps:=P2) rfl H3_32 (by rw [H3_len]; decide) (by decide)).2
   rw [show ntH sLg sO1 H3 1=sn3 from rfl] at hsd3
   rw [hsd3] at n2 r2
   have hA3:=Box.mk (fun w1 (hP:PA w1 pa pn pc P2) (hk1:Kept w (Pair2 (WtX p9 0 10 (cW 2) D1 W1) (Pair2 (BlO b8 [.string wid,.string sg] 58) (LkX (.slice ah 3 ch) (.slice pa pn pc)))) w1)=>wtx_ask hE.out hk1 (Pair2.good (BlO.good _ _ _) (LkX.good _ _)) (cW_ok (by decide)) k1.out.ok b1.out (by decide) k1.out.now sn3 (by have:=ntH_size sLg (o:=sO1) (hs:=H3) 1 (gC_hs H3_32 (by rw [H3_len]; decide)); show (ntH sLg sO1 H3 1).size<=_; omega) P2 pa pn pc hP (fun x hx=>by
    have:x.size=32:=by
     have hx2:x ∈ partL 2 H3 true:=by unfold P2 conL at hx; rw [if_pos (by rw [H3_len]; decide)] at hx; exact hx
     exact part32 H3_32 2 true x hx2
    omega))
   rw [a1,hpb] at hA3
   obtain ⟨D2,hD2⟩:∃ x,asD 0 10 (cW 2) D1 W1 sn3 P2=x:=⟨_,rfl⟩
   obtain ⟨W2,hW2⟩:∃ x,asM 0 10 (cW 2) D1 W1 sn3 P2=x:=⟨_,rfl⟩
   obtain ⟨I3,hI3⟩:∃ x,asI 0 10 (cW 2) D1 W1 sn3 P2=x:=⟨_,rfl⟩
   obtain ⟨T3,hT3⟩:∃ x,asT 0 10 (cW 2) D1 W1 sn3 P2=x:=⟨_,rfl⟩
   rw [hD2,hW2,hI3,hT3] at hA3
   rw [hD2,hW2] at k2
   rw [hW2] at n2 r2 u2
   have hN3:Box (∀ kb w1,Kept w (Pair2 (WtX p9 0 10 (cW 2) D1 W1) (Pair2 (BlO b8 [.string wid,.string sg] 58) (LkX (.slice ah 3 ch) (.slice pa pn pc)))) w1->QKey w1 kb sLg 2 0->Calls Tryz.prog 25 #[.pointer (some ⟨kb,0,none⟩),.string ⟨#[111]⟩,.slice ah 3 ch,.int .i64 1] w1 fun e w'=>e=.returned (.string sn3)/\Below w1.heap.size w1 w'):=⟨fun kb w1 hk1 hq=>by
    obtain ⟨⟨a,cc,e,hP⟩,_⟩:=lk_row (kept_drop (LkX.good _ _) hk1)
    rw [H3_len] at e hP
    cases e
    exact noted_any hE.out kb sLg sO1 H3 ah 3 ch 1 w1 hk1.k hq (by decide) sO1_ok hP (by omega) H3_32⟩
   have hPp:Box (∀ w1,Kept w (Pair2 (WtX p9 0 10 (cW 2) D1 W1) (Pair2 (BlO b8 [.string wid,.string sg] 58) (LkX (.slice ah 3 ch) (.slice pa pn pc)))) w1->PA w1 pa pn pc P2):=⟨fun w1 hk1=>by
    obtain ⟨_,a,cc,e,hP⟩:=lk_row (kept_drop (LkX.good _ _) hk1)
    rw [hpn] at e hP
    cases e
    exact hP⟩
   have gQ:∀ D' W',Pk.Good (Pair2 (WtX p9 0 10 (cW 2) D' W') (Pair2 (BlO b8 [.string wid,.string sg] 58) (LkX (.slice ah 3 ch) (.slice pa pn pc)))):=fun D' W'=>Pair2.good WtX.good (Pair2.good (BlO.good _ _ _) (LkX.good _ _))
   replace hk9:=Box.mk hk9
   clear a1 a2 a3 hsd3 hD2 hW2 hI3 hT3 er en eu e3 hpn
   go_wp2_with fail
   refine (log_any _).mono ?_
   rintro e w6 ⟨rfl,hq6,hb6⟩
   have hk10:=hk9.out.below (gQ _ _) hb6
   have hG:=hN3.out _ w6 hk10 hq6
   replace hk10:=Box.mk hk10
   clear hk9 hq6 hb6 hN3
   go_wp2_with fail
   refine hG.mono ?_
   clear hG
   rintro e w7 ⟨rfl,hb7⟩
   have hk11:=hk10.out.below (gQ _ _) hb7
   have hG:=hA3.out w7 (hPp.out w7 hk11) hk11
   clear hk10 hb7 hk11 hA3 hPp
   go_wp2_with fail
   refine hG.mono ?_
   clear hG
   rintro e w8 ⟨rfl,hk12⟩
   have hk13:=hk12.out.below (gQ _ _) (bel_alloc w8 (.cells #[.string I3,.string T3] 58))
   have hG:=wtx_last hk13 (Pair2.good (BlO.good _ _ _) (LkX.good _ _))
   rw [hpb,n2,r2,show (ckH sO1 H3).n=3 from by show ((H3.length:Nat):Int)=3; rw [H3_len]; rfl,show (ckH sO1 H3).r=rootL H3 from rfl] at hG
   clear hk12 hk13
   go_wp2_with fail
   refine hG.mono ?_
   clear hG
   rintro e w9 ⟨rfl,hk14⟩
   have hcl:Box (∀ w1,Kept w (Pair2 (WtX p9 0 10 (cW 2) D2 W2) (Pair2 (BlO b8 [.string wid,.string sg] 58) (LkX (.slice ah 3 ch) (.slice pa pn pc)))) w1->w1.cell? ⟨b8,0,none⟩=some (.string wid)/\w1.cell? ⟨b8,1,none⟩=some (.string sg)):=⟨fun w1 hk1=>⟨(kept_bl hk1).cell 0,(kept_bl hk1).cell 1⟩⟩
   have hRt:Box (∀ w1,Kept w (Pair2 (WtX p9 0 10 (cW 2) D2 W2) (Pair2 (BlO b8 [.string wid,.string sg] 58) (LkX (.slice ah 3 ch) (.slice pa pn pc)))) w1->Calls Tryz.prog 28 #[.slice ah 3 ch] w1 fun e w'=>e=.returned (.string (rootL H3))/\Below w1.heap.size w1 w'):=⟨fun w1 hk1=>by
    obtain ⟨⟨a,cc,e,hP⟩,_⟩:=lk_row (kept_drop (LkX.good _ _) hk1)
    rw [H3_len] at e hP
    cases e
    exact rroot_any 3 H3 ah ch w1 hP (fun x hx=>by rw [H3_32 x hx]; omega)⟩
   have hLe:Box (∀ w1,Kept w (Pair2 (WtX p9 0 10 (cW 2) D2 W2) (Pair2 (BlO b8 [.string wid,.string sg] 58) (LkX (.slice ah 3 ch) (.slice pa pn pc)))) w1->Calls Tryz.prog 31 #[.pointer (some ⟨bl,0,none⟩)] w1 fun e w'=>e=.returned (.int .i64 2)/\Box (Kept w (Pair2 (WtX p9 0 10 (cW 2) D2 W2) (Pair2 (BlO b8 [.string wid,.string sg] 58) (LkX (.slice ah 3 ch) (.slice pa pn pc)))) w')):=⟨fun w1 hk1=>by
    have h1:=wtx_left hk1 (Pair2.good (BlO.good _ _ _) (LkX.good _ _)) k2.ok
    rw [hpb,u2,u1.out,show ((2 ^ (cW 2).h-(w00.u+1+1):Nat):Int)=2 from rfl] at h1
    exact h1⟩
   have hId:Box (∀ w1,Kept w (Pair2 (WtX p9 0 10 (cW 2) D2 W2) (Pair2 (BlO b8 [.string wid,.string sg] 58) (LkX (.slice ah 3 ch) (.slice pa pn pc)))) w1->Calls Tryz.prog 30 #[.pointer (some ⟨bl,0,none⟩)] w1 fun e w'=>e=.returned (.string wid)/\Box (Kept w (Pair2 (WtX p9 0 10 (cW 2) D2 W2) (Pair2 (BlO b8 [.string wid,.string sg] 58) (LkX (.slice ah 3 ch) (.slice pa pn pc)))) w')):=⟨fun w1 hk1=>by
    have h1:=wtx_id hE.out hk1 (Pair2.good (BlO.good _ _ _) (LkX.good _ _)) (cW_ok (by decide))
    rw [hpb,show keyID (cW 2).s (cW 2).h=keyID sW1 2 from rfl,hwid.out] at h1
    exact h1⟩
   have hN4:Box (∀ kb w1,Kept w (Pair2 (WtX p9 0 10 (cW 2) D2 W2) (Pair2 (BlO b8 [.string wid,.string sg] 58) (LkX (.slice ah 3 ch) (.slice pa pn pc)))) w1->QKey w1 kb sLg 2 0->Calls Tryz.prog 25 #[.pointer (some ⟨kb,0,none⟩),.string ⟨#[111]⟩,.slice ah 2 ch,.int .i64 0] w1 fun e w'=>e=.returned (.string sn1)/\Below w1.heap.size w1 w'):=⟨fun kb w1 hk1 hq=>by
    obtain ⟨⟨a,cc,e,hP⟩,_⟩:=lk_row (kept_drop (LkX.good _ _) hk1)
    rw [H3_len] at e hP
    cases e
    exact noted_any hE.out kb sLg sO1 (H3.take 2) ah 2 ch 0 w1 hk1.k hq (by decide) sO1_ok (hP.take (by omega)) (by omega) (take_32 H3_32 2)⟩
   have hg2:gC (ckH sO1 (H3.take 2))=true:=gC_hs (take_32 H3_32 2) (by rw [List.length_take,H3_len]; decide)
   have hTx:=Box.mk (fun w1=>wtext_any sn1 w1 (by have:=ntH_size sLg (o:=sO1) (hs:=H3.take 2) 0 hg2; show (ntH sLg sO1 (H3.take 2) 0).size<=_; omega))
   have hrd:rdT sn1=ckT (ckH sO1 (H3.take 2)):=(rd_some (s:=sn1) (show rdN (byN (ckT (ckH sO1 (H3.take 2)),[(keyID sLg 2,keyS sLg 2 0 (ckT (ckH sO1 (H3.take 2))))]))=_ from rdN_by (gN_H sLg 0 hg2))).1
   rw [hrd] at hTx
   have hVe:=Box.mk (fun w1=>r6verify_any wid (ckT (ckH sO1 (H3.take 2))) sg w1 (by have:=ckT_le hg2; omega))
   have hve0:verE wid (ckT (ckH sO1 (H3.take 2))) sg=0:=by
    rw [<- hwid.out,<- hsg.out]
    exact ver_back sW1 2 0 _ (by decide) (by decide)
   rw [hve0] at hVe
   obtain ⟨TT,hTT⟩:∃ x,ckT (ckH sO1 (H3.take 2))=x:=⟨_,rfl⟩
   rw [hTT] at hTx hVe
   obtain ⟨RR,hRR⟩:∃ x,rootL H3=x:=⟨_,rfl⟩
   rw [hRR] at hRt ⊢
   have gK:Box (Pk.Good (Pair2 (WtX p9 0 10 (cW 2) D2 W2) (Pair2 (BlO b8 [.string wid,.string sg] 58) (LkX (.slice ah 3 ch) (.slice pa pn pc))))):=⟨gQ _ _⟩
   have hkd:=hk14.out.below gK.out (dB w9)
   clear hrd hve0 hTT hRR hg2 hsg hwid k1 b1 n1 r1 u1 m1 k2 n2 r2 u2 m2 hpb gQ hid hE
   replace hkd:=Box.mk hkd
   go_wp2_with fail
   refine Tg.region_steadyC (fun w'=>w'.cell? ⟨b8,0,none⟩=some (.string wid)/\w'.cell? ⟨b8,1,none⟩=some (.string sg)) (fun w'=>Kept w (Pair2 (WtX p9 0 10 (cW 2) D2 W2) (Pair2 (BlO b8 [.string wid,.string sg] 58) (LkX (.slice ah 3 ch) (.slice pa pn pc)))) w') (fun w w'=>w=w') rfl hkd.out ?_
   refine anyS_calms [0,1,2,3,4,5,6,7,8,9,10,11,12,13,14,15,16] 29 rfl (fun _=>rfl) (Tg.st_eq fun w' h=>hcl.out w' h) (by kernel_rfl) (by kernel_rfl) (by kernel_rfl) ?_
   simp [nth]
   try simp only [Act.put,zT9,zS9,zZ9]
   repeat (first | go_big_quiet_step (first | exact fun _=>rfl | rfl) | (refine quiet_val rfl (.bool true) (fun w' hw'=>by go_simp) ?_; simp only [Act.put,zT9,zS9,zZ9]))
   refine wpQuiet_nil ?_
   refine anyS_forced 17 (by kernel_rfl) rfl rfl (fun wa hWa K hK=>?_)
   have hF:=hRt.out wa hWa
   go_simp
   refine hF.mono ?_
   rintro e wb ⟨rfl,hb⟩
   have hkq:Kept w (Pair2 (WtX p9 0 10 (cW 2) D2 W2) (Pair2 (BlO b8 [.string wid,.string sg] 58) (LkX (.slice ah 3 ch) (.slice pa pn pc)))) wb:=hWa.below gK.out hb
   refine hK _ _ (fun w'=>Kept w (Pair2 (WtX p9 0 10 (cW 2) D2 W2) (Pair2 (BlO b8 [.string wid,.string sg] 58) (LkX (.slice ah 3 ch) (.slice pa pn pc)))) w') (Tg.st_eq fun w' h=>hcl.out w' h) hkq ?_
   clear hK K hF hb hWa hkq
   refine anyS_calms [18,19,20,21] 24 rfl (fun _=>rfl) (Tg.st_eq fun w' h=>hcl.out w' h) (by kernel_rfl) (by kernel_rfl) (by kernel_rfl) ?_
   simp [nth]
   try simp only [Act.put,zT9,zS9,zZ9]
   repeat (go_big_quiet_step (first | exact fun _=>rfl | rfl))
   refine quiet_val rfl (.bool true) (fun w' hw'=>by go_simp) ?_
   simp only [Act.put,zT9,zS9,zZ9]
   repeat (go_big_quiet_step (first | exact fun _=>rfl | rfl))
   refine quiet_val rfl (.bool true) (fun w' hw'=>by go_simp) ?_
   simp only [Act.put,zT9,zS9,zZ9]
   repeat (go_big_quiet_step (first | exact fun _=>rfl | rfl))
   refine wpQuiet_nil ?_
   refine anyS_forced 22 (by kernel_rfl) rfl rfl (fun wa hWa K hK=>?_)
   have hF:=hLe.out wa hWa
   go_simp
   refine hF.mono ?_
   rintro e wb ⟨rfl,hkb⟩
   refine hK _ _ (fun w'=>Kept w (Pair2 (WtX p9 0 10 (cW 2) D2 W2) (Pair2 (BlO b8 [.string wid,.string sg] 58) (LkX (.slice ah 3 ch) (.slice pa pn pc)))) w') (Tg.st_eq fun w' h=>hcl.out w' h) hkb.out ?_
   clear hK K hF hWa hkb
   refine anyS_calms [23,24,25,26,27,28] 17 rfl (fun _=>rfl) (Tg.st_eq fun w' h=>hcl.out w' h) (by kernel_rfl) (by kernel_rfl) (by kernel_rfl) ?_
   simp [nth]
   try simp only [Act.put,zT9,zS9,zZ9]
   repeat (go_big_quiet_step (first | exact fun _=>rfl | rfl))
   refine quiet_val rfl (.bool true) (fun w' hw'=>by go_simp) ?_
   simp only [Act.put,zT9,zS9,zZ9]
   repeat (go_big_quiet_step (first | exact fun _=>rfl | rfl))
   refine quiet_val rfl (.bool true) (fun w' hw'=>by go_simp) ?_
   simp only [Act.put,zT9,zS9,zZ9]
   repeat (go_big_quiet_step (first | exact fun _=>rfl | rfl))
   refine quiet_val rfl (.pointer (some ⟨b8,0,none⟩)) (fun w' hw'=>by go_simp) ?_
   simp only [Act.put,zT9,zS9,zZ9]
   repeat (go_big_quiet_step (first | exact fun _=>rfl | rfl))
   refine quiet_val rfl (.string wid) (fun w' hw'=>by obtain ⟨h3,h4⟩:=hw'; go_simp) ?_
   simp only [Act.put,zT9,zS9,zZ9]
   repeat (go_big_quiet_step (first | exact fun _=>rfl | rfl))
   refine wpQuiet_nil ?_
   refine anyS_forced 29 (by kernel_rfl) rfl rfl (fun wa hWa K hK=>?_)
   have hF:=hId.out wa hWa
   go_simp
   refine hF.mono ?_
   rintro e wb ⟨rfl,hkb⟩
   refine hK _ _ (fun w'=>Kept w (Pair2 (WtX p9 0 10 (cW 2) D2 W2) (Pair2 (BlO b8 [.string wid,.string sg] 58) (LkX (.slice ah 3 ch) (.slice pa pn pc)))) w') (Tg.st_eq fun w' h=>hcl.out w' h) hkb.out ?_
   clear hK K hF hWa hkb
   refine anyS_calms [30,31,32,33,34,36,37,40,41] 7 rfl (fun _=>rfl) (Tg.st_eq fun w' h=>hcl.out w' h) (by kernel_rfl) (by kernel_rfl) (by kernel_rfl) ?_
   simp [nth]
   try simp only [Act.put,zT9,zS9,zZ9]
   repeat (go_big_quiet_step (first | exact fun _=>rfl | rfl))
   refine quiet_val rfl (.bool true) (fun w' hw'=>by go_simp) ?_
   simp only [Act.put,zT9,zS9,zZ9]
   repeat (go_big_quiet_step (first | exact fun _=>rfl | rfl))
   refine quiet_val rfl (.bool true) (fun w' hw'=>by go_simp) ?_
   simp only [Act.put,zT9,zS9,zZ9]
   repeat (go_big_quiet_step (first | exact fun _=>rfl | rfl))
   refine quiet_val rfl (.pointer (some ⟨b8,0,none⟩)) (fun w' hw'=>by go_simp) ?_
   simp only [Act.put,zT9,zS9,zZ9]
   repeat (go_big_quiet_step (first | exact fun _=>rfl | rfl))
   refine quiet_val rfl (.string wid) (fun w' hw'=>by obtain ⟨h3,h4⟩:=hw'; go_simp) ?_
   simp only [Act.put,zT9,zS9,zZ9]
   repeat (go_big_quiet_step (first | exact fun _=>rfl | rfl))
   refine quiet_val rfl (.slice ah 2 ch) (fun w' hw'=>by
    have hc2:¬ ((ch:Nat):Int)<2:=by omega
    go_simp
    try (intro hx; omega)) ?_
   simp only [Act.put,zT9,zS9,zZ9]
   repeat (go_big_quiet_step (first | exact fun _=>rfl | rfl))
   refine quiet_val rfl (.pointer (some ⟨b8,1,none⟩)) (fun w' hw'=>by go_simp) ?_
   simp only [Act.put,zT9,zS9,zZ9]
   repeat (go_big_quiet_step (first | exact fun _=>rfl | rfl))
   refine quiet_val rfl (.string sg) (fun w' hw'=>by obtain ⟨h3,h4⟩:=hw'; go_simp) ?_
   simp only [Act.put,zT9,zS9,zZ9]
   repeat (go_big_quiet_step (first | exact fun _=>rfl | rfl))
   refine wpQuiet_nil ?_
   refine anyS_forced 35 (by kernel_rfl) rfl rfl (fun wa hWa K hK=>?_)
   have hF:=log_any wa
   go_simp
   refine hF.mono ?_
   rintro e wb ⟨rfl,hq,hb⟩
   obtain ⟨kb,hkb⟩:∃ x,wa.heap.size=x:=⟨_,rfl⟩
   rw [hkb] at hq ⊢
   have hkq:Kept w (Pair2 (WtX p9 0 10 (cW 2) D2 W2) (Pair2 (BlO b8 [.string wid,.string sg] 58) (LkX (.slice ah 3 ch) (.slice pa pn pc)))) wb:=hWa.below gK.out hb
   refine hK _ _ (fun w'=>Kept w (Pair2 (WtX p9 0 10 (cW 2) D2 W2) (Pair2 (BlO b8 [.string wid,.string sg] 58) (LkX (.slice ah 3 ch) (.slice pa pn pc)))) w'/\QKey w' kb sLg 2 0) (Tg.st_eq fun w' h=>hcl.out w' h.1) ⟨hkq,hq⟩ ?_
   clear hK K hF hb hkb hWa hkq hq
   refine anyS_forced 38 (by kernel_rfl) rfl rfl (fun wa hWa K hK=>?_)
   have hF:=hN4.out kb wa hWa.1 hWa.2
   go_simp
   refine hF.mono ?_
   rintro e wb ⟨rfl,hb⟩
   have hkq:Kept w (Pair2 (WtX p9 0 10 (cW 2) D2 W2) (Pair2 (BlO b8 [.string wid,.string sg] 58) (LkX (.slice ah 3 ch) (.slice pa pn pc)))) wb:=hWa.1.below gK.out hb
   refine hK _ _ (fun w'=>Kept w (Pair2 (WtX p9 0 10 (cW 2) D2 W2) (Pair2 (BlO b8 [.string wid,.string sg] 58) (LkX (.slice ah 3 ch) (.slice pa pn pc)))) w') (Tg.st_eq fun w' h=>hcl.out w' h) hkq ?_
   clear hK K hF hb hWa hkq
   refine anyS_forced 39 (by kernel_rfl) rfl rfl (fun wa hWa K hK=>?_)
   have hF:=hTx.out wa
   go_simp
   refine hF.mono ?_
   rintro e wb ⟨rfl,hb⟩
   have hkq:Kept w (Pair2 (WtX p9 0 10 (cW 2) D2 W2) (Pair2 (BlO b8 [.string wid,.string sg] 58) (LkX (.slice ah 3 ch) (.slice pa pn pc)))) wb:=hWa.below gK.out hb
   refine hK _ _ (fun w'=>Kept w (Pair2 (WtX p9 0 10 (cW 2) D2 W2) (Pair2 (BlO b8 [.string wid,.string sg] 58) (LkX (.slice ah 3 ch) (.slice pa pn pc)))) w') (Tg.st_eq fun w' h=>hcl.out w' h) hkq ?_
   clear hK K hF hb hWa hkq
   refine anyS_forced 42 (by kernel_rfl) rfl rfl (fun wa hWa K hK=>?_)
   have hF:=hVe.out wa
   go_simp
   refine hF.mono ?_
   rintro e wb ⟨rfl,hb⟩
   have hkq:Kept w (Pair2 (WtX p9 0 10 (cW 2) D2 W2) (Pair2 (BlO b8 [.string wid,.string sg] 58) (LkX (.slice ah 3 ch) (.slice pa pn pc)))) wb:=hWa.below gK.out hb
   refine hK _ _ (fun w'=>Kept w (Pair2 (WtX p9 0 10 (cW 2) D2 W2) (Pair2 (BlO b8 [.string wid,.string sg] 58) (LkX (.slice ah 3 ch) (.slice pa pn pc)))) w') (Tg.st_eq fun w' h=>hcl.out w' h) hkq ?_
   clear hK K hF hb hWa hkq
   refine anyS_calms [43,44,45] 0 rfl (fun _=>rfl) (Tg.st_eq fun w' h=>hcl.out w' h) (by kernel_rfl) (by kernel_rfl) (by kernel_rfl) ?_
   simp [nth]
   try simp only [Act.put,zT9,zS9,zZ9]
   repeat (go_big_quiet_step (first | exact fun _=>rfl | rfl))
   refine quiet_val rfl (.bool true) (fun w' hw'=>by go_simp) ?_
   simp only [Act.put,zT9,zS9,zZ9]
   repeat (go_big_quiet_step (first | exact fun _=>rfl | rfl))
   refine quiet_val rfl (.bool true) (fun w' hw'=>by go_simp) ?_
   simp only [Act.put,zT9,zS9,zZ9]
   repeat (go_big_quiet_step (first | exact fun _=>rfl | rfl))
   refine wpQuiet_nil ?_
   refine anyS_done (by kernel_rfl) (fun wz hz=>?_)
   have hbz:=Box.mk hz.k
   clear hz
   go_wp2_with fail
   go_ret
   exact ⟨rfl,hbz⟩
end Go.Proofs.YthpfpkikmaiddaaGreatDoor.Wt
