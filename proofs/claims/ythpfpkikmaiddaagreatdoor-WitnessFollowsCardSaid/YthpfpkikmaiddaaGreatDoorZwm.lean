/- - -/
import Derived.Test.YthpfpkikmaiddaaGreatDoorZtq
set_option linter.all false
set_option maxHeartbeats 3200000
namespace Go.Proofs.YthpfpkikmaiddaaGreatDoor.Wt
open Go Go.RowKit Go.Proofs.YthpfpkikmaiddaaGreatDoor.Pk Go.Proofs.YthpfpkikmaiddaaGreatDoor.Nt Go.Proofs.YthpfpkikmaiddaaGreatDoor.Tg
def nSz:Bs:=[115,105,122,101]
def nRt:Bs:=[114,111,111,116]
def wtC (a b c:Bs):Ct:=[(nRt,b),(nSz,a),(nUs,c)]
def p1 (ct:Ct) (a:Bs):Ct:=putM ct nSz a
def p2 (ct:Ct) (a b:Bs):Ct:=putM (p1 ct a) nRt b
def p3 (ct:Ct) (a b c:Bs):Ct:=putM (p2 ct a b) nUs c
def WtK (ct:Ct):Prop:=ct=[]∨∃ a b c,ct=wtC a b c
theorem putE_few {ct:Ct} {n t:Bs} (h1:1<=n.length) (h2:n.length<=32) (ht:t.length<=65535) (hf:ct.length<=60):putE ct n t=0:=by
 unfold putE
 rw [if_neg (by omega),if_neg (by omega),if_neg (by omega)]
structure Puts (ct:Ct) (a b c:Bs):Prop where
 e1:putE ct nSz a=0
 e2:putE (p1 ct a) nRt b=0
 e3:putE (p2 ct a b) nUs c=0
 all:p3 ct a b c=wtC a b c
theorem puts_of {ct:Ct} (h:WtK ct) (a b c:Bs) (ha:a.length<=65535) (hb:b.length<=65535) (hc:c.length<=65535):Puts ct a b c:=by
 rcases h with rfl | ⟨x,y,z,rfl⟩
 ·have e1:putE [] nSz a=0:=putE_few (by decide) (by decide) ha (by simp)
  have q1:p1 [] a=[(nSz,a)]:=by unfold p1 putM; rw [if_pos e1]; rfl
  have e2:putE (p1 [] a) nRt b=0:=by rw [q1]; exact putE_few (by decide) (by decide) hb (by simp)
  have q2:p2 [] a b=[(nRt,b),(nSz,a)]:=by unfold p2 putM; rw [if_pos e2,q1]; rfl
  have e3:putE (p2 [] a b) nUs c=0:=by rw [q2]; exact putE_few (by decide) (by decide) hc (by simp)
  exact ⟨e1,e2,e3,by unfold p3 putM; rw [if_pos e3,q2]; rfl⟩
 ·have e1:putE (wtC x y z) nSz a=0:=putE_few (by decide) (by decide) ha (by simp [wtC])
  have q1:p1 (wtC x y z) a=wtC a y z:=by unfold p1 putM; rw [if_pos e1]; rfl
  have e2:putE (p1 (wtC x y z) a) nRt b=0:=by rw [q1]; exact putE_few (by decide) (by decide) hb (by simp [wtC])
  have q2:p2 (wtC x y z) a b=wtC a b z:=by unfold p2 putM; rw [if_pos e2,q1]; rfl
  have e3:putE (p2 (wtC x y z) a b) nUs c=0:=by rw [q2]; exact putE_few (by decide) (by decide) hc (by simp [wtC])
  exact ⟨e1,e2,e3,by unfold p3 putM; rw [if_pos e3,q2]; rfl⟩
theorem wtC_ok (a b c:Bs) (ha:a.length<=65535) (hb:b.length<=65535) (hc:c.length<=65535):(wtC a b c).ok:=by
 have h:=puts_of (.inl rfl) a b c ha hb hc
 rw [<- h.all]
 exact ((Ct.ok_nil.put nSz a).put nRt b).put nUs c
theorem wtC_len (a b c:Bs):(bytesC (wtC a b c)).length=26+a.length+b.length+c.length:=by
 simp [wtC,bytesC,pairL,txL_length,Pk.beN_length,nSz,nRt,nUs]; omega
def fourI (s:Bs):Int:=(numR 4 s 0).1
def fourK (s:Bs):Bool:=decide (endE (numR 4 s 0).2.1 (numR 4 s 0).2.2=0)
def noneB (ct:Ct):Bool := !(getC ct nSz).isSome && (!(getC ct nRt).isSome && !(getC ct nUs).isSome)
structure RcM where
 n:Int
 r:ByteArray
 u:Int
def rdR (ct:Ct):RcM:=if noneB ct=true then ⟨0,noneH,0⟩ else ⟨fourI (ctB ct nSz),ctT ct nRt,fourI (ctB ct nUs)⟩
def rdK (ct:Ct):Bool:=if noneB ct=true then true else fourK (ctB ct nSz) && (fourK (ctB ct nUs) && decide ((ctT ct nRt).size=32))
structure WitM where
 C:CellM
 n:Int
 r:ByteArray
 u:Nat
structure WCfg where
 l:ByteArray
 o:ByteArray
 s:ByteArray
 h:Nat
structure WCfg.ok (c:WCfg):Prop where
 l:c.l.size=32
 o:gO c.o.data.toList=true
 h:c.h<=4
 s:c.s.size<=140737488351232
structure WitM.ok (W:WitM) (c:WCfg):Prop where
 n:0<=W.n/\W.n<=4294967295
 r:W.r.size=32
 u:W.u<=2 ^ c.h
def nxC (W:WitM) (k:Ck):Ct:=p3 W.C.now (Pk.beN k.n.toNat 4) k.r.data.toList (Pk.beN (W.u+1) 4)
section
variable (b h:Nat) (D:Dev) (W:WitM)
def cmE (C:CellM) (ct:Ct):Int:=commitE b h D { C with now:=ct }
def cmD (C:CellM) (ct:Ct):Dev:=commitD b h D { C with now:=ct }
def cmX (C:CellM) (ct:Ct):CellM:=commitC b h D { C with now:=ct }
def cmC (C:CellM) (ct:Ct):CellM:=if cmE b h D C ct=0 then cmX b h D C ct else { cmX b h D C ct with now:=(cmX b h D C ct).was }
end
theorem cm_bd {k b h:Nat} {D:Dev} {C:CellM} (hb:Bd k D C) (hh:h<=300) (ct:Ct):Bd (k+1) (cmD b h D C ct) (cmC b h D C ct):=by
 have h1:Bd k D { C with now:=ct }:=⟨hb.t,hb.w,hb.n,hb.f⟩
 have h2:=commit_bd (b:=b) h1 hh
 unfold cmC cmX cmE cmD
 split
 ·exact h2
 ·exact ⟨h2.t,h2.w,h2.n,h2.f⟩
theorem wfour_any (n:Nat) (w:World) (hn:n<4294967296) :
  Calls Tryz.prog 168 #[.int .i64 (n:Int)] w fun e w'=>e=.returned (.string (btx (Pk.beN n 4)))/\Below w.heap.size w w':=by
 have hW0:=wr_four (WrN.start w) n hn (by simp)
 replace hW0:=Box.mk hW0
 clear hn
 go_enter Tryz.func168,Tryz.ntmps168
 go_wp2_with fail
 refine hW0.out.mono ?_
 clear hW0
 rintro e w2 ⟨rfl,hW2⟩
 have hF:=wr_bytes hW2
 clear hW2
 go_wp2_with fail
 refine hF.mono ?_
 clear hF
 rintro e w3 ⟨rfl,hB⟩
 replace hB:=Box.mk hB
 go_wp2_with fail
 go_ret
 exact ⟨rfl,hB.out⟩
theorem wreadFour_any (s:ByteArray) (w:World) :
  Calls Tryz.prog 104 #[.string s] w fun e w'=>e=.returned (.tuple #[.int .i64 (fourI s.data.toList),.bool (fourK s.data.toList)])/\Below w.heap.size w w':=by
 unfold fourI fourK
 have h0:=Box.mk (read_one s w)
 obtain ⟨b,hb⟩:∃ b,w.heap.size=b:=⟨_,rfl⟩
 have h4:Box (∀ w1,RAt w1 b 261 s.data.toList 0->_):=⟨fun w1 hr=>rfour_any b s.data.toList 0 w1 hr⟩
 obtain ⟨n,hn⟩:∃ n,(numR 4 s.data.toList 0).1=n:=⟨_,rfl⟩
 obtain ⟨l2,hl2⟩:∃ n,(numR 4 s.data.toList 0).2.1=n:=⟨_,rfl⟩
 obtain ⟨e2,he2⟩:∃ n,(numR 4 s.data.toList 0).2.2=n:=⟨_,rfl⟩
 rw [hn,hl2,he2] at h4 ⊢
 obtain ⟨E,hE⟩:∃ E,endE l2 e2=E:=⟨_,rfl⟩
 have h5:Box (∀ w1,RAt w1 b 261 l2 e2->_):=⟨fun w1 hr=>end_any b l2 e2 w1 hr⟩
 rw [hE] at h5 ⊢
 replace hb:=Box.mk hb
 clear hn hl2 he2 hE
 go_enter Tryz.func104,Tryz.ntmps104
 go_wp2_with fail
 refine h0.out.mono ?_
 clear h0
 rintro e w1 ⟨rfl,hr1,hb1⟩
 rw [hb.out] at hr1 ⊢
 have hF:=h4.out w1 hr1
 replace hb1:=Box.mk hb1
 clear hr1 h4
 go_wp2_with fail
 refine hF.mono ?_
 clear hF
 rintro e w3 ⟨rfl,hN⟩
 have hB3:=Box.mk (rd_bel hb1.out (Nat.le_of_eq hb.out) hN)
 have hF:=h5.out w3 hN.at_
 clear hb1 hN h5
 go_wp2_with fail
 refine hF.mono ?_
 clear hF
 rintro e w4 ⟨rfl,hN⟩
 have hB4:=Box.mk (rd_bel hB3.out (Nat.le_of_eq hb.out) hN)
 clear hN hB3
 go_wp2_with fail
 go_returns
 exact ⟨by congr 3,hB4.out⟩
theorem gC_zero (o:ByteArray):gC ⟨o,0,noneH⟩=gO o.data.toList:=by
 rw [Bool.eq_iff_iff,gC_iff]
 exact ⟨fun h=>h.1,fun h=>⟨h,by show (0:Int)<=0; decide,by show (0:Int)<=1024; decide,noneH_size⟩⟩
theorem wgood_any (o:ByteArray) (B:Nat) (w:World) (hL:NL B w) (hBw:B<=w.heap.size) (hK:KIs w) (ho:o.size<=140737488355328) :
  Calls Tryz.prog 54 #[.string o] w fun e w'=>e=.returned (.bool (gO o.data.toList))/\Below w.heap.size w w':=by
 have hR:=root_any 0 [] none 0 w (pa0 w) hK fit_nil
 rw [rootL_nil] at hR
 have hT:=Box.mk (fun w1 (hb:Below w.heap.size w w1)=>text_any ⟨o,0,noneH⟩ B w1 (hL.here hBw hb) (Nat.le_trans hBw hb.size) ho (by show noneH.size<=_; rw [noneH_size]; omega))
 unfold ckV at hT
 obtain ⟨R,hRe⟩:∃ R,noneH=R:=⟨_,rfl⟩
 have hg:=gC_zero o
 rw [hRe] at hR hT hg
 have hv:∃ S E,txtV ⟨o,0,R⟩=.tuple #[.string S,.int .i64 E]/\(E==0)=gO o.data.toList:=by
  rw [<- hg]
  cases hq:gC ⟨o,0,R⟩ with
  | true=>exact ⟨_,_,txtV_yes hq,rfl⟩
  | false=>exact ⟨_,_,txtV_no hq,rfl⟩
 obtain ⟨S,E,hv,hE⟩:=hv
 rw [hv] at hT
 obtain ⟨g,hge⟩:∃ g,gO o.data.toList=g:=⟨_,rfl⟩
 rw [hge] at hE ⊢
 clear hL hBw hK ho hRe hv hg hge
 go_enter Tryz.func54,Tryz.ntmps54
 go_wp2_with fail
 refine hR.mono ?_
 clear hR
 rintro e w1 ⟨rfl,hb1⟩
 have hF:=hT.out w1 hb1
 replace hb1:=Box.mk hb1
 clear hT
 go_wp2_with fail
 refine hF.mono ?_
 clear hF
 rintro e w2 ⟨rfl,hb2⟩
 replace hb2:=Box.mk (mono_bel hb1.out hb2 (Nat.le_refl _))
 go_wp2_with fail
 go_ret
 exact ⟨rfl,hb2.out⟩
section
variable (w:World)
theorem wid_nil:Calls Tryz.prog 30 #[.pointer none] w fun e w'=>e=.returned (.string ⟨#[]⟩)/\w=w':=by
 go_enter Tryz.func30,Tryz.ntmps30
 go_wp2_with fail
 go_ret
 exact ⟨rfl,rfl⟩
theorem wleft_nil:Calls Tryz.prog 31 #[.pointer none] w fun e w'=>e=.returned (.int .i64 0)/\w=w':=by
 go_enter Tryz.func31,Tryz.ntmps31
 go_wp2_with fail
 go_ret
 exact ⟨rfl,rfl⟩
theorem wlast_nil:Calls Tryz.prog 27 #[.pointer none] w fun e w'=>e=.returned (.tuple #[.int .i64 0,.string ⟨#[]⟩])/\w=w':=by
 go_enter Tryz.func27,Tryz.ntmps27
 go_wp2_with fail
 go_returns
 exact ⟨rfl,rfl⟩
theorem wask_nil (s:ByteArray) (v:Value):Calls Tryz.prog 24 #[.pointer none,.string s,v] w fun e w'=>e=.returned (.tuple #[.agg #[.string ⟨#[]⟩,.string ⟨#[]⟩],.int .i64 1])/\Below w.heap.size w w':=by
 go_enter Tryz.func24,Tryz.ntmps24
 go_wp2_with fail
 go_returns
 exact ⟨rfl,bel_alloc _ _⟩
end
def wtV (c:WCfg) (p:Pl) (vi:Value) (n:Int) (r:ByteArray):List Value:=[vi,.int .i64 1,.string c.o,.pointer (some ⟨p.bk,0,none⟩),.pointer (some ⟨p.bc,0,none⟩),.int .i64 n,.string r]
def WtO (p:Pl) (b h:Nat) (c:WCfg) (D:Dev) (W:WitM) (vi:Value):Pk.Obj:=
 Pair2 (Pair2 (DevO p.bd D) (CelO p.bd p.bc b h W.C)) (Pair2 (KeyO p.bk c.s c.h W.u) (Pair2 (RowO vi [c.l]) (BlO p.bl (wtV c p vi W.n W.r) 106)))
section
variable {w0 w w':World} {p:Pl} {b h:Nat} {c:WCfg} {D D':Dev} {W:WitM} {vi:Value} {X:Pk.Obj}
theorem gOwn {bk:Nat} {s:ByteArray} {hh u:Nat} {v:Value} {P:List ByteArray} {bl:Nat} {cs:List Value} {t:TypeId}:Pk.Good (Pair2 (KeyO bk s hh u) (Pair2 (RowO v P) (BlO bl cs t))):=Pair2.good (KeyO.good _ _ _ _) (Pair2.good (RowO.good _ _) (BlO.good _ _ _))
theorem WtO.good:Pk.Good (WtO p b h c D W vi):=Pair2.good (Pair2.good (DevO.good _ _) (CelO.good _ _ _ _ _)) gOwn
def WtX (p:Pl) (b h:Nat) (c:WCfg) (D:Dev) (W:WitM):Pk.Obj:=fun w F=>∃ vi,WtO p b h c D W vi w F
theorem WtX.good:Pk.Good (WtX p b h c D W) where
 lt:=fun ⟨_,h⟩=>WtO.good.lt h
 chg:=fun ⟨vi,h⟩ hc hn=>⟨vi,WtO.good.chg h hc hn⟩
 wide:=fun ⟨vi,h⟩ hG hl=>⟨vi,WtO.good.wide h hG hl⟩
theorem wtx_open (hk:Kept w0 (Pair2 (WtX p b h c D W) X) w):∃ vi,Kept w0 (Pair2 (WtO p b h c D W vi) X) w:=by
 obtain ⟨F,⟨F1,F2,⟨vi,h1⟩,h2⟩,h3⟩:=hk
 exact ⟨vi,F,⟨F1,F2,h1,h2⟩,h3⟩
theorem wtx_close (hk:Kept w0 (Pair2 (WtO p b h c D W vi) X) w):Kept w0 (Pair2 (WtX p b h c D W) X) w:=
 kept_cv hk (cvLeft fun _ _ h=>⟨vi,h⟩)
theorem wlift_cel {f:FuncId} {args:Array Value} {v:Value} {C':CellM} (gX:Pk.Good X) (hd:DoesIn w0 f args (CelO p.bd p.bc b h W.C) (RetE v (CelO p.bd p.bc b h C'))) :
  DoesIn w0 f args (Pair2 (WtO p b h c D W vi) X) (RetE v (Pair2 (WtO p b h c D { W with C:=C' } vi) X)):=
 ((hd.ret' (DevO.good _ _)).ret gOwn).ret gX
theorem wlift_key {f:FuncId} {args:Array Value} {v:Value} {u':Nat} (gX:Pk.Good X) (hd:DoesIn w0 f args (KeyO p.bk c.s c.h W.u) (RetE v (KeyO p.bk c.s c.h u'))) :
  DoesIn w0 f args (Pair2 (WtO p b h c D W vi) X) (RetE v (Pair2 (WtO p b h c D { W with u:=u' } vi) X)):=
 ((hd.ret (Pair2.good (RowO.good _ _) (BlO.good _ _ _))).ret' (Pair2.good (DevO.good _ _) (CelO.good _ _ _ _ _))).ret gX
theorem cvWb:Conv (Pair2 (WtO p b h c D W vi) X) (Pair2 (BlO p.bl (wtV c p vi W.n W.r) 106) (Pair2 (RowO vi [c.l]) (Pair2 (KeyO p.bk c.s c.h W.u) (Pair2 (Pair2 (DevO p.bd D) (CelO p.bd p.bc b h W.C)) X)))):=
 (cvLeft (cvSwap.trans (cvLeft (cvSwap.trans ((cvLeft cvSwap).trans cvAssoc))))).trans (cvAssoc.trans (cvAssoc.trans (cvRight cvAssoc)))
theorem cvWb':Conv (Pair2 (BlO p.bl (wtV c p vi W.n W.r) 106) (Pair2 (RowO vi [c.l]) (Pair2 (KeyO p.bk c.s c.h W.u) (Pair2 (Pair2 (DevO p.bd D) (CelO p.bd p.bc b h W.C)) X)))) (Pair2 (WtO p b h c D W vi) X):=
 (((cvRight cvAssoc').trans cvAssoc').trans cvAssoc').trans (cvLeft ((cvLeft (cvAssoc'.trans ((cvLeft cvSwap).trans cvSwap))).trans cvSwap))
theorem wt_blk (hk:Kept w0 (Pair2 (WtO p b h c D W vi) X) w):Pk.Blk w p.bl (wtV c p vi W.n W.r) 106:=by
 obtain ⟨F,h1,_⟩:=kept_look (kept_cv hk cvWb)
 exact h1.1
theorem wt_row (hk:Kept w0 (Pair2 (WtO p b h c D W vi) X) w):(∃ a cc,vi=.slice a 1 cc/\PA w a 1 cc [c.l])/\PartsAt w vi [c.l]:=by
 obtain ⟨F,h1,_⟩:=kept_look (kept_cv hk (cvWb.trans cvFlip))
 exact ⟨txr_pa h1.1,h1.1.parts⟩
theorem wt_here (hk:Kept w0 (Pair2 (WtO p b h c D W vi) X) w) (gX:Pk.Good X) (hb:Below w.heap.size w w'):Kept w0 (Pair2 (WtO p b h c D W vi) X) w':=hk.below (Pair2.good WtO.good gX) hb
end
theorem kept_set {w0 w:World} {bl:Nat} {cs:List Value} {t:TypeId} {Y:Pk.Obj} (gY:Pk.Good Y) (hk:Kept w0 (Pair2 (BlO bl cs t) Y) w) (i:Nat) (u:Value):Kept w0 (Pair2 (BlO bl (cs.set i u) t) Y) (w.setCell ⟨bl,i,none⟩ u):=
 kept_move hk gY fun F h=>⟨⟨h.1.setCell i u,.inl h.2.1,fun k hk=>by
  rcases hk with hk | hk
  ·rw [World.size_setCell]; exact h.2.2 k hk
  ·exact hk.2⟩,((Chg.refl (fun k=>k=bl) w).setCell (p:=⟨bl,i,none⟩) rfl u).mono fun k _ e=>e ▸ h.2.1⟩
theorem sz32 (s:ByteArray):((s.size:Int)==32)=decide (s.size=32):=by
 rw [Bool.eq_iff_iff]; simp; omega
def rcV (n:Int) (r:ByteArray) (u:Int):Value:=.agg #[.int .i64 n,.string r,.int .i64 u]
section
variable {w0 w:World} {bd bc b h:Nat} {C:CellM} {Y:Pk.Obj}
theorem wget (gY:Pk.Good Y) (hk:Kept w0 (Pair2 (CelO bd bc b h C) Y) w) (n:ByteArray) (hn:n.size<=maxLen) (N:Bs) (hN:n.data.toList=N) :
  Calls Tryz.prog 81 #[.pointer (some ⟨bc,0,none⟩),.string n] w fun e w'=>e=.returned (.tuple #[.string (ctT C.now N),.bool (getC C.now N).isSome])/\Box (Kept w0 (Pair2 (CelO bd bc b h C) Y) w'):=by
 have:=kept_step hk ((get_does bd bc b h C n hn).in_.ret gY)
 subst hN
 exact this
theorem rc_new (gY:Pk.Good Y) (hk:Kept w0 (Pair2 (CelO bd bc b h C) Y) w) (cs:List Value) (t:TypeId):Kept w0 (Pair2 (CelO bd bc b h C) (Pair2 (BlO w.heap.size cs t) Y)) (w.alloc (.cells cs.toArray t)):=
 kept_cv (kept_new hk (Pair2.good (CelO.good _ _ _ _ _) gY) (BlO.good w.heap.size cs t) (bel_alloc w (.cells cs.toArray t))
  ⟨Pk.Blk.new w cs t,⟨Nat.le_refl _,(Pk.Blk.new w cs t).lt⟩,fun _ hk=>hk.2⟩) cvFlip
theorem rc_blk {br:Nat} {cs:List Value} {t:TypeId} (hk:Kept w0 (Pair2 (CelO bd bc b h C) (Pair2 (BlO br cs t) Y)) w):Pk.Blk w br cs t:=by
 obtain ⟨F,h1,_⟩:=kept_look (kept_cv hk cvFlip)
 exact h1.1
theorem rc_set {br:Nat} {cs:List Value} {t:TypeId} (gY:Pk.Good Y) (hk:Kept w0 (Pair2 (CelO bd bc b h C) (Pair2 (BlO br cs t) Y)) w) (i:Nat) (u:Value):Kept w0 (Pair2 (CelO bd bc b h C) (Pair2 (BlO br (cs.set i u) t) Y)) (w.setCell ⟨br,i,none⟩ u):=
 kept_cv (kept_set (Pair2.good (CelO.good _ _ _ _ _) gY) (kept_cv hk cvFlip) i u) cvFlip
theorem rc_fin {br:Nat} {a0 a1 a2:Value} {t:TypeId} (gY:Pk.Good Y) (hk:Kept w0 (Pair2 (CelO bd bc b h C) (Pair2 (BlO br [a0,a1,a2] t) Y)) w) (x y z:Value) :
  (((w.setCell ⟨br,0,none⟩ x).setCell ⟨br,1,none⟩ y).setCell ⟨br,2,none⟩ z).cell? ⟨br,0,none⟩=some x/\(((w.setCell ⟨br,0,none⟩ x).setCell ⟨br,1,none⟩ y).setCell ⟨br,2,none⟩ z).cell? ⟨br,1,none⟩=some y/\(((w.setCell ⟨br,0,none⟩ x).setCell ⟨br,1,none⟩ y).setCell ⟨br,2,none⟩ z).cell? ⟨br,2,none⟩=some z /\
   Kept w0 (Pair2 (CelO bd bc b h C) Y) (((w.setCell ⟨br,0,none⟩ x).setCell ⟨br,1,none⟩ y).setCell ⟨br,2,none⟩ z):=by
 have h3:=rc_set gY (rc_set gY (rc_set gY hk 0 x) 1 y) 2 z
 have hb:=rc_blk h3
 exact ⟨hb.cell 0,hb.cell 1,hb.cell 2,kept_cv h3 (cvRight (cvDropL gY))⟩
theorem wread_any (hE:Env w0) (gY:Pk.Good Y) (hk:Kept w0 (Pair2 (CelO bd bc b h C) Y) w) :
  Calls Tryz.prog 55 #[.pointer (some ⟨bc,0,none⟩)] w fun e w'=>e=.returned (.tuple #[rcV (rdR C.now).n (rdR C.now).r (rdR C.now).u,.bool (rdK C.now)])/\Box (Kept w0 (Pair2 (CelO bd bc b h C) Y) w'):=by
 have hk0:=rc_new gY hk [.int .i64 0,.string ⟨#[]⟩,.int .i64 0] 100
 obtain ⟨br,hbr⟩:∃ x,w.heap.size=x:=⟨_,rfl⟩
 rw [hbr] at hk0
 have gV:∀ cs,Pk.Good (Pair2 (BlO br cs 100) Y):=fun cs=>Pair2.good (BlO.good _ _ _) gY
 have h1:=Box.mk (fun w1 cs (hk1:Kept w0 (Pair2 (CelO bd bc b h C) (Pair2 (BlO br cs 100) Y)) w1)=>wget (gV cs) hk1 ⟨#[115,105,122,101]⟩ (by decide) nSz rfl)
 have h2:=Box.mk (fun w1 cs (hk1:Kept w0 (Pair2 (CelO bd bc b h C) (Pair2 (BlO br cs 100) Y)) w1)=>wget (gV cs) hk1 ⟨#[114,111,111,116]⟩ (by decide) nRt rfl)
 have h3:=Box.mk (fun w1 cs (hk1:Kept w0 (Pair2 (CelO bd bc b h C) (Pair2 (BlO br cs 100) Y)) w1)=>wget (gV cs) hk1 ⟨#[117,115,101,100]⟩ (by decide) nUs rfl)
 have h4:=Box.mk (fun w1=>wreadFour_any (ctT C.now nSz) w1)
 have h5:=Box.mk (fun w1=>wreadFour_any (ctT C.now nUs) w1)
 have h6:=Box.mk (fun w1 (hb:Below w0.heap.size w0 w1)=>root_any 0 [] none 0 w1 (pa0 w1) (hE.kisAt hb) fit_nil)
 rw [rootL_nil] at h6
 rw [ctT_list] at h4 h5
 have hR:(noneB C.now=true->rdR C.now=⟨0,noneH,0⟩/\rdK C.now=true)/\(noneB C.now=false->rdR C.now=⟨fourI (ctB C.now nSz),ctT C.now nRt,fourI (ctB C.now nUs)⟩/\rdK C.now=(fourK (ctB C.now nSz) && (fourK (ctB C.now nUs) && decide ((ctT C.now nRt).size=32)))):=
  ⟨fun h=>⟨by unfold rdR; rw [if_pos h],by unfold rdK; rw [if_pos h]⟩,fun h=>⟨by unfold rdR; rw [if_neg (by simp [h])],by unfold rdK; rw [if_neg (by simp [h])]⟩⟩
 unfold noneB at hR
 obtain ⟨s1,hs1⟩:∃ x,ctT C.now nSz=x:=⟨_,rfl⟩
 obtain ⟨s2,hs2⟩:∃ x,ctT C.now nRt=x:=⟨_,rfl⟩
 obtain ⟨s3,hs3⟩:∃ x,ctT C.now nUs=x:=⟨_,rfl⟩
 obtain ⟨i1,hi1⟩:∃ x,fourI (ctB C.now nSz)=x:=⟨_,rfl⟩
 obtain ⟨i3,hi3⟩:∃ x,fourI (ctB C.now nUs)=x:=⟨_,rfl⟩
 obtain ⟨k1,hk1⟩:∃ x,fourK (ctB C.now nSz)=x:=⟨_,rfl⟩
 obtain ⟨k3,hk3⟩:∃ x,fourK (ctB C.now nUs)=x:=⟨_,rfl⟩
 obtain ⟨c1,hc1⟩:∃ x,(getC C.now nSz).isSome=x:=⟨_,rfl⟩
 obtain ⟨c2,hc2⟩:∃ x,(getC C.now nRt).isSome=x:=⟨_,rfl⟩
 obtain ⟨c3,hc3⟩:∃ x,(getC C.now nUs).isSome=x:=⟨_,rfl⟩
 obtain ⟨rd,hrd⟩:∃ x,rdR C.now=x:=⟨_,rfl⟩
 obtain ⟨rk,hrk⟩:∃ x,rdK C.now=x:=⟨_,rfl⟩
 obtain ⟨nh,hnh⟩:∃ x,noneH=x:=⟨_,rfl⟩
 rw [hs1,hc1] at h1
 rw [hs2,hc2] at h2
 rw [hs3,hc3] at h3
 rw [hs1,hi1,hk1] at h4
 rw [hs3,hi3,hk3] at h5
 rw [hnh] at h6
 rw [hrd,hrk,hc1,hc2,hc3,hi1,hi3,hk1,hk3,hs2,hnh] at hR
 rw [hrd,hrk]
 have hkB:=Box.mk hk0
 have gB:=Box.mk gV
 have gYB:=Box.mk gY
 clear hs1 hs2 hs3 hi1 hi3 hk1 hk3 hc1 hc2 hc3 hrd hrk hnh hE hk hk0 gV gY
 by_cases hn:(!c1 && (!c2 && !c3))=true
 ·obtain ⟨rfl,rfl⟩:=hR.1 hn
  obtain ⟨rfl,rfl,rfl⟩:c1=false/\c2=false/\c3=false:=by simpa using hn
  clear hR hn h4 h5
  unfold rcV
  go_enter Tryz.func55,Tryz.ntmps55
  go_wp2_with fail
  refine (h1.out _ _ hkB.out).mono ?_
  clear h1 hkB
  rintro e w1 ⟨rfl,hk1⟩
  have hG:=h2.out _ _ hk1.out
  clear h2 hk1
  go_wp2_with fail
  refine hG.mono ?_
  clear hG
  rintro e w2 ⟨rfl,hk2⟩
  have hG:=h3.out _ _ hk2.out
  clear h3 hk2
  go_wp2_with fail
  refine hG.mono ?_
  clear hG
  rintro e w3 ⟨rfl,hk3⟩
  have hG:=h6.out _ hk3.out.k
  clear h6
  go_wp2_with fail
  refine hG.mono ?_
  clear hG
  rintro e w4 ⟨rfl,hb4⟩
  have hk4:=Box.mk (hk3.out.below (Pair2.good (CelO.good _ _ _ _ _) (gB.out _)) hb4)
  clear hb4 hk3
  have hb:=rc_blk hk4.out
  have r0:=hb.cell 0
  have r1:=hb.cell 1
  have r2:=hb.cell 2
  have f0:=hb.free 0
  have f1:=hb.free 1
  have f2:=hb.free 2
  have hfin:=Box.mk (rc_fin gYB.out hk4.out (.int .i64 0) (.string nh) (.int .i64 0))
  clear hb
  go_wp2_with fail
  obtain ⟨d0,d1,d2,hkz⟩:=hfin.out
  refine bodyPost_ret (v:=.tuple #[.agg #[.int .i64 0,.string nh,.int .i64 0],.bool true]) (by simp [results,Tryz.results55,go_sem,d0,d1,d2]; try rfl) rfl ⟨rfl,⟨hkz⟩⟩
 ·have hn2:(!c1 && (!c2 && !c3))=false:=by simpa using hn
  obtain ⟨rfl,rfl⟩:=hR.2 hn2
  clear hR h6
  have hcase:c1=true∨(c1=false/\c2=true)∨(c1=false/\c2=false/\c3=true):=by cases c1 <;> cases c2 <;> cases c3 <;> simp_all
  clear hn hn2
  rcases hcase with rfl | ⟨rfl,rfl⟩ | ⟨rfl,rfl,rfl⟩
  all_goals
   unfold rcV
   go_enter Tryz.func55,Tryz.ntmps55
   go_wp2_with fail
   refine (h1.out _ _ hkB.out).mono ?_
   clear h1 hkB
   rintro e w1 ⟨rfl,hk1⟩
   have hG:=h2.out _ _ hk1.out
   clear h2 hk1
   go_wp2_with fail
   refine hG.mono ?_
   clear hG
   rintro e w2 ⟨rfl,hk2⟩
   have hG:=h3.out _ _ hk2.out
   clear h3 hk2
   go_wp2_with fail
   refine hG.mono ?_
   clear hG
   rintro e w3 ⟨rfl,hk3⟩
   have hk4:=rc_new (gB.out _) hk3.out [.int .i64 0,.string s2,.int .i64 0] 100
   obtain ⟨b9,hb9⟩:∃ x,w3.heap.size=x:=⟨_,rfl⟩
   rw [hb9] at hk4
   have gW:∀ cs cs2,Pk.Good (Pair2 (CelO bd bc b h C) (Pair2 (BlO b9 cs 100) (Pair2 (BlO br cs2 100) Y))):=fun cs cs2=>Pair2.good (CelO.good _ _ _ _ _) (Pair2.good (BlO.good _ _ _) (gB.out _))
   replace hk4:=Box.mk hk4
   clear hk3
   go_wp2_with fail
   refine (h4.out _).mono ?_
   clear h4
   rintro e w5 ⟨rfl,hb5⟩
   have hk5:=hk4.out.below (gW _ _) hb5
   have hbl:=rc_blk hk5
   have q0:=hbl.cell 0
   have q1:=hbl.cell 1
   have q2:=hbl.cell 2
   have g0:=hbl.free 0
   have g2:=hbl.free 2
   have hk6:=Box.mk (rc_set (gB.out _) hk5 0 (.int .i64 i1))
   clear hk5 hk4 hb5 hbl
   go_wp2_with fail
   refine (h5.out _).mono ?_
   clear h5
   rintro e w7 ⟨rfl,hb7⟩
   have hk7:=hk6.out.below (gW _ _) hb7
   have hbl:=rc_blk hk7
   clear q0 q1 q2 g0 g2
   have g2:=hbl.free 2
   have p2:=hbl.cell 2
   have hk8:=rc_set (gB.out _) hk7 2 (.int .i64 i3)
   have hbl8:=rc_blk hk8
   have q0:=hbl8.cell 0
   have q1:=hbl8.cell 1
   have q2:=hbl8.cell 2
   have hk9:=kept_cv hk8 (cvRight cvFlip)
   have hbr9:=rc_blk hk9
   have r0:=hbr9.cell 0
   have r1:=hbr9.cell 1
   have r2:=hbr9.cell 2
   have f0:=hbr9.free 0
   have f1:=hbr9.free 1
   have f2:=hbr9.free 2
   have hfin:=Box.mk (rc_fin (Pair2.good (BlO.good _ _ _) gYB.out) hk9 (.int .i64 i1) (.string s2) (.int .i64 i3))
   clear hk6 hb7 hk7 hk8 hk9 hbl hbl8 hbr9 gW
   go_wp2_with fail
   all_goals
    obtain ⟨d0,d1,d2,hkz⟩:=hfin.out
    refine bodyPost_ret (v:=.tuple #[.agg #[.int .i64 i1,.string s2,.int .i64 i3],.bool (k1 && (k3 && decide (s2.size=32)))]) (by simp [results,Tryz.results55,go_sem,d0,d1,d2, *]; try exact sz32 _) rfl ⟨rfl,⟨kept_cv hkz (cvRight (cvDropL gYB.out))⟩⟩
end
end Go.Proofs.YthpfpkikmaiddaaGreatDoor.Wt
