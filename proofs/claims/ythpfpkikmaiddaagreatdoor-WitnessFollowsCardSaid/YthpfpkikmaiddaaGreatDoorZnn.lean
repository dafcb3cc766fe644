/- - -/
import Derived.Test.YthpfpkikmaiddaaGreatDoorZnj
set_option linter.all false
set_option maxHeartbeats 12800000
set_option maxRecDepth 100000
namespace Go.Proofs.YthpfpkikmaiddaaGreatDoor.Nt
open Go Go.RowKit
def lsT (s:ByteArray):List (List UInt8):=(lnL s.data.toList).1
theorem q_len (s:ByteArray):(lnT s).length=(lsT s).length:=by unfold lnT lsT; rw [List.length_map]
theorem q_get (s:ByteArray) (i:Nat):((lnT s).getD i ByteArray.empty).data.toList=(lsT s).getD i []:=by
 rw [getD_data]
 congr 1
 unfold lnT lsT
 rw [List.map_map]
 have:((fun x:ByteArray=>x.data.toList) ∘ bT)=id:=rfl
 rw [this,List.map_id]
theorem k_at (s:ByteArray) (i:Nat) (h:i<=kOf (lsT s)):(i<(lnT s).length/\neB ((lnT s).getD i ByteArray.empty)=true) ↔ i<kOf (lsT s):=by
 rw [<- kOf_at (lsT s) i h,q_len,<- q_get]
 have e:neB ((lnT s).getD i ByteArray.empty)=true ↔ ((lnT s).getD i ByteArray.empty).data.toList ≠ []:=by
  generalize (lnT s).getD i ByteArray.empty=x
  unfold neB
  by_cases hx:x=⟨#[]⟩
  ·rw [hx]; simp
  ·rw [decide_eq_false hx]
   exact ⟨fun _ h=>hx (ba_ext h),fun _=>rfl⟩
 rw [e]
theorem jq_step (s:ByteArray) (i:Nat) (h:i<(lnT s).length):bT (jn ((lsT s).take i))++(lnT s).getD i ByteArray.empty++sN=bT (jn ((lsT s).take (i+1))):=by
 rw [q_len] at h
 refine ba_ext ?_
 simp only [ByteArray.data_append,Array.toList_append]
 rw [q_get]
 have e:(lsT s).take (i+1)=(lsT s).take i++[(lsT s).getD i []]:=by
  rw [List.take_succ_eq_append_getElem h,show (lsT s).getD i []=(lsT s)[i] by simp [List.getD,h]]
 show jn ((lsT s).take i)++(lsT s).getD i []++[10]=jn ((lsT s).take (i+1))
 rw [e,jn_app]
 simp [jn]
theorem jq_size (s:ByteArray) (i:Nat):(bT (jn ((lsT s).take i))).size<=s.size:=by
 have h1:=congrArg List.length (lnL_join s.data.toList)
 rw [List.length_append,data_len] at h1
 have h2:jn (lsT s)=jn ((lsT s).take i)++jn ((lsT s).drop i):=by rw [<- jn_app,List.take_append_drop]
 have h3:=congrArg List.length h2
 rw [List.length_append] at h3
 rw [bT_size]
 have:(jn (lsT s)).length=(jn (lnL s.data.toList).1).length:=rfl
 omega
def sdT (s:ByteArray) (k i:Nat):Option (List (ByteArray × ByteArray)):=rdsD (((lsT s).drop (k+1)).take (i-(k+1)))
theorem sd_take (s:ByteArray) (k i:Nat) (hk:k+1<=i) (h:i<(lnT s).length):((lsT s).drop (k+1)).take (i+1-(k+1))=((lsT s).drop (k+1)).take (i-(k+1))++[(lsT s).getD i []]:=by
 rw [q_len] at h
 have hd:i-(k+1)<((lsT s).drop (k+1)).length:=by rw [List.length_drop]; omega
 rw [show i+1-(k+1)=(i-(k+1))+1 by omega,List.take_succ_eq_append_getElem hd,List.getElem_drop]
 congr 2
 have:k+1+(i-(k+1))=i:=by omega
 simp only [this]
 simp [List.getD,h]
theorem sd_yes (s:ByteArray) (k i:Nat) (hk:k+1<=i) (h:i<(lnT s).length) (sg:List (ByteArray × ByteArray)) (hs:sdT s k i=some sg) (y:ByteArray × ByteArray) (hy:rdD ((lnT s).getD i ByteArray.empty).data.toList=some y):sdT s k (i+1)=some (sg++[y]):=by
 unfold sdT at hs ⊢
 rw [sd_take s k i hk h,rdsD_snoc,hs,<- q_get,hy]
 rfl
theorem candD_T (s:ByteArray):candD s.data.toList=if lnB s=true then (sdT s (kOf (lsT s)) (kOf (lsT s)+20)).map fun sg=>(bT (jn ((lsT s).take (kOf (lsT s)))),sg) else none:=by
 have hb:lnB s=true ↔ (lnL s.data.toList).2=[]:=by unfold lnB; simp
 unfold candD
 by_cases h:(lnL s.data.toList).2=[]
 ·rw [if_pos h,if_pos (hb.2 h)]
  unfold sdT
  rw [show kOf (lsT s)+20-(kOf (lsT s)+1)=19 by omega]
  rfl
 ·rw [if_neg h,if_neg (fun e=>h (hb.1 e))]
theorem sd_no (s:ByteArray) (k i:Nat) (hk:k+1<=i) (h:i<(lnT s).length) (h20:i<k+20) (sg:List (ByteArray × ByteArray)) (hs:sdT s k i=some sg) (hy:rdD ((lnT s).getD i ByteArray.empty).data.toList=none):sdT s k (k+20)=none:=by
 have h1:rdsD (((lsT s).drop (k+1)).take (i+1-(k+1)))=none:=by
  unfold sdT at hs
  rw [sd_take s k i hk h,rdsD_snoc,hs,<- q_get,hy]
  rfl
 unfold sdT
 have e:((lsT s).drop (k+1)).take (k+20-(k+1))=((lsT s).drop (k+1)).take (i+1-(k+1))++(((lsT s).drop (k+1)).take (k+20-(k+1))).drop (i+1-(k+1)):=by
  have h3:=List.take_append_drop (i+1-(k+1)) (((lsT s).drop (k+1)).take (k+20-(k+1)))
  rw [List.take_take,Nat.min_eq_left (by omega)] at h3
  exact h3.symm
 rw [e]
 exact rdsD_app _ _ h1
theorem sd_end (s:ByteArray) (k i:Nat) (h1:i<=k+20) (h:¬ (i<(lnT s).length/\i<k+20)):sdT s k i=sdT s k (k+20):=by
 unfold sdT
 rw [q_len] at h
 by_cases h2:i<k+20
 ·have hl:(lsT s).length<=i:=by omega
  rw [List.take_of_length_le (by rw [List.length_drop]; omega),List.take_of_length_le (by rw [List.length_drop]; omega)]
 ·rw [show i=k+20 by omega]
theorem rdD_iff (x:ByteArray):rdD x.data.toList=if 69<=x.size/\x.extract 0 4=sSig/\x.data.toList.getD 68 0=32/\unB (x.extract 4 68).data.toList=true/\unB (x.extract 69 x.size).data.toList=true then some (unT (x.extract 4 68).data.toList,unT (x.extract 69 x.size).data.toList) else none:=by
 have e1:x.extract 0 4=sSig ↔ x.data.toList.take 4=lSig:=by
  refine ⟨fun h=>?_,fun h=>ba_ext ?_⟩
  ·rw [<- Lib.extract_from_zero,h]; rfl
  ·rw [Lib.extract_from_zero,h]; rfl
 have e2:(x.extract 4 68).data.toList=(x.data.toList.drop 4).take 64:=by rw [Lib.extract_data]
 have e3:(x.extract 69 x.size).data.toList=x.data.toList.drop 69:=Lib.extract_to_end _ _
 unfold rdD
 simp only [e1,e2,e3,data_len]
theorem rdsD_len:∀ (l:List (List UInt8)) (sg:List (ByteArray × ByteArray)),rdsD l=some sg->sg.length=l.length
 | [],sg,h=>by cases h; rfl
 | x::l,sg,h=>by
  rw [rdsD] at h
  cases hx:rdD x with
  | none=>rw [hx] at h; cases h
  | some y=>
   rw [hx] at h
   cases hl:rdsD l with
   | none=>rw [hl] at h; cases h
   | some z=>
    rw [hl] at h
    cases h
    simp [rdsD_len l z hl]
theorem sd_len {s:ByteArray} {k i:Nat} {sg:List (ByteArray × ByteArray)} (h:sdT s k i=some sg):sg.length<=i-(k+1):=by
 have:=rdsD_len _ _ h
 rw [this,List.length_take]; omega
theorem N2.sto0 {w0 w:World} {bt:Nat} {t:ByteArray} {u v:Value} {sg:List (ByteArray × ByteArray)} (h:N2 w0 bt t u v sg w) (t':ByteArray):N2 w0 bt t' u v sg (w.setCell ⟨bt,0,none⟩ (.string t')):=by
 have hl:=h.lt
 exact ⟨(Below.heap_setCell _ _ _ _ (by simp; omega)).trans h.b2,h.b6.setCell 0 (.string t'),h.row.setCell h.b6 (by decide) (Nat.le_of_lt hl) 0 _,hl⟩
theorem N2.sto1 {w0 w:World} {bt:Nat} {t:ByteArray} {u v:Value} {sg:List (ByteArray × ByteArray)} (h:N2 w0 bt t u v sg w) (u':Value):N2 w0 bt t u' v sg (w.setCell ⟨bt,1,none⟩ u'):=by
 have hl:=h.lt
 exact ⟨(Below.heap_setCell _ _ _ _ (by simp; omega)).trans h.b2,h.b6.setCell 1 u',h.row.setCell h.b6 (by decide) (Nat.le_of_lt hl) 1 _,hl⟩
theorem N2.push {w0 w w2:World} {bt m:Nat} {t:ByteArray} {u v v':Value} {sg zs:List (ByteArray × ByteArray)} (h:N2 w0 bt t u v sg w) (hm:zs.length=m) (hp:Pk.PushedRow w 58 2 v (sg.length+m) (sgC sg++sgC zs) v' w2):N2 w0 bt t u v' (sg++zs) w2:=
 ⟨hp.chg.blk h.b2 fun e=>h.row.row.apart h.b2 (by decide) e,hp.chg.blk h.b6 fun e=>h.row.row.apart h.b6 (by decide) e,h.row.pushL hm hp,h.lt⟩
structure D2 (w0 wb:World) (bt:Nat) (t:ByteArray) (v:Value) (sg:List (ByteArray × ByteArray)) (w:World):Prop where
 n:N2 w0 bt t v v sg w
 r:SgRow wb w v sg
 lt:wb.heap.size<=bt
theorem D2.on {w0 wb w w':World} {bt:Nat} {t:ByteArray} {v:Value} {sg:List (ByteArray × ByteArray)} (h:D2 w0 wb bt t v sg w) (hb:Below w.heap.size w w'):D2 w0 wb bt t v sg w':=⟨h.n.on hb,h.r.here hb,h.lt⟩
theorem D2.sto0 {w0 wb w:World} {bt:Nat} {t:ByteArray} {v:Value} {sg:List (ByteArray × ByteArray)} (h:D2 w0 wb bt t v sg w) (t':ByteArray):D2 w0 wb bt t' v sg (w.setCell ⟨bt,0,none⟩ (.string t')):=⟨h.n.sto0 t',h.r.setCell h.n.b6 (by decide) h.lt 0 _,h.lt⟩
theorem D2.push {w0 wb w w2:World} {bt m:Nat} {t:ByteArray} {v v':Value} {sg zs:List (ByteArray × ByteArray)} (h:D2 w0 wb bt t v sg w) (hm:zs.length=m) (hp:Pk.PushedRow w 58 2 v (sg.length+m) (sgC sg++sgC zs) v' w2):D2 w0 wb bt t v' (sg++zs) (w2.setCell ⟨bt,1,none⟩ v'):=
 ⟨(h.n.push hm hp).sto1 v',(h.r.pushL hm hp).setCell (h.n.push hm hp).b6 (by decide) h.lt 1 _,h.lt⟩
theorem Y_of {x:ByteArray} (h:68<x.size):x.data.toList.getD 68 0=x[68]:=by
 have:68<x.data.toList.length:=by rw [data_len]; exact h
 unfold List.getD
 rw [List.getElem?_eq_getElem this]
 rfl
def adB:Option Addr->Nat | some x=>x.block | none=>0
def adO:Option Addr->Nat | some x=>x.off | none=>0
theorem dread_any (s:ByteArray) (w:World) (hs:s.size<=536870912) :
  Calls Tryz.prog 103 #[.string s] w (RdI w s):=by
 obtain ⟨wa,hwa⟩:∃ wa,w.alloc (.cells #[.string ⟨#[]⟩,.slice none 0 0] 120)=wa:=⟨_,rfl⟩
 have hBa:Below w.heap.size w wa:=by rw [<- hwa]; exact bel_alloc _ _
 have hSa:Pk.Blk wa w.heap.size [.string ⟨#[]⟩,.slice none 0 0] 120:=by rw [<- hwa]; exact Pk.Blk.new w _ _
 have hpc:=rdN_D s.data.toList
 rw [candD_T] at hpc
 have hpl:=lnT_length s
 have hps:=Box.mk (lnT_size s)
 obtain ⟨ok,hok⟩:∃ b,lnB s=b:=⟨_,rfl⟩
 rw [hok] at hpc
 have hLn2:Calls Tryz.prog 163 #[.string s] wa fun e wb=>∃ (a:Option Addr) (c:Nat),e=.returned (.tuple #[.slice a (lnT s).length c,.bool ok])/\Box (PartsAt wb (.slice a (lnT s).length c) (lnT s))/\Box (Below wa.heap.size wa wb):=(lines_any s wa (by omega)).mono fun e wb h=>by
  obtain ⟨⟨v,h1,h2⟩,h3⟩:=h
  rw [hok] at h1
  obtain ⟨a,c,rfl⟩:=h2.shape
  exact ⟨a,c,h1,⟨h2.parts⟩,⟨h3⟩⟩
 obtain ⟨L,hLe⟩:∃ L,(lnT s).length=L:=⟨_,rfl⟩
 rw [hLe] at hLn2 hpl
 replace hLe:=Box.mk hLe
 replace hBa:=Box.mk hBa
 replace hSa:=Box.mk hSa
 clear hok
 go_enter Tryz.func103,Tryz.ntmps103
 go_wp2_with fail
 refine hLn2.mono ?_
 clear hLn2 hwa
 rintro e wb ⟨ga,gc,rfl,hP,hBb⟩
 have hB2:=Box.mk (mono_bel hBa.out hBb.out (Nat.le_refl _))
 have hS2:Box (Pk.Blk wb w.heap.size [.string ⟨#[]⟩,.slice none 0 0] 120):=⟨(hBb.out.block _ hSa.out.lt).trans hSa.out⟩
 clear hBb hSa hBa
 cases ok with
 | false=>
  rw [if_neg (by simp)] at hpc
  have hv:=Box.mk (rd_none (s:=s) hpc)
  obtain ⟨c0,c1,f0,f1⟩:wb.cell? ⟨w.heap.size,0,none⟩=some (.string ⟨#[]⟩)/\wb.cell? ⟨w.heap.size,1,none⟩=some (.slice none 0 0)/\wb.frozen? ⟨w.heap.size,0,none⟩=false/\wb.frozen? ⟨w.heap.size,1,none⟩=false:=⟨hS2.out.cell 0,hS2.out.cell 1,hS2.out.free 0,hS2.out.free 1⟩
  clear hpc hps hP
  go_wp2_with fail
  have hN0:SgRow w wb (.slice none 0 0) []:=⟨Pk.Row.nil _ _ _,(fun k hk=>by cases hk),hB2.out⟩
  have hf:=fin2_out hS2.out hN0 (.string ⟨#[]⟩) (.slice none 0 0)
  unfold fin2 at hf
  obtain ⟨k0,k1,hbf⟩:=hf
  clear c0 c1 f0 f1
  refine bodyPost_ret (v:=.tuple #[.agg #[.string ⟨#[]⟩,.slice none 0 0],.int .i64 3]) (by simp [results,Tryz.results103,go_sem,k0,k1]; try rfl) rfl ⟨_,by rw [hv.out.1,hv.out.2.2],by rw [hv.out.2.1]; exact hbf⟩
 | true=>
  rw [if_pos rfl] at hpc
  have hkl:kOf (lsT s)<=L:=by have:=kOf_le (lsT s); rw [<- q_len,hLe.out] at this; exact this
  have hka:=k_at s
  have hjs:=jq_step s
  have hjz:=jq_size s
  rw [hLe.out] at hka hjs
  obtain ⟨K,hK⟩:∃ K,kOf (lsT s)=K:=⟨_,rfl⟩
  rw [hK] at hpc hkl hka
  have hrn:Box (sdT s K (K+20)=none->rdN s.data.toList=none):=⟨fun h=>by rw [hpc,h]; rfl⟩
  obtain ⟨T,hT⟩:∃ T,bT (jn ((lsT s).take K))=T:=⟨_,rfl⟩
  have hTz:T.size<=1073741824:=by rw [<- hT]; have:=hjz K; omega
  have hrs:Box (∀ sg,sdT s K (K+20)=some sg->(gN (T,sg)=true->(⟨(byN (T,sg)).toArray⟩:ByteArray)=s->rdN s.data.toList=some (T,sg))/\((gN (T,sg)=false∨(⟨(byN (T,sg)).toArray⟩:ByteArray) ≠ s)->rdN s.data.toList=none)):=⟨fun sg h=>rdN_cand (by rw [hpc,h,<- hT]; rfl)⟩
  have hTe:=Box.mk hT
  have hcell:Box (∀ W,Below wb.heap.size wb W->∀ i,i<L->W.cell? ⟨adB ga,adO ga+i,none⟩=some (.string ((lnT s).getD i ByteArray.empty))/\∃ g o,ga=some ⟨g,o,none⟩):=⟨fun W hW i hi=>by
   obtain ⟨ga2,gc2,e2,hcl⟩:=hP.out.ex
   rw [hLe.out] at e2 hcl
   cases e2
   obtain ⟨g,off,rfl,hglt,hcell⟩:=hcl (by omega)
   exact ⟨(hW.cell (p:=⟨g,off+i,none⟩) hglt).trans (hcell i hi),g,off,rfl⟩⟩
  replace hka:=Box.mk hka
  replace hjs:=Box.mk hjs
  replace hjz:=Box.mk hjz
  have hA0:Box (D2 w wb wb.heap.size (bT (jn ((lsT s).take 0))) (.slice none 0 0) [] (wb.alloc (.cells #[.string ⟨#[]⟩,.slice none 0 0] 120))):=
   ⟨⟨⟨((bel_alloc wb _).block _ hS2.out.lt).trans hS2.out,Pk.Blk.new wb [.string ⟨#[]⟩,.slice none 0 0] _,⟨Pk.Row.nil _ _ _,(fun k hk=>by cases hk),mono_bel hB2.out (bel_alloc _ _) (Nat.le_refl _)⟩,hS2.out.lt⟩,⟨Pk.Row.nil _ _ _,(fun k hk=>by cases hk),bel_alloc _ _⟩,Nat.le_refl _⟩⟩
  obtain ⟨b6,hb6⟩:∃ b,wb.heap.size=b:=⟨_,rfl⟩
  have hA1:Box (D2 w wb b6 (bT (jn ((lsT s).take 0))) (.slice none 0 0) [] (wb.alloc (.cells #[.string ⟨#[]⟩,.slice none 0 0] 120))):=⟨by rw [<- hb6]; exact hA0.out⟩
  clear hpc hK hT hP hS2 hB2 hA0
  go_wp2_with fail
  go_loopw [7] (fun q' wr=>∃ k:Nat,k<=K/\q'=.int .i64 (k:Int)/\Box (D2 w wb b6 (bT (jn ((lsT s).take k))) (.slice none 0 0) [] wr)) (fun q' _=>K-(intOf q').toNat)
  case atStart=>exact ⟨0,by omega,rfl,hA1⟩
  case round=>
   clear hA1 hb6
   obtain ⟨k,hk,rfl,hA⟩:=hrel
   by_cases hlt:k<K
   ·obtain ⟨hkL,hne⟩:=(hka.out k hk).2 hlt
    obtain ⟨p1,g,off,rfl⟩:=hcell.out wr hA.out.r.bel k hkL
    simp only [adB,adO] at p1
    have hst:=hjs.out k hkL
    have hxz:=hps.out k
    have hjk:=hjz.out k
    obtain ⟨x,hx⟩:∃ x,(lnT s).getD k ByteArray.empty=x:=⟨_,rfl⟩
    rw [hx] at p1 hst hxz hne
    obtain ⟨J,hJ⟩:∃ J,bT (jn ((lsT s).take k))=J:=⟨_,rfl⟩
    rw [hJ] at hst hjk hA
    have hq:(!x.toList.isEmpty)=true:=by rw [ne_b]; exact hne
    have hq2:¬ x.toList=[]:=by intro h; rw [h] at hq; cases hq
    have hii:(k:Int)<(L:Int):=by omega
    have hii2:k<L:=hkL
    have hcc:=Box.mk (fun w' (h:Below wr.heap.size wr w')=>(hcell.out w' (mono_bel hA.out.r.bel h (Nat.le_refl _)) k hkL).1)
    rw [hx] at hcc
    simp only [adB,adO] at hcc
    have hsz:Box (J.size<=536870912/\x.size<=536870912):=⟨by omega,by omega⟩
    replace hst:=Box.mk hst
    clear hx hne hJ hxz hjk hkL
    go_wp2_with fail
    refine region_steady (fun w'=>Below wr.heap.size wr w') (fun w w'=>Below w.heap.size w w') rfl (dB wr) ?_
    refine anyS_calms [0,1,2,3,4,5,6,7,8] 1 rfl (fun _=>Below.refl _ _) (PC.st wr) (by kernel_rfl) (by kernel_rfl) (by kernel_rfl) ?_
    simp [nth]
    try simp only [Act.put,zT9,zS9,zZ9]
    repeat (go_big_quiet_step (first | exact fun _=>rfl | rfl))
    refine quiet_val rfl (.string J) (fun w' hw'=>by have h3:=(hA.out.on hw').n.cells.1; go_simp) ?_
    simp only [Act.put,zT9,zS9,zZ9]
    repeat (go_big_quiet_step (first | exact fun _=>rfl | rfl))
    refine quiet_val rfl (.string x) (fun w' hw'=>by have h3:=hcc.out w' hw'; go_simp) ?_
    simp only [Act.put,zT9,zS9,zZ9]
    refine quiet_val rfl (.string (J++x)) (fun w' _=>by go_simp; have:=hsz.out; omega) ?_
    simp only [Act.put,zT9,zS9,zZ9]
    refine quiet_val rfl (.string (J++x++sN)) (fun w' _=>by unfold sN; go_simp; have:=hsz.out; omega) ?_
    simp only [Act.put,zT9,zS9,zZ9]
    repeat (go_big_quiet_step (first | exact fun _=>rfl | rfl))
    refine wpQuiet_nil ?_
    refine anyS_last 9 (by kernel_rfl) rfl rfl (by kernel_rfl) (by kernel_rfl) (fun wd hWd K' hK'=>?_)
    have hQz:=Box.mk (hA.out.on hWd)
    have hQ:=Box.mk (hQz.out.sto0 (J++x++sN))
    rw [hst.out] at hQ
    have q0:=hQz.out.n.cells.1
    have f0:=hQz.out.n.b6.free 0
    clear hWd
    go_simp
    refine hK' _ _ ?_
    rw [hst.out]
    clear hK' K' q0 f0 hQz hcc hsz hst p1 hA
    go_wp2_with fail
    exact ⟨⟨k+1,by omega,by go_num,hQ⟩,by simp [intOf]; omega⟩
   ·obtain rfl:k=K:=by omega
    rw [hTe.out] at hA
    by_cases hKL:k<L
    ·have hne:neB ((lnT s).getD k ByteArray.empty)=false:=by
      cases h:neB ((lnT s).getD k ByteArray.empty) with
      | false=>rfl
      | true=>exact absurd ((hka.out k (Nat.le_refl _)).1 ⟨hKL,h⟩) (by omega)
     obtain ⟨p1,g,off,rfl⟩:=hcell.out wr hA.out.r.bel k hKL
     have hcell':Box (∀ W,Below wb.heap.size wb W->∀ i,i<L->W.cell? ⟨g,off+i,none⟩=some (.string ((lnT s).getD i ByteArray.empty))):=⟨fun W hW i hi=>(hcell.out W hW i hi).1⟩
     clear hcell
     have hcell:=hcell'
     clear hcell'
     simp only [adB,adO] at p1
     obtain ⟨x,hx⟩:∃ x,(lnT s).getD k ByteArray.empty=x:=⟨_,rfl⟩
     rw [hx] at p1 hne
     have hq:(!x.toList.isEmpty)=false:=by rw [ne_b]; exact hne
     have hq2:x.toList=[]:=by
      cases h:x.toList with
      | nil=>rfl
      | cons a b=>rw [h] at hq; cases hq
     clear hne hx hka hjs hjz hlt
     have hz0:Box (D2 w wb b6 T (.slice none 0 0) [] wr/\sdT s k (k+1)=some []):=⟨hA.out,by unfold sdT; rw [Nat.sub_self,List.take_zero]; rfl⟩
     have hkb:k+1<=1073741826:=by omega
     clear hA
     go_wp2_with fail
     go_loopw [8] (fun q' wq=>∃ (i:Nat) (v:Value) (sg:List (ByteArray × ByteArray)),k+1<=i/\i<=k+20/\q'=.int .i64 (i:Int)/\Box (D2 w wb b6 T v sg wq/\sdT s k i=some sg)) (fun q' _=>k+20-(intOf q').toNat)
     case atStart=>exact ⟨k+1,.slice none 0 0,[],by omega,by omega,by go_num,hz0⟩
     case round=>
      clear hz0
      obtain ⟨i,v,sg,hi1,hi2,rfl,hB⟩:=hrel
      have hA2:=Box.mk hB.out.1
      have hsd:=hB.out.2
      have hsl:=sd_len hsd
      clear hB
      obtain ⟨a7,c7,rfl⟩:=hA2.out.r.row.shape
      obtain ⟨n7,hn7⟩:∃ n,sg.length=n:=⟨_,rfl⟩
      rw [hn7] at hA2 hsl
      replace hn7:=Box.mk hn7
      by_cases hc:i<L/\i<k+20
      ·obtain ⟨hc1,hc2⟩:=hc
       have p1:=hcell.out wr hA2.out.r.bel i hc1
       have hxz:=hps.out i
       have hyes:=fun y hy=>sd_yes s k i hi1 (by rw [hLe.out]; exact hc1) sg hsd y hy
       have hno:=fun hy=>hrn.out (sd_no s k i hi1 (by rw [hLe.out]; exact hc1) hc2 sg hsd hy)
       have hrx:=rdD_iff ((lnT s).getD i ByteArray.empty)
       obtain ⟨x,hx⟩:∃ x,(lnT s).getD i ByteArray.empty=x:=⟨_,rfl⟩
       rw [hx] at p1 hxz hyes hno hrx
       have hii:(i:Int)<(L:Int):=by omega
       have hii2:(i:Int)<(k:Int)+20:=by omega
       clear hx hsd
       by_cases m1:69<=x.size
       ·have hY:=Y_of (x:=x) (by omega)
        obtain ⟨ch,hch⟩:∃ c,x[68]=c:=⟨_,rfl⟩
        have hchl:=ch.toNat_lt
        rw [hch] at hY
        obtain ⟨X4,hX4⟩:∃ X,x.extract 0 4=X:=⟨_,rfl⟩
        have hqs:=tl_eq X4 ⟨#[115,105,103,32]⟩
        rw [hX4,hY] at hrx
        by_cases m2:X4=⟨#[115,105,103,32]⟩
        ·have hq4:(X4.toList != (⟨#[115,105,103,32]⟩:ByteArray).toList)=false:=by rw [bne,hqs,decide_eq_true m2]; rfl
         rw [decide_eq_true m2] at hqs
         have hq5:X4.toList=[115,105,103,32]:=by rw [m2,ByteArray.toList_eq]
         have hq6:(X4.toList != [115,105,103,32])=false:=by rw [hq5]; rfl
         clear hqs hq4
         by_cases m3:ch=32
         ·have hd3:((ch.toNat:Int) != 32)=false:=by rw [m3]; rfl
          have hU1:=runhex_any (x.extract 4 68) wr (by rw [ByteArray.size_extract]; omega)
          have hU2:=Box.mk (fun w'=>runhex_any (x.extract 69 x.size) w' (by rw [ByteArray.size_extract]; omega))
          obtain ⟨Z1,hZ1⟩:∃ X,x.extract 4 68=X:=⟨_,rfl⟩
          obtain ⟨Z2,hZ2⟩:∃ X,x.extract 69 x.size=X:=⟨_,rfl⟩
          rw [hZ1] at hU1 hrx
          rw [hZ2] at hU2 hrx
          obtain ⟨u1,hu1⟩:∃ u,unT Z1.data.toList=u:=⟨_,rfl⟩
          obtain ⟨u2,hu2⟩:∃ u,unT Z2.data.toList=u:=⟨_,rfl⟩
          obtain ⟨o1,ho1⟩:∃ u,unB Z1.data.toList=u:=⟨_,rfl⟩
          obtain ⟨o2,ho2⟩:∃ u,unB Z2.data.toList=u:=⟨_,rfl⟩
          rw [hu1,ho1] at hU1 hrx
          rw [hu2,ho2] at hU2 hrx
          have hrx2:Box (rdD x.data.toList=if o1=true/\o2=true then some (u1,u2) else none):=⟨by
           rw [hrx]
           by_cases h:o1=true/\o2=true
           ·rw [if_pos h,if_pos ⟨m1,m2,m3,h.1,h.2⟩]
           ·rw [if_neg h,if_neg (fun h'=>h ⟨h'.2.2.2.1,h'.2.2.2.2⟩)]⟩
          clear hrx hu1 hu2 ho1 ho2 m2 m3 hY
          replace hyes:=Box.mk hyes
          replace hno:=Box.mk hno
          go_wp2_with fail
          refine hU1.mono ?_
          clear hU1
          rintro e w6 ⟨rfl,hb6⟩
          have hA3:=Box.mk (hA2.out.on hb6)
          have hU:=hU2.out w6
          clear hb6 hA2 p1 hU2
          go_wp2_with fail
          refine hU.mono ?_
          clear hU
          rintro e w7 ⟨rfl,hb7⟩
          have hA4:=Box.mk (hA3.out.on hb7)
          clear hb7 hA3
          cases o1 with
          | false=>
           have hz:=hno.out (by rw [hrx2.out]; rfl)
           clear hrx2 hyes hno
           have hv:=Box.mk (rd_none hz)
           have hN:=Box.mk hA4.out.n
           obtain ⟨_,_,c0,c1,f0,f1⟩:=hN.out.cells
           clear hz hA4
           go_wp2_with fail
           have hN0:SgRow w w7 (.slice none 0 0) []:=⟨Pk.Row.nil _ _ _,(fun k hk=>by cases hk),hN.out.row.bel⟩
           have hf:=fin2_out hN.out.b2 hN0 (.string ⟨#[]⟩) (.slice none 0 0)
           unfold fin2 at hf
           obtain ⟨k0,k1,hbf⟩:=hf
           clear c0 c1 f0 f1
           refine bodyPost_ret (v:=.tuple #[.agg #[.string ⟨#[]⟩,.slice none 0 0],.int .i64 3]) (by simp [results,Tryz.results103,go_sem,k0,k1]; try rfl) rfl ⟨_,by rw [hv.out.1,hv.out.2.2],by rw [hv.out.2.1]; exact hbf⟩
          | true=>
           cases o2 with
           | false=>
            have hz:=hno.out (by rw [hrx2.out]; rfl)
            clear hrx2 hyes hno
            have hv:=Box.mk (rd_none hz)
            have hN:=Box.mk hA4.out.n
            obtain ⟨_,_,c0,c1,f0,f1⟩:=hN.out.cells
            clear hz hA4
            go_wp2_with fail
            have hN0:SgRow w w7 (.slice none 0 0) []:=⟨Pk.Row.nil _ _ _,(fun k hk=>by cases hk),hN.out.row.bel⟩
            have hf:=fin2_out hN.out.b2 hN0 (.string ⟨#[]⟩) (.slice none 0 0)
            unfold fin2 at hf
            obtain ⟨k0,k1,hbf⟩:=hf
            clear c0 c1 f0 f1
            refine bodyPost_ret (v:=.tuple #[.agg #[.string ⟨#[]⟩,.slice none 0 0],.int .i64 3]) (by simp [results,Tryz.results103,go_sem,k0,k1]; try rfl) rfl ⟨_,by rw [hv.out.1,hv.out.2.2],by rw [hv.out.2.1]; exact hbf⟩
           | true=>
            have hnx:=Box.mk (hyes.out (u1,u2) (by rw [hrx2.out]; rfl))
            clear hrx2 hyes hno
            obtain ⟨a0,a1,_,_,_,_⟩:=hA4.out.n.cells
            have hA5:=Box.mk (hA4.out.on (bel_alloc w7 (.cells #[.string u1,.string u2] 58)))
            have hz5:=Box.mk (sig_new w7 (u1,u2))
            go_wp2_with (at_builtin; refine wpList_pushG rfl (.tmp 98) (.tmp 102) rfl _ sg.length (sgC sg) rfl hA5.out.n.row.row (some ⟨w7.heap.size,0,none⟩) 1 1 [(u1,u2)] rfl rfl hz5.out (by rw [hn7.out]; omega) ?_)
            intro v' w9 hp
            have hA6:=Box.mk (hA5.out.push (m:=1) rfl hp)
            have hN9:=hA5.out.n.push (m:=1) rfl hp
            have d1:w9.cell? ⟨b6,1,none⟩=some (.slice a7 n7 c7):=hN9.b6.cell 1
            have g1:=hN9.b6.free 1
            obtain ⟨a8,c8,e8⟩:=hA6.out.r.row.shape
            have hl8:(sg++[(u1,u2)]).length=n7+1:=by rw [List.length_append,hn7.out]; rfl
            rw [hl8] at e8
            subst e8
            have hrel2:Box (D2 w wb b6 T (.slice a8 (n7+1) c8) (sg++[(u1,u2)]) (w9.setCell ⟨b6,1,none⟩ (.slice a8 (n7+1) c8))/\sdT s k (i+1)=some (sg++[(u1,u2)])):=⟨hA6.out,hnx.out⟩
            clear hp hA4 hA5 hA6 hN9 hz5 hnx a0 a1 hl8
            go_wp2_with fail
            exact ⟨⟨i+1,.slice a8 (n7+1) c8,_,by omega,by omega,by go_num,hrel2⟩,by simp [intOf]; omega⟩
         ·have hd3:((ch.toNat:Int) != 32)=true:=by
           have:ch.toNat ≠ 32:=fun e=>m3 (UInt8.toNat_inj.1 e)
           simpa using (by omega:(ch.toNat:Int) ≠ 32)
          have hz:=hno (by rw [hrx,if_neg (fun h=>m3 h.2.2.1)])
          clear hyes hno hrx hY
          have hv:=Box.mk (rd_none hz)
          have hN:=Box.mk hA2.out.n
          obtain ⟨_,_,c0,c1,f0,f1⟩:=hN.out.cells
          clear hz hA2
          go_wp2_with fail
          have hN0:SgRow w wr (.slice none 0 0) []:=⟨Pk.Row.nil _ _ _,(fun k hk=>by cases hk),hN.out.row.bel⟩
          have hf:=fin2_out hN.out.b2 hN0 (.string ⟨#[]⟩) (.slice none 0 0)
          unfold fin2 at hf
          obtain ⟨k0,k1,hbf⟩:=hf
          clear c0 c1 f0 f1
          refine bodyPost_ret (v:=.tuple #[.agg #[.string ⟨#[]⟩,.slice none 0 0],.int .i64 3]) (by simp [results,Tryz.results103,go_sem,k0,k1]; try rfl) rfl ⟨_,by rw [hv.out.1,hv.out.2.2],by rw [hv.out.2.1]; exact hbf⟩
        ·have hq4:(X4.toList != (⟨#[115,105,103,32]⟩:ByteArray).toList)=true:=by rw [bne,hqs,decide_eq_false m2]; rfl
         rw [decide_eq_false m2] at hqs
         have hq5:¬ X4.toList=[115,105,103,32]:=fun h=>m2 (ba_ext (by rw [<- ByteArray.toList_eq,h]))
         have hq6:(X4.toList != [115,105,103,32])=true:=by simpa using hq5
         clear hqs hq4
         have hz:=hno (by rw [hrx,if_neg (fun h=>m2 h.2.1)])
         clear hyes hno hrx hY m2
         have hv:=Box.mk (rd_none hz)
         have hN:=Box.mk hA2.out.n
         obtain ⟨_,_,c0,c1,f0,f1⟩:=hN.out.cells
         clear hz hA2
         go_wp2_with fail
         have hN0:SgRow w wr (.slice none 0 0) []:=⟨Pk.Row.nil _ _ _,(fun k hk=>by cases hk),hN.out.row.bel⟩
         have hf:=fin2_out hN.out.b2 hN0 (.string ⟨#[]⟩) (.slice none 0 0)
         unfold fin2 at hf
         obtain ⟨k0,k1,hbf⟩:=hf
         clear c0 c1 f0 f1
         refine bodyPost_ret (v:=.tuple #[.agg #[.string ⟨#[]⟩,.slice none 0 0],.int .i64 3]) (by simp [results,Tryz.results103,go_sem,k0,k1]; try rfl) rfl ⟨_,by rw [hv.out.1,hv.out.2.2],by rw [hv.out.2.1]; exact hbf⟩
       ·have hz:=hno (by rw [hrx,if_neg (fun h=>m1 h.1)])
        clear hyes hno hrx
        have hv:=Box.mk (rd_none hz)
        have hN:=Box.mk hA2.out.n
        obtain ⟨_,_,c0,c1,f0,f1⟩:=hN.out.cells
        clear hz hA2
        go_wp2_with fail
        have hN0:SgRow w wr (.slice none 0 0) []:=⟨Pk.Row.nil _ _ _,(fun k hk=>by cases hk),hN.out.row.bel⟩
        have hf:=fin2_out hN.out.b2 hN0 (.string ⟨#[]⟩) (.slice none 0 0)
        unfold fin2 at hf
        obtain ⟨k0,k1,hbf⟩:=hf
        clear c0 c1 f0 f1
        refine bodyPost_ret (v:=.tuple #[.agg #[.string ⟨#[]⟩,.slice none 0 0],.int .i64 3]) (by simp [results,Tryz.results103,go_sem,k0,k1]; try rfl) rfl ⟨_,by rw [hv.out.1,hv.out.2.2],by rw [hv.out.2.1]; exact hbf⟩
      ·have hse:=sd_end s k i hi2 (by rw [hLe.out]; exact hc)
       rw [hsd] at hse
       have hcd:=Box.mk (hrs.out sg hse.symm)
       clear hsd hse
       by_cases m1:i<L
       ·have m2:¬ i<k+20:=fun h=>hc ⟨m1,h⟩
        clear hc
        obtain ⟨a0,a1,c0,c1,f0,f1⟩:=hA2.out.n.cells
        have hF:=dformat_any T a7 n7 c7 sg wr hTz hA2.out.n.row.sigs hn7.out (by omega)
        cases hg:gN (T,sg) with
        | false=>
         have hv:=Box.mk (rd_none (hcd.out.2 (.inl hg)))
         rw [fmV_no hg] at hF
         clear hcd hg
         go_wp2_with fail
         refine hF.mono ?_
         clear hF a0 a1 c0 c1 f0 f1
         rintro e w5 ⟨rfl,hb5⟩
         have hN:=Box.mk (hA2.out.n.on hb5)
         obtain ⟨a0,a1,c0,c1,f0,f1⟩:=hN.out.cells
         clear hb5
         go_wp2_with fail
         have hN0:SgRow w w5 (.slice none 0 0) []:=⟨Pk.Row.nil _ _ _,(fun k hk=>by cases hk),hN.out.row.bel⟩
         have hf:=fin2_out hN.out.b2 hN0 (.string ⟨#[]⟩) (.slice none 0 0)
         unfold fin2 at hf
         obtain ⟨k0,k1,hbf⟩:=hf
         clear c0 c1 f0 f1 a0 a1
         refine bodyPost_ret (v:=.tuple #[.agg #[.string ⟨#[]⟩,.slice none 0 0],.int .i64 3]) (by simp [results,Tryz.results103,go_sem,k0,k1]; try rfl) rfl ⟨_,by rw [hv.out.1,hv.out.2.2],by rw [hv.out.2.1]; exact hbf⟩
        | true=>
         rw [fmV_yes hg] at hF
         obtain ⟨F,hFe⟩:∃ F:ByteArray,(⟨(byN (T,sg)).toArray⟩:ByteArray)=F:=⟨_,rfl⟩
         rw [hFe] at hF hcd
         have hqs:=tl_eq F s
         by_cases he:F=s
         ·have hv:=Box.mk (rd_some (hcd.out.1 hg he))
          simp only at hv
          have hq2:(F.toList != s.toList)=false:=by rw [bne,hqs,decide_eq_true he]; rfl
          rw [decide_eq_true he] at hqs
          clear hcd hg hFe he
          go_wp2_with fail
          refine hF.mono ?_
          clear hF a0 a1 c0 c1 f0 f1
          rintro e w5 ⟨rfl,hb5⟩
          have hN:=Box.mk (hA2.out.n.on hb5)
          obtain ⟨a0,a1,c0,c1,f0,f1⟩:=hN.out.cells
          clear hb5
          go_wp2_with fail
          have hf:=fin2_out hN.out.b2 hN.out.row (.string T) (.slice a7 n7 c7)
          unfold fin2 at hf
          obtain ⟨k0,k1,hbf⟩:=hf
          clear c0 c1 f0 f1 a0 a1
          refine bodyPost_ret (v:=.tuple #[.agg #[.string T,.slice a7 n7 c7],.int .i64 0]) (by simp [results,Tryz.results103,go_sem,k0,k1]; try rfl) rfl ⟨_,by rw [hv.out.1,hv.out.2.2],by rw [hv.out.2.1]; exact hbf⟩
         ·have hv:=Box.mk (rd_none (hcd.out.2 (.inr he)))
          have hq2:(F.toList != s.toList)=true:=by rw [bne,hqs,decide_eq_false he]; rfl
          rw [decide_eq_false he] at hqs
          clear hcd hg hFe he
          go_wp2_with fail
          refine hF.mono ?_
          clear hF a0 a1 c0 c1 f0 f1
          rintro e w5 ⟨rfl,hb5⟩
          have hN:=Box.mk (hA2.out.n.on hb5)
          obtain ⟨a0,a1,c0,c1,f0,f1⟩:=hN.out.cells
          clear hb5
          go_wp2_with fail
          have hN0:SgRow w w5 (.slice none 0 0) []:=⟨Pk.Row.nil _ _ _,(fun k hk=>by cases hk),hN.out.row.bel⟩
          have hf:=fin2_out hN.out.b2 hN0 (.string ⟨#[]⟩) (.slice none 0 0)
          unfold fin2 at hf
          obtain ⟨k0,k1,hbf⟩:=hf
          clear c0 c1 f0 f1 a0 a1
          refine bodyPost_ret (v:=.tuple #[.agg #[.string ⟨#[]⟩,.slice none 0 0],.int .i64 3]) (by simp [results,Tryz.results103,go_sem,k0,k1]; try rfl) rfl ⟨_,by rw [hv.out.1,hv.out.2.2],by rw [hv.out.2.1]; exact hbf⟩
       ·clear hc
        obtain ⟨a0,a1,c0,c1,f0,f1⟩:=hA2.out.n.cells
        have hF:=dformat_any T a7 n7 c7 sg wr hTz hA2.out.n.row.sigs hn7.out (by omega)
        cases hg:gN (T,sg) with
        | false=>
         have hv:=Box.mk (rd_none (hcd.out.2 (.inl hg)))
         rw [fmV_no hg] at hF
         clear hcd hg
         go_wp2_with fail
         refine hF.mono ?_
         clear hF a0 a1 c0 c1 f0 f1
         rintro e w5 ⟨rfl,hb5⟩
         have hN:=Box.mk (hA2.out.n.on hb5)
         obtain ⟨a0,a1,c0,c1,f0,f1⟩:=hN.out.cells
         clear hb5
         go_wp2_with fail
         have hN0:SgRow w w5 (.slice none 0 0) []:=⟨Pk.Row.nil _ _ _,(fun k hk=>by cases hk),hN.out.row.bel⟩
         have hf:=fin2_out hN.out.b2 hN0 (.string ⟨#[]⟩) (.slice none 0 0)
         unfold fin2 at hf
         obtain ⟨k0,k1,hbf⟩:=hf
         clear c0 c1 f0 f1 a0 a1
         refine bodyPost_ret (v:=.tuple #[.agg #[.string ⟨#[]⟩,.slice none 0 0],.int .i64 3]) (by simp [results,Tryz.results103,go_sem,k0,k1]; try rfl) rfl ⟨_,by rw [hv.out.1,hv.out.2.2],by rw [hv.out.2.1]; exact hbf⟩
        | true=>
         rw [fmV_yes hg] at hF
         obtain ⟨F,hFe⟩:∃ F:ByteArray,(⟨(byN (T,sg)).toArray⟩:ByteArray)=F:=⟨_,rfl⟩
         rw [hFe] at hF hcd
         have hqs:=tl_eq F s
         by_cases he:F=s
         ·have hv:=Box.mk (rd_some (hcd.out.1 hg he))
          simp only at hv
          have hq2:(F.toList != s.toList)=false:=by rw [bne,hqs,decide_eq_true he]; rfl
          rw [decide_eq_true he] at hqs
          clear hcd hg hFe he
          go_wp2_with fail
          refine hF.mono ?_
          clear hF a0 a1 c0 c1 f0 f1
          rintro e w5 ⟨rfl,hb5⟩
          have hN:=Box.mk (hA2.out.n.on hb5)
          obtain ⟨a0,a1,c0,c1,f0,f1⟩:=hN.out.cells
          clear hb5
          go_wp2_with fail
          have hf:=fin2_out hN.out.b2 hN.out.row (.string T) (.slice a7 n7 c7)
          unfold fin2 at hf
          obtain ⟨k0,k1,hbf⟩:=hf
          clear c0 c1 f0 f1 a0 a1
          refine bodyPost_ret (v:=.tuple #[.agg #[.string T,.slice a7 n7 c7],.int .i64 0]) (by simp [results,Tryz.results103,go_sem,k0,k1]; try rfl) rfl ⟨_,by rw [hv.out.1,hv.out.2.2],by rw [hv.out.2.1]; exact hbf⟩
         ·have hv:=Box.mk (rd_none (hcd.out.2 (.inr he)))
          have hq2:(F.toList != s.toList)=true:=by rw [bne,hqs,decide_eq_false he]; rfl
          rw [decide_eq_false he] at hqs
          clear hcd hg hFe he
          go_wp2_with fail
          refine hF.mono ?_
          clear hF a0 a1 c0 c1 f0 f1
          rintro e w5 ⟨rfl,hb5⟩
          have hN:=Box.mk (hA2.out.n.on hb5)
          obtain ⟨a0,a1,c0,c1,f0,f1⟩:=hN.out.cells
          clear hb5
          go_wp2_with fail
          have hN0:SgRow w w5 (.slice none 0 0) []:=⟨Pk.Row.nil _ _ _,(fun k hk=>by cases hk),hN.out.row.bel⟩
          have hf:=fin2_out hN.out.b2 hN0 (.string ⟨#[]⟩) (.slice none 0 0)
          unfold fin2 at hf
          obtain ⟨k0,k1,hbf⟩:=hf
          clear c0 c1 f0 f1 a0 a1
          refine bodyPost_ret (v:=.tuple #[.agg #[.string ⟨#[]⟩,.slice none 0 0],.int .i64 3]) (by simp [results,Tryz.results103,go_sem,k0,k1]; try rfl) rfl ⟨_,by rw [hv.out.1,hv.out.2.2],by rw [hv.out.2.1]; exact hbf⟩
    ·have hcd:=Box.mk (hrs.out [] (by unfold sdT; rw [List.drop_of_length_le (by rw [<- q_len,hLe.out]; omega),List.take_nil]; rfl))
     have hkb:k<=1073741824:=by omega
     clear hka hjs hjz hlt hcell hrn
     go_wp2_with fail
     go_loopw [8] (fun q' wq=>q'=.int .i64 ((k:Int)+1)/\Box (D2 w wb b6 T (.slice none 0 0) [] wq)) (fun _ _=>0)
     case atStart=>exact ⟨rfl,hA⟩
     case round=>
      clear hA
      obtain ⟨rfl,hA2⟩:=hrel
      have hn7:Box (([]:List (ByteArray × ByteArray)).length=0):=⟨rfl⟩
      have hm1:¬ (k:Int)+1<(L:Int):=by omega
      obtain ⟨a0,a1,c0,c1,f0,f1⟩:=hA2.out.n.cells
      have hF:=dformat_any T none 0 0 [] wr hTz hA2.out.n.row.sigs hn7.out (by omega)
      cases hg:gN (T,[]) with
      | false=>
       have hv:=Box.mk (rd_none (hcd.out.2 (.inl hg)))
       rw [fmV_no hg] at hF
       clear hcd hg
       go_wp2_with fail
       refine hF.mono ?_
       clear hF a0 a1 c0 c1 f0 f1
       rintro e w5 ⟨rfl,hb5⟩
       have hN:=Box.mk (hA2.out.n.on hb5)
       obtain ⟨a0,a1,c0,c1,f0,f1⟩:=hN.out.cells
       clear hb5
       go_wp2_with fail
       have hN0:SgRow w w5 (.slice none 0 0) []:=⟨Pk.Row.nil _ _ _,(fun k hk=>by cases hk),hN.out.row.bel⟩
       have hf:=fin2_out hN.out.b2 hN0 (.string ⟨#[]⟩) (.slice none 0 0)
       unfold fin2 at hf
       obtain ⟨k0,k1,hbf⟩:=hf
       clear c0 c1 f0 f1 a0 a1
       refine bodyPost_ret (v:=.tuple #[.agg #[.string ⟨#[]⟩,.slice none 0 0],.int .i64 3]) (by simp [results,Tryz.results103,go_sem,k0,k1]; try rfl) rfl ⟨_,by rw [hv.out.1,hv.out.2.2],by rw [hv.out.2.1]; exact hbf⟩
      | true=>
       rw [fmV_yes hg] at hF
       obtain ⟨F,hFe⟩:∃ F:ByteArray,(⟨(byN (T,[])).toArray⟩:ByteArray)=F:=⟨_,rfl⟩
       rw [hFe] at hF hcd
       have hqs:=tl_eq F s
       by_cases he:F=s
       ·have hv:=Box.mk (rd_some (hcd.out.1 hg he))
        simp only at hv
        have hq2:(F.toList != s.toList)=false:=by rw [bne,hqs,decide_eq_true he]; rfl
        rw [decide_eq_true he] at hqs
        clear hcd hg hFe he
        go_wp2_with fail
        refine hF.mono ?_
        clear hF a0 a1 c0 c1 f0 f1
        rintro e w5 ⟨rfl,hb5⟩
        have hN:=Box.mk (hA2.out.n.on hb5)
        obtain ⟨a0,a1,c0,c1,f0,f1⟩:=hN.out.cells
        clear hb5
        go_wp2_with fail
        have hf:=fin2_out hN.out.b2 hN.out.row (.string T) (.slice none 0 0)
        unfold fin2 at hf
        obtain ⟨k0,k1,hbf⟩:=hf
        clear c0 c1 f0 f1 a0 a1
        refine bodyPost_ret (v:=.tuple #[.agg #[.string T,.slice none 0 0],.int .i64 0]) (by simp [results,Tryz.results103,go_sem,k0,k1]; try rfl) rfl ⟨_,by rw [hv.out.1,hv.out.2.2],by rw [hv.out.2.1]; exact hbf⟩
       ·have hv:=Box.mk (rd_none (hcd.out.2 (.inr he)))
        have hq2:(F.toList != s.toList)=true:=by rw [bne,hqs,decide_eq_false he]; rfl
        rw [decide_eq_false he] at hqs
        clear hcd hg hFe he
        go_wp2_with fail
        refine hF.mono ?_
        clear hF a0 a1 c0 c1 f0 f1
        rintro e w5 ⟨rfl,hb5⟩
        have hN:=Box.mk (hA2.out.n.on hb5)
        obtain ⟨a0,a1,c0,c1,f0,f1⟩:=hN.out.cells
        clear hb5
        go_wp2_with fail
        have hN0:SgRow w w5 (.slice none 0 0) []:=⟨Pk.Row.nil _ _ _,(fun k hk=>by cases hk),hN.out.row.bel⟩
        have hf:=fin2_out hN.out.b2 hN0 (.string ⟨#[]⟩) (.slice none 0 0)
        unfold fin2 at hf
        obtain ⟨k0,k1,hbf⟩:=hf
        clear c0 c1 f0 f1 a0 a1
        refine bodyPost_ret (v:=.tuple #[.agg #[.string ⟨#[]⟩,.slice none 0 0],.int .i64 3]) (by simp [results,Tryz.results103,go_sem,k0,k1]; try rfl) rfl ⟨_,by rw [hv.out.1,hv.out.2.2],by rw [hv.out.2.1]; exact hbf⟩
end Go.Proofs.YthpfpkikmaiddaaGreatDoor.Nt
