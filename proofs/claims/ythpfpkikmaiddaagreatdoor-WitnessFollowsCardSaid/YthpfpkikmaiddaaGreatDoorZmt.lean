/- - -/
import Derived.Test.YthpfpkikmaiddaaGreatDoorZtd
set_option linter.all false
set_option maxHeartbeats 3200000
set_option maxRecDepth 100000
namespace Go.Proofs.YthpfpkikmaiddaaGreatDoor
open Go Go.RowKit
theorem PA.cell {w:World} {a:Option Addr} {n c:Nat} {l:List ByteArray} (h:PA w a n c l) (i:Nat) (hi:i<n):∃ blk off,a=some ⟨blk,off,none⟩/\blk<w.heap.size/\w.cell? ⟨blk,off+i,none⟩=some (.string (l.getD i ByteArray.empty)):=by
 obtain ⟨blk,off,rfl,hl,hc⟩:=h.at_ (by omega)
 exact ⟨blk,off,rfl,hl,hc i hi⟩
theorem split_last (ps:List ByteArray) (n:Nat) (hn:ps.length=n) (h0:0<n):ps=ps.take (n-1)++[ps.getD (n-1) ByteArray.empty]:=by
 have h:=List.take_append_drop (n-1) ps
 conv=>lhs; rw [<- h]
 congr 1
 rw [List.drop_eq_getElem_cons (by omega),List.drop_eq_nil_of_le (by omega)]
 simp [List.getD,show n-1<ps.length by omega]
theorem split_any (n:Nat) (l:List ByteArray) (a:Option Addr) (c:Nat) (w:World) (hP:PA w a n c l) (h0:0<n) :
  Calls Tryz.prog 218 #[.slice a n c] w fun e w'=>e=.returned (.tuple #[.slice a ((n-1:Nat):Nat) c,.string (l.getD (n-1) ByteArray.empty)])/\Below w.heap.size w w':=by
 have hcap:=hP.cap
 have htop:=hP.top
 obtain ⟨blk,off,rfl,hl,hc⟩:=hP.cell (n-1) (by omega)
 obtain ⟨k,rfl⟩:∃ k,n=k+1:=⟨n-1,by omega⟩
 rw [Nat.add_sub_cancel] at hc ⊢
 obtain ⟨x,hx⟩:∃ x,l.getD k ByteArray.empty=x:=⟨_,rfl⟩
 rw [hx] at hc ⊢
 have hc2:∀ w',Below w.heap.size w w'->w'.cell? ⟨blk,off+k,none⟩=some (.string x):=fun w' hb=>(hb.cell (p:=⟨blk,off+k,none⟩) hl).trans hc
 replace hc2:=Box.mk hc2
 clear hP hx hc
 go_enter Tryz.func218,Tryz.ntmps218
 go_wp2_with fail
 refine region_quiet (fun w'=>Below w.heap.size w w') (by kernel_rfl) (by kernel_rfl) (dB _) ?_
 repeat (go_big_quiet_step (first | exact fun _=>rfl | rfl))
 refine quiet_val rfl (.string x) (fun w' hw'=>by have h3:=hc2.out w' hw'; go_simp) ?_
 simp only [Act.put,zT9,zS9,zZ9]
 repeat (go_big_quiet_step (first | exact fun _=>rfl | rfl))
 refine wpQuiet_nil ?_
 intro w7 hw7
 go_wp2_with fail
 go_returns
 exact ⟨rfl,hw7⟩
def errB (b:Bool):Int:=if b then 0 else 11
theorem proven_any (b:Bool) (w:World) :
  Calls Tryz.prog 166 #[.bool b] w fun e w'=>e=.returned (.int .i64 (errB b))/\w'=w:=by
 cases b
 ·go_enter Tryz.func166,Tryz.ntmps166
  go_wp2_with fail
  go_ret
  exact ⟨rfl,rfl⟩
 ·go_enter Tryz.func166,Tryz.ntmps166
  go_wp2_with fail
  go_ret
  exact ⟨rfl,rfl⟩
end Go.Proofs.YthpfpkikmaiddaaGreatDoor
namespace Go.Proofs.YthpfpkikmaiddaaGreatDoor
open Go Go.RowKit
theorem tba_ext {a b:ByteArray} (h:a.data.toList=b.data.toList):a=b:=ByteArray.ext (Array.ext' h)
theorem teq_toList (a b:ByteArray):(a.toList==b.toList)=decide (a=b):=by
 rw [ByteArray.toList_eq,ByteArray.toList_eq,Bool.eq_iff_iff]
 simp only [beq_iff_eq,decide_eq_true_eq]
 exact ⟨tba_ext,fun h=>by rw [h]⟩
end Go.Proofs.YthpfpkikmaiddaaGreatDoor
namespace Go.Proofs.YthpfpkikmaiddaaGreatDoor
open Go Go.RowKit
def TGrown (w:World) (m n:Nat) (whole:Bool) (old:ByteArray) (ps:List ByteArray) (e:Ending) (w':World):Prop:=
 ∃ x y b,e=.returned (.tuple #[.agg #[.string x,.string y],.bool b])/\b=decide (ps.length=wants m n whole)/\(ps.length=wants m n whole->(x,y)=outOf m n whole old ps)/\x.size<=70000000000000/\y.size<=70000000000000/\Below w.heap.size w w'
theorem grow_left {m n k p:Nat} {whole:Bool} {old x y z:ByteArray} {ps:List ByteArray} {b:Bool} (hl:ps.length=p) (hp:0<p) (hz:ps.getD (p-1) ByteArray.empty=z) (hk:cutN n=k) (hn:2<=n) (hm:m ≠ n) (hmk:m<=k)
  (hb:b=decide ((ps.take (p-1)).length=wants m k whole)) (hg:(ps.take (p-1)).length=wants m k whole->(x,y)=outOf m k whole old (ps.take (p-1))) :
  (b=decide (ps.length=wants m n whole))/\(ps.length=wants m n whole->(x,nodeH y z)=outOf m n whole old ps):=by
 subst hk
 have h1:(ps.take (p-1)).length=p-1:=by simp; omega
 have hw:=wants_left m n whole hn hm hmk
 refine ⟨by rw [hb,h1,hl,hw]; congr 1; apply propext; omega,fun h=>?_⟩
 rw [split_last ps p hl hp,outOf_left m n whole old _ _ hn hm hmk (by rw [h1]; omega),<- hg (by rw [h1]; omega),hz]
theorem grow_right {m n k p:Nat} {whole:Bool} {old x y z:ByteArray} {ps:List ByteArray} {b:Bool} (hl:ps.length=p) (hp:0<p) (hz:ps.getD (p-1) ByteArray.empty=z) (hk:cutN n=k) (hn:2<=n) (hm:m ≠ n) (hmk:k<m)
  (hb:b=decide ((ps.take (p-1)).length=wants (m-k) (n-k) false)) (hg:(ps.take (p-1)).length=wants (m-k) (n-k) false->(x,y)=outOf (m-k) (n-k) false old (ps.take (p-1))) :
  (b=decide (ps.length=wants m n whole))/\(ps.length=wants m n whole->(nodeH z x,nodeH z y)=outOf m n whole old ps):=by
 subst hk
 have h1:(ps.take (p-1)).length=p-1:=by simp; omega
 have hw:=wants_right m n whole hn hm hmk
 refine ⟨by rw [hb,h1,hl,hw]; congr 1; apply propext; omega,fun h=>?_⟩
 rw [split_last ps p hl hp,outOf_right m n whole old _ _ hn hm hmk (by rw [h1]; omega),<- hg (by rw [h1]; omega),hz]
theorem wants_pos (m n:Nat) (whole:Bool) (h:m ≠ n∨whole=false) (hn:m<=n) (hm:0<m):wants m n whole ≠ 0:=by
 by_cases hmn:m=n
 ·subst hmn
  rcases h with h | h
  ·exact absurd rfl h
  ·rw [wants_all,h]; simp
 ·by_cases hk:m<=cutN n
  ·rw [wants_left m n whole (by omega) hmn hk]; omega
  ·rw [wants_right m n whole (by omega) hmn (by omega)]; omega
theorem tgrow_any (old:ByteArray) (hold:old.size<=70000000000000):∀ (n:Nat) (ps:List ByteArray) (m p:Nat) (whole:Bool) (a:Option Addr) (c:Nat) (w:World),PA w a p c ps->KIs w->Fit ps->0<m->m<=n->n<=9223372036854775807 ->
  Calls Tryz.prog 167 #[.int .i64 (m:Int),.int .i64 (n:Int),.slice a p c,.string old,.bool whole] w (TGrown w m n whole old ps):=by
 intro n
 induction n using Nat.strongRecOn with
 | ind n ih=>
  intro ps m p whole a c w hP hK hF hm0 hm hn63
  have hlen:=hP.len
  by_cases hbase:m=n/\whole=true
  ·obtain ⟨rfl,rfl⟩:=hbase
   have hfin:Box (((p:Int)==0)=decide (ps.length=wants m m true)):=⟨by rw [wants_all,hlen,if_pos rfl,Bool.eq_iff_iff,decide_eq_true_iff,beq_iff_eq]; omega⟩
   have hout:Box ((old,old)=outOf m m true old ps):=⟨by rw [outOf_all,if_pos rfl]⟩
   have hB:Box (Below w.heap.size w (w.alloc (.cells #[.string old,.string old] 235))):=⟨bel_alloc _ _⟩
   have g0:=(Blk.new w [.string old,.string old] 235).cell 0
   have g1:=(Blk.new w [.string old,.string old] 235).cell 1
   simp only [List.getElem?_cons_zero,List.getElem?_cons_succ] at g0 g1
   clear ih hP hK hF hlen hm hm0
   go_enter Tryz.func167,Tryz.ntmps167
   go_wp2_with fail
   refine bodyPost_ret (v:=.tuple #[.agg #[.string old,.string old],.bool ((p:Int)==0)]) (by simp [results,Tryz.results167,go_sem,g0,g1]) rfl ⟨_,_,_,rfl,hfin.out,fun _=>hout.out,hold,hold,hB.out⟩
  ·obtain ⟨W0,hW0⟩:∃ W0,w.alloc (.cells #[.string ⟨#[]⟩,.string ⟨#[]⟩] 235)=W0:=⟨_,rfl⟩
   have hB:Box (Below w.heap.size w W0):=⟨by rw [<- hW0]; exact bel_alloc _ _⟩
   have hR:Box (Blk W0 w.heap.size [.string ⟨#[]⟩,.string ⟨#[]⟩] 235):=⟨by rw [<- hW0]; exact Blk.new w _ _⟩
   by_cases hmn:m=n
   ·obtain rfl:whole=false:=by cases whole; rfl; exact absurd ⟨hmn,rfl⟩ hbase
    subst hmn
    have hwp:=wants_pos m m false (.inr rfl) hm hm0
    rcases Nat.eq_zero_or_pos p with h0 | h0
    ·subst h0
     have hfin:Box (false=decide (ps.length=wants m m false)):=⟨by rw [hlen]; simp; omega⟩
     have hout:Box (¬ ps.length=wants m m false):=⟨by rw [hlen]; omega⟩
     have hE:Box ((⟨#[]⟩:ByteArray).size<=70000000000000):=⟨by decide⟩
     have r0:=hR.out.cell 0
     have r1:=hR.out.cell 1
     have f0:=hR.out.free 0
     have f1:=hR.out.free 1
     simp only [List.getElem?_cons_zero,List.getElem?_cons_succ] at r0 r1
     clear ih hP hK hF hlen hm hwp
     go_enter Tryz.func167,Tryz.ntmps167
     go_wp2_with fail
     clear r0 r1 f0 f1
     have hz:=(hR.out.setCell 0 (.string ⟨#[]⟩)).setCell 1 (.string ⟨#[]⟩)
     have hzB:Below w.heap.size w ((W0.setCell ⟨w.heap.size,0,none⟩ (.string ⟨#[]⟩)).setCell ⟨w.heap.size,1,none⟩ (.string ⟨#[]⟩)):=(hB.out.setCell (by simp) _).setCell (by simp) _
     obtain ⟨wz,hwz⟩:∃ wz,(W0.setCell ⟨w.heap.size,0,none⟩ (.string ⟨#[]⟩)).setCell ⟨w.heap.size,1,none⟩ (.string ⟨#[]⟩)=wz:=⟨_,rfl⟩
     rw [hwz] at hz hzB ⊢
     have g0:=hz.cell 0
     have g1:=hz.cell 1
     simp only [List.set_cons_zero,List.set_cons_succ,List.getElem?_cons_zero,List.getElem?_cons_succ] at g0 g1
     clear hz hwz
     refine bodyPost_ret (v:=.tuple #[.agg #[.string ⟨#[]⟩,.string ⟨#[]⟩],.bool false]) (by simp [results,Tryz.results167,go_sem,g0,g1]) rfl ⟨_,_,_,rfl,hfin.out,fun h=>absurd h hout.out,hE.out,hE.out,hzB⟩
    ·have hp0:((p:Int)==0)=false:=by simp; omega
     have hS:=split_any p ps a c W0 (hP.here (hB.out.mono (Nat.le_refl _))) h0
     have hxs:=hF.getD (p-1)
     obtain ⟨x,hx⟩:∃ x,ps.getD (p-1) ByteArray.empty=x:=⟨_,rfl⟩
     rw [hx] at hS hxs
     have hfin:Box ((((p-1:Nat):Int)==0)=decide (ps.length=wants m m false)):=⟨by rw [wants_all,hlen,if_neg (by simp),Bool.eq_iff_iff,decide_eq_true_iff,beq_iff_eq]; omega⟩
     have hout:Box (ps.length=wants m m false->(x,x)=outOf m m false old ps):=⟨fun h=>by
      rw [wants_all,if_neg (by simp),hlen] at h
      subst h
      rw [outOf_all,if_neg (by simp),<- hx]⟩
     clear ih hP hK hF hlen hm hwp hx
     go_enter Tryz.func167,Tryz.ntmps167
     go_wp2_with fail
     refine hS.mono ?_
     rintro e w4 ⟨rfl,hB4⟩
     clear hS
     replace hR:=Box.mk (hR.out.below hB4 hR.out.lt)
     replace hB:=Box.mk (mono_bel hB.out hB4 (Nat.le_refl _))
     clear hB4 hW0
     have r0:=hR.out.cell 0
     have r1:=hR.out.cell 1
     have f0:=hR.out.free 0
     have f1:=hR.out.free 1
     simp only [List.getElem?_cons_zero,List.getElem?_cons_succ] at r0 r1
     go_wp2_with fail
     clear r0 r1 f0 f1
     have hz:=(hR.out.setCell 0 (.string x)).setCell 1 (.string x)
     have hzB:Below w.heap.size w ((w4.setCell ⟨w.heap.size,0,none⟩ (.string x)).setCell ⟨w.heap.size,1,none⟩ (.string x)):=(hB.out.setCell (by simp) _).setCell (by simp) _
     obtain ⟨wz,hwz⟩:∃ wz,(w4.setCell ⟨w.heap.size,0,none⟩ (.string x)).setCell ⟨w.heap.size,1,none⟩ (.string x)=wz:=⟨_,rfl⟩
     rw [hwz] at hz hzB ⊢
     have g0:=hz.cell 0
     have g1:=hz.cell 1
     simp only [List.set_cons_zero,List.set_cons_succ,List.getElem?_cons_zero,List.getElem?_cons_succ] at g0 g1
     clear hz hwz
     refine bodyPost_ret (v:=.tuple #[.agg #[.string x,.string x],.bool (((p-1:Nat):Int)==0)]) (by simp [results,Tryz.results167,go_sem,g0,g1]) rfl ⟨_,_,_,rfl,hfin.out,hout.out,hxs,hxs,hzB⟩
   ·have hn:2<=n:=by omega
    have hmn2:((m:Int)==(n:Int))=false:=by simp; omega
    have hwp:=wants_pos m n whole (.inl hmn) hm hm0
    rcases Nat.eq_zero_or_pos p with h0 | h0
    ·subst h0
     have hfin:Box (false=decide (ps.length=wants m n whole)):=⟨by rw [hlen]; simp; omega⟩
     have hout:Box (¬ ps.length=wants m n whole):=⟨by rw [hlen]; omega⟩
     have hE:Box ((⟨#[]⟩:ByteArray).size<=70000000000000):=⟨by decide⟩
     have r0:=hR.out.cell 0
     have r1:=hR.out.cell 1
     have f0:=hR.out.free 0
     have f1:=hR.out.free 1
     simp only [List.getElem?_cons_zero,List.getElem?_cons_succ] at r0 r1
     clear ih hP hK hF hlen hm hwp
     go_enter Tryz.func167,Tryz.ntmps167
     go_wp2_with fail
     clear r0 r1 f0 f1
     have hz:=(hR.out.setCell 0 (.string ⟨#[]⟩)).setCell 1 (.string ⟨#[]⟩)
     have hzB:Below w.heap.size w ((W0.setCell ⟨w.heap.size,0,none⟩ (.string ⟨#[]⟩)).setCell ⟨w.heap.size,1,none⟩ (.string ⟨#[]⟩)):=(hB.out.setCell (by simp) _).setCell (by simp) _
     obtain ⟨wz,hwz⟩:∃ wz,(W0.setCell ⟨w.heap.size,0,none⟩ (.string ⟨#[]⟩)).setCell ⟨w.heap.size,1,none⟩ (.string ⟨#[]⟩)=wz:=⟨_,rfl⟩
     rw [hwz] at hz hzB ⊢
     have g0:=hz.cell 0
     have g1:=hz.cell 1
     simp only [List.set_cons_zero,List.set_cons_succ,List.getElem?_cons_zero,List.getElem?_cons_succ] at g0 g1
     clear hz hwz
     refine bodyPost_ret (v:=.tuple #[.agg #[.string ⟨#[]⟩,.string ⟨#[]⟩],.bool false]) (by simp [results,Tryz.results167,go_sem,g0,g1]) rfl ⟨_,_,_,rfl,hfin.out,fun h=>absurd h hout.out,hE.out,hE.out,hzB⟩
    ·have hp0:((p:Int)==0)=false:=by simp; omega
     have hk:=cutN_lt hn
     have hk0:=cutN_pos n
     have hC:=fun w=>cut_any n w hn hn63
     have hS:=split_any p ps a c W0 (hP.here (hB.out.mono (Nat.le_refl _))) h0
     have hxs:=hF.getD (p-1)
     have hL:=fun (hik:m<=cutN n) w' (hb:Below w.heap.size w w')=>ih (cutN n) hk (ps.take (p-1)) m (p-1) whole a c w' ((hP.here hb).take (by omega)) (hK.below hb hK.lt) (hF.take _) hm0 hik (by omega)
     have hRr:=fun (hik:cutN n<m) w' (hb:Below w.heap.size w w')=>ih (n-cutN n) (by omega) (ps.take (p-1)) (m-cutN n) (p-1) false a c w' ((hP.here hb).take (by omega)) (hK.below hb hK.lt) (hF.take _) (by omega) (by omega) (by omega)
     obtain ⟨z,hz⟩:∃ z,ps.getD (p-1) ByteArray.empty=z:=⟨_,rfl⟩
     rw [hz] at hS hxs
     have hN:=fun (g h:ByteArray) (hg:g.size<=70000000000000) (hh:h.size<=70000000000000) w' (hb:Below w.heap.size w w')=>tnode_any g h w' (hK.below hb hK.lt) (by omega) (by omega)
     obtain ⟨k,hkk⟩:∃ k,cutN n=k:=⟨_,rfl⟩
     rw [hkk] at hk hk0 hC hL hRr
     clear ih hF hP hK hwp
     replace hN:=Box.mk hN
     by_cases hik:m<=k
     ·have hik2:(m:Int)<=(k:Int):=by omega
      replace hL:=hL hik
      have hfin:=fun x y b=>grow_left (m:=m) (n:=n) (k:=k) (p:=p) (whole:=whole) (old:=old) (x:=x) (y:=y) (b:=b) hlen h0 hz hkk hn hmn hik
      obtain ⟨O,hO⟩:∃ O,outOf m n whole old ps=O:=⟨_,rfl⟩
      obtain ⟨N,hNn⟩:∃ N,wants m n whole=N:=⟨_,rfl⟩
      rw [hO,hNn] at hfin
      replace hfin:=Box.mk hfin
      replace hO:=Box.mk hO
      replace hNn:=Box.mk hNn
      clear hRr hkk hz hlen
      go_enter Tryz.func167,Tryz.ntmps167
      go_wp2_with fail
      refine hS.mono ?_
      rintro e w4 ⟨rfl,hB4⟩
      clear hS
      replace hR:=Box.mk (hR.out.below hB4 hR.out.lt)
      replace hB:=Box.mk (mono_bel hB.out hB4 (Nat.le_refl _))
      clear hB4 hW0
      replace hC:=hC w4
      go_wp2_with fail
      refine hC.mono ?_
      rintro e w5 ⟨rfl,rfl⟩
      clear hC
      replace hL:=hL w5 hB.out
      go_wp2_with fail
      refine hL.mono ?_
      rintro e w6 ⟨x,y,b,rfl,hb,hg,hx6,hy6,hB6⟩
      replace hfin:=Box.mk (hfin.out x y b hb hg)
      clear hL hb hg
      replace hR:=Box.mk (hR.out.below hB6 hR.out.lt)
      replace hB:=Box.mk (mono_bel hB.out hB6 (Nat.le_refl _))
      clear hB6
      obtain ⟨W7,hW7⟩:∃ W7,w6.alloc (.cells #[.string x,.string y] 235)=W7:=⟨_,rfl⟩
      have hB7:Below w6.heap.size w6 W7:=by rw [<- hW7]; exact bel_alloc _ _
      have hD:Blk W7 w6.heap.size [.string x,.string y] 235:=by rw [<- hW7]; exact Blk.new w6 _ _
      have hlt:w.heap.size<w6.heap.size:=hR.out.lt
      replace hR:=Box.mk (hR.out.below hB7 hR.out.lt)
      replace hB:=Box.mk (mono_bel hB.out hB7 (Nat.le_refl _))
      obtain ⟨D,hDe⟩:∃ D,w6.heap.size=D:=⟨_,rfl⟩
      rw [hDe] at hD hlt
      replace hD:=Box.mk hD
      clear hB7
      go_wp2_with fail
      have hcD:W7.cell? ⟨D,0,none⟩=some (.string x)/\W7.cell? ⟨D,1,none⟩=some (.string y):=⟨hD.out.cell 0,hD.out.cell 1⟩
      have hN1:=hN.out y z hy6 hxs W7.drew (hB.out.trans ((dB W7).mono hB.out.size))
      clear hN
      replace hR:Box (Blk W7.drew w.heap.size [.string ⟨#[]⟩,.string ⟨#[]⟩] 235):=⟨hR.out⟩
      replace hD:Box (Blk W7.drew D [.string x,.string y] 235):=⟨hD.out⟩
      replace hB:Box (Below w.heap.size w W7.drew):=⟨hB.out.trans ((dB W7).mono hB.out.size)⟩
      refine region_go (C:=fun w'=>w'.cell? ⟨D,0,none⟩=some (.string x)/\w'.cell? ⟨D,1,none⟩=some (.string y)) rfl ?_
      refine go_calms [0,1,2,3,4,7] 4 rfl (by kernel_rfl) (by kernel_rfl) (by kernel_rfl) hcD ?_
      simp [nth]
      try simp only [Act.put,zT9,zS9,zZ9]
      refine quiet_val rfl (.pointer (some ⟨D,0,none⟩)) (fun w' hw'=>by have h0:=hw'.1; have h1:=hw'.2; go_simp) ?_
      simp only [Act.put,zT9,zS9,zZ9]
      refine quiet_val rfl (.string x) (fun w' hw'=>by have h0:=hw'.1; have h1:=hw'.2; go_simp) ?_
      simp only [Act.put,zT9,zS9,zZ9]
      refine quiet_val rfl (.pointer (some ⟨D,1,none⟩)) (fun w' hw'=>by have h0:=hw'.1; have h1:=hw'.2; go_simp) ?_
      simp only [Act.put,zT9,zS9,zZ9]
      refine quiet_val rfl (.string y) (fun w' hw'=>by have h0:=hw'.1; have h1:=hw'.2; go_simp) ?_
      simp only [Act.put,zT9,zS9,zZ9]
      repeat (go_big_quiet_step (first | exact fun _=>rfl | rfl))
      refine wpQuiet_nil ?_
      clear hcD
      refine go_forced 5 (by kernel_rfl) (goOp_wp 5 rfl rfl (fun K hK=>?_))
      go_simp
      refine hN1.mono ?_
      rintro e w8 ⟨rfl,hb⟩
      replace hR:=Box.mk (hR.out.below hb hR.out.lt)
      replace hD:=Box.mk (hD.out.below hb hD.out.lt)
      replace hB:=Box.mk (mono_bel hB.out hb (Nat.le_refl _))
      refine hK _ _ ⟨hD.out.cell 0,hD.out.cell 1⟩ ?_
      clear hK K hN1 hb
      try simp only [Act.put,zT9,zS9,zZ9]
      refine go_calm 6 (by kernel_rfl) rfl (by kernel_rfl) (by kernel_rfl) ⟨hD.out.cell 0,hD.out.cell 1⟩ (yields (v:=.agg #[.string x,.string (nodeH y z)]) rfl (fun w' hw'=>by go_simp)) ?_
      simp only [Act.put,List.setIfInBounds_toArray]
      have r0:=hR.out.cell 0
      have r1:=hR.out.cell 1
      have f0:=hR.out.free 0
      have f1:=hR.out.free 1
      simp only [List.getElem?_cons_zero,List.getElem?_cons_succ] at r0 r1
      refine go_forced 8 (by kernel_rfl) (goOp_wp 8 rfl rfl (fun K hK=>?_))
      go_simp
      have hD2:=(hD.out.setCell_other ⟨w.heap.size,0,none⟩ (.string x) (by show D ≠ w.heap.size; omega)).setCell_other ⟨w.heap.size,1,none⟩ (.string (nodeH y z)) (by show D ≠ w.heap.size; omega)
      have hz:=(hR.out.setCell 0 (.string x)).setCell 1 (.string (nodeH y z))
      have hzB:Below w.heap.size w ((w8.setCell ⟨w.heap.size,0,none⟩ (.string x)).setCell ⟨w.heap.size,1,none⟩ (.string (nodeH y z))):=(hB.out.setCell (by simp) _).setCell (by simp) _
      obtain ⟨wz,hwz⟩:∃ wz,(w8.setCell ⟨w.heap.size,0,none⟩ (.string x)).setCell ⟨w.heap.size,1,none⟩ (.string (nodeH y z))=wz:=⟨_,rfl⟩
      rw [hwz] at hz hzB hD2 ⊢
      have g0:=hz.cell 0
      have g1:=hz.cell 1
      simp only [List.set_cons_zero,List.set_cons_succ,List.getElem?_cons_zero,List.getElem?_cons_succ] at g0 g1
      refine hK _ _ ⟨hD2.cell 0,hD2.cell 1⟩ ?_
      clear hK K hz hwz r0 r1 f0 f1 hD hR hB
      refine go_calms [9] 0 rfl (by kernel_rfl) (by kernel_rfl) (by kernel_rfl) ⟨hD2.cell 0,hD2.cell 1⟩ ?_
      clear hD2
      simp [nth]
      try simp only [Act.put,zT9,zS9,zZ9]
      repeat (go_big_quiet_step (first | exact fun _=>rfl | rfl))
      refine wpQuiet_nil ?_
      refine go_done (by kernel_rfl) ?_
      go_simp
      go_wp2_with fail
      refine bodyPost_ret (v:=.tuple #[.agg #[.string x,.string (nodeH y z)],.bool b]) (by simp [results,Tryz.results167,go_sem,g0,g1]) rfl ⟨_,_,_,rfl,by rw [hNn.out]; exact hfin.out.1,by rw [hNn.out,hO.out]; exact hfin.out.2,hx6,by rw [nodeH_size]; decide,hzB⟩
     ·have hik2:¬ (m:Int)<=(k:Int):=by omega
      have hki:k<m:=by omega
      have hsub:(m:Int)-(k:Int)=((m-k:Nat):Int):=by omega
      have hsub2:(n:Int)-(k:Int)=((n-k:Nat):Int):=by omega
      replace hRr:=hRr hki
      rw [<- hsub,<- hsub2] at hRr
      have hfin:=fun x y b=>grow_right (m:=m) (n:=n) (k:=k) (p:=p) (whole:=whole) (old:=old) (x:=x) (y:=y) (b:=b) hlen h0 hz hkk hn hmn hki
      obtain ⟨O,hO⟩:∃ O,outOf m n whole old ps=O:=⟨_,rfl⟩
      obtain ⟨N,hNn⟩:∃ N,wants m n whole=N:=⟨_,rfl⟩
      rw [hO,hNn] at hfin
      replace hfin:=Box.mk hfin
      replace hO:=Box.mk hO
      replace hNn:=Box.mk hNn
      clear hL hkk hz hlen hsub hsub2 hki hik
      go_enter Tryz.func167,Tryz.ntmps167
      go_wp2_with fail
      refine hS.mono ?_
      rintro e w4 ⟨rfl,hB4⟩
      clear hS
      replace hR:=Box.mk (hR.out.below hB4 hR.out.lt)
      replace hB:=Box.mk (mono_bel hB.out hB4 (Nat.le_refl _))
      clear hB4 hW0
      replace hC:=hC w4
      go_wp2_with fail
      refine hC.mono ?_
      rintro e w5 ⟨rfl,rfl⟩
      clear hC
      replace hRr:=hRr w5 hB.out
      go_wp2_with fail
      refine hRr.mono ?_
      rintro e w6 ⟨x,y,b,rfl,hb,hg,hx6,hy6,hB6⟩
      replace hfin:=Box.mk (hfin.out x y b hb hg)
      clear hRr hb hg
      replace hR:=Box.mk (hR.out.below hB6 hR.out.lt)
      replace hB:=Box.mk (mono_bel hB.out hB6 (Nat.le_refl _))
      clear hB6
      obtain ⟨W7,hW7⟩:∃ W7,w6.alloc (.cells #[.string x,.string y] 235)=W7:=⟨_,rfl⟩
      have hB7:Below w6.heap.size w6 W7:=by rw [<- hW7]; exact bel_alloc _ _
      have hD:Blk W7 w6.heap.size [.string x,.string y] 235:=by rw [<- hW7]; exact Blk.new w6 _ _
      have hlt:w.heap.size<w6.heap.size:=hR.out.lt
      replace hR:=Box.mk (hR.out.below hB7 hR.out.lt)
      replace hB:=Box.mk (mono_bel hB.out hB7 (Nat.le_refl _))
      obtain ⟨D,hDe⟩:∃ D,w6.heap.size=D:=⟨_,rfl⟩
      rw [hDe] at hD hlt
      replace hD:=Box.mk hD
      clear hB7
      go_wp2_with fail
      have hcD:W7.cell? ⟨D,0,none⟩=some (.string x)/\W7.cell? ⟨D,1,none⟩=some (.string y):=⟨hD.out.cell 0,hD.out.cell 1⟩
      have hN1:=hN.out z x hxs hx6 W7.drew (hB.out.trans ((dB W7).mono hB.out.size))
      replace hR:Box (Blk W7.drew w.heap.size [.string ⟨#[]⟩,.string ⟨#[]⟩] 235):=⟨hR.out⟩
      replace hD:Box (Blk W7.drew D [.string x,.string y] 235):=⟨hD.out⟩
      replace hB:Box (Below w.heap.size w W7.drew):=⟨hB.out.trans ((dB W7).mono hB.out.size)⟩
      refine region_go (C:=fun w'=>w'.cell? ⟨D,0,none⟩=some (.string x)/\w'.cell? ⟨D,1,none⟩=some (.string y)) rfl ?_
      refine go_calms [0,1,2,4,5,6,9] 5 rfl (by kernel_rfl) (by kernel_rfl) (by kernel_rfl) hcD ?_
      simp [nth]
      try simp only [Act.put,zT9,zS9,zZ9]
      repeat (go_big_quiet_step (first | exact fun _=>rfl | rfl))
      refine quiet_val rfl (.pointer (some ⟨D,0,none⟩)) (fun w' hw'=>by have h0:=hw'.1; have h1:=hw'.2; go_simp) ?_
      simp only [Act.put,zT9,zS9,zZ9]
      refine quiet_val rfl (.string x) (fun w' hw'=>by have h0:=hw'.1; have h1:=hw'.2; go_simp) ?_
      simp only [Act.put,zT9,zS9,zZ9]
      repeat (go_big_quiet_step (first | exact fun _=>rfl | rfl))
      refine quiet_val rfl (.pointer (some ⟨D,1,none⟩)) (fun w' hw'=>by have h0:=hw'.1; have h1:=hw'.2; go_simp) ?_
      simp only [Act.put,zT9,zS9,zZ9]
      refine quiet_val rfl (.string y) (fun w' hw'=>by have h0:=hw'.1; have h1:=hw'.2; go_simp) ?_
      simp only [Act.put,zT9,zS9,zZ9]
      repeat (go_big_quiet_step (first | exact fun _=>rfl | rfl))
      refine wpQuiet_nil ?_
      clear hcD
      refine go_forced 3 (by kernel_rfl) (goOp_wp 3 rfl rfl (fun K hK=>?_))
      go_simp
      refine hN1.mono ?_
      rintro e w9 ⟨rfl,hb⟩
      replace hR:=Box.mk (hR.out.below hb hR.out.lt)
      replace hD:=Box.mk (hD.out.below hb hD.out.lt)
      replace hB:=Box.mk (mono_bel hB.out hb (Nat.le_refl _))
      refine hK _ _ ⟨hD.out.cell 0,hD.out.cell 1⟩ ?_
      clear hK K hN1 hb
      try simp only [Act.put,zT9,zS9,zZ9]
      have hN1:=hN.out z y hxs hy6 w9 hB.out
      refine go_forced 7 (by kernel_rfl) (goOp_wp 7 rfl rfl (fun K hK=>?_))
      go_simp
      refine hN1.mono ?_
      rintro e w8 ⟨rfl,hb⟩
      replace hR:=Box.mk (hR.out.below hb hR.out.lt)
      replace hD:=Box.mk (hD.out.below hb hD.out.lt)
      replace hB:=Box.mk (mono_bel hB.out hb (Nat.le_refl _))
      refine hK _ _ ⟨hD.out.cell 0,hD.out.cell 1⟩ ?_
      clear hK K hN1 hb
      try simp only [Act.put,zT9,zS9,zZ9]
      refine go_calm 8 (by kernel_rfl) rfl (by kernel_rfl) (by kernel_rfl) ⟨hD.out.cell 0,hD.out.cell 1⟩ (yields (v:=.agg #[.string (nodeH z x),.string (nodeH z y)]) rfl (fun w' hw'=>by go_simp)) ?_
      simp only [Act.put,List.setIfInBounds_toArray]
      have r0:=hR.out.cell 0
      have r1:=hR.out.cell 1
      have f0:=hR.out.free 0
      have f1:=hR.out.free 1
      simp only [List.getElem?_cons_zero,List.getElem?_cons_succ] at r0 r1
      refine go_forced 10 (by kernel_rfl) (goOp_wp 10 rfl rfl (fun K hK=>?_))
      go_simp
      have hD2:=(hD.out.setCell_other ⟨w.heap.size,0,none⟩ (.string (nodeH z x)) (by show D ≠ w.heap.size; omega)).setCell_other ⟨w.heap.size,1,none⟩ (.string (nodeH z y)) (by show D ≠ w.heap.size; omega)
      have hz:=(hR.out.setCell 0 (.string (nodeH z x))).setCell 1 (.string (nodeH z y))
      have hzB:Below w.heap.size w ((w8.setCell ⟨w.heap.size,0,none⟩ (.string (nodeH z x))).setCell ⟨w.heap.size,1,none⟩ (.string (nodeH z y))):=(hB.out.setCell (by simp) _).setCell (by simp) _
      obtain ⟨wz,hwz⟩:∃ wz,(w8.setCell ⟨w.heap.size,0,none⟩ (.string (nodeH z x))).setCell ⟨w.heap.size,1,none⟩ (.string (nodeH z y))=wz:=⟨_,rfl⟩
      rw [hwz] at hz hzB hD2 ⊢
      have g0:=hz.cell 0
      have g1:=hz.cell 1
      simp only [List.set_cons_zero,List.set_cons_succ,List.getElem?_cons_zero,List.getElem?_cons_succ] at g0 g1
      refine hK _ _ ⟨hD2.cell 0,hD2.cell 1⟩ ?_
      clear hK K hz hwz r0 r1 f0 f1 hD hR hB
      refine go_calms [11] 0 rfl (by kernel_rfl) (by kernel_rfl) (by kernel_rfl) ⟨hD2.cell 0,hD2.cell 1⟩ ?_
      clear hD2
      simp [nth]
      try simp only [Act.put,zT9,zS9,zZ9]
      repeat (go_big_quiet_step (first | exact fun _=>rfl | rfl))
      refine wpQuiet_nil ?_
      refine go_done (by kernel_rfl) ?_
      go_simp
      go_wp2_with fail
      refine bodyPost_ret (v:=.tuple #[.agg #[.string (nodeH z x),.string (nodeH z y)],.bool b]) (by simp [results,Tryz.results167,go_sem,g0,g1]) rfl ⟨_,_,_,rfl,by rw [hNn.out]; exact hfin.out.1,by rw [hNn.out,hO.out]; exact hfin.out.2,by rw [nodeH_size]; decide,by rw [nodeH_size]; decide,hzB⟩
end Go.Proofs.YthpfpkikmaiddaaGreatDoor
namespace Go.Proofs.YthpfpkikmaiddaaGreatDoor
open Go Go.RowKit
def cosB (m n:Nat) (ps:List ByteArray) (old root:ByteArray):Bool:=
 if m=n then decide (ps.length=0/\old=root) else if m=0 then decide (ps.length=0/\old=noneH) else decide (ps.length=wants m n true/\outOf m n true old ps=(old,root))
def cosE (m n:Int) (ps:List ByteArray) (old root:ByteArray):Int:=if 0<=m/\m<=n then errB (cosB m.toNat n.toNat ps old root) else 1
theorem consistent_any (m n:Int) (old root:ByteArray) (ps:List ByteArray) (p:Nat) (a:Option Addr) (c:Nat) (w:World) (hP:PA w a p c ps) (hK:KIs w) (hF:Fit ps) (hold:old.size<=70000000000000) (hn63:n<=9223372036854775807) :
  Calls Tryz.prog 107 #[.int .i64 m,.int .i64 n,.slice a p c,.string old,.string root] w fun e w'=>e=.returned (.int .i64 (cosE m n ps old root))/\Below w.heap.size w w':=by
 have hlen:=hP.len
 unfold cosE
 by_cases h:0<=m/\m<=n
 ·rw [if_pos h]
  obtain ⟨m,rfl⟩:∃ k:Nat,m=k:=⟨m.toNat,by omega⟩
  obtain ⟨n,rfl⟩:∃ k:Nat,n=k:=⟨n.toNat,by omega⟩
  rw [Int.toNat_natCast,Int.toNat_natCast]
  have h1:¬ ((m:Int)<0):=by omega
  have h2:¬ ((m:Int)>(n:Int)):=by omega
  unfold cosB
  by_cases hmn:m=n
  ·rw [if_pos hmn,hlen]
   subst hmn
   have heq:(old.toList==root.toList)=decide (old=root):=teq_toList old root
   have hE:decide (p=0/\old=root)=(((p:Int)==0) && decide (old=root)):=by rw [Bool.eq_iff_iff,decide_eq_true_iff,Bool.and_eq_true,beq_iff_eq,decide_eq_true_iff]; exact ⟨fun h=>⟨by omega,h.2⟩,fun h=>⟨by omega,h.2⟩⟩
   rw [hE]
   obtain ⟨E,hEe⟩:∃ E,decide (old=root)=E:=⟨_,rfl⟩
   rw [hEe] at heq ⊢
   clear hP hK hF hE hEe h hlen
   have hV:=fun b=>proven_any b w
   rcases Nat.eq_zero_or_pos p with h0 | h0
   ·subst h0
    go_enter Tryz.func107,Tryz.ntmps107
    go_wp2_with fail
    refine (hV E).mono ?_
    rintro e w6 ⟨rfl,rfl⟩
    clear hV heq
    go_wp2_with fail
    go_ret
    exact ⟨by simp,Below.refl _ _⟩
   ·have hp0:((p:Int)==0)=false:=by simp; omega
    rw [hp0]
    go_enter Tryz.func107,Tryz.ntmps107
    go_wp2_with fail
    refine (hV false).mono ?_
    rintro e w6 ⟨rfl,rfl⟩
    clear hV heq
    go_wp2_with fail
    go_ret
    exact ⟨by simp,Below.refl _ _⟩
  ·rw [if_neg hmn]
   have hmn2:((m:Int)==(n:Int))=false:=by simp; omega
   by_cases hm0:m=0
   ·subst hm0
    rw [if_pos rfl,hlen]
    have heq:(old.toList==noneH.toList)=decide (old=noneH):=teq_toList old noneH
    have hE:decide (p=0/\old=noneH)=(((p:Int)==0) && decide (old=noneH)):=by rw [Bool.eq_iff_iff,decide_eq_true_iff,Bool.and_eq_true,beq_iff_eq,decide_eq_true_iff]; exact ⟨fun h=>⟨by omega,h.2⟩,fun h=>⟨by omega,h.2⟩⟩
    rw [hE]
    have hS:=sum_parts (.slice none 0 0) [] w ⟨none,0,rfl,fun h=>absurd h (Nat.lt_irrefl 0)⟩ hK (by simp [flat]) (by simp)
    rw [show hashOf (flat [])=noneH from rfl] at hS
    obtain ⟨E,hEe⟩:∃ E,decide (old=noneH)=E:=⟨_,rfl⟩
    rw [hEe] at heq ⊢
    obtain ⟨z,hz⟩:∃ z,noneH=z:=⟨_,rfl⟩
    rw [hz] at hS heq
    clear hP hK hF hE hEe h hlen hz
    have hV:=fun b w=>proven_any b w
    rcases Nat.eq_zero_or_pos p with h0 | h0
    ·subst h0
     go_enter Tryz.func107,Tryz.ntmps107
     go_wp2_with fail
     refine hS.mono ?_
     rintro e w5 ⟨rfl,hb⟩
     clear hS
     replace hb:=Box.mk hb
     replace hV:=fun b=>hV b w5
     go_wp2_with fail
     refine (hV E).mono ?_
     rintro e w6 ⟨rfl,rfl⟩
     clear hV heq
     go_wp2_with fail
     go_ret
     exact ⟨by simp,hb.out⟩
    ·have hp0:((p:Int)==0)=false:=by simp; omega
     rw [hp0]
     clear hS
     replace hV:=fun b=>hV b w
     go_enter Tryz.func107,Tryz.ntmps107
     go_wp2_with fail
     refine (hV false).mono ?_
     rintro e w6 ⟨rfl,rfl⟩
     clear hV heq
     go_wp2_with fail
     go_ret
     exact ⟨by simp,Below.refl _ _⟩
   ·rw [if_neg hm0]
    have hm02:((m:Int)==0)=false:=by simp; omega
    have hG:=tgrow_any old hold n ps m p true a c w hP hK hF (by omega) (by omega) (by omega)
    obtain ⟨O,hO⟩:∃ O,outOf m n true old ps=O:=⟨_,rfl⟩
    obtain ⟨N,hN⟩:∃ N,wants m n true=N:=⟨_,rfl⟩
    unfold TGrown at hG
    rw [hO,hN] at hG ⊢
    clear hP hK hF h hlen hO hN
    go_enter Tryz.func107,Tryz.ntmps107
    go_wp2_with fail
    refine hG.mono ?_
    rintro e w5 ⟨x,y,b,rfl,hb,hg,_,_,hB5⟩
    clear hG
    obtain ⟨W7,hW7⟩:∃ W7,w5.alloc (.cells #[.string x,.string y] 235)=W7:=⟨_,rfl⟩
    have hB7:Below w5.heap.size w5 W7:=by rw [<- hW7]; exact bel_alloc _ _
    have hD:Blk W7 w5.heap.size [.string x,.string y] 235:=by rw [<- hW7]; exact Blk.new w5 _ _
    have hB:=Box.mk (mono_bel hB5 hB7 (Nat.le_refl _))
    obtain ⟨D,hDe⟩:∃ D,w5.heap.size=D:=⟨_,rfl⟩
    rw [hDe] at hD
    have d0:=hD.cell 0
    have d1:=hD.cell 1
    simp only [List.getElem?_cons_zero,List.getElem?_cons_succ] at d0 d1
    have hq1:(x.toList==old.toList)=decide (x=old):=teq_toList x old
    have hq2:(y.toList==root.toList)=decide (y=root):=teq_toList y root
    clear hB7 hB5 hD
    have hV:=fun b=>proven_any b W7
    cases b with
    | false=>
     have hl:¬ ps.length=N:=by simpa using hb
     have hfin:Box (decide (ps.length=N/\O=(old,root))=false):=⟨by simp [hl]⟩
     clear hb hg hl
     go_wp2_with fail
     refine (hV false).mono ?_
     rintro e w6 ⟨rfl,rfl⟩
     clear hV
     go_wp2_with fail
     go_ret
     exact ⟨by rw [hfin.out]; rfl,hB.out⟩
    | true=>
     have hl:ps.length=N:=by simpa using hb
     have hfin:Box (decide (ps.length=N/\O=(old,root))=(decide (x=old) && decide (y=root))):=⟨by rw [<- hg hl]; simp [hl]⟩
     obtain ⟨E1,hE1⟩:∃ E,decide (x=old)=E:=⟨_,rfl⟩
     obtain ⟨E2,hE2⟩:∃ E,decide (y=root)=E:=⟨_,rfl⟩
     rw [hE1] at hq1 hfin
     rw [hE2] at hq2 hfin
     clear hb hg hl hE1 hE2
     cases E1 with
     | false=>
      replace hfin:Box (decide (ps.length=N/\O=(old,root))=false):=⟨hfin.out⟩
      clear hq2
      go_wp2_with fail
      refine (hV false).mono ?_
      rintro e w6 ⟨rfl,rfl⟩
      clear hV
      go_wp2_with fail
      go_ret
      exact ⟨by rw [hfin.out]; rfl,hB.out⟩
     | true=>
      replace hfin:Box (decide (ps.length=N/\O=(old,root))=E2):=⟨by rw [hfin.out,Bool.true_and]⟩
      cases E2 with
      | false=>
       go_wp2_with fail
       refine (hV false).mono ?_
       rintro e w6 ⟨rfl,rfl⟩
       clear hV
       go_wp2_with fail
       go_ret
       exact ⟨by rw [hfin.out]; rfl,hB.out⟩
      | true=>
       go_wp2_with fail
       refine (hV true).mono ?_
       rintro e w6 ⟨rfl,rfl⟩
       clear hV
       go_wp2_with fail
       go_ret
       exact ⟨by rw [hfin.out]; rfl,hB.out⟩
 ·rw [if_neg h]
  clear hP hK hF hold hlen
  by_cases h0:m<0
  ·go_enter Tryz.func107,Tryz.ntmps107
   go_wp2_with fail
   go_ret
   exact ⟨rfl,Below.refl _ _⟩
  ·have h1:m>n:=by omega
   go_enter Tryz.func107,Tryz.ntmps107
   go_wp2_with fail
   go_ret
   exact ⟨rfl,Below.refl _ _⟩
end Go.Proofs.YthpfpkikmaiddaaGreatDoor
namespace Go.Proofs.YthpfpkikmaiddaaGreatDoor
open Go Go.RowKit
end Go.Proofs.YthpfpkikmaiddaaGreatDoor
namespace Go.Proofs.YthpfpkikmaiddaaGreatDoor
open Go Go.RowKit
end Go.Proofs.YthpfpkikmaiddaaGreatDoor
