/- - -/
import Derived.Test.YthpfpkikmaiddaaGreatDoorZca
import Derived.Test.YthpfpkikmaiddaaGreatDoorZfl
set_option linter.all false
set_option maxHeartbeats 6400000
set_option maxRecDepth 100000
namespace Go.Proofs.YthpfpkikmaiddaaGreatDoor.Pk
open Go.RowKit Go.Maps
section
variable {P:Program} {w:World} {ops:Array Oper} {rest:List Oper} {o:Oper} {a:Act} {Q:Exit->Act->World->Prop}
theorem wpList_min2 (hgd:o.guard=none) (x y:Operand) (t:TypeId) (ho:o.op=.call { callee:=.builtin .min,args:=#[x,y],argTypes:=#[t,t] }) (i j m:Int) (hx:a.eval x=.int .i64 i) (hy:a.eval y=.int .i64 j) (hm:(if j<i then j else i)=m)
  (k:wpList P ops Q rest (a.put o.dst (.int .i64 m)) w):wpList P ops Q (o::rest) a w:=by
 refine wpList_plain hgd fun K hK=>?_
 have hk:=hK _ _ k
 rw [<- hm] at hk
 unfold Oper.wp execOp
 simp only [ho,resolve,invoke]
 simp [hx,hy,builtin,run_min_int2,Result.andThen]
 exact hk
end
theorem bodyS_succ {S:List Sec} {a j:Nat} (h:a+j<S.length):bodyS S a (j+1)=bodyS S a j++S.getD (a+j) zeroS:=by
 unfold bodyS
 have hj:j<(S.drop a).length:=by rw [List.length_drop]; omega
 rw [List.take_succ_eq_append_getElem hj,List.flatten_append]
 congr 1
 rw [List.getElem_drop,List.getD_eq_getElem?_getD,List.getElem?_eq_getElem h]
 simp
theorem bodyS_len {S:List Sec} (hS:okS S) {a:Nat}:∀ {j:Nat},a+j<=S.length->(bodyS S a j).length=64*j
 | 0,_=>by simp [bodyS]
 | j+1,h=>by
  rw [bodyS_succ (by omega),List.length_append,bodyS_len hS (by omega),okS_getD hS]; omega
theorem bodyS_add {S:List Sec} {a j k:Nat}:∃ r,bodyS S a (j+k)=bodyS S a j++r:=⟨_,by unfold bodyS; rw [List.take_add,List.flatten_append]⟩
theorem body_full {S:List Sec} (hS:okS S) {a j K size:Nat} (hj:a+j<=S.length) (h1:size<=64*j) (h2:j<=K):(bodyS S a j).take size=(bodyS S a K).take size:=by
 obtain ⟨r,hr⟩:=bodyS_add (S:=S) (a:=a) (j:=j) (k:=K-j)
 rw [show K=j+(K-j) by omega,hr,List.take_append_of_le_length (by rw [bodyS_len hS hj]; exact h1)]
theorem body_next {S:List Sec} (hS:okS S) {a j size:Nat} (hj:a+j<S.length):(bodyS S a (j+1)).take size=(bodyS S a j).take size++(S.getD (a+j) zeroS).take (min 64 (size-64*j)):=by
 rw [bodyS_succ hj,List.take_append,bodyS_len hS (by omega)]
 congr 1
 rcases Nat.le_total 64 (size-64*j) with h2 | h2
 ·rw [Nat.min_eq_left h2,List.take_of_length_le (by rw [okS_getD hS]; exact h2),List.take_of_length_le (by rw [okS_getD hS]; exact Nat.le_refl _)]
 ·rw [Nat.min_eq_right h2]
theorem ptext_any (bd:Nat) (F:Nat->Prop) (D:Dev) (at_ n size K:Nat) (hf:Value) (w:World) (h:DAt w bd F D) (hoff:D.off=false) (hK:size<=64*K) (hfit:at_+n+K<=D.safe.length) (hff:∃ q:Int,hf=.int .i64 q) :
  Calls Tryz.prog 129 #[.agg #[.pointer (some ⟨bd,0,none⟩),.int .i64 (at_:Int),hf],.int .i64 (n:Int),.int .i64 (size:Int)] w fun e w'=>e=.returned (.string (btx ((bodyS D.seen (at_+n) K).take size)))/\Box (Below w.heap.size w w'):=by
 obtain ⟨q,rfl⟩:=hff
 have hn:=h.ok.n
 have hS:=h.ok.seen
 have hsl:D.seen.length=D.safe.length:=Dev.ok.seen_len
 obtain ⟨w1,hw1⟩:∃ w1,w.alloc (.cells #[.pointer (some ⟨bd,0,none⟩),.int .i64 (at_:Int),.int .i64 q] 148)=w1:=⟨_,rfl⟩
 obtain ⟨bp,hbp⟩:∃ bp,w.heap.size=bp:=⟨_,rfl⟩
 have hP1:Blk w1 bp [.pointer (some ⟨bd,0,none⟩),.int .i64 (at_:Int),.int .i64 q] 148:=by
  rw [<- hw1,<- hbp]; exact Blk.new w _ _
 have hs1:Box (w1.heap.size=bp+1):=⟨by rw [<- hw1,<- hbp]; simp⟩
 have hD1:Box (DAt w1 bd F D):=⟨by rw [<- hw1]; exact h.below ((Below.refl _ _).alloc (Nat.le_refl _) _)⟩
 have hB1:Box (Below bp w w1):=⟨by rw [<- hw1,<- hbp]; exact (Below.refl _ _).alloc (Nat.le_refl _) _⟩
 obtain ⟨w2,hw2⟩:∃ w2,w1.alloc (.cells #[.pointer none,.slice none 0 0] 226)=w2:=⟨_,rfl⟩
 obtain ⟨bb,hbb⟩:∃ bb,w1.heap.size=bb:=⟨_,rfl⟩
 have hI2:Box (Lib.IsBuilder 226 5 bb bb (Lib.byteCells ((bodyS D.seen (at_+n) 0).take size)) w2):=⟨.inl ⟨Nat.le_refl _,.slice none 0 0,by rw [<- hw2,<- hbb]; exact heap_alloc_new w1 _,by simp [bodyS,Lib.byteCells]; exact World.ownsRow_nil _ _ _ _,fun e=>by cases e⟩⟩
 have hB2:Box (Below bb w1 w2):=⟨by rw [<- hw2,<- hbb]; exact (Below.refl _ _).alloc (Nat.le_refl _) _⟩
 replace hP1:=Box.mk hP1
 replace hS:=Box.mk hS
 clear h
 replace hoff:=Box.mk hoff
 replace hsl:=Box.mk hsl
 go_enter Tryz.func129,Tryz.ntmps129
 go_wp2_with fail
 clear hw1 hw2
 have hbp':=hbp
 replace hbp:=Box.mk hbp
 replace hbp':=Box.mk hbp'
 go_loopw [1] (fun s1 wr=>∃ j:Nat,j<=K/\s1=.int .i64 ((n:Int)+(j:Int))/\Box (Lib.IsBuilder 226 5 bb bb (Lib.byteCells ((bodyS D.seen (at_+n) j).take size)) wr)/\Box (Below bb w1 wr)) (fun s1 _=>n+K-(intOf s1).toNat)
 case atStart=>exact ⟨0,by omega,by simp,hI2,hB2⟩
 case round=>
  clear hI2 hB2
  obtain ⟨j,hj,rfl,hI,hB⟩:=hrel
  have hD:DAt wr bd F D:=hD1.out.below (by rw [hbb]; exact hB.out)
  have hbl:bp<bb:=by have:=hs1.out; omega
  have c0:wr.cell? ⟨bp,0,none⟩=some (.pointer (some ⟨bd,0,none⟩)):=by rw [hB.out.cell (p:=⟨bp,0,none⟩) hbl]; exact hP1.out.cell 0
  have c1:wr.cell? ⟨bp,1,none⟩=some (.int .i64 (at_:Int)):=by rw [hB.out.cell (p:=⟨bp,1,none⟩) hbl]; exact hP1.out.cell 1
  have hbw:Box (bb<=wr.heap.size):=⟨by have:=hB.out.size; omega⟩
  have hbl2:(bodyS D.seen (at_+n) j).length=64*j:=bodyS_len hS.out (by have:=hsl.out; omega)
  obtain ⟨l,hl⟩:∃ l,(bodyS D.seen (at_+n) j).take size=l:=⟨_,rfl⟩
  have hll:l.length=min size (64*j):=by rw [<- hl,List.length_take,hbl2]
  rw [hl] at hI
  have hLen:=(Tryz.Builder_Len bb bb _ wr hI.out).mono (R':=fun e w'=>e=.returned (.int .i64 (l.length:Int))/\wr=w') fun e w' ⟨x,y⟩=>⟨by rw [x,Lib.byteCells_length],y.symm⟩
  by_cases hlt:64*j<size
  ·obtain ⟨m,hm⟩:∃ m,l.length=m:=⟨_,rfl⟩
   rw [hm] at hLen
   have hmj:m=64*j:=by omega
   have hRd:=read_fit bd F D (at_+n+j) wr hD hoff.out (by omega)
   rw [show (((at_+n+j:Nat)):Int)=(at_:Int)+((n:Int)+(j:Int)) by omega] at hRd
   obtain ⟨sec,hsec⟩:∃ sec,D.seen.getD (at_+n+j) zeroS=sec:=⟨_,rfl⟩
   rw [hsec] at hRd
   change Calls _ _ _ _ (fun e w'=>e=.returned (.tuple #[.string (btx sec),.int .i64 0])/\wr=w') at hRd
   have hsl2:sec.length=64:=by rw [<- hsec]; exact okS_getD hS.out _
   have hss:(btx sec).size=64:=by rw [mk_size]; exact hsl2
   obtain ⟨mm,hmm⟩:∃ mm,min 64 (size-64*j)=mm:=⟨_,rfl⟩
   have hmm64:mm<=64:=by omega
   have hmn:Box ((if ((size:Int)-(m:Int))<64 then (size:Int)-(m:Int) else 64)=(mm:Int)):=⟨by split <;> omega⟩
   have hx:(btx sec).extract 0 mm=btx (sec.take mm):=by rw [mk_cut]; rfl
   have hnew:Box ((bodyS D.seen (at_+n) (j+1)).take size=l++sec.take mm):=⟨by
    rw [body_next hS.out (by have:=hsl.out; omega),hl,hmm,<- hsec]⟩
   have hW:=Box.mk (Tryz.Builder_WriteString bb bb _ (btx (sec.take mm)) wr hI.out (by rw [Lib.byteCells_length,mk_size,List.length_take]; omega) hbw.out)
   have hmb:m<size:=by omega
   have hmb2:(m:Int)<(size:Int):=by omega
   replace hmm:=Box.mk hmm
   replace hmj:=Box.mk hmj
   replace hlt:=Box.mk hlt
   replace hll:=Box.mk hll
   replace hLen:=Box.mk hLen
   replace hRd:=Box.mk hRd
   replace hbl2:=Box.mk hbl2
   replace hsl2:=Box.mk hsl2
   clear hl hm hsec hD hI
   replace hbb:=Box.mk hbb
   go_wp2_with fail
   refine hLen.out.mono ?_
   rintro e w' ⟨rfl,rfl⟩
   go_wp2_with fail
   refine hRd.out.mono ?_
   rintro e w' ⟨rfl,rfl⟩
   go_wp2_with fail
   refine hLen.out.mono ?_
   rintro e w' ⟨rfl,rfl⟩
   go_wp2_with (refine wpList_min2 rfl (.tmp 29) (.tmp 32) 3 rfl 64 ((size:Int)-(m:Int)) (mm:Int) rfl rfl hmn.out ?_)
   refine hW.out.mono ?_
   rintro e w6 ⟨rfl,hA,hb6⟩
   have hI6:Box (Lib.IsBuilder 226 5 bb bb (Lib.byteCells ((bodyS D.seen (at_+n) (j+1)).take size)) w6):=⟨by
    rw [hnew.out,Lib.byteCells_append]; exact .inr hA⟩
   have hB6:Box (Below bb w1 w6):=⟨hB.out.trans hb6⟩
   have hjK:Box (j+1<=K):=⟨by have:=hlt.out; omega⟩
   clear hW hA hb6 hB hnew hLen hRd c0 c1 hx hmn hmb hmb2 hss hmm64
   go_wp2_with fail
   exact ⟨⟨j+1,hjK.out,u_eq (by omega),hI6,hB6⟩,by simp [intOf]; have:=hjK.out; omega⟩
  ·have hsz:l.length=size:=by omega
   rw [hsz] at hLen
   have hSt:=Box.mk (Tryz.Builder_String_any bb bb l wr hI.out hbw.out)
   have hlast:Box (btx l=btx ((bodyS D.seen (at_+n) K).take size)):=⟨by rw [<- hl,body_full hS.out (by have:=hsl.out; omega) (by omega) hj]⟩
   replace hLen:=Box.mk hLen
   replace hsz:=Box.mk hsz
   replace hll:=Box.mk hll
   replace hbl2:=Box.mk hbl2
   have hBz:Box (Below bp w wr):=⟨hB1.out.trans (hB.out.mono (by omega))⟩
   clear hl hD hI hB
   replace hbb:=Box.mk hbb
   go_wp2_with fail
   refine hLen.out.mono ?_
   rintro e w' ⟨rfl,rfl⟩
   go_wp2_with fail
   refine hSt.out.mono ?_
   rintro e w6 ⟨rfl,hb6⟩
   have hBe:Box (Below w.heap.size w w6):=⟨by rw [hbp'.out]; exact hBz.out.trans (hb6.mono (by omega))⟩
   have hlast2:=hlast.out
   unfold btx at hlast2
   clear hSt hb6 hLen c0 c1 hBz
   replace hlast2:=Box.mk hlast2
   go_wp2_with fail
   go_returns
   exact ⟨by rw [hlast2.out]; rfl,hBe⟩
end Go.Proofs.YthpfpkikmaiddaaGreatDoor.Pk
namespace Go.Proofs.YthpfpkikmaiddaaGreatDoor.Pk
open Go.RowKit Go.Maps
theorem below_drewN (B:Nat) (w:World) (n:Nat):Below B w (w.drewN n):=⟨rfl,rfl,rfl,Nat.le_refl _,fun _ _=>rfl⟩
theorem DNext.trans {w w1 w2:World} {bd:Nat} {F:Nat->Prop} {D1 D2:Dev} (h1:DNext w bd F D1 w1) (h2:DNext w1 bd (fun k=>F k∨(w.heap.size<=k/\k<w1.heap.size)) D2 w2):DNext w bd F D2 w2:=by
 have s1:=h1.chg.size
 have s2:=h2.chg.size
 have hl:=h1.at_.lt
 refine ⟨h2.at_.wide (fun k hk=>?_) (fun k hk=>?_),h1.chg.trans h2.chg (fun i hi hk=>?_)⟩
 ·rcases hk with (hk | hk) | hk
  ·exact .inl hk
  ·exact .inr ⟨hk.1,Nat.lt_of_lt_of_le hk.2 s2⟩
  ·exact .inr ⟨Nat.le_trans s1 hk.1,hk.2⟩
 ·rcases hk with hk | hk
  ·have:=hl k (.inl hk); omega
  ·exact hk.2
 ·rcases hk with hk | hk
  ·exact hk
  ·omega
theorem DNext.grow {w w':World} {bd:Nat} {F:Nat->Prop} {D:Dev} (h:DAt w bd F D) (hb:Below w.heap.size w w'):DNext w bd F D w':=
 ⟨(h.below hb).wide (fun _ hk=>.inl hk) fun k hk=>by
  rcases hk with hk | hk
  ·exact Nat.lt_of_lt_of_le (h.lt k hk) hb.size
  ·exact hk.2,(Chg.of_below hb).mono fun i hi hk=>by omega⟩
theorem DNext.from_ {w w1 w2:World} {bd:Nat} {F:Nat->Prop} {D2:Dev} (hb:Below w.heap.size w w1) (h2:DNext w1 bd F D2 w2):DNext w bd F D2 w2:=by
 have s1:=hb.size
 have hl:=h2.at_.lt
 have hc:=h2.chg.size
 refine ⟨h2.at_.wide (fun k hk=>?_) (fun k hk=>?_),((Chg.of_below hb).mono (T:=F) (fun i hi hk=>by omega)).trans h2.chg (fun _ _ hk=>hk)⟩
 ·rcases hk with hk | hk
  ·exact .inl hk
  ·exact .inr ⟨by omega,hk.2⟩
 ·rcases hk with hk | hk
  ·exact hl k (.inl hk)
  ·exact hk.2
theorem write_grow (D:Dev) (n:Int) (t:Bs):(D.write n t).taken<=D.taken+1/\(D.write n t).fall<=D.fall/\(D.write n t).ws.length<=D.ws.length+1:=by
 unfold Dev.write Dev.stepD
 repeat' split
 all_goals first | exact ⟨Nat.le_succ _,Nat.le_refl _,Nat.le_succ _⟩ | (simp; done) | (simp; omega)
structure LMid (w1:World) (bd:Nat) (F:Nat->Prop) (D:Dev) (t:Bs) (a j:Nat) (D':Dev) (wr:World):Prop where
 next:DNext w1 bd F D' wr
 taken:D'.taken<=D.taken+j
 fall:D'.fall<=D.fall
 ws:D'.ws.length<=D.ws.length+j
 go:layM (cut (t.length-j) (t.drop (64*j))) D' (a+j)=layM (cut t.length t) D a
theorem LMid.step {w1 wr w':World} {bd:Nat} {F:Nat->Prop} {D D':Dev} {t:Bs} {a j:Nat} (h:LMid w1 bd F D t a j D' wr) (hne:t.drop (64*j) ≠ []) (hz:D'.writeE ((a+j:Nat):Int) ((t.drop (64*j)).take 64)=0)
  (hN:DNext w1 bd F (D'.write ((a+j:Nat):Int) ((t.drop (64*j)).take 64)) w'):LMid w1 bd F D t a (j+1) (D'.write ((a+j:Nat):Int) ((t.drop (64*j)).take 64)) w':=by
 obtain ⟨g1,g2,g3⟩:=write_grow D' ((a+j:Nat):Int) ((t.drop (64*j)).take 64)
 have hlen:64*j<t.length:=by
  rcases Nat.lt_or_ge (64*j) t.length with h1 | h1
  ·exact h1
  ·exact absurd (List.drop_of_length_le h1) hne
 refine ⟨hN,by have:=h.taken; omega,Nat.le_trans g2 h.fall,by have:=h.ws; omega,?_⟩
 rw [<- h.go,show t.length-j=(t.length-(j+1))+1 by omega,cut,if_neg hne,layM,if_pos hz,List.drop_drop,show 64*j+64=64*(j+1) by omega,show a+(j+1)=a+j+1 by omega]
theorem LMid.stop {w1 wr:World} {bd:Nat} {F:Nat->Prop} {D D':Dev} {t:Bs} {a j:Nat} (h:LMid w1 bd F D t a j D' wr) (hne:t.drop (64*j) ≠ []) (hz:D'.writeE ((a+j:Nat):Int) ((t.drop (64*j)).take 64) ≠ 0) :
  layM (cut t.length t) D a=(D'.writeE ((a+j:Nat):Int) ((t.drop (64*j)).take 64),D'.write ((a+j:Nat):Int) ((t.drop (64*j)).take 64)):=by
 have hlen:64*j<t.length:=by
  rcases Nat.lt_or_ge (64*j) t.length with h1 | h1
  ·exact h1
  ·exact absurd (List.drop_of_length_le h1) hne
 rw [<- h.go,show t.length-j=(t.length-(j+1))+1 by omega,cut,if_neg hne,layM,if_neg hz]
theorem LMid.last {w1 wr:World} {bd:Nat} {F:Nat->Prop} {D D':Dev} {t:Bs} {a j:Nat} (h:LMid w1 bd F D t a j D' wr) (hne:t.drop (64*j)=[]):layM (cut t.length t) D a=(D'.barrierE,D'.barrier):=by
 rw [<- h.go,hne,cut_nil,layM]
theorem lay_any (bd:Nat) (F:Nat->Prop) (D:Dev) (at_ n:Nat) (t:Bs) (q:Int) (w:World) (h:DAt w bd F D) (hk:D.taken+t.length<=999999) (hf:D.fall<=9223372036854775807) (hws:D.ws.length+t.length<=999999) (hfit:at_+n<=100000) :
  Calls Tryz.prog 202 #[.agg #[.pointer (some ⟨bd,0,none⟩),.int .i64 (at_:Int),.int .i64 q],.int .i64 (n:Int),.string (btx t)] w fun e w'=>e=.returned (.int .i64 (layM (cut t.length t) D (at_+n)).1)/\Box (DNext w bd F (layM (cut t.length t) D (at_+n)).2 w'):=by
 obtain ⟨w1,hw1⟩:∃ w1,w.alloc (.cells #[.pointer (some ⟨bd,0,none⟩),.int .i64 (at_:Int),.int .i64 q] 148)=w1:=⟨_,rfl⟩
 obtain ⟨bp,hbp⟩:∃ bp,w.heap.size=bp:=⟨_,rfl⟩
 have hP1:Box (Blk w1 bp [.pointer (some ⟨bd,0,none⟩),.int .i64 (at_:Int),.int .i64 q] 148):=⟨by
  rw [<- hw1,<- hbp]; exact Blk.new w _ _⟩
 have hB1:Box (Below w.heap.size w w1):=⟨by rw [<- hw1]; exact (Below.refl _ _).alloc (Nat.le_refl _) _⟩
 have hbF:Box (¬ F bp):=⟨fun hh=>by have:=h.lt bp hh; omega⟩
 have hL0:Box (LMid w1 bd F D t (at_+n) 0 D w1):=⟨⟨DNext.same (h.below hB1.out),by omega,Nat.le_refl _,by omega,by simp⟩⟩
 replace h:=Box.mk h
 go_enter Tryz.func202,Tryz.ntmps202
 go_wp2_with fail
 clear hw1
 go_loopw [1,2] (fun s1 s2 wr=>∃ (j:Nat) (D':Dev),64*j<=t.length+63/\s1=.int .i64 ((n:Int)+(j:Int))/\s2=.string (btx (t.drop (64*j)))/\Box (LMid w1 bd F D t (at_+n) j D' wr)) (fun s1 _ _=>n+t.length-(intOf s1).toNat)
 case atStart=>exact ⟨0,D,by omega,by simp,by simp,hL0⟩
 case round=>
  clear hL0
  obtain ⟨j,D',hj,rfl,rfl,hL⟩:=hrel
  obtain ⟨l,hl⟩:∃ l,t.drop (64*j)=l:=⟨_,rfl⟩
  have hcell:∀ i u,([.pointer (some ⟨bd,0,none⟩),.int .i64 (at_:Int),.int .i64 q]:List Value)[i]?=some u->wr.cell? ⟨bp,i,none⟩=some u:=fun i u hu=>by
   have:=hL.out.next.chg.blk hP1.out hbF.out
   rw [this.cell i]; exact hu
  have c0:wr.cell? ⟨bp,0,none⟩=some (.pointer (some ⟨bd,0,none⟩)):=hcell 0 _ rfl
  have c1:wr.cell? ⟨bp,1,none⟩=some (.int .i64 (at_:Int)):=hcell 1 _ rfl
  clear hcell
  rw [hl]
  by_cases hne:l=[]
  ·have he:(btx l).toList.isEmpty=true:=by rw [btx_toList,hne]; rfl
   have hlast:Box (layM (cut t.length t) D (at_+n)=(D'.barrierE,D'.barrier)):=⟨hL.out.last (hl.trans hne)⟩
   have hBr:=Box.mk (barrier_any bd _ D' wr hL.out.next.at_ (by have:=hL.out.taken; omega) (Nat.le_trans hL.out.fall hf))
   replace hl:=Box.mk hl
   replace hne:=Box.mk hne
   go_wp2_with fail
   refine hBr.out.mono ?_
   rintro e w' ⟨rfl,hN⟩
   have hR:Box (DNext w bd F D'.barrier w'):=⟨DNext.from_ hB1.out (hL.out.next.trans hN)⟩
   clear hN hBr hL c0 c1
   go_wp2_with fail
   go_returns
   rw [hlast.out]
   exact ⟨rfl,hR⟩
  ·have he:(btx l).toList.isEmpty=false:=by rw [btx_toList]; simpa using hne
   obtain ⟨m,hm⟩:∃ m,min l.length 64=m:=⟨_,rfl⟩
   have hm1:m<=l.length:=by omega
   have hm0:1<=m:=by have:=List.length_pos_iff.2 hne; omega
   have hmn:Box ((if (64:Int)<(l.length:Int) then 64 else (l.length:Int))=(m:Int)):=⟨by split <;> omega⟩
   have hsz:(btx l).size=l.length:=mk_size l
   have hx1:(btx l).extract 0 m=btx (l.take 64):=by
    rw [mk_cut,List.drop_zero]
    congr 1
    rcases Nat.le_total l.length 64 with h1 | h1
    ·rw [List.take_of_length_le (show l.length<=m by omega),List.take_of_length_le h1]
    ·rw [show m=64 by omega]
   have hx2:(btx l).extract m l.length=btx (l.drop 64):=by
    rw [mk_cut,List.take_of_length_le (Nat.le_refl _)]
    congr 1
    rcases Nat.le_total l.length 64 with h1 | h1
    ·rw [List.drop_of_length_le (show l.length<=m by omega),List.drop_of_length_le h1]
    ·rw [show m=64 by omega]
   replace hl:=Box.mk hl
   replace hne:=Box.mk hne
   replace hm:=Box.mk hm
   go_wp2_with (refine wpList_min2 rfl (.tmp 14) (.const (.int .i64 64)) 3 rfl (l.length:Int) 64 (m:Int) rfl rfl hmn.out ?_)
   refine region_quiet_tail (C:=fun w'=>∃ n,w'=wr.drewN n) 9 rfl (by kernel_rfl) ⟨1,rfl⟩ ?_
   simp only [List.take,List.drop]
   repeat (go_big_quiet_step (first | exact fun _=>rfl | rfl))
   refine wpQuiet_nil ?_
   rintro w5 ⟨r,rfl⟩
   have hcast:((at_+n+j:Nat):Int)=(at_:Int)+((n:Int)+(j:Int)):=by omega
   have hW:=write_any bd _ D' ((at_+n+j:Nat):Int) (btx (l.take 64)) (wr.drewN r) (hL.out.next.at_.below (below_drewN _ wr r)) (by have:=hL.out.taken; omega) (Nat.le_trans hL.out.fall hf) (by have:=hL.out.ws; omega)
   change Calls _ _ _ _ (fun e w'=>e=.returned (.int .i64 (D'.writeE ((at_+n+j:Nat):Int) (l.take 64)))/\DNext (wr.drewN r) bd _ (D'.write ((at_+n+j:Nat):Int) (l.take 64)) w') at hW
   obtain ⟨D2,hD2⟩:∃ D2,D'.write ((at_+n+j:Nat):Int) (l.take 64)=D2:=⟨_,rfl⟩
   obtain ⟨x,hxe⟩:∃ x,D'.writeE ((at_+n+j:Nat):Int) (l.take 64)=x:=⟨_,rfl⟩
   have hbase:DNext w1 bd F D' (wr.drewN r):=hL.out.next.trans (DNext.grow hL.out.next.at_ (below_drewN _ wr r))
   have hstep:Box (∀ w',DNext (wr.drewN r) bd (fun k=>F k∨(w1.heap.size<=k/\k<wr.heap.size)) D2 w'->DNext w1 bd F D2 w'):=⟨fun w' hN=>hL.out.next.trans (DNext.from_ (below_drewN _ wr r) hN)⟩
   have hend:Box (x ≠ 0->layM (cut t.length t) D (at_+n)=(x,D2)):=⟨fun hx=>by
    rw [<- hxe,<- hD2,<- hl.out]
    exact hL.out.stop (by rw [hl.out]; exact hne.out) (by rw [hl.out,hxe]; exact hx)⟩
   have hgoon:Box (x=0->∀ w',DNext w1 bd F D2 w'->LMid w1 bd F D t (at_+n) (j+1) D2 w'):=⟨fun hx w' hN=>by
    rw [<- hD2,<- hl.out]
    exact hL.out.step (by rw [hl.out]; exact hne.out) (by rw [hl.out,hxe]; exact hx) (by rw [hl.out,hD2]; exact hN)⟩
   have hlow:Box (64*j<t.length):=⟨by
    rcases Nat.lt_or_ge (64*j) t.length with h1 | h1
    ·exact h1
    ·exact absurd (hl.out.symm.trans (List.drop_of_length_le h1)) hne.out⟩
   have hdrop:Box (t.drop (64*(j+1))=l.drop 64):=⟨by rw [<- hl.out,List.drop_drop]; congr 1⟩
   rw [hD2,hxe,hcast] at hW
   generalize wr.drewN r=w5 at hW hstep ⊢
   replace hW:=Box.mk hW
   clear hcast hD2 hxe hbase hL c0 c1
   by_cases hx0:x=0
   ·subst hx0
    have hg2:Box (∀ w',DNext w1 bd F D2 w'->LMid w1 bd F D t (at_+n) (j+1) D2 w'):=⟨hgoon.out rfl⟩
    clear hgoon hend
    go_wp2_with fail
    refine hW.out.mono ?_
    rintro e w6 ⟨rfl,hN⟩
    have hL6:=Box.mk (hg2.out w6 (hstep.out w6 hN))
    clear hW hN hstep hg2
    go_wp2_with fail
    refine ⟨⟨j+1,D2,by have:=hlow.out; omega,u_eq (by omega),by rw [hdrop.out],hL6⟩,?_⟩
    have:=hlow.out
    simp [intOf]; omega
   ·have hx1:(x==0)=false:=by simpa using hx0
    have hR:Box (layM (cut t.length t) D (at_+n)=(x,D2)):=⟨hend.out hx0⟩
    clear hgoon hend
    replace hx0:=Box.mk hx0
    go_wp2_with fail
    refine hW.out.mono ?_
    rintro e w6 ⟨rfl,hN⟩
    have hN6:Box (DNext w bd F D2 w6):=⟨DNext.from_ hB1.out (hstep.out w6 hN)⟩
    clear hW hN hstep
    go_wp2_with fail
    go_returns
    rw [hR.out]
    exact ⟨rfl,hN6⟩
end Go.Proofs.YthpfpkikmaiddaaGreatDoor.Pk
namespace Go.Proofs.YthpfpkikmaiddaaGreatDoor.Pk
open Go.RowKit Go.Maps
theorem barrier_grow (D:Dev):D.barrier.taken<=D.taken+1/\D.barrier.fall<=D.fall/\D.barrier.ws.length<=D.ws.length:=by
 unfold Dev.barrier Dev.stepD
 repeat' split
 all_goals first | exact ⟨Nat.le_succ _,Nat.le_refl _,Nat.le_refl _⟩ | (simp; done) | (simp; omega)
theorem layM_grow:∀ (l:List Bs) (D:Dev) (n:Nat),(layM l D n).2.taken<=D.taken+l.length+1/\(layM l D n).2.fall<=D.fall/\(layM l D n).2.ws.length<=D.ws.length+l.length
 | [],D,n=>by
  obtain ⟨h1,h2,h3⟩:=barrier_grow D
  exact ⟨by simp [layM]; omega,h2,by simp [layM]; omega⟩
 | t::r,D,n=>by
  obtain ⟨h1,h2,h3⟩:=write_grow D n t
  unfold layM
  split
  ·obtain ⟨g1,g2,g3⟩:=layM_grow r (D.write n t) (n+1)
   rw [List.length_cons]
   exact ⟨by omega,by omega,by omega⟩
  ·rw [List.length_cons]
   exact ⟨by show (D.write n t).taken<=_; omega,h2,by show (D.write n t).ws.length<=_; omega⟩
theorem cut_one {t:Bs} (h0:t ≠ []) (h:t.length<=64):cut t.length t=[t]:=by
 have h1:0<t.length:=List.length_pos_iff.2 h0
 rw [show t.length=(t.length-1)+1 by omega,cut,if_neg h0,List.drop_of_length_le h,cut_nil,List.take_of_length_le h]
theorem cut_count (t:Bs):(cut t.length t).length<=t.length:=by
 have:=cut_len t.length t (by omega)
 omega
theorem zeros_rep:(⟨(Lib.repeatL (ByteArray.mk #[0]).data.toList 64).toArray⟩:ByteArray)=btx zeros:=by decide +kernel
theorem rep_any (w:World):Calls Tryz.prog 203 #[.string ⟨#[0]⟩,.int .i64 64] w fun e w'=>e=.returned (.string (btx zeros))/\Below w.heap.size w w':=by
 have h:=Tryz.strings_Repeat ⟨#[0]⟩ 64 w (by decide) (by decide)
 rw [zeros_rep] at h
 exact h
theorem pwrite_any (bd:Nat) (F:Nat->Prop) (D:Dev) (at_:Nat) (q:Int) (hh b:Bs) (w:World) (h:DAt w bd F D) (hk:D.taken<=100000) (hf:D.fall<=9223372036854775807) (hws:D.ws.length<=100000) (hfit:at_<=90000) (hh0:hh ≠ []) (hh1:hh.length<=64) (hb:b.length<=400000) :
  Calls Tryz.prog 143 #[.agg #[.pointer (some ⟨bd,0,none⟩),.int .i64 (at_:Int),.int .i64 q],.string (btx hh),.string (btx b)] w fun e w'=>e=.returned (.int .i64 (commitM D at_ hh (cut b.length b)).1)/\Box (DNext w bd F (commitM D at_ hh (cut b.length b)).2 w'):=by
 obtain ⟨w1,hw1⟩:∃ w1,w.alloc (.cells #[.pointer (some ⟨bd,0,none⟩),.int .i64 (at_:Int),.int .i64 q] 148)=w1:=⟨_,rfl⟩
 obtain ⟨bp,hbp⟩:∃ bp,w.heap.size=bp:=⟨_,rfl⟩
 have hP1:Box (Blk w1 bp [.pointer (some ⟨bd,0,none⟩),.int .i64 (at_:Int),.int .i64 q] 148):=⟨by
  rw [<- hw1,<- hbp]; exact Blk.new w _ _⟩
 have hB1:Box (Below w.heap.size w w1):=⟨by rw [<- hw1]; exact (Below.refl _ _).alloc (Nat.le_refl _) _⟩
 have hbF:Box (¬ F bp):=⟨fun hh=>by have:=h.lt bp hh; omega⟩
 have hD1:Box (DAt w1 bd F D):=⟨h.below hB1.out⟩
 have hcut0:cut zeros.length zeros=[zeros]:=by decide +kernel
 have hcuth:=cut_one hh0 hh1
 replace h:=Box.mk h
 replace hcut0:=Box.mk hcut0
 replace hcuth:=Box.mk hcuth
 replace hh0:=Box.mk hh0
 go_enter Tryz.func143,Tryz.ntmps143
 go_wp2_with fail
 clear hw1
 refine region_quiet_tail (C:=fun w'=>Below w1.heap.size w1 w') 2 rfl (by kernel_rfl) (Below.refl _ _).drew ?_
 simp only [List.take,List.drop]
 refine quiet_any rfl (.agg #[.pointer (some ⟨bd,0,none⟩),.int .i64 (at_:Int),.int .i64 q]) (fun w' hw'=>by
  have hb':Blk w' bp _ _:=(hw'.block _ hP1.out.lt).trans hP1.out
  have c0:w'.cell? ⟨bp,0,none⟩=some (.pointer (some ⟨bd,0,none⟩)):=hb'.cell 0
  have c1:w'.cell? ⟨bp,1,none⟩=some (.int .i64 (at_:Int)):=hb'.cell 1
  have c2:w'.cell? ⟨bp,2,none⟩=some (.int .i64 q):=hb'.cell 2
  go_simp) ?_
 simp only [Act.put,zT9,zS9,zZ9]
 repeat (go_big_quiet_step (first | exact fun _=>rfl | (intro hw; refine (rep_any _).mono ?_; rintro e w'' ⟨rfl,h⟩; exact ⟨rfl,hw.trans (h.mono hw.size)⟩)))
 refine wpQuiet_nil ?_
 intro w2 hB2
 have hBw:Box (Below w.heap.size w w2):=⟨hB1.out.trans (hB2.mono hB1.out.size)⟩
 have hN2:Box (DNext w2 bd F D w2):=⟨DNext.same (hD1.out.below hB2)⟩
 have hP2:Box (Blk w2 bp [.pointer (some ⟨bd,0,none⟩),.int .i64 (at_:Int),.int .i64 q] 148):=⟨(hB2.block _ hP1.out.lt).trans hP1.out⟩
 have hkeep:∀ D' w',DNext w2 bd F D' w'->Blk w' bp [.pointer (some ⟨bd,0,none⟩),.int .i64 (at_:Int),.int .i64 q] 148:=fun D' w' hN=>hN.chg.blk hP2.out hbF.out
 have hL1:=lay_any bd F D at_ 0 zeros q w2 (hD1.out.below hB2) (by simp [zeros]; omega) hf (by simp [zeros]; omega) (by omega)
 rw [hcut0.out,Nat.add_zero] at hL1
 change Calls _ _ #[_,.int .i64 0,_] _ _ at hL1
 obtain ⟨g1,g2,g3⟩:=layM_grow [zeros] D at_
 have hdef:Box (commitM D at_ hh (cut b.length b)=if (layM [zeros] D at_).1=0 then
   if (layM (cut b.length b) (layM [zeros] D at_).2 (at_+1)).1=0 then layM [hh] (layM (cut b.length b) (layM [zeros] D at_).2 (at_+1)).2 at_ else layM (cut b.length b) (layM [zeros] D at_).2 (at_+1)
   else layM [zeros] D at_):=⟨rfl⟩
 obtain ⟨e1,he1⟩:∃ e1,(layM [zeros] D at_).1=e1:=⟨_,rfl⟩
 obtain ⟨D1,hd1⟩:∃ D1,(layM [zeros] D at_).2=D1:=⟨_,rfl⟩
 have hpair:Box (layM [zeros] D at_=(e1,D1)):=⟨by rw [<- he1,<- hd1]⟩
 rw [he1,hd1] at hL1
 rw [hd1] at g1 g2 g3
 rw [he1,hd1,hpair.out] at hdef
 simp only [List.length_singleton] at g1 g3
 replace hL1:=Box.mk hL1
 replace hkeep:=Box.mk hkeep
 clear he1 hd1 hB2 hD1 hP1 hB1
 by_cases hz1:e1=0
 ·subst hz1
  go_wp2_with fail
  refine hL1.out.mono ?_
  rintro e w3 ⟨rfl,hN3⟩
  have hb3:=hkeep.out _ _ hN3.out
  have c0:w3.cell? ⟨bp,0,none⟩=some (.pointer (some ⟨bd,0,none⟩)):=hb3.cell 0
  have c1:w3.cell? ⟨bp,1,none⟩=some (.int .i64 (at_:Int)):=hb3.cell 1
  have c2:w3.cell? ⟨bp,2,none⟩=some (.int .i64 q):=hb3.cell 2
  have hL2:=lay_any bd _ D1 at_ 1 b q w3 hN3.out.at_ (by omega) (by omega) (by omega) (by omega)
  change Calls _ _ #[_,.int .i64 1,_] _ _ at hL2
  obtain ⟨k1,k2,k3⟩:=layM_grow (cut b.length b) D1 (at_+1)
  have hcc:=cut_count b
  obtain ⟨e2,he2⟩:∃ e2,(layM (cut b.length b) D1 (at_+1)).1=e2:=⟨_,rfl⟩
  obtain ⟨D2,hd2⟩:∃ D2,(layM (cut b.length b) D1 (at_+1)).2=D2:=⟨_,rfl⟩
  have hpair2:Box (layM (cut b.length b) D1 (at_+1)=(e2,D2)):=⟨by rw [<- he2,<- hd2]⟩
  rw [he2,hd2] at hL2
  rw [hd2] at k1 k2 k3
  rw [he2,hd2,hpair2.out,if_pos (by trivial)] at hdef
  replace hL2:=Box.mk hL2
  clear he2 hd2 hL1 hb3
  by_cases hz2:e2=0
  ·subst hz2
   go_wp2_with fail
   refine hL2.out.mono ?_
   rintro e w4 ⟨rfl,hN4'⟩
   have hN4:Box (DNext w2 bd F D2 w4):=⟨hN3.out.trans hN4'.out⟩
   have hb4:=hkeep.out _ _ hN4.out
   clear c0 c1 c2
   have c0:w4.cell? ⟨bp,0,none⟩=some (.pointer (some ⟨bd,0,none⟩)):=hb4.cell 0
   have c1:w4.cell? ⟨bp,1,none⟩=some (.int .i64 (at_:Int)):=hb4.cell 1
   have c2:w4.cell? ⟨bp,2,none⟩=some (.int .i64 q):=hb4.cell 2
   have hL3:=lay_any bd _ D2 at_ 0 hh q w4 hN4.out.at_ (by omega) (by omega) (by omega) (by omega)
   rw [hcuth.out,Nat.add_zero] at hL3
   change Calls _ _ #[_,.int .i64 0,_] _ _ at hL3
   obtain ⟨e3,he3⟩:∃ e3,(layM [hh] D2 at_).1=e3:=⟨_,rfl⟩
   obtain ⟨D3,hd3⟩:∃ D3,(layM [hh] D2 at_).2=D3:=⟨_,rfl⟩
   have hpair3:Box (layM [hh] D2 at_=(e3,D3)):=⟨by rw [<- he3,<- hd3]⟩
   rw [he3,hd3] at hL3
   rw [if_pos (by trivial),hpair3.out] at hdef
   replace hL3:=Box.mk hL3
   clear he3 hd3 hL2 hb4 hN3 hN4'
   go_wp2_with fail
   refine hL3.out.mono ?_
   rintro e w5 ⟨rfl,hN5⟩
   have hR:Box (DNext w bd F D3 w5):=⟨DNext.from_ hBw.out (hN4.out.trans hN5.out)⟩
   clear hL3 hN5 hN4 c0 c1 c2
   go_wp2_with fail
   go_returns
   rw [hdef.out]
   exact ⟨rfl,hR⟩
  ·have hz3:(e2==0)=false:=by simpa using hz2
   rw [if_neg hz2] at hdef
   replace hz2:=Box.mk hz2
   go_wp2_with fail
   refine hL2.out.mono ?_
   rintro e w4 ⟨rfl,hN4'⟩
   have hR:Box (DNext w bd F D2 w4):=⟨DNext.from_ hBw.out (hN3.out.trans hN4'.out)⟩
   clear hL2 hN4' hN3 c0 c1 c2
   go_wp2_with fail
   go_returns
   rw [hdef.out]
   exact ⟨rfl,hR⟩
 ·have hz3:(e1==0)=false:=by simpa using hz1
  rw [if_neg hz1] at hdef
  replace hz1:=Box.mk hz1
  go_wp2_with fail
  refine hL1.out.mono ?_
  rintro e w3 ⟨rfl,hN3⟩
  have hR:Box (DNext w bd F D1 w3):=⟨DNext.from_ hBw.out hN3.out⟩
  clear hL1 hN3
  go_wp2_with fail
  go_returns
  rw [hdef.out]
  exact ⟨rfl,hR⟩
end Go.Proofs.YthpfpkikmaiddaaGreatDoor.Pk
namespace Go.Proofs.YthpfpkikmaiddaaGreatDoor.Pk
open Go.RowKit Go.Maps
def inR (S:Nat) (base half:Int):Bool:=decide (0<=base/\2<=half/\base+2*half<=(S:Int))
theorem half_iff (S:Nat) (base half:Int) (h:2<=half):half<=((S:Int)-base).tdiv 2 ↔ base+2*half<=(S:Int):=by
 by_cases h0:0<=(S:Int)-base
 ·rw [Int.tdiv_eq_ediv_of_nonneg h0]; omega
 ·have e:((S:Int)-base) = -(base-S):=by omega
  rw [e,Int.neg_tdiv,Int.tdiv_eq_ediv_of_nonneg (by omega)]; omega
theorem within_any (S:Nat) (base half:Int) (w:World) (hS:S<=4096) (hb : -9223372036854775808<=base/\base<=9223372036854775807) (hh : -9223372036854775808<=half/\half<=9223372036854775807) :
  Calls Tryz.prog 77 #[.int .i64 (S:Int),.int .i64 base,.int .i64 half] w fun e w'=>e=.returned (.bool (inR S base half))/\w=w':=by
 obtain ⟨r,hr⟩:∃ r,inR S base half=r:=⟨_,rfl⟩
 rw [hr]
 replace hr:=Box.mk hr
 obtain ⟨b1,b2⟩:=hb
 obtain ⟨h1,h2⟩:=hh
 by_cases c1:0<=base
 ·by_cases c2:2<=half
  ·by_cases c3:half<=((S:Int)-base).tdiv 2
   ·have hx:Box (true=r):=⟨by rw [<- hr.out]; unfold inR; have:=(half_iff S base half c2).1 c3; simp; omega⟩
    go_enter Tryz.func77,Tryz.ntmps77
    go_wp2
    go_returns
    exact ⟨by rw [<- hx.out]; rfl,rfl⟩
   ·have hno:¬ base+2*half<=(S:Int):=fun h=>c3 ((half_iff S base half c2).2 h)
    have hx:Box (false=r):=⟨by rw [<- hr.out]; unfold inR; simp; omega⟩
    clear hno
    go_enter Tryz.func77,Tryz.ntmps77
    go_wp2
    go_returns
    exact ⟨by rw [<- hx.out]; rfl,rfl⟩
  ·have hx:Box (false=r):=⟨by rw [<- hr.out]; unfold inR; simp; omega⟩
   go_enter Tryz.func77,Tryz.ntmps77
   go_wp2
   go_returns
   exact ⟨by rw [<- hx.out]; rfl,rfl⟩
 ·have hx:Box (false=r):=⟨by rw [<- hr.out]; unfold inR; simp; omega⟩
  go_enter Tryz.func77,Tryz.ntmps77
  go_wp2
  go_returns
  exact ⟨by rw [<- hx.out]; rfl,rfl⟩
theorem room_any (u v:Value) (q:Nat) (w:World) (hq:q<=100000) (h1:1<=q) :
  Calls Tryz.prog 132 #[.agg #[u,v,.int .i64 (q:Int)]] w fun e w'=>e=.returned (.int .i64 (((q:Int)-1)*64))/\Below w.heap.size w w':=by
 have hB:=(Below.refl w.heap.size w).alloc (Nat.le_refl _) (.cells #[u,v,.int .i64 (q:Int)] 148)
 replace hB:=Box.mk hB
 go_enter Tryz.func132,Tryz.ntmps132
 go_wp2
 go_returns
 exact ⟨rfl,hB.out⟩
structure ReadYes (D:Dev) (a half:Nat) (w:World) (n:Nat) (c:Ct) (b:Nat) (w':World):Prop where
 is:readM D.seen a half=some (n,c)
 rise:c.Pairwise (fun p q=>p.1<q.1)
 len:c.length<=64
 at_:MapAt w' b c
 new:w.heap.size<=b
def ReadIs (D:Dev) (a half:Nat) (w:World) (e:Ending) (w':World):Prop:=
 Below w.heap.size w w'/\((∃ n c b,e=.returned (.tuple #[.int .i64 ((n:Nat):Int),.map (some b)])/\ReadYes D a half w n c b w')∨(readM D.seen a half=none/\e=.returned (.tuple #[.int .i64 0,.map none])))
theorem body_one {S:List Sec} {a:Nat} (h:a<S.length):bodyS S a 1=S.getD a zeroS:=by
 rw [show 1=0+1 from rfl,bodyS_succ (by omega)]
 simp [bodyS]
theorem pread_any (bd:Nat) (F:Nat->Prop) (D:Dev) (at_ half:Nat) (w:World) (h:DAt w bd F D) (hoff:D.off=false) (h2:2<=half) (hfit:at_+half<=D.safe.length) :
  Calls Tryz.prog 79 #[.agg #[.pointer (some ⟨bd,0,none⟩),.int .i64 (at_:Int),.int .i64 (half:Int)]] w (ReadIs D at_ half w):=by
 have hn:=h.ok.n
 have hS:=h.ok.seen
 have hsl:D.seen.length=D.safe.length:=Dev.ok.seen_len
 obtain ⟨w1,hw1⟩:∃ w1,w.alloc (.cells #[.pointer (some ⟨bd,0,none⟩),.int .i64 (at_:Int),.int .i64 (half:Int)] 148)=w1:=⟨_,rfl⟩
 obtain ⟨bp,hbp⟩:∃ bp,w.heap.size=bp:=⟨_,rfl⟩
 have hP1:Blk w1 bp [.pointer (some ⟨bd,0,none⟩),.int .i64 (at_:Int),.int .i64 (half:Int)] 148:=by
  rw [<- hw1,<- hbp]; exact Blk.new w _ _
 have hD1:DAt w1 bd F D:=by rw [<- hw1]; exact h.below ((Below.refl _ _).alloc (Nat.le_refl _) _)
 have hB1:Box (Below w.heap.size w w1):=⟨by rw [<- hw1]; exact (Below.refl _ _).alloc (Nat.le_refl _) _⟩
 have k0:w1.cell? ⟨bp,0,none⟩=some (.pointer (some ⟨bd,0,none⟩)):=hP1.cell 0
 have k1:w1.cell? ⟨bp,1,none⟩=some (.int .i64 (at_:Int)):=hP1.cell 1
 have k2:w1.cell? ⟨bp,2,none⟩=some (.int .i64 (half:Int)):=hP1.cell 2
 have hT:=ptext_any bd F D at_ 0 64 1 (.int .i64 (half:Int)) w1 hD1 hoff (by omega) (by omega) ⟨_,rfl⟩
 rw [Nat.add_zero,body_one (by omega),List.take_of_length_le (by rw [okS_getD hS]; exact Nat.le_refl _)] at hT
 change Calls _ _ #[_,.int .i64 0,.int .i64 64] _ _ at hT
 obtain ⟨hd,hhd⟩:∃ hd,D.seen.getD at_ zeroS=hd:=⟨_,rfl⟩
 rw [hhd] at hT
 replace hT:=Box.mk hT
 replace hP1:=Box.mk hP1
 replace hD1:=Box.mk hD1
 replace hS:=Box.mk hS
 replace hoff:=Box.mk hoff
 replace hsl:=Box.mk hsl
 replace hhd:=Box.mk hhd
 replace h:=Box.mk h
 go_enter Tryz.func79,Tryz.ntmps79
 go_wp2_with fail
 refine hT.out.mono ?_
 rintro e w2 ⟨rfl,hB2⟩
 have hRd:=Box.mk (read_one (btx hd) w2)
 clear hT hw1
 go_wp2_with fail
 refine hRd.out.mono ?_
 rintro e w3 ⟨rfl,hr3,hb3⟩
 obtain ⟨br,hbr⟩:∃ br,w2.heap.size=br:=⟨_,rfl⟩
 rw [hbr] at hr3
 have hB3:Box (Below w1.heap.size w1 w3):=⟨hB2.out.trans (hb3.mono hB2.out.size)⟩
 have hbr1:Box (w1.heap.size<=br):=⟨by have:=hB2.out.size; omega⟩
 have h8:=Box.mk (reight_any br hd 0 w3 hr3)
 clear hRd hr3 hb3 hB2
 obtain ⟨n,hn1⟩:∃ n,(numR 8 hd 0).1=n:=⟨_,rfl⟩
 obtain ⟨l1,hl1⟩:∃ l1,(numR 8 hd 0).2.1=l1:=⟨_,rfl⟩
 obtain ⟨e1,he1⟩:∃ e1,(numR 8 hd 0).2.2=e1:=⟨_,rfl⟩
 obtain ⟨sz,hs1⟩:∃ sz,(numR 4 l1 e1).1=sz:=⟨_,rfl⟩
 obtain ⟨l2,hl2⟩:∃ l2,(numR 4 l1 e1).2.1=l2:=⟨_,rfl⟩
 obtain ⟨e2,he2⟩:∃ e2,(numR 4 l1 e1).2.2=e2:=⟨_,rfl⟩
 obtain ⟨ag,ha1⟩:∃ ag,(numR 8 l2 e2).1=ag:=⟨_,rfl⟩
 have hhead:Box (headR hd=(n,sz,ag)):=⟨by unfold headR; rw [hl1,he1,hn1,hl2,he2,hs1,ha1]⟩
 have hnb:=numR_le 8 hd 0
 have hsb:=numR_le 4 l1 e1
 rw [hn1] at hnb
 rw [hs1] at hsb
 rw [hn1,hl1,he1] at h8
 go_wp2_with fail
 refine h8.out.mono ?_
 rintro r w4 ⟨rfl,hN4⟩
 have h4:=rfour_any br l1 e1 w4 hN4.at_
 rw [hs1,hl2,he2] at h4
 replace h4:=Box.mk h4
 have hB4:Box (Below w1.heap.size w1 w4):=⟨hB3.out.trans (hN4.chg.below hB3.out.size (fun _ hi=>by rw [hi]; exact hbr1.out))⟩
 clear h8 hN4
 go_wp2_with fail
 refine h4.out.mono ?_
 rintro r w5 ⟨rfl,hN5⟩
 have h9:=reight_any br l2 e2 w5 hN5.at_
 rw [ha1] at h9
 replace h9:=Box.mk h9
 have hB5:Box (Below w1.heap.size w1 w5):=⟨hB4.out.trans (hN5.chg.below hB4.out.size (fun _ hi=>by rw [hi]; exact hbr1.out))⟩
 clear h4 hN5 hn1 hl1 he1 hs1 hl2 he2 ha1
 go_wp2_with fail
 refine h9.out.mono ?_
 rintro r w6 ⟨rfl,hN6⟩
 have hB6:Box (Below w1.heap.size w1 w6):=⟨hB5.out.trans (hN6.chg.below hB5.out.size (fun _ hi=>by rw [hi]; exact hbr1.out))⟩
 have hbp1:Box (bp<w1.heap.size):=⟨hP1.out.lt⟩
 have hBw:Box (Below w.heap.size w w6):=⟨hB1.out.trans (hB6.out.mono hB1.out.size)⟩
 have hnone:Box (¬ (1<=n/\n ≠ 9223372036854775807/\n=ag/\sz<=((half:Int)-1)*64)->readM D.seen at_ half=none):=⟨fun hx=>by
  unfold readM
  rw [hhd.out,if_neg]
  unfold headOk
  rw [hhead.out]
  simpa using hx⟩
 clear h9 hN6 k0 k1 k2
 have k0:w6.cell? ⟨bp,0,none⟩=some (.pointer (some ⟨bd,0,none⟩)):=by rw [hB6.out.cell (p:=⟨bp,0,none⟩) hbp1.out]; exact hP1.out.cell 0
 have k1:w6.cell? ⟨bp,1,none⟩=some (.int .i64 (at_:Int)):=by rw [hB6.out.cell (p:=⟨bp,1,none⟩) hbp1.out]; exact hP1.out.cell 1
 have k2:w6.cell? ⟨bp,2,none⟩=some (.int .i64 (half:Int)):=by rw [hB6.out.cell (p:=⟨bp,2,none⟩) hbp1.out]; exact hP1.out.cell 2
 by_cases c1:n<1
 ·have hno:Box (readM D.seen at_ half=none):=⟨hnone.out (by omega)⟩
  clear hnone
  go_wp2_with fail
  go_returns
  exact ⟨hBw.out,.inr ⟨hno.out,rfl⟩⟩
 ·by_cases c2:n=9223372036854775807
  ·have hno:Box (readM D.seen at_ half=none):=⟨hnone.out (by omega)⟩
   have q2:(n==9223372036854775807)=true:=by simpa using c2
   clear hnone
   replace c2:=Box.mk c2
   go_wp2_with fail
   go_returns
   exact ⟨hBw.out,.inr ⟨hno.out,rfl⟩⟩
  ·have q2:(n==9223372036854775807)=false:=by simpa using c2
   by_cases c3:n=ag
   ·subst c3
    have hroom:=(room_any (.pointer (some ⟨bd,0,none⟩)) (.int .i64 (at_:Int)) half w6 (by omega) (by omega))
    replace hroom:=Box.mk hroom
    by_cases c4:((half:Int)-1)*64<sz
    ·have hno:Box (readM D.seen at_ half=none):=⟨hnone.out (by omega)⟩
     clear hnone
     replace c2:=Box.mk c2
     go_wp2_with fail
     refine hroom.out.mono ?_
     rintro e w7 ⟨rfl,hb7⟩
     have hB7:Box (Below w.heap.size w w7):=⟨hBw.out.trans (hb7.mono hBw.out.size)⟩
     clear hroom hb7 k0 k1 k2
     go_wp2_with fail
     go_returns
     exact ⟨hB7.out,.inr ⟨hno.out,rfl⟩⟩
    ·have hok:Box (headOk hd half=true):=⟨by
      unfold headOk
      rw [hhead.out]
      have h1:1<=n:=by omega
      have h4:sz<=((half:Int)-1)*64:=by omega
      simp [h1,c2,h4]⟩
     obtain ⟨size,rfl⟩:∃ size:Nat,sz=size:=⟨sz.toNat,by omega⟩
     obtain ⟨m,rfl⟩:∃ m:Nat,n=m:=⟨n.toNat,by omega⟩
     have hdef:Box (readM D.seen at_ half=(parseC ((bodyS D.seen (at_+1) (half-1)).take size)).map fun c=>(m,c)):=⟨by
      unfold readM
      rw [hhd.out,if_pos hok.out,hhead.out]
      simp only [Int.toNat_natCast]⟩
     have hfitb:size<=64*(half-1):=by omega
     clear hnone
     replace c2:=Box.mk c2
     go_wp2_with fail
     refine hroom.out.mono ?_
     rintro e w7 ⟨rfl,hb7⟩
     have hB7:Box (Below w1.heap.size w1 w7):=⟨hB6.out.trans (hb7.mono hB6.out.size)⟩
     have hT7:=ptext_any bd F D at_ 1 size (half-1) (.int .i64 (half:Int)) w7 (hD1.out.below hB7.out) hoff.out hfitb (by omega) ⟨_,rfl⟩
     change Calls _ _ #[_,.int .i64 1,_] _ _ at hT7
     obtain ⟨bs,hbs⟩:∃ bs,(bodyS D.seen (at_+1) (half-1)).take size=bs:=⟨_,rfl⟩
     rw [hbs] at hT7 hdef
     clear hroom hb7 k0 k1 k2 hbs
     have k0:w7.cell? ⟨bp,0,none⟩=some (.pointer (some ⟨bd,0,none⟩)):=by rw [hB7.out.cell (p:=⟨bp,0,none⟩) hbp1.out]; exact hP1.out.cell 0
     have k1:w7.cell? ⟨bp,1,none⟩=some (.int .i64 (at_:Int)):=by rw [hB7.out.cell (p:=⟨bp,1,none⟩) hbp1.out]; exact hP1.out.cell 1
     have k2:w7.cell? ⟨bp,2,none⟩=some (.int .i64 (half:Int)):=by rw [hB7.out.cell (p:=⟨bp,2,none⟩) hbp1.out]; exact hP1.out.cell 2
     replace hT7:=Box.mk hT7
     go_wp2_with fail
     refine hT7.out.mono ?_
     rintro e w8 ⟨rfl,hb8⟩
     have hB8:Box (Below w.heap.size w w8):=⟨hB1.out.trans ((hB7.out.trans (hb8.out.mono hB7.out.size)).mono hB1.out.size)⟩
     have hPs:=Box.mk (parse_any bs w8)
     clear hT7 hb8 k0 k1 k2
     go_wp2_with fail
     refine hPs.out.mono ?_
     rintro e w9 ⟨hb9,hcase⟩
     have hB9:Box (Below w.heap.size w w9):=⟨hB8.out.trans (hb9.mono hB8.out.size)⟩
     clear hPs hb9
     rcases hcase with ⟨c,b,rfl,hY⟩ | ⟨hno,p,rfl⟩
     ·have hR:Box (ReadYes D at_ half w m c b w9):=⟨by rw [hdef.out,hY.is]; rfl,hY.rise,hY.len,hY.at_,Nat.le_trans hB8.out.size hY.new⟩
      clear hY
      go_wp2_with fail
      go_returns
      exact ⟨hB9.out,.inl ⟨m,c,b,rfl,hR.out⟩⟩
     ·have hR:Box (readM D.seen at_ half=none):=⟨by rw [hdef.out,hno]; rfl⟩
      clear hno
      go_wp2_with fail
      go_returns
      exact ⟨hB9.out,.inr ⟨hR.out,rfl⟩⟩
   ·have hno:Box (readM D.seen at_ half=none):=⟨hnone.out (by omega)⟩
    have q3:(n != ag)=true:=by simpa using c3
    clear hnone
    replace c2:=Box.mk c2
    replace c3:=Box.mk c3
    go_wp2_with fail
    go_returns
    exact ⟨hBw.out,.inr ⟨hno.out,rfl⟩⟩
end Go.Proofs.YthpfpkikmaiddaaGreatDoor.Pk
namespace Go.Proofs.YthpfpkikmaiddaaGreatDoor.Pk
open Go.RowKit Go.Maps
abbrev Obj:=World->(Nat->Prop)->Prop
def Ext (F:Nat->Prop) (w w':World):Nat->Prop:=fun k=>F k∨(w.heap.size<=k/\k<w'.heap.size)
structure Good (O:Obj):Prop where
 lt:∀ {w F},O w F->∀ k,F k->k<w.heap.size
 chg:∀ {w w' F} {S:Nat->Prop},O w F->Chg S w w'->(∀ k,F k->¬ S k)->O w' F
 wide:∀ {w F} {G:Nat->Prop},O w F->(∀ k,F k->G k)->(∀ k,G k->k<w.heap.size)->O w G
theorem Good.below {O:Obj} (g:Good O) {w w':World} {F:Nat->Prop} (h:O w F) (hb:Below w.heap.size w w'):O w' F:=g.chg h (Chg.of_below hb) fun k hk=>by have:=g.lt h k hk; omega
def Pair2 (O1 O2:Obj):Obj:=fun w F=>∃ F1 F2,O1 w F1/\O2 w F2/\(∀ k,F1 k->¬ F2 k)/\(∀ k,F1 k->F k)/\(∀ k,F2 k->F k)/\∀ k,F k->k<w.heap.size
theorem Pair2.good {O1 O2:Obj} (g1:Good O1) (g2:Good O2):Good (Pair2 O1 O2) where
 lt:=fun ⟨_,_,_,_,_,_,_,h⟩=>h
 chg:=fun ⟨F1,F2,h1,h2,hd,e1,e2,hl⟩ hc hn=>⟨F1,F2,g1.chg h1 hc fun k hk=>hn k (e1 k hk),g2.chg h2 hc fun k hk=>hn k (e2 k hk),hd,e1,e2,fun k hk=>Nat.lt_of_lt_of_le (hl k hk) hc.size⟩
 wide:=fun ⟨F1,F2,h1,h2,hd,e1,e2,_⟩ hG hl=>⟨F1,F2,h1,h2,hd,fun k hk=>hG k (e1 k hk),fun k hk=>hG k (e2 k hk),hl⟩
theorem Pair2.swap {O1 O2:Obj} {w:World} {F:Nat->Prop} (h:Pair2 O1 O2 w F):Pair2 O2 O1 w F:=by
 obtain ⟨F1,F2,h1,h2,hd,e1,e2,hl⟩:=h
 exact ⟨F2,F1,h2,h1,fun k hk hk2=>hd k hk2 hk,e2,e1,hl⟩
theorem Pair2.assoc {O1 O2 O3:Obj} {w:World} {F:Nat->Prop} (h:Pair2 (Pair2 O1 O2) O3 w F):Pair2 O1 (Pair2 O2 O3) w F:=by
 obtain ⟨F12,F3,⟨F1,F2,h1,h2,hd,e1,e2,hl⟩,h3,hd3,e12,e3,hl2⟩:=h
 refine ⟨F1,fun k=>F2 k∨F3 k,h1,⟨F2,F3,h2,h3,fun k hk=>hd3 k (e2 k hk),fun _=>.inl,fun _=>.inr,fun k hk=>hl2 k (hk.elim (fun hk=>e12 k (e2 k hk)) (e3 k))⟩,fun k hk hk2=>hk2.elim (hd k hk) (hd3 k (e1 k hk)),fun k hk=>e12 k (e1 k hk),fun k hk=>hk.elim (fun hk=>e12 k (e2 k hk)) (e3 k),hl2⟩
theorem Pair2.assoc' {O1 O2 O3:Obj} {w:World} {F:Nat->Prop} (h:Pair2 O1 (Pair2 O2 O3) w F):Pair2 (Pair2 O1 O2) O3 w F:=
 Pair2.swap (Pair2.assoc (Pair2.swap (Pair2.assoc (Pair2.swap h))))
def Does (f:FuncId) (args:Array Value) (O:Obj) (Q:Ending->Obj):Prop:=
 ∀ w F,O w F->Calls Tryz.prog f args w fun e w'=>Box (Q e w' (Ext F w w')/\Chg F w w')
def Kept (w0:World) (O:Obj) (w:World):Prop:=∃ F,O w F/\(∀ k,F k->w0.heap.size<=k)/\Below w0.heap.size w0 w
theorem Kept.below {w0 w w':World} {O:Obj} (h:Kept w0 O w) (g:Good O) (hb:Below w.heap.size w w'):Kept w0 O w':=by
 obtain ⟨F,h1,h2,h3⟩:=h
 exact ⟨F,g.below h1 hb,h2,h3.trans (hb.mono h3.size)⟩
theorem Kept.conv {w0 w:World} {O O':Obj} (h:Kept w0 O w) (hO:∀ F,O w F->O' w F):Kept w0 O' w:=by
 obtain ⟨F,h1,h2⟩:=h
 exact ⟨F,hO F h1,h2⟩
theorem Kept.k {w0 w:World} {O:Obj} (h:Kept w0 O w):Below w0.heap.size w0 w:=by
 obtain ⟨F,_,_,h3⟩:=h
 exact h3
theorem Kept.add {w0 w w':World} {O O2:Obj} {G:Nat->Prop} (h:Kept w0 O w) (g:Good O) (hb:Below w.heap.size w w') (h2:O2 w' G) (g2:Good O2) (hG:∀ k,G k->w.heap.size<=k):Kept w0 (Pair2 O O2) w':=by
 obtain ⟨F,h1,h3,h4⟩:=h
 have hl:=g.lt h1
 refine ⟨fun k=>F k∨G k,⟨F,G,g.below h1 hb,h2,fun k hk hk2=>?_,fun _=>.inl,fun _=>.inr,fun k hk=>?_⟩,fun k hk=>?_,h4.trans (hb.mono h4.size)⟩
 ·have:=hl k hk; have:=hG k hk2; omega
 ·rcases hk with hk | hk
  ·exact Nat.lt_of_lt_of_le (hl k hk) hb.size
  ·exact g2.lt h2 k hk
 ·rcases hk with hk | hk
  ·exact h3 k hk
  ·exact Nat.le_trans h4.size (hG k hk)
theorem Ext.of_below {w w':World} {F:Nat->Prop} {O:Obj} (g:Good O) (h:O w F) (hb:Below w.heap.size w w'):O w' (Ext F w w')/\Chg F w w':=
 ⟨g.wide (g.below h hb) (fun _=>.inl) (fun k hk=>by
  rcases hk with hk | hk
  ·exact Nat.lt_of_lt_of_le (g.lt h k hk) hb.size
  ·exact hk.2),(Chg.of_below hb).mono fun i hi hk=>by omega⟩
theorem Ext.same {w:World} {F:Nat->Prop} {O:Obj} (g:Good O) (h:O w F):O w (Ext F w w)/\Chg F w w:=Ext.of_below g h (Below.refl _ _)
end Go.Proofs.YthpfpkikmaiddaaGreatDoor.Pk
namespace Go.Proofs.YthpfpkikmaiddaaGreatDoor.Pk
open Go.RowKit Go.Maps
structure CellM where
 now:Ct
 was:Ct
 num:Nat
 last:Nat
 off:Bool
structure CellM.ok (M:CellM) (base half:Nat):Prop where
 now:M.now.ok
 was:M.was.ok
 num:M.num<=1000000
 last:M.last<=1
 base:base<=4096
 half:2<=half/\half<=4096
def cellCells (bd bn:Nat) (p:Option Nat) (base half:Nat) (M:CellM):List Value:=
 [.map (some bn),.map p,.int .i64 (M.num:Int),.pointer (some ⟨bd,0,none⟩),.int .i64 ((base+M.last*half:Nat):Int),.int .i64 (half:Int),.pointer (some ⟨bd,0,none⟩),.int .i64 ((base+(1-M.last)*half:Nat):Int),.int .i64 (half:Int),.bool M.off]
structure CelO (bd bc base half:Nat) (M:CellM) (w:World) (F:Nat->Prop):Prop where
 ok:M.ok base half
 out:∃ bn p,Blk w bc (cellCells bd bn p base half M) 152/\MapAt w bn M.now/\WasAt w p M.was/\F bn/\(∀ b,p=some b->F b)/\p ≠ some bn
 fc:F bc
 lt:∀ k,F k->k<w.heap.size
theorem CelO.good (bd bc base half:Nat) (M:CellM):Good (CelO bd bc base half M) where
 lt:=fun h=>h.lt
 chg:=fun h hc hn=>by
  obtain ⟨bn,p,h1,h2,h3,h4,h5,h6⟩:=h.out
  exact ⟨h.ok,⟨bn,p,hc.blk h1 (hn _ h.fc),h2.chg hc (hn _ h4),h3.chg hc fun b hb=>hn _ (h5 b hb),h4,h5,h6⟩,h.fc,fun k hk=>Nat.lt_of_lt_of_le (h.lt k hk) hc.size⟩
 wide:=fun h hG hl=>by
  obtain ⟨bn,p,h1,h2,h3,h4,h5,h6⟩:=h.out
  exact ⟨h.ok,⟨bn,p,h1,h2,h3,hG _ h4,fun b hb=>hG _ (h5 b hb),h6⟩,hG _ h.fc,hl⟩
theorem MapAt.ne {w:World} {b bc:Nat} {c:Ct} {cs:List Value} {t:TypeId} (h:MapAt w b c) (hb:Blk w bc cs t):b ≠ bc:=by
 rintro rfl
 obtain ⟨es,clock,h1,_⟩:=h
 unfold Blk at hb
 rw [h1] at hb
 cases hb
def RetE (v:Value) (O:Obj):Ending->Obj:=fun e w F=>e=.returned v/\O w F
def getV (c:Ct) (n:Bs):Value:=.tuple #[.string (btx ((getC c n).getD [])),.bool (getC c n).isSome]
theorem get_any (bc bn:Nat) (cs:List Value) (c:Ct) (s:ByteArray) (w:World) (hb:Blk w bc (.map (some bn)::cs) 152) (hM:MapAt w bn c) (hs:s.size<=maxLen) :
  Calls Tryz.prog 81 #[.pointer (some ⟨bc,0,none⟩),.string s] w fun e w'=>e=.returned (getV c s.data.toList)/\Below w.heap.size w w':=by
 have c0:w.cell? ⟨bc,0,none⟩=some (.map (some bn)):=hb.cell 0
 unfold getV
 obtain ⟨tx,htx⟩:∃ tx,btx ((getC c s.data.toList).getD [])=tx:=⟨_,rfl⟩
 obtain ⟨y,hy⟩:∃ y,(getC c s.data.toList).isSome=y:=⟨_,rfl⟩
 have hrw:Box (Value.tuple #[.agg #[.string (btx ((getC c s.data.toList).getD []))],.bool (getC c s.data.toList).isSome]=.tuple #[.agg #[.string tx],.bool y]):=⟨by rw [htx,hy]⟩
 rw [htx,hy]
 have hB:=Box.mk ((Below.refl w.heap.size w).alloc (Nat.le_refl _) (.cells #[.string tx] 207))
 replace hM:=Box.mk hM
 replace hs:=Box.mk hs
 clear hb htx hy
 go_enter Tryz.func81,Tryz.ntmps81
 go_wp2_with (at_lookup; refine wpList_look_ok rfl _ _ rfl bn c rfl hM.out s rfl hs.out ?_; rw [hrw.out])
 go_returns
 exact ⟨rfl,hB.out⟩
end Go.Proofs.YthpfpkikmaiddaaGreatDoor.Pk
namespace Go.Proofs.YthpfpkikmaiddaaGreatDoor.Pk
open Go.RowKit Go.Maps
theorem data_nil {s:ByteArray} (h:s.size=0):s.toList.isEmpty=true:=by
 rw [ByteArray.toList_eq]
 have:s.data.toList.length=0:=by rw [data_len]; exact h
 rw [List.eq_nil_of_length_eq_zero this]; rfl
theorem data_cons {s:ByteArray} (h:s.size ≠ 0):s.toList.isEmpty=false:=by
 rw [ByteArray.toList_eq]
 have:s.data.toList.length ≠ 0:=by rw [data_len]; exact h
 cases hs:s.data.toList with
 | nil=>rw [hs] at this; exact absurd rfl this
 | cons x l=>rfl
def PutLeft (w:World) (bn:Nat) (c:Ct) (w':World):Prop:=MapAt w' bn c/\Chg (fun k=>k=bn) w w'
theorem PutLeft.same {w w':World} {bn:Nat} {c:Ct} (h:MapAt w bn c) (hb:Below w.heap.size w w'):PutLeft w bn c w':=⟨h.below hb h.lt,(Chg.of_below hb).mono fun i hi hk=>by omega⟩
theorem put_map (bc bn:Nat) (cs:List Value) (c:Ct) (s t:ByteArray) (w:World) (hb:Blk w bc (.map (some bn)::cs) 152) (hM:MapAt w bn c) (hc:c.ok) (hs:s.size<=maxLen) (ht:t.size<=maxLen) :
  Calls Tryz.prog 88 #[.pointer (some ⟨bc,0,none⟩),.string s,.string t] w fun e w'=>e=.returned (.int .i64 (putE c s.data.toList t.data.toList))/\Box (PutLeft w bn (putM c s.data.toList t.data.toList) w'):=by
 have c0:w.cell? ⟨bc,0,none⟩=some (.map (some bn)):=hb.cell 0
 have hne:=hM.ne hb
 have hcn:=hc.n
 have hsl:=data_len s
 have htl:=data_len t
 by_cases q1:s.size=0
 ·have he:s.toList.isEmpty=true:=data_nil q1
  have hE:Box (putE c s.data.toList t.data.toList=1):=⟨by unfold putE; rw [if_pos (by omega)]⟩
  have hR:Box (PutLeft w bn (putM c s.data.toList t.data.toList) w):=⟨by unfold putM; rw [hE.out,if_neg (by decide)]; exact PutLeft.same hM (Below.refl _ _)⟩
  clear hM hsl htl
  go_enter Tryz.func88,Tryz.ntmps88
  go_wp2_with fail
  go_returns
  exact ⟨by rw [hE.out]; rfl,hR⟩
 ·have he:s.toList.isEmpty=false:=data_cons q1
  by_cases q2:32<s.size
  ·have hE:Box (putE c s.data.toList t.data.toList=1):=⟨by unfold putE; rw [if_pos (by omega)]⟩
   have hR:Box (PutLeft w bn (putM c s.data.toList t.data.toList) w):=⟨by unfold putM; rw [hE.out,if_neg (by decide)]; exact PutLeft.same hM (Below.refl _ _)⟩
   have q3:(32:Int)<(s.size:Int):=by omega
   clear hM hsl htl
   replace q1:=Box.mk q1
   go_enter Tryz.func88,Tryz.ntmps88
   go_wp2_with fail
   go_returns
   exact ⟨by rw [hE.out]; rfl,hR⟩
  ·have q3:¬ (32:Int)<(s.size:Int):=by omega
   by_cases q4:65535<t.size
   ·have hE:Box (putE c s.data.toList t.data.toList=4):=⟨by unfold putE; rw [if_neg (by omega),if_pos (by omega)]⟩
    have hR:Box (PutLeft w bn (putM c s.data.toList t.data.toList) w):=⟨by unfold putM; rw [hE.out,if_neg (by decide)]; exact PutLeft.same hM (Below.refl _ _)⟩
    have q5:(65535:Int)<(t.size:Int):=by omega
    clear hM hsl htl
    replace q1:=Box.mk q1
    go_enter Tryz.func88,Tryz.ntmps88
    go_wp2_with fail
    go_returns
    exact ⟨by rw [hE.out]; rfl,hR⟩
   ·have q5:¬ (65535:Int)<(t.size:Int):=by omega
    obtain ⟨tx,htx⟩:∃ tx,btx ((getC c s.data.toList).getD [])=tx:=⟨_,rfl⟩
    obtain ⟨y,hy⟩:∃ y,(getC c s.data.toList).isSome=y:=⟨_,rfl⟩
    have hrw:Box (Value.tuple #[.agg #[.string (btx ((getC c s.data.toList).getD []))],.bool (getC c s.data.toList).isSome]=.tuple #[.agg #[.string tx],.bool y]):=⟨by rw [htx,hy]⟩
    obtain ⟨wb,hwb⟩:∃ wb,w.alloc (.cells #[.string tx] 207)=wb:=⟨_,rfl⟩
    have hBb:Box (Below w.heap.size w wb):=⟨by rw [<- hwb]; exact (Below.refl _ _).alloc (Nat.le_refl _) _⟩
    have hMb:MapAt wb bn c:=hM.below hBb.out hM.lt
    have c0b:wb.cell? ⟨bc,0,none⟩=some (.map (some bn)):=by rw [hBb.out.cell (p:=⟨bc,0,none⟩) hb.lt]; exact c0
    have hlen:∀ ty,(Builtin.len_ #[150] ty #[.map (some bn)]).run Tryz.prog wb=.ok (.int .i64 (c.length:Int)) wb:=fun ty=>by
     have:=World.ownsMap.len hMb Tryz.underlying150 ty
     rwa [contD_size] at this
    have hbl:=hb.lt
    replace hM:=Box.mk hM
    replace hMb:=Box.mk hMb
    replace hs:=Box.mk hs
    replace ht:=Box.mk ht
    have q1p:1<=s.size:=by omega
    replace q1:=Box.mk q1
    replace hne:=Box.mk hne
    by_cases q6:y=false/\64<=c.length
    ·obtain ⟨rfl,q7⟩:=q6
     have hE:Box (putE c s.data.toList t.data.toList=6):=⟨by
      unfold putE
      rw [if_neg (by omega),if_neg (by omega),if_pos ⟨by simpa using hy,q7⟩]⟩
     have hR:Box (PutLeft w bn (putM c s.data.toList t.data.toList) wb):=⟨by unfold putM; rw [hE.out,if_neg (by decide)]; exact PutLeft.same hM.out hBb.out⟩
     have q8:(64:Int)<=(c.length:Int):=by omega
     clear hsl htl htx hy hb
     replace hc:=Box.mk hc
     go_enter Tryz.func88,Tryz.ntmps88
     go_wp2_with (at_lookup; refine wpList_look_ok rfl _ _ rfl bn c rfl hM.out s rfl hs.out ?_; rw [hrw.out])
     go_returns
     exact ⟨by rw [hE.out]; rfl,hR⟩
    ·have hE:Box (putE c s.data.toList t.data.toList=0):=⟨by
      unfold putE
      rw [if_neg (by omega),if_neg (by omega),if_neg]
      rintro ⟨h1,h2⟩
      exact q6 ⟨by rw [<- hy,h1]; rfl,h2⟩⟩
     have hput:Box (putM c s.data.toList t.data.toList=putC c s.data.toList t.data.toList):=⟨by unfold putM; rw [if_pos hE.out]⟩
     have hclen:Box (c.length<1000000):=⟨by omega⟩
     have hrise:Box (c.Pairwise (fun p q=>p.1<q.1)):=⟨hc.rise⟩
     have hend:Box (∀ w',MapAt w' bn (putC c s.data.toList t.data.toList)->Chg (fun k=>k=bn) wb w'->PutLeft w bn (putM c s.data.toList t.data.toList) w'):=⟨fun w' h1 h2=>by
      rw [hput.out]
      exact ⟨h1,((Chg.of_below hBb.out).mono (T:=fun k=>k=bn) fun i hi hk=>by omega).trans h2 fun _ _ h=>h⟩⟩
     replace hc:=Box.mk hc
     cases y with
     | true=>
      clear hsl htl htx hy hb hlen
      go_enter Tryz.func88,Tryz.ntmps88
      go_wp2_with (first | (at_lookup; refine wpList_look_ok rfl _ _ rfl bn c rfl hM.out s rfl hs.out ?_; rw [hrw.out]) | (at_mapUpdate; refine wpList_store rfl _ _ _ rfl bn c rfl hMb.out hrise.out hclen.out s t rfl rfl hs.out ht.out ?_; intro w6 hM6 hC6))
      have hR:=Box.mk (hend.out w6 hM6 hC6)
      clear hM6 hC6 hend
      go_returns
      exact ⟨by rw [hE.out]; rfl,hR⟩
     | false=>
      have q8:¬ (64:Int)<=(c.length:Int):=by
       have:¬ 64<=c.length:=fun h=>q6 ⟨rfl,h⟩
       omega
      clear hsl htl htx hy hb
      go_enter Tryz.func88,Tryz.ntmps88
      go_wp2_with (first | (at_lookup; refine wpList_look_ok rfl _ _ rfl bn c rfl hM.out s rfl hs.out ?_; rw [hrw.out]) | (at_mapUpdate; refine wpList_store rfl _ _ _ rfl bn c rfl hMb.out hrise.out hclen.out s t rfl rfl hs.out ht.out ?_; intro w6 hM6 hC6))
      have hR:=Box.mk (hend.out w6 hM6 hC6)
      clear hM6 hC6 hend
      go_returns
      exact ⟨by rw [hE.out]; rfl,hR⟩
end Go.Proofs.YthpfpkikmaiddaaGreatDoor.Pk
namespace Go.Proofs.YthpfpkikmaiddaaGreatDoor.Pk
open Go.RowKit Go.Maps
theorem Blk.chg0 {w:World} {b:Nat} {cs:List Value} {t:TypeId} (h:Blk w b cs t) (o:Go.Obj):Blk (w.alloc o) b cs t:=(Below.heap_alloc _ _ _ h.lt).trans h
def UndoLeft (w:World) (bc:Nat) (v:Value) (cs:List Value) (was:Ct) (w':World):Prop:=
 ∃ b2,w.heap.size<=b2/\MapAt w' b2 was/\Blk w' bc (.map (some b2)::v::cs) 152/\Chg (fun k=>k=bc) w w'
theorem undo_map (bc:Nat) (v:Value) (p:Option Nat) (cs:List Value) (was:Ct) (w:World) (hb:Blk w bc (v::.map p::cs) 152) (hW:WasAt w p was) (hp:p ≠ some bc) (hc:was.ok) :
  Calls Tryz.prog 80 #[.pointer (some ⟨bc,0,none⟩)] w fun e w'=>e=.returned (.tuple #[])/\Box (UndoLeft w bc (.map p) cs was w'):=by
 have hbl:=hb.lt
 have hcn:=hc.n
 have hmm:=@run_makeMap Tryz.prog
 obtain ⟨wa,hwa⟩:∃ wa,w.alloc (.map #[] 0)=wa:=⟨_,rfl⟩
 have hba:Blk wa bc (v::.map p::cs) 152:=by rw [<- hwa]; exact hb.chg0 _
 have f0:wa.frozen? ⟨bc,0,none⟩=false:=hba.free 0
 have c0:wa.cell? ⟨bc,0,none⟩=some v:=hba.cell 0
 have hMa:MapAt wa w.heap.size []:=by rw [<- hwa]; exact MapAt.new w
 obtain ⟨w1,hw1⟩:∃ w1,wa.setCell ⟨bc,0,none⟩ (.map (some w.heap.size))=w1:=⟨_,rfl⟩
 have hbn:Box (Blk w1 bc (.map (some w.heap.size)::.map p::cs) 152):=⟨by rw [<- hw1]; exact hba.setCell 0 _⟩
 have hCa:Chg (fun k=>k=bc) wa w1:=by rw [<- hw1]; exact (Chg.refl (fun k=>k=bc) wa).setCell (p:=⟨bc,0,none⟩) rfl _
 have hM1:Box (MapAt w1 w.heap.size []):=⟨hMa.chg hCa (fun e=>by omega)⟩
 have hC1:Box (Chg (fun k=>k=bc) w w1):=⟨by
  have:Chg (fun k=>k=bc) w wa:=by rw [<- hwa]; exact (Chg.refl _ w).alloc _
  exact this.trans hCa fun _ _ h=>h⟩
 have hW1:Box (WasAt w1 p was):=⟨hW.chg hC1.out fun b hb2 hb3=>hp (by rw [hb2,hb3])⟩
 have hpn:Box (p ≠ some w.heap.size):=⟨fun e=>by have:=hW.lt _ e; omega⟩
 have hlw:Box (w.heap.size ≠ bc):=⟨by omega⟩
 replace hbl:=Box.mk hbl
 clear hW hba hMa hCa
 replace hb:=Box.mk hb
 replace hc:=Box.mk hc
 replace hp:=Box.mk hp
 obtain ⟨b2,hb2⟩:∃ b2,w.heap.size=b2:=⟨_,rfl⟩
 rw [hb2] at hbn hM1 hpn hlw hw1
 go_enter Tryz.func80,Tryz.ntmps80
 go_wp2_with fail
 have d0:w1.cell? ⟨bc,0,none⟩=some (.map (some b2)):=hbn.out.cell 0
 have d1:w1.cell? ⟨bc,1,none⟩=some (.map p):=hbn.out.cell 1
 clear hw1 hmm f0 c0 hwa
 refine region_quiet_tail (C:=fun w'=>∃ n,w'=w1.drewN n) 8 rfl (by kernel_rfl) ⟨1,rfl⟩ ?_
 simp only [List.take,List.drop]
 repeat (go_big_quiet_step (first | exact fun _=>rfl | rfl))
 refine wpQuiet_nil ?_
 rintro w5 ⟨r,rfl⟩
 have hb5:Below w1.heap.size w1 (w1.drewN r):=below_drewN _ w1 r
 have hCp:=mcopy_opt b2 p was (w1.drewN r) (hM1.out.below hb5 hM1.out.lt) (hW1.out.chg (Chg.of_below hb5) fun b hb6 hb7=>by have:=hW1.out.lt b hb6; omega) hpn.out hc.out.rise (by omega)
 have hC5:Box (Chg (fun k=>k=bc) w (w1.drewN r)):=⟨hC1.out.trans ((Chg.of_below hb5).mono (T:=fun k=>k=bc) fun i hi hk=>by omega) fun _ _ h=>h⟩
 have hbn5:Box (Blk (w1.drewN r) bc (.map (some b2)::.map p::cs) 152):=⟨(hb5.block _ hbn.out.lt).trans hbn.out⟩
 have hbs:Box (w.heap.size<=b2):=⟨by omega⟩
 generalize w1.drewN r=w5 at hCp hC5 hbn5 ⊢
 clear d0 d1 hb5
 replace hCp:=Box.mk hCp
 go_wp2_with fail
 refine hCp.out.mono ?_
 rintro e w6 ⟨rfl,hM6,hC6⟩
 have hR:Box (UndoLeft w bc (.map p) cs was w6):=⟨b2,hbs.out,hM6,hC6.blk hbn5.out (fun e=>hlw.out e.symm),hC5.out.trans (hC6.mono (T:=fun k=>k=bc∨k=b2) fun _ _ h=>.inr h) fun i hi hk=>hk.elim id (fun e=>by have:=hbs.out; omega)⟩
 clear hM6 hC6 hCp
 go_wp2_with fail
 go_returns
 exact ⟨rfl,hR⟩
end Go.Proofs.YthpfpkikmaiddaaGreatDoor.Pk
