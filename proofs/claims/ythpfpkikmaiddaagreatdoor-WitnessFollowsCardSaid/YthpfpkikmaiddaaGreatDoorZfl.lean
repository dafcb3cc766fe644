/- - -/
import Derived.Deep.MidRow
import Derived.Laws.OwnMore
import Derived.Lib.LazyBuf
import Derived.Great.BuildSlice
import Derived.RangeFuncBox
import Derived.RangeFuncLeaves
import Derived.Shelf.Abstract
import Derived.TacticsInMore
import Derived.LoopNIn
import Derived.LoopIn
import Derived.Test.YthpfpkikmaiddaaGreatDoorZkr
import Derived.Test.YthpfpkikmaiddaaGreatDoorZfm
set_option linter.all false
set_option maxHeartbeats 1600000
set_option maxRecDepth 100000
namespace Go.Proofs.YthpfpkikmaiddaaGreatDoor.Pk
open Go.RowKit
def spl {α:Type} (L:List α) (off:Nat) (cs:List α):List α:=L.take off++(cs++L.drop (off+cs.length))
theorem spl_length {α:Type} (L:List α) (off:Nat) (cs:List α) (h:off+cs.length<=L.length):(spl L off cs).length=L.length:=by
 simp [spl]; omega
theorem spl_take {α:Type} (L:List α) (off:Nat) (cs:List α) (N:Nat) (h:off+cs.length<=N):(spl L off cs).take N=spl (L.take N) off cs:=by
 rcases Nat.lt_or_ge L.length (off+cs.length) with h1 | h1
 ·unfold spl
  rw [List.take_take,Nat.min_eq_left (by omega),List.drop_of_length_le (by omega),List.drop_of_length_le (by simp; omega),List.take_of_length_le]
  simp; omega
 ·unfold spl
  rw [List.take_append,List.take_append,List.take_take,List.take_take,Nat.min_eq_left (show off<=N by omega),List.length_take,Nat.min_eq_left (show off<=L.length by omega),Nat.min_eq_right (show off<=N by omega),
   List.take_of_length_le (show cs.length<=N-off by omega),List.drop_take,show N-off-cs.length=N-(off+cs.length) by omega]
theorem setRow_chg (w:World) (g:Nat) (cs:Array Value):Chg (fun k=>k=g) w (w.setRow g cs):=⟨rfl,rfl,rfl,by simp [World.setRow],fun k _ hn=>setRow_other w g k cs hn⟩
structure Hold (w:World) (g:Nat) (e:TypeId) (L:List Value):Prop where
 out:∃ more:List Value,w.heap[g]?=some (.cells (L++more).toArray e (0,0))
theorem Hold.cell {w:World} {g:Nat} {e:TypeId} {L:List Value} (h:Hold w g e L) (i:Nat) (hi:i<L.length):w.cell? ⟨g,i,none⟩=some L[i]:=by
 obtain ⟨more,hg⟩:=h.out
 rw [cell_of_row w g i _ e _ hg]; simp [List.getElem?_append_left hi,hi]
theorem Hold.range {w:World} {g:Nat} {e:TypeId} {L:List Value} (h:Hold w g e L) (o m:Nat):w.rangeAt g o ((L.drop o).take m):=fun j v hv=>by
 rw [List.getElem?_take] at hv
 split at hv
 ·rw [List.getElem?_drop] at hv
  obtain ⟨hl,rfl⟩:=List.getElem?_eq_some_iff.1 hv
  exact h.cell _ hl
 ·cases hv
theorem Hold.lt {w:World} {g:Nat} {e:TypeId} {L:List Value} (h:Hold w g e L):g<w.heap.size:=by
 obtain ⟨more,hg⟩:=h.out
 exact (Array.getElem?_eq_some_iff.1 hg).1
theorem Hold.chg {S:Nat->Prop} {w w':World} {g:Nat} {e:TypeId} {L:List Value} (h:Hold w g e L) (hc:Chg S w w') (hn:¬ S g):Hold w' g e L:=by
 obtain ⟨more,hg⟩:=h.out
 exact ⟨more,(hc.block g h.lt hn).trans hg⟩
theorem Hold.of_blk {w:World} {g:Nat} {e:TypeId} {L:List Value} (h:Blk w g L e):Hold w g e L:=⟨[],by rw [List.append_nil]; exact h⟩
theorem Hold.of_row {w:World} {e:TypeId} {size n c g:Nat} {xs:List Value} (h:Row w e size (.slice (some ⟨g,0,none⟩) n c) n xs):Hold w g e xs:=by
 obtain ⟨hl,⟨h1,_⟩ | ⟨g1,cap,cur,h1,_,hg,hnc,_,hcs,ht⟩⟩:=h
 ·cases h1
 ·cases h1
  refine ⟨cur.toList.drop (n*size),?_⟩
  rw [<- ht,List.take_append_drop,Array.toArray_toList]; exact hg
theorem row_of_hold {w w':World} {e:TypeId} {size n c g:Nat} {xs ys:List Value} (h:Row w e size (.slice (some ⟨g,0,none⟩) n c) n xs) (hl:ys.length=xs.length) (o:Nat) (vs:List Value) (hfit:o+vs.length<=xs.length) (hy:ys=spl xs o vs)
  (hw:∀ cur:Array Value,w.heap[g]?=some (.cells cur e (0,0))->w'.heap[g]?=some (.cells (spl cur.toList o vs).toArray e (0,0))):Row w' e size (.slice (some ⟨g,0,none⟩) n c) n ys:=by
 obtain ⟨h0,⟨h1,_⟩ | ⟨g1,cap,cur,h1,hb,hg,hnc,hm,hcs,ht⟩⟩:=h
 ·cases h1
 ·cases h1
  have hle:n*size<=c*size:=Nat.mul_le_mul_right _ hnc
  refine ⟨by rw [hl,h0],.inr ⟨g,c,_,rfl,hb,hw cur hg,hnc,hm,?_,?_⟩⟩
  ·have hcl:cur.toList.length=cur.size:=Array.length_toList
   rw [List.size_toArray,spl_length _ _ _ (by omega),hcl]; exact hcs
  ·rw [spl_take _ _ _ _ (by omega),ht]; exact hy.symm
section
variable {P:Program} {w:World} {ops:Array Oper} {rest:List Oper} {o:Oper} {a:Act} {Q:Exit->Act->World->Prop}
structure Laid (w:World) (g:Nat) (e:TypeId) (L:List Value) (off:Nat) (vs:List Value) (w':World):Prop where
 hold:Hold w' g e (spl L off vs)
 row:∀ size n c,Row w e size (.slice (some ⟨g,0,none⟩) n c) n L->Row w' e size (.slice (some ⟨g,0,none⟩) n c) n (spl L off vs)
 blk:Blk w g L e->Blk w' g (spl L off vs) e
 chg:Chg (fun k=>k=g) w w'
theorem laid_all {w:World} {g:Nat} {e:TypeId} {L more:List Value} (hg:w.heap[g]?=some (.cells (L++more).toArray e (0,0))) (off:Nat) (vs:List Value) (hfit:off+vs.length<=L.length) :
  Laid w g e L off vs (w.setRow g ((L++more).take off++vs++(L++more).drop (off+vs.length)).toArray):=by
 have e0:(L++more).take off++vs++(L++more).drop (off+vs.length)=spl L off vs++more:=by
  rw [List.drop_append_of_le_length hfit,List.take_append_of_le_length (by omega)]; simp [spl]
 rw [e0]
 have hnew:=setRow_heap w g _ (spl L off vs++more).toArray e _ hg
 refine ⟨⟨more,hnew⟩,fun size n c hr=>?_,fun hb=>?_,setRow_chg _ _ _⟩
 ·refine row_of_hold hr (spl_length _ _ _ hfit) off vs hfit rfl fun cur hc=>?_
  rw [hg] at hc
  simp at hc
  rw [hnew,<- hc,<- e0]
  simp [spl]
 ·unfold Blk at hb ⊢
  rw [hg] at hb
  simp at hb
  rw [hnew,hb,List.append_nil]
theorem run_storeH (g off:Nat) (e ty:TypeId) (L vs:List Value) (h:Hold w g e L) (hfit:off+vs.length<=L.length) (h1:∀ v ∈ vs,v.oneCell'=true) (hi:(P.info? ty).map (·.size)=some vs.length) :
  ∃ w',(storeVar ty ⟨g,off,none⟩ (.agg vs.toArray)).run P w=.ok () w'/\Laid w g e L off vs w':=by
 obtain ⟨more,hg⟩:=h.out
 have hr:=run_storeCells_at P g off e vs 0 (L++more).toArray w hg (by simp; omega) h1
 simp only [Nat.add_zero] at hr
 refine ⟨_,?_,laid_all hg off vs hfit⟩
 cases hq:P.info? ty with
 | none=>simp [hq] at hi
 | some i=>
  have hs:vs.length=i.size:=by simp [hq] at hi; omega
  simp [storeVar,sizeOf,typeInfo,hq,Value.cells,hs]
  simpa [hs] using hr
theorem wp_storeH {K:Act->World->Prop} (ty:TypeId) (x y:Operand) (ho:o.op=.store ty x y) (g off:Nat) (e:TypeId) (L vs:List Value) (hx:a.eval x=.pointer (some ⟨g,off,none⟩)) (hy:a.eval y=.agg vs.toArray)
  (h:Hold w g e L) (hfit:off+vs.length<=L.length) (h1:∀ v ∈ vs,v.oneCell'=true) (hi:(P.info? ty).map (·.size)=some vs.length)
  (k:∀ w',Laid w g e L off vs w'->K (a.put o.dst undef) w'):o.wp P a w K Q:=by
 obtain ⟨w',hr,hl⟩:=run_storeH (P:=P) g off e ty L vs h hfit h1 hi
 unfold Oper.wp execOp
 simp only [ho,hx,hy,Instr.storeAt,Instr.sureAddr,Sem.run_bind,Sem.run_pure,Result.andThen_ok,hr]
 exact k _ hl
theorem wpList_storeH (hgd:o.guard=none) (ty:TypeId) (x y:Operand) (ho:o.op=.store ty x y) (g off:Nat) (e:TypeId) (L vs:List Value) (hx:a.eval x=.pointer (some ⟨g,off,none⟩)) (hy:a.eval y=.agg vs.toArray)
  (h:Hold w g e L) (hfit:off+vs.length<=L.length) (h1:∀ v ∈ vs,v.oneCell'=true) (hi:(P.info? ty).map (·.size)=some vs.length)
  (k:∀ w',Laid w g e L off vs w'->wpList P ops Q rest (a.put o.dst undef) w'):wpList P ops Q (o::rest) a w:=
 wpList_plain hgd fun _ hK=>wp_storeH ty x y ho g off e L vs hx hy h hfit h1 hi fun w' hl=>hK _ _ (k w' hl)
theorem run_copyT (dT sT ty elem:TypeId) (hu:P.underlying dT=some (.slice elem)) (hs:(P.info? elem).map (·.size)=some 1) (g off dLen dCap:Nat) (t:ByteArray) (e:TypeId) (L:List Value) (h:Hold w g e L)
  (hle:t.size<=dLen) (hfit:off+t.size<=L.length) :
  ∃ w',(Builtin.copy_ #[dT,sT] ty #[.slice (some ⟨g,off,none⟩) dLen dCap,.string t]).run P w=.ok (goInt t.size) w'/\Laid w g e L off (t.data.toList.map yc) w':=by
 have hl:(t.data.toList.map yc).length=t.size:=by rw [List.length_map,data_len]
 obtain ⟨more,hg⟩:=h.out
 have hst:=run_storeCells_at P g off e (t.data.toList.map yc) 0 (L++more).toArray w hg (by rw [hl]; simp; omega) (by
  intro v hv; simp only [List.mem_map] at hv; obtain ⟨x,_,rfl⟩:=hv; rfl)
 simp only [Nat.add_zero] at hst
 refine ⟨_,?_,laid_all hg off _ (by rw [hl]; exact hfit)⟩
 have hmin:Nat.min t.size dLen=t.size:=Nat.min_eq_left hle
 cases hq:P.info? elem with
 | none=>simp [hq] at hs
 | some i=>
  have htk:List.take t.size (List.map (fun b:UInt8=>Value.int IntKind.u8 (b.toNat:Int)) t.data.toList)=t.data.toList.map yc:=by
   rw [List.take_of_length_le (by rw [List.length_map,data_len]; exact Nat.le_refl _)]; rfl
  simp [Builtin.copy_,run_underlying hu,Builtin.lenOf,Builtin.firstCells,sizeOf,typeInfo,hq,hmin]
  rw [htk]
  simp at hst
  rw [hst]
  simp [Result.andThen]
theorem wpList_copyT (hgd:o.guard=none) (d s:Operand) (dT sT elem:TypeId) (ho:o.op=.call { callee:=.builtin .copy,args:=#[d,s],argTypes:=#[dT,sT] })
  (hu:P.underlying dT=some (.slice elem)) (hs:(P.info? elem).map (·.size)=some 1) (g off dLen dCap:Nat) (t:ByteArray) (e:TypeId) (L:List Value) (hd:a.eval d=.slice (some ⟨g,off,none⟩) dLen dCap) (hx:a.eval s=.string t)
  (h:Hold w g e L) (hle:t.size<=dLen) (hfit:off+t.size<=L.length)
  (k:∀ w',Laid w g e L off (t.data.toList.map yc) w'->wpList P ops Q rest (a.put o.dst (goInt t.size)) w'):wpList P ops Q (o::rest) a w:=by
 refine wpList_plain hgd fun K hK=>?_
 obtain ⟨w',hr,hl⟩:=run_copyT (P:=P) dT sT o.type elem hu hs g off dLen dCap t e L h hle hfit
 unfold Oper.wp execOp
 simp only [ho,resolve,invoke,builtin,Sem.run_bind,Sem.run_pure,Result.andThen_ok,List.map_toArray,List.map_cons,List.map_nil,hd,hx,hr]
 exact hK _ _ (k w' hl)
end
theorem yc_one (l:List UInt8):∀ v ∈ l.map yc,v.oneCell'=true:=by
 intro v hv; simp only [List.mem_map] at hv; obtain ⟨x,_,rfl⟩:=hv; rfl
end Go.Proofs.YthpfpkikmaiddaaGreatDoor.Pk
namespace Go.Proofs.YthpfpkikmaiddaaGreatDoor.Pk
open Go.RowKit
def Wr.cells (x:Wr):List Value:=.int .i64 (x.at':Int)::(x.bef.map yc++x.aft.map yc)
def secCells (s:List Sec):List Value:=s.flatMap fun x=>x.map yc
def wrCells (l:List Wr):List Value:=l.flatMap Wr.cells
structure DAt (w:World) (bd:Nat) (F:Nat->Prop) (D:Dev):Prop where
 ok:D.ok
 out:∃ vs vp,Blk w bd [vs,vp,.int .i64 (D.taken:Int),.int .i64 (D.fall:Int),.bool D.off] 75/\Row w 93 64 vs D.safe.length (secCells D.seen)/\Row w 95 129 vp D.ws.length (wrCells (pendW D.safe D.ws))/\(∀ k,vs.ownBlock=some k->F k)/\(∀ k,vp.ownBlock=some k->F k)
 fd:F bd
 lt:∀ k,F k->k<w.heap.size
theorem DAt.chg {S:Nat->Prop} {w w':World} {bd:Nat} {F:Nat->Prop} {D:Dev} (h:DAt w bd F D) (hc:Chg S w w') (hn:∀ k,F k->¬ S k):DAt w' bd F D:=by
 obtain ⟨vs,vp,hb,hs,hp,h1,h2⟩:=h.out
 exact ⟨h.ok,⟨vs,vp,hc.blk hb (hn _ h.fd),hs.chg hc fun k hk=>hn k (h1 k hk),hp.chg hc fun k hk=>hn k (h2 k hk),h1,h2⟩,h.fd,fun k hk=>Nat.lt_of_lt_of_le (h.lt k hk) hc.size⟩
theorem DAt.below {w w':World} {bd:Nat} {F:Nat->Prop} {D:Dev} (h:DAt w bd F D) (hb:Below w.heap.size w w'):DAt w' bd F D:=h.chg (Chg.of_below hb) fun k hk=>by have:=h.lt k hk; omega
structure DNext (w:World) (bd:Nat) (F:Nat->Prop) (D:Dev) (w':World):Prop where
 at_:DAt w' bd (fun k=>F k∨(w.heap.size<=k/\k<w'.heap.size)) D
 chg:Chg F w w'
theorem DAt.wide {w:World} {bd:Nat} {F G:Nat->Prop} {D:Dev} (h:DAt w bd F D) (hG:∀ k,F k->G k) (hl:∀ k,G k->k<w.heap.size):DAt w bd G D:=by
 obtain ⟨vs,vp,hb,hs,hp,h1,h2⟩:=h.out
 exact ⟨h.ok,⟨vs,vp,hb,hs,hp,fun k hk=>hG k (h1 k hk),fun k hk=>hG k (h2 k hk)⟩,hG _ h.fd,hl⟩
theorem DNext.same {w:World} {bd:Nat} {F:Nat->Prop} {D:Dev} (h:DAt w bd F D):DNext w bd F D w:=
 ⟨h.wide (fun _ hk=>.inl hk) fun k hk=>by rcases hk with hk | hk; exact h.lt k hk; exact hk.2,Chg.refl _ _⟩
theorem ret_i {k:IntKind} {a b:Int} (h:a=b):Ending.returned (.int k a)=.returned (.int k b):=by rw [h]
theorem refused_any (bd:Nat) (F:Nat->Prop) (D:Dev) (n:Int) (w:World) (h:DAt w bd F D) :
  Calls Tryz.prog 240 #[.pointer (some ⟨bd,0,none⟩),.int .i64 n] w fun e w'=>e=.returned (.int .i64 (D.refused n))/\w=w':=by
 obtain ⟨vs,vp,hb,hs,_,_,_⟩:=h.out
 obtain ⟨a,c,rfl⟩:=hs.shape
 have c4:w.cell? ⟨bd,4,none⟩=some (.bool D.off):=hb.cell 4
 have c0:w.cell? ⟨bd,0,none⟩=some (.slice a D.safe.length c):=hb.cell 0
 unfold Dev.refused
 generalize D.off=off at *
 generalize D.safe.length=N at *
 clear hb hs h
 cases off
 ·by_cases hn:n<0
  ·go_enter Tryz.func240,Tryz.ntmps240
   go_wp2
   go_ret
   exact ⟨ret_i (by simp),rfl⟩
  ·by_cases hN:(N:Int)<=n
   ·go_enter Tryz.func240,Tryz.ntmps240
    go_wp2
    go_ret
    exact ⟨ret_i (by simp),rfl⟩
   ·go_enter Tryz.func240,Tryz.ntmps240
    go_wp2
    go_ret
    exact ⟨ret_i (by simp),rfl⟩
 ·go_enter Tryz.func240,Tryz.ntmps240
  go_wp2
  go_ret
  exact ⟨ret_i (by simp),rfl⟩
theorem chg2 (w:World) (bd i j:Nat) (u v:Value):Chg (fun k=>k=bd) w ((w.setCell ⟨bd,i,none⟩ u).setCell ⟨bd,j,none⟩ v):=
 Chg.setCell (S:=fun k=>k=bd) (p:=⟨bd,j,none⟩) (Chg.setCell (S:=fun k=>k=bd) (p:=⟨bd,i,none⟩) (Chg.refl _ _) rfl _) rfl _
theorem chg1 (w:World) (bd i:Nat) (u:Value):Chg (fun k=>k=bd) w (w.setCell ⟨bd,i,none⟩ u):=Chg.setCell (S:=fun k=>k=bd) (p:=⟨bd,i,none⟩) (Chg.refl _ _) rfl _
theorem DAt.three {w w':World} {bd:Nat} {F:Nat->Prop} {D D':Dev} (h:DAt w bd F D) (hs:D'.safe=D.safe) (hw:D'.ws=D.ws)
  (hb:∀ vs vp,Blk w bd [vs,vp,.int .i64 (D.taken:Int),.int .i64 (D.fall:Int),.bool D.off] 75->Blk w' bd [vs,vp,.int .i64 (D'.taken:Int),.int .i64 (D'.fall:Int),.bool D'.off] 75)
  (hc:Chg (fun k=>k=bd) w w'):DAt w' bd F D':=by
 obtain ⟨vs,vp,hb0,h1,h2,h3,h4⟩:=h.out
 refine ⟨⟨hs ▸ h.ok.s,by rw [hs,hw]; exact h.ok.w,by rw [hs]; exact h.ok.n⟩,⟨vs,vp,hb vs vp hb0,?_,?_,h3,h4⟩,h.fd,fun k hk=>Nat.lt_of_lt_of_le (h.lt k hk) hc.size⟩
 ·rw [show D'.seen=D.seen by unfold Dev.seen; rw [hs,hw],hs]
  exact h1.chg hc fun k hk=>by rintro rfl; exact h1.apart hb0 (by decide) hk
 ·rw [hs,hw]
  exact h2.chg hc fun k hk=>by rintro rfl; exact h2.apart hb0 (by decide) hk
theorem step_any (bd:Nat) (F:Nat->Prop) (D:Dev) (w:World) (h:DAt w bd F D) (ht:D.taken<=1000000) (hf:D.fall<=9223372036854775807) :
  Calls Tryz.prog 287 #[.pointer (some ⟨bd,0,none⟩)] w fun e w'=>e=.returned (.bool D.goes)/\DAt w' bd F D.stepD/\Chg (fun k=>k=bd) w w'/\w'.heap.size=w.heap.size:=by
 obtain ⟨vs,vp,hb,_,_,_,_⟩:=h.out
 have c2:w.cell? ⟨bd,2,none⟩=some (.int .i64 (D.taken:Int)):=hb.cell 2
 have c3:w.cell? ⟨bd,3,none⟩=some (.int .i64 (D.fall:Int)):=hb.cell 3
 have c4:w.cell? ⟨bd,4,none⟩=some (.bool D.off):=hb.cell 4
 have f2:=hb.free 2
 have f3:=hb.free 3
 have f4:=hb.free 4
 clear hb
 by_cases h1:D.fall=1
 ·have hg:D.goes=false:=by simp [Dev.goes,h1]
  have hS:D.stepD={ D with fall:=0,off:=true }:=by simp [Dev.stepD,h1]
  have hd:(((D.fall:Nat):Int)==1)=true:=by rw [h1]; rfl
  have hR:DAt ((w.setCell ⟨bd,3,none⟩ (.int .i64 0)).setCell ⟨bd,4,none⟩ (.bool true)) bd F D.stepD:=by
   refine h.three (by rw [hS]) (by rw [hS]) (fun vs vp hb=>?_) ?_
   ·rw [hS]; exact (hb.setCell 3 (.int .i64 0)).setCell 4 (.bool true)
   ·exact chg2 _ _ _ _ _ _
  have hC:Chg (fun k=>k=bd) w ((w.setCell ⟨bd,3,none⟩ (.int .i64 0)).setCell ⟨bd,4,none⟩ (.bool true)):=chg2 _ _ _ _ _ _
  rw [hg]
  replace hR:=Box.mk hR
  replace hC:=Box.mk hC
  replace hg:=Box.mk hg
  replace hS:=Box.mk hS
  replace h1:=Box.mk h1
  replace h:=Box.mk h
  generalize D.fall=fl at *
  generalize D.taken=tk at *
  generalize D.off=of at *
  go_enter Tryz.func287,Tryz.ntmps287
  go_wp2
  go_ret
  exact ⟨rfl,hR.out,hC.out,by simp⟩
 ·have hg:D.goes=true:=by simp [Dev.goes,h1]
  have hS:D.stepD={ D with fall:=D.fall-1,taken:=D.taken+1 }:=by simp [Dev.stepD,h1]
  have hR:DAt ((w.setCell ⟨bd,3,none⟩ (.int .i64 ((D.fall-1:Nat):Int))).setCell ⟨bd,2,none⟩ (.int .i64 ((D.taken:Int)+1))) bd F D.stepD:=by
   refine h.three (by rw [hS]) (by rw [hS]) (fun vs vp hb=>?_) ?_
   ·rw [hS]; exact (hb.setCell 3 _).setCell 2 _
   ·exact chg2 _ _ _ _ _ _
  have hC:Chg (fun k=>k=bd) w ((w.setCell ⟨bd,3,none⟩ (.int .i64 ((D.fall-1:Nat):Int))).setCell ⟨bd,2,none⟩ (.int .i64 ((D.taken:Int)+1))):=chg2 _ _ _ _ _ _
  rw [hg]
  replace hR:=Box.mk hR
  replace hC:=Box.mk hC
  replace hg:=Box.mk hg
  replace hS:=Box.mk hS
  replace h:=Box.mk h
  generalize D.fall=fl at *
  generalize D.taken=tk at *
  generalize D.off=of at *
  by_cases h0:fl=0
  ·subst h0
   go_enter Tryz.func287,Tryz.ntmps287
   go_wp2
   go_ret
   exact ⟨rfl,hR.out,hC.out,by simp⟩
  ·have hd:((fl:Int)==1)=false:=by rw [beq_eq_false_iff_ne]; omega
   have h2:2<=fl:=by omega
   have he:((fl-1:Nat):Int)=(fl:Int)-1:=by omega
   rw [he] at hR hC
   clear he
   go_enter Tryz.func287,Tryz.ntmps287
   go_wp2
   go_ret
   exact ⟨rfl,hR.out,hC.out,by simp⟩
theorem sectors_any (bd:Nat) (F:Nat->Prop) (D:Dev) (w:World) (h:DAt w bd F D) :
  Calls Tryz.prog 78 #[.pointer (some ⟨bd,0,none⟩)] w fun e w'=>e=.returned (.int .i64 (D.safe.length:Int))/\w=w':=by
 obtain ⟨vs,vp,hb,hs,_,_,_⟩:=h.out
 obtain ⟨a,c,rfl⟩:=hs.shape
 have c0:w.cell? ⟨bd,0,none⟩=some (.slice a D.safe.length c):=hb.cell 0
 generalize D.safe.length=N at *
 clear hb hs h
 go_enter Tryz.func78,Tryz.ntmps78
 go_wp2
 go_ret
 exact ⟨rfl,rfl⟩
theorem off_any (bd:Nat) (F:Nat->Prop) (D:Dev) (w:World) (h:DAt w bd F D) :
  Calls Tryz.prog 14 #[.pointer (some ⟨bd,0,none⟩)] w fun e w'=>e=.returned (.bool D.off)/\w=w':=by
 obtain ⟨vs,vp,hb,_,_,_,_⟩:=h.out
 have c0:w.cell? ⟨bd,4,none⟩=some (.bool D.off):=hb.cell 4
 clear hb h
 go_enter Tryz.func14,Tryz.ntmps14
 go_wp2
 go_ret
 exact ⟨rfl,rfl⟩
end Go.Proofs.YthpfpkikmaiddaaGreatDoor.Pk
namespace Go.Proofs.YthpfpkikmaiddaaGreatDoor.Pk
open Go.RowKit
theorem info_cells {P:Program} {e:TypeId} {L:List Value} {size bytes:Nat} (h:(P.info? e).map (fun i=>(i.zero.map fun z=>z.cells.toList,i.size,i.bytes))=some (some L,size,bytes)) :
  ∃ i z,P.info? e=some i/\i.zero=some z/\i.size=size/\i.bytes=bytes/\z.cells=L.toArray:=by
 obtain ⟨i,hi,hzz⟩:=Option.map_eq_some_iff.1 h
 simp only [Prod.mk.injEq,Option.map_eq_some_iff] at hzz
 obtain ⟨⟨z,hz,hL⟩,h1,h2⟩:=hzz
 exact ⟨i,z,hi,hz,h1,h2,by rw [<- hL]⟩
def zeroW:List Value:=.int .i64 0::List.replicate 128 (.int .u8 0)
theorem zeroW_length:zeroW.length=129:=by simp [zeroW]
theorem infoS:(Tryz.prog.info? 93).map (fun i=>(i.zero.map fun z=>z.cells.toList,i.size,i.bytes))=some (some (List.replicate 64 (.int .u8 0)),64,64):=by kernel_rfl
theorem infoW:(Tryz.prog.info? 95).map (fun i=>(i.zero.map fun z=>z.cells.toList,i.size,i.bytes))=some (some zeroW,129,136):=by kernel_rfl
theorem sizeS:(Tryz.prog.info? 93).map (·.size)=some 64:=by kernel_rfl
theorem sizeW:(Tryz.prog.info? 95).map (·.size)=some 129:=by kernel_rfl
theorem sizeB:(Tryz.prog.info? 5).map (·.size)=some 1:=by kernel_rfl
theorem secCells_length:∀ (s:List Sec),okS s->(secCells s).length=s.length*64
 | [],_=>rfl
 | x::s,h=>by
  have ih:=secCells_length s fun y hy=>h y (by simp [hy])
  unfold secCells at ih ⊢
  rw [List.flatMap_cons,List.length_append,List.length_map,h x (by simp),ih,List.length_cons]; omega
theorem secCells_get:∀ (s:List Sec) (n:Nat),okS s->n<s.length->((secCells s).drop (n*64)).take 64=(s.getD n zeroS).map yc
 | x::s,0,h,_=>by
  have hx:(x.map yc).length=64:=by rw [List.length_map,h x (by simp)]
  unfold secCells
  rw [List.flatMap_cons,Nat.zero_mul,List.drop_zero,List.take_append_of_le_length (by omega),List.take_of_length_le (by omega)]; rfl
 | x::s,n+1,h,hn=>by
  have hx:(x.map yc).length=64:=by rw [List.length_map,h x (by simp)]
  have ih:=secCells_get s n (fun y hy=>h y (by simp [hy])) (by simpa using hn)
  unfold secCells at ih ⊢
  rw [List.flatMap_cons,List.drop_append,List.drop_of_length_le (by omega),hx,show (n+1)*64-64=n*64 by omega,List.nil_append,ih]; rfl
theorem secCells_set:∀ (s:List Sec) (n:Nat) (t:Sec),okS s->t.length=64->n<s.length->spl (secCells s) (n*64) (t.map yc)=secCells (s.set n t)
 | x::s,0,t,h,ht,_=>by
  have hx:(x.map yc).length=64:=by rw [List.length_map,h x (by simp)]
  unfold secCells spl
  rw [List.flatMap_cons,Nat.zero_mul,List.take_zero,List.nil_append,List.length_map,ht,Nat.zero_add,List.drop_append,List.drop_of_length_le (by omega),hx,List.nil_append,Nat.sub_self,List.drop_zero]; rfl
 | x::s,n+1,t,h,ht,hn=>by
  have hx:(x.map yc).length=64:=by rw [List.length_map,h x (by simp)]
  have ih:=secCells_set s n t (fun y hy=>h y (by simp [hy])) ht (by simpa using hn)
  unfold secCells spl at ih ⊢
  rw [List.set_cons_succ,List.flatMap_cons,List.flatMap_cons,<- ih,List.length_map,ht]
  rw [List.take_append,List.take_of_length_le (show (x.map yc).length<=(n+1)*64 by omega),hx,show (n+1)*64-64=n*64 by omega,
   List.drop_append,List.drop_of_length_le (show (x.map yc).length<=(n+1)*64+64 by omega),hx,show (n+1)*64+64-64=n*64+64 by omega,List.nil_append]
  simp [List.append_assoc]
theorem spl_full (L vs:List Value) (h:L.length=vs.length):spl L 0 vs=vs:=by
 simp [spl,h]
theorem cells_aft (n:Int) (bef:Sec) (t:List UInt8) (hb:bef.length=64) (ht:t.length<=64):spl (Value.int .i64 n::(bef.map yc++zeroS.map yc)) 65 (t.map yc)=Value.int .i64 n::(bef.map yc++(padS t).map yc):=by
 have hb':(bef.map yc).length=64:=by rw [List.length_map,hb]
 unfold spl
 rw [List.length_map,List.take_succ_cons,List.take_append_of_le_length (by omega),List.take_of_length_le (by omega),show 65+t.length=(64+t.length)+1 by omega,List.drop_succ_cons,List.drop_append,List.drop_of_length_le (by omega),hb',show 64+t.length-64=t.length by omega]
 have e:(zeroS.map yc).drop t.length=(List.replicate (64-t.length) 0).map yc:=by
  rw [zeroS,List.map_replicate,List.map_replicate,List.drop_replicate]
 rw [e,padS]
 simp
theorem wrCells_snoc (l:List Wr) (x:Wr):wrCells (l++[x])=wrCells l++x.cells:=by simp [wrCells]
theorem Wr.cells_length (x:Wr) (h1:x.bef.length=64) (h2:x.aft.length=64):x.cells.length=129:=by simp [Wr.cells,h1,h2]
theorem Wr.cells_aft (x:Wr) (h1:x.bef.length=64) (h2:x.aft.length=64):(x.cells.drop 65).take 64=x.aft.map yc:=by
 unfold Wr.cells
 rw [List.drop_succ_cons,List.drop_append,List.drop_of_length_le (by simp [h1]),List.length_map,h1,Nat.sub_self,List.nil_append,List.drop_zero,List.take_of_length_le (by simp [h2])]
theorem Wr.cells_one (x:Wr):∀ v ∈ x.cells,v.oneCell'=true:=by
 intro v hv
 simp only [Wr.cells,List.mem_cons,List.mem_append] at hv
 rcases hv with rfl | hv | hv
 ·rfl
 ·exact yc_one _ v hv
 ·exact yc_one _ v hv
theorem made_rep (v:Value) (k n:Nat) (hk:0<k):(madeCells (List.replicate k v).toArray n).toList=List.replicate n v:=by
 apply List.ext_getElem?
 intro j
 by_cases hj:j<n
 ·have hm:j % k<k:=Nat.mod_lt _ hk
  simp [madeCells,hj,hm]
 ·simp [madeCells,hj]
theorem secCells_new (n:Nat):secCells (List.replicate n zeroS)=List.replicate (n*64) (.int .u8 0):=by
 induction n with
 | zero=>rfl
 | succ n ih=>
  unfold secCells at ih ⊢
  rw [List.replicate_succ,List.flatMap_cons,ih,show (n+1)*64=64+n*64 by omega,<- List.replicate_append_replicate]
  rfl
section
variable {P:Program} {w:World} {ops:Array Oper} {rest:List Oper} {o:Oper} {a:Act} {Q:Exit->Act->World->Prop}
theorem wpList_allocL (hgd:o.guard=none) (ty:TypeId) (ho:o.op=.alloc ty) (i:TypeInfo) (z:Value) (L:List Value) (hi:P.info? ty=some i) (hz:i.zero=some z) (hL:z.cells=L.toArray) (N:Nat) (hN:w.heap.size=N)
  (k:∀ w',Blk w' N L ty->Chg (fun _=>False) w w'->w'.heap.size=N+1->wpList P ops Q rest (a.put o.dst (.pointer (some ⟨N,0,none⟩))) w'):wpList P ops Q (o::rest) a w:=by
 subst hN
 refine wpList_plain hgd fun K hK=>?_
 unfold Oper.wp execOp
 simp [ho,Instr.alloc,zeroValue,typeInfo,hi,hz,newVar,newRow,hL]
 exact hK _ _ (k _ (Blk.new w L ty) ((Chg.refl _ _).alloc _) (by simp))
theorem wpList_buildC (hgd:o.guard=none) (t:TypeId) (parts:List (Nat × Operand)) (ho:o.op=.build t parts.toArray) (vals:List (Nat × Value)) (hv:parts.map (fun x=>(x.1,a.eval x.2))=vals) (L:List Value) (hb:P.built t vals=some L.toArray)
  (k:wpList P ops Q rest (a.put o.dst (.agg L.toArray)) w):wpList P ops Q (o::rest) a w:=by
 have e:(parts.toArray.map fun (i,x)=>(i,a.eval x)).toList=vals:=by rw [Array.toList_map]; exact hv
 exact wpList_build hgd t parts.toArray ho (by rw [e,hb]; rfl) (by rw [e,hb]; exact k)
theorem range_all {w:World} {b:Nat} {cs:List Value} {t:TypeId} (h:Blk w b cs t):w.rangeAt b 0 cs:=by
 have:=(Hold.of_blk h).range 0 cs.length
 simpa using this
theorem exec_load_mid (ρ:Operand->Value) (ty:TypeId) (x:Operand) (ho:o.op=.load ty x) (b off:Nat) (hx:ρ x=.pointer (some ⟨b,off,none⟩)) (cs:List Value) (d:TypeDesc) (hc:w.rangeAt b off cs)
  (hu:P.underlying ty=some d) (hd:d.isRow=true) (hi:(P.info? ty).map (·.size)=some cs.length):(execOp ρ o).run P w=.ok (.value (.agg cs.toArray)) w:=by
 unfold execOp
 simp only [ho,hx,Instr.loadAt,Instr.sureAddr,Sem.run_bind,Sem.run_pure,Result.andThen_ok,run_loadVar_mid w b off ty cs d hc hu hd hi]
theorem quiet_any {P:Program} {ops:Array Oper} {C:World->Prop} {Q:Act->Prop} {a:Act} {o:Oper} {rest:List Oper} (hw:Region.wanted o (yielded ops a.tmps)=true) (v:Value)
  (hv:∀ w,C w->(execOp a.eval o).run P w=.ok (.value v) w) (h:wpQuiet P ops C Q rest (a.put o.dst v)):wpQuiet P ops C Q (o::rest) a:=by
 unfold wpQuiet
 simp only [hw,if_true]
 refine ⟨v,fun w hC=>?_,h⟩
 unfold Oper.quietAt
 simp [hv w hC,Oper.quietUpon]
theorem foldl_spl (off:Nat):∀ (vs:List Value) (k:Nat) (cs:Array Value),off+k+vs.length<=cs.size ->
  ((vs.zipIdx k).foldl (fun (cs:Array Value) (x:Value × Nat)=>cs.setIfInBounds (off+x.2) x.1) cs).toList=spl cs.toList (off+k) vs
 | [],k,cs,_=>by simp [spl]
 | v::vs,k,cs,h=>by
  simp only [List.length_cons] at h
  rw [List.zipIdx_cons,List.foldl_cons,foldl_spl off vs (k+1) _ (by simp; omega)]
  unfold spl
  rw [Array.toList_setIfInBounds,List.length_cons]
  have hcl:cs.toList.length=cs.size:=Array.length_toList
  rw [List.drop_set_of_lt (by omega),show off+(k+1)=off+k+1 by omega,List.take_set,List.take_succ_eq_append_getElem (by omega),List.set_append_right _ _ (by simp; omega)]
  simp [Nat.min_eq_left (show off+k<=cs.size by omega)]
  congr 1; omega
theorem fill_cons (place:Nat->Option (Nat × Nat)) (cs vs:List Value) (j off size:Nat) (v:Value) (rest:List (Nat × Value)) (hv:v.cells=vs.toArray) (hp:place j=some (off,size)) (hs:vs.length=size) (hfit:off+size<=cs.length) :
  Instr.fill place cs.toArray ((j,v)::rest)=Instr.fill place (spl cs off vs).toArray rest:=by
 have e:(vs.toArray.zipIdx.foldl (fun (cs:Array Value) (x:Value × Nat)=>cs.setIfInBounds (off+x.2) x.1) cs.toArray)=(spl cs off vs).toArray:=by
  apply Array.ext'
  have:=foldl_spl off vs 0 cs.toArray (by simp; omega)
  simpa using this
 rw [Instr.fill,hp]
 simp only [hv]
 rw [if_neg (by simp; omega)]
 rw [<- e]
theorem run_slice1 (t e:TypeId) (vs:List Value) (ie:TypeInfo) (z:Value) (hu:P.underlying t=some (.slice e)) (hie:P.info? e=some ie) (hz:ie.zero=some z) (hsz:ie.size=vs.length) (h0:0<vs.length) (hbig:vs.length<=16777216) :
  (Instr.buildSlice t 1 #[(0,.agg vs.toArray)]).run P w=.ok (.slice (some ⟨w.heap.size,0,none⟩) 1 1) (w.alloc (.cells vs.toArray e)):=by
 refine run_buildSlice w t e 1 _ vs.toArray ie z hu hie hz (by omega) (by omega) ?_
 have hX:∃ X:List Value,((Array.range (1*ie.size)).map (z.cells[· % z.cells.size]!))=X.toArray/\X.length=vs.length:=⟨((Array.range (1*ie.size)).map (z.cells[· % z.cells.size]!)).toList,(Array.toArray_toList).symm,by simp [hsz]⟩
 obtain ⟨X,hX1,hX2⟩:=hX
 rw [hX1]
 have:=fill_cons (fun i=>some (i*ie.size,ie.size)) X vs 0 0 ie.size (.agg vs.toArray) [] rfl (by simp) (by omega) (by omega)
 rw [spl_full _ _ hX2,Instr.fill] at this
 exact this
theorem wp_slice1 {K:Act->World->Prop} (t e:TypeId) (x:Operand) (ho:o.op=.buildSlice t 1 #[(0,x)]) (vs:List Value) (hx:a.eval x=.agg vs.toArray) (ie:TypeInfo) (z:Value) (hu:P.underlying t=some (.slice e)) (hie:P.info? e=some ie) (hz:ie.zero=some z) (hsz:ie.size=vs.length) (h0:0<vs.length) (hbig:vs.length<=16777216)
  (N:Nat) (hN:w.heap.size=N) (k:∀ w',Blk w' N vs e->Chg (fun _=>False) w w'->w'.heap.size=N+1->K (a.put o.dst (.slice (some ⟨N,0,none⟩) 1 1)) w'):o.wp P a w K Q:=by
 subst hN
 have hr:=run_slice1 (P:=P) (w:=w) t e vs ie z hu hie hz hsz h0 hbig
 unfold Oper.wp execOp
 simp only [ho,List.map_toArray,List.map_cons,List.map_nil,hx,Sem.run_bind,hr,Result.andThen_ok]
 exact k _ (Blk.new w vs e) ((Chg.refl _ _).alloc _) (by simp)
theorem built_w (n:Int) (bef:Sec) (h:bef.length=64) :
  Tryz.prog.built 95 [(0,.int .i64 n),(1,.agg (bef.map yc).toArray)]=some (Value.int .i64 n::(bef.map yc++zeroS.map yc)).toArray:=by
 obtain ⟨i,z,hi,hz,_,_,hL⟩:=info_cells infoW
 have hu:=Tryz.underlying95
 unfold Program.built
 simp only [hi,hu,hz]
 have hp:∀ fs:Array Field,Tryz.prog.underlying 95=some (.struct fs)->(fs.toList.mapM fun f=>(Tryz.prog.info? f.type).map fun i=>(f.offset,i.size))=some [(0,1),(1,64),(65,64)]:=by
  intro fs hfs
  rw [hu] at hfs
  cases hfs
  kernel_rfl
 rw [hp _ hu]
 dsimp only
 rw [hL]
 rw [fill_cons _ zeroW [.int .i64 n] 0 0 1 (.int .i64 n) _ rfl rfl rfl (by rw [zeroW_length]; omega)]
 rw [fill_cons _ _ (bef.map yc) 1 1 64 _ _ rfl rfl (by rw [List.length_map,h]) (by rw [spl_length _ _ _ (by rw [zeroW_length]; simp),zeroW_length]; omega)]
 rw [Instr.fill]
 have e1:spl zeroW 0 [.int .i64 n]=.int .i64 n::List.replicate 128 (.int .u8 0):=rfl
 have e2:zeroS.map yc=List.replicate 64 (.int .u8 0):=rfl
 rw [e1,e2]
 unfold spl
 rw [List.length_map,h]
 rfl
end
end Go.Proofs.YthpfpkikmaiddaaGreatDoor.Pk
namespace Go.Proofs.YthpfpkikmaiddaaGreatDoor.Pk
open Go.RowKit
def NewDev (w:World) (n:Nat) (e:Ending) (w':World):Prop:=
 ∃ bd,e=.returned (.tuple #[.pointer (some ⟨bd,0,none⟩),.int .i64 0])/\DAt w' bd (fun k=>w.heap.size<=k/\k<w'.heap.size) (Dev.new n)/\Below w.heap.size w w'
theorem newdev_of (w w1:World) (n g:Nat) (h2:n<=4096) (hr:Row w1 93 64 (.slice (some ⟨g,0,none⟩) n n) n (secCells (List.replicate n zeroS))) (hb:Below w.heap.size w w1) (hg:w.heap.size<=g) :
  NewDev w n (.returned (.tuple #[.pointer (some ⟨w1.heap.size,0,none⟩),.int .i64 0])) (w1.alloc (.cells #[.slice (some ⟨g,0,none⟩) n n,.slice none 0 0,.int .i64 0,.int .i64 0,.bool false] 75)):=by
 have hnew:=Blk.new w1 [.slice (some ⟨g,0,none⟩) n n,.slice none 0 0,.int .i64 0,.int .i64 0,.bool false] 75
 have hsz:=hb.size
 have hlt:=hr.lt g rfl
 refine ⟨_,rfl,⟨Dev.new_ok n h2,⟨_,_,hnew,?_,Row.nil _ _ _,fun k hk=>?_,fun k hk=>by cases hk⟩,?_,fun k hk=>hk.2⟩,hb.alloc hsz _⟩
 ·have:=hr.chg (S:=fun _=>False) ((Chg.refl _ _).alloc (.cells #[.slice (some ⟨g,0,none⟩) n n,.slice none 0 0,.int .i64 0,.int .i64 0,.bool false] 75)) (fun _ _ h=>h)
  simpa [Dev.new,Dev.seen,runW] using this
 ·obtain rfl:g=k:=by simpa [Value.ownBlock] using hk
  simp; omega
 ·simp; omega
theorem new_fit (n:Nat) (w:World) (h1:1<=n) (h2:n<=4096) :
  Calls Tryz.prog 7 #[.int .i64 (n:Int)] w (NewDev w n):=by
 obtain ⟨i,z,hi,hz,hi1,hi2,hL⟩:=info_cells infoS
 have hH:=Box.mk (And.intro hi (And.intro hz (And.intro hi1 (And.intro hi2 hL))))
 clear hi hz hi1 hi2 hL
 go_enter Tryz.func7,Tryz.ntmps7
 go_wp2_with (at_make; refine wpList_make_full _ rfl (.tmp 10) (.tmp 10) 72 rfl w.heap.size 93 i z 64 Tryz.underlying72 hH.out.1 hH.out.2.1 hH.out.2.2.1 .i64 .i64 _ _ n rfl rfl rfl rfl (by rw [hH.out.2.2.2.1]; omega) (by unfold maxLen; omega) (Nat.le_refl _) ?_; intro w1 hown hg)
 go_ret2
 refine newdev_of w w1 n _ h2 ?_ ⟨hg.os,hg.tape,hg.output,hg.size,fun k hk=>hg.block k hk (by simp)⟩ (Nat.le_refl _)
 rw [hH.out.2.2.2.2,made_rep _ _ _ (by omega)] at hown
 rw [secCells_new]
 obtain ⟨x1,x2⟩:=hown
 refine ⟨x1,x2.imp id ?_⟩
 rintro ⟨g,cap,cur,e1,e2,e3⟩
 exact ⟨g,cap,cur,e1,Nat.zero_le _,e3⟩
theorem refused_zero {D:Dev} {n:Int} (h:D.refused n=0):D.off=false/\∃ k:Nat,n=(k:Int)/\k<D.safe.length:=by
 unfold Dev.refused at h
 split at h
 ·simp at h
 ·split at h
  ·simp at h
  ·next h1 h2=>exact ⟨by simpa using h1,n.toNat,by omega,by omega⟩
theorem bytes_conv (w:World) (g o c:Nat) (l:List UInt8) (hc:w.rangeAt g o (l.map yc)):(convert 23 9 (.slice (some ⟨g,o,none⟩) l.length c)).run Tryz.prog w=.ok (.string ⟨l.toArray⟩) w:=by
 have hcl:∀ i,i<l.length->w.cell? ⟨g,o+i,none⟩=some (.int .u8 ((l.map Y).getD i 0)):=by
  intro i hi
  have:=hc i (yc (l[i])) (by simp [hi])
  rw [this]
  simp [yc,List.getD,hi]
 have:=run_convert_bytes_arg (P:=Tryz.prog) w 23 5 Tryz.underlying23 Tryz.underlying5 g o l.length c (l.map Y) (by simp) hcl 9 Tryz.underlying9
 rw [Y_back] at this; exact this
theorem read_fit (bd:Nat) (F:Nat->Prop) (D:Dev) (n:Nat) (w:World) (h:DAt w bd F D) (hoff:D.off=false) (hn:n<D.safe.length) :
  Calls Tryz.prog 193 #[.pointer (some ⟨bd,0,none⟩),.int .i64 (n:Int)] w fun e w'=>e=.returned (.tuple #[.string ⟨(D.seen.getD n zeroS).toArray⟩,.int .i64 0])/\w=w':=by
 have hR:=refused_any bd F D n w h
 have hz:D.refused (n:Int)=0:=by unfold Dev.refused; rw [hoff,if_neg (by simp),if_neg (by omega)]
 rw [hz] at hR
 obtain ⟨vs,vp,hb,hs,_,_,_⟩:=h.out
 obtain ⟨g,c,rfl,hg⟩:=hs.some (by omega)
 have hsl:D.seen.length=D.safe.length:=Dev.ok.seen_len
 have hx:=(Hold.of_row hs).range (n*64) 64
 rw [secCells_get _ _ h.ok.seen (by omega)] at hx
 have hl:(D.seen.getD n zeroS).length=64:=okS_getD h.ok.seen n
 have hconv:=bytes_conv w g (n*64) 64 (D.seen.getD n zeroS) hx
 rw [hl] at hconv
 have c0:w.cell? ⟨bd,0,none⟩=some (.slice (some ⟨g,0,none⟩) D.safe.length c):=hb.cell 0
 obtain ⟨T,hT⟩:∃ T:ByteArray,(⟨(D.seen.getD n zeroS).toArray⟩:ByteArray)=T:=⟨_,rfl⟩
 rw [hT] at hconv ⊢
 generalize D.safe.length=N at *
 replace hR:=Box.mk hR
 clear hb hs h hx hl hT hsl hz hoff
 go_enter Tryz.func193,Tryz.ntmps193
 go_wp2_with fail
 refine hR.out.mono ?_
 rintro e w' ⟨rfl,rfl⟩
 clear hR
 go_wp2_with fail
 go_ret2
 exact ⟨rfl,rfl⟩
end Go.Proofs.YthpfpkikmaiddaaGreatDoor.Pk
namespace Go.Proofs.YthpfpkikmaiddaaGreatDoor.Pk
open Go.RowKit
theorem write_refused (bd:Nat) (F:Nat->Prop) (D:Dev) (n:Int) (t:ByteArray) (w:World) (h:DAt w bd F D) (hr:D.refused n ≠ 0) :
  Calls Tryz.prog 243 #[.pointer (some ⟨bd,0,none⟩),.int .i64 n,.string t] w fun e w'=>e=.returned (.int .i64 (D.refused n))/\w=w':=by
 have hR:=refused_any bd F D n w h
 have hb:((D.refused n) != 0)=true:=by simpa using hr
 generalize D.refused n=x at *
 replace hR:=Box.mk hR
 clear hr h
 go_enter Tryz.func243,Tryz.ntmps243
 go_wp2_with fail
 refine hR.out.mono ?_
 rintro e w' ⟨rfl,rfl⟩
 go_wp2_with fail
 go_ret
 exact ⟨rfl,rfl⟩
theorem write_long (bd:Nat) (F:Nat->Prop) (D:Dev) (n:Int) (t:ByteArray) (w:World) (h:DAt w bd F D) (hr:D.refused n=0) (ht:64<t.size) :
  Calls Tryz.prog 243 #[.pointer (some ⟨bd,0,none⟩),.int .i64 n,.string t] w fun e w'=>e=.returned (.int .i64 1)/\w=w':=by
 have hR:=refused_any bd F D n w h
 rw [hr] at hR
 replace hR:=Box.mk hR
 clear hr h
 go_enter Tryz.func243,Tryz.ntmps243
 go_wp2_with fail
 refine hR.out.mono ?_
 rintro e w' ⟨rfl,rfl⟩
 clear hR
 go_wp2_with fail
 go_ret
 exact ⟨rfl,rfl⟩
theorem write_falls (bd:Nat) (F:Nat->Prop) (D:Dev) (n:Int) (t:ByteArray) (w:World) (h:DAt w bd F D) (hr:D.refused n=0) (ht:t.size<=64) (hk:D.taken<=1000000) (hf:D.fall<=9223372036854775807) (hg:D.goes=false) :
  Calls Tryz.prog 243 #[.pointer (some ⟨bd,0,none⟩),.int .i64 n,.string t] w fun e w'=>e=.returned (.int .i64 7)/\DAt w' bd F D.stepD/\Chg (fun k=>k=bd) w w'/\w'.heap.size=w.heap.size:=by
 have hR:=refused_any bd F D n w h
 rw [hr] at hR
 have hS:=step_any bd F D w h hk hf
 rw [hg] at hS
 replace hR:=Box.mk hR
 replace hS:=Box.mk hS
 clear hr h hk hf hg
 go_enter Tryz.func243,Tryz.ntmps243
 go_wp2_with fail
 refine hR.out.mono ?_
 rintro e w' ⟨rfl,rfl⟩
 clear hR
 go_wp2_with fail
 refine hS.out.mono ?_
 rintro e w1 ⟨rfl,hD1,hC1,hz1⟩
 replace hD1:=Box.mk hD1
 replace hC1:=Box.mk hC1
 replace hz1:=Box.mk hz1
 clear hS
 go_wp2_with fail
 go_ret
 exact ⟨rfl,hD1.out,hC1.out,hz1.out⟩
theorem write_done {w wd wa w7:World} {bd g c n:Nat} {F:Nat->Prop} {D:Dev} {vp v':Value} {bef aft:Sec} (h:DAt w bd F D) (hn:n<D.safe.length) (hbef:D.stepD.seen.getD n zeroS=bef) (haft:aft.length=64)
  (hCd:Chg (fun k=>F k∨w.heap.size<=k) w wd) (hb:Blk wd bd [.slice (some ⟨g,0,none⟩) D.safe.length c,vp,.int .i64 (D.stepD.taken:Int),.int .i64 (D.stepD.fall:Int),.bool D.stepD.off] 75)
  (hs:Row wd 93 64 (.slice (some ⟨g,0,none⟩) D.safe.length c) D.safe.length (secCells (D.stepD.seen.set n aft))) (hF1:F g) (hF2:∀ k,vp.ownBlock=some k->F k) (hA:Chg (fun _=>False) wd wa)
  (hP:PushedRow wa 95 129 vp (D.ws.length+1) (wrCells (pendW D.stepD.safe D.ws)++Wr.cells ⟨n,bef,aft⟩) v' w7) (hvs:∀ k,vp.ownBlock=some k->g ≠ k/\bd ≠ k) :
  DNext w bd F { D.stepD with ws:=D.ws++[(n,aft)] } (w7.setCell ⟨bd,1,none⟩ v'):=by
 have hok:({ D.stepD with ws:=D.ws++[(n,aft)] }:Dev).ok:=⟨h.ok.step.s,okW_snoc (by rw [Dev.step_safe]; exact h.ok.w) (by rw [Dev.step_safe]; exact hn) haft,h.ok.step.n⟩
 have hba:=hA.blk hb (fun h=>h)
 have hsa:=hs.chg hA (fun _ _ h=>h)
 have hb7:=hP.chg.blk hba (fun hk=>(hvs bd hk).2 rfl)
 have hs7:=hsa.chg hP.chg (fun k hk hv=>by
  obtain rfl:g=k:=by simpa [Value.ownBlock] using hk
  exact (hvs g hv).1 rfl)
 have hc8:=chg1 w7 bd 1 v'
 have hgb:g ≠ bd:=by
  rintro rfl
  exact hs7.apart hb7 (by decide) rfl
 have hsz1:=hCd.size
 have hsz2:=hA.size
 have hsz3:=hP.chg.size
 have hsz4:(w7.setCell ⟨bd,1,none⟩ v').heap.size=w7.heap.size:=by simp
 refine ⟨⟨hok,⟨.slice (some ⟨g,0,none⟩) D.safe.length c,v',hb7.setCell 1 v',?_,?_,fun k hk=>?_,fun k hk=>?_⟩,.inl h.fd,fun k hk=>?_⟩,?_⟩
 ·have:=hs7.chg hc8 (fun k hk hb=>by
   obtain rfl:g=k:=by simpa [Value.ownBlock] using hk
   exact hgb hb)
  have e:({ D.stepD with ws:=D.ws++[(n,aft)] }:Dev).seen=D.stepD.seen.set n aft:=by
   unfold Dev.seen; rw [runW_snoc]; rw [Dev.step_ws]
  rw [e]
  simpa [Dev.step_safe] using this
 ·have:=hP.row.chg hc8 (fun k hk hb=>by subst hb; exact hP.row.apart hb7 (by decide) hk)
  have e:pendW D.stepD.safe (D.ws++[(n,aft)])=pendW D.stepD.safe D.ws++[⟨n,bef,aft⟩]:=by
   rw [pendW_snoc]
   have:D.stepD.seen=runW D.stepD.safe D.ws:=by unfold Dev.seen; rw [Dev.step_ws]
   rw [<- this,hbef]
  simp only [List.length_append,List.length_singleton]
  rw [e,wrCells_snoc]
  exact this
 ·obtain rfl:g=k:=by simpa [Value.ownBlock] using hk
  exact .inl hF1
 ·rcases hP.place k hk with h1 | h1
  ·exact .inl (hF2 k h1)
  ·have:=hP.row.lt k hk
   exact .inr (by omega)
 ·rcases hk with hk | hk
  ·have:=h.lt k hk; omega
  ·exact hk.2
 ·have h1:Chg F w wd:=⟨hCd.os,hCd.tape,hCd.output,hCd.size,fun k hk hn=>hCd.block k hk (by rintro (h | h); exact hn h; omega)⟩
  exact ((h1.trans hA (fun _ _ h=>h.elim)).trans hP.chg (fun i _ hi=>hF2 i hi)).trans hc8 (fun i _ hi=>by rw [hi]; exact h.fd)
theorem write_fit (bd:Nat) (F:Nat->Prop) (D:Dev) (n:Nat) (t:ByteArray) (w:World) (h:DAt w bd F D) (hoff:D.off=false) (hn:n<D.safe.length) (ht:t.size<=64) (hk:D.taken<=1000000) (hf:D.fall<=9223372036854775807) (hws:D.ws.length<=1000000) (hg:D.goes=true) :
  Calls Tryz.prog 243 #[.pointer (some ⟨bd,0,none⟩),.int .i64 (n:Int),.string t] w fun e w'=>e=.returned (.int .i64 0)/\DNext w bd F { D.stepD with ws:=D.ws++[(n,padS t.data.toList)] } w':=by
 have hR:=refused_any bd F D n w h
 have hz:D.refused (n:Int)=0:=by unfold Dev.refused; rw [hoff,if_neg (by simp),if_neg (by omega)]
 rw [hz] at hR
 have hS:=step_any bd F D w h hk hf
 rw [hg] at hS
 replace hR:=Box.mk hR
 replace hS:=Box.mk hS
 clear hz
 obtain ⟨iW,zW,hiW,hzW,hiW1,hiW2,hLW⟩:=info_cells infoW
 have hH:=Box.mk (And.intro hiW (And.intro hzW (And.intro hiW1 (And.intro hiW2 hLW))))
 clear hiW hzW hiW1 hiW2 hLW
 replace h:=Box.mk h
 replace hoff:=Box.mk hoff
 replace hg:=Box.mk hg
 replace hk:=Box.mk hk
 replace hf:=Box.mk hf
 replace hws:=Box.mk hws
 go_enter Tryz.func243,Tryz.ntmps243
 go_wp2_with fail
 refine hR.out.mono ?_
 rintro e w' ⟨rfl,rfl⟩
 clear hR
 go_wp2_with fail
 refine hS.out.mono ?_
 rintro e w1 ⟨rfl,hD1,hC1,hz1⟩
 clear hS
 obtain ⟨vs,vp,hb,hs,hp,hF1,hF2⟩:=hD1.out
 rw [Dev.step_safe] at hs
 obtain ⟨g,c,rfl,hgl⟩:=hs.some (by omega)
 obtain ⟨pa,pc,rfl⟩:=hp.shape
 have hx:=(Hold.of_row hs).range (n*64) 64
 have hsl:D.stepD.seen.length=D.safe.length:=by rw [Dev.ok.seen_len,Dev.step_safe]
 rw [secCells_get _ _ hD1.ok.seen (by omega)] at hx
 obtain ⟨bef,hbef⟩:∃ bef,D.stepD.seen.getD n zeroS=bef:=⟨_,rfl⟩
 rw [hbef] at hx
 have hbl:bef.length=64:=hbef ▸ okS_getD hD1.ok.seen n
 have c0:w1.cell? ⟨bd,0,none⟩=some (.slice (some ⟨g,0,none⟩) D.safe.length c):=hb.cell 0
 replace hD1:=Box.mk hD1
 replace hC1:=Box.mk hC1
 replace hz1:=Box.mk hz1
 replace hb:=Box.mk hb
 replace hs:=Box.mk hs
 replace hp:=Box.mk hp
 replace hF1:=Box.mk hF1
 replace hF2:=Box.mk hF2
 replace hsl:=Box.mk hsl
 replace hbef:=Box.mk hbef
 replace hbl:=Box.mk hbl
 replace hx:=Box.mk hx
 obtain ⟨N,hN⟩:∃ N,D.safe.length=N:=⟨_,rfl⟩
 rw [hN] at c0 hn
 replace hN:=Box.mk hN
 obtain ⟨bo,hbo⟩:∃ bo,w1.heap.size=bo:=⟨_,rfl⟩
 replace hbo:=Box.mk hbo
 go_wp2_with (first
  | (refine wpList_load_mid (cs:=bef.map yc) rfl 93 (.tmp 27) rfl g (n*64) rfl _ hx.out Tryz.underlying93 rfl (by rw [sizeS,List.length_map,hbl.out]) ?_)
  | (refine wpList_buildC rfl 95 [(0,.tmp 21),(1,.tmp 28)] rfl [(0,.int .i64 (n:Int)),(1,.agg (bef.map yc).toArray)] rfl (Value.int .i64 (n:Int)::(bef.map yc++zeroS.map yc)) (built_w (n:Int) bef hbl.out) ?_)
  | (refine wpList_allocL rfl 95 rfl iW zW zeroW hH.out.1 hH.out.2.1 hH.out.2.2.2.2 bo hbo.out ?_; intro w2 hb2 hc2 hz2; replace hb2:=Box.mk hb2; replace hc2:=Box.mk hc2; replace hz2:=Box.mk hz2)
  | (refine wpList_storeH rfl 95 (.tmp 8) (.tmp 29) rfl bo 0 95 zeroW (Value.int .i64 (n:Int)::(bef.map yc++zeroS.map yc)) rfl rfl (Hold.of_blk hb2.out) (by simp [zeroW_length,hbl.out,zeroS_length]) (Wr.cells_one ⟨n,bef,zeroS⟩) (by simp [sizeW,hbl.out,zeroS_length]) ?_; intro w3 hl3; replace hl3:=Box.mk hl3; have hb3:=Box.mk (hl3.out.blk hb2.out))
  | (refine wpList_copyT rfl (.tmp 31) (.tmp 32) 23 9 5 rfl Tryz.underlying23 sizeB bo 65 64 64 t 95 _ rfl rfl (Hold.of_blk hb3.out) ht (by simp [spl_length,zeroW_length,hbl.out,zeroS_length]; omega) ?_; intro w4 hl4; replace hl4:=Box.mk hl4; have hb4:=Box.mk (hl4.out.blk hb3.out)))
 have e4:Box (Blk w4 bo (Wr.cells ⟨n,bef,padS t.data.toList⟩) 95):=⟨by
  have:=hb4.out
  rw [spl_full _ _ (by simp [zeroW_length,hbl.out,zeroS_length]),cells_aft _ _ _ hbl.out (by rw [data_len]; exact ht)] at this
  exact this⟩
 have hB4:Box (Below w1.heap.size w1 w4):=⟨by
  have h1:=(hc2.out.mono (T:=fun k=>k=bo) fun _ _ h=>h.elim).trans hl3.out.chg (fun _ _ h=>h)
  have h2:=h1.trans hl4.out.chg (fun _ _ h=>h)
  exact h2.below (Nat.le_refl _) (fun i hi=>by rw [hi,hbo.out]; exact Nat.le_refl _)⟩
 have hD4:=Box.mk (hD1.out.below hB4.out)
 clear hb2 hc2 hz2 hl3 hb3 hl4 hb4 hx
 have hb4:=Box.mk ((hB4.out.block bd hb.out.lt).trans hb.out)
 have hs4:=Box.mk (hs.out.kept fun k hk=>hB4.out.block k (hs.out.lt k hk))
 have hp4:=Box.mk (hp.out.kept fun k hk=>hB4.out.block k (hp.out.lt k hk))
 have hg4:Box (g ≠ bo):=⟨by rw [<- hbo.out]; omega⟩
 clear c0
 have hpl:Box ((padS t.data.toList).length=64):=⟨padS_length _ (by rw [data_len]; exact ht)⟩
 obtain ⟨aft,haft⟩:∃ aft,padS t.data.toList=aft:=⟨_,rfl⟩
 rw [haft] at hpl e4
 replace haft:=Box.mk haft
 refine region_quiet_tail (C:=fun w'=>Chg (fun _=>False) w4 w') 8 rfl (by kernel_rfl) ((Chg.refl _ _).drew) ?_
 simp only [List.take,List.drop]
 simp only [Act.put,zT9,zS9,zZ9]
 repeat (go_big_quiet_step (first | exact fun _=>rfl | rfl))
 refine quiet_any rfl (.slice (some ⟨g,0,none⟩) N c) (fun w' hw'=>by
  have c9:w'.cell? ⟨bd,0,none⟩=some (.slice (some ⟨g,0,none⟩) D.safe.length c):=(hw'.blk hb4.out (fun h=>h)).cell 0
  rw [hN.out] at c9
  go_simp) ?_
 simp only [Act.put,zT9,zS9,zZ9]
 repeat (go_big_quiet_step (first | exact fun _=>rfl | rfl))
 refine quiet_any rfl (.agg (aft.map yc).toArray) (fun w' hw'=>by
  have hr:=(Hold.of_blk (hw'.blk e4.out (fun h=>h))).range 65 64
  rw [Wr.cells_aft _ hbl.out hpl.out] at hr
  exact exec_load_mid _ 93 (.tmp 39) rfl bo 65 rfl (aft.map yc) _ hr Tryz.underlying93 rfl (by rw [sizeS,List.length_map,hpl.out])) ?_
 simp only [Act.put,zT9,zS9,zZ9]
 repeat (go_big_quiet_step (first | exact fun _=>rfl | rfl))
 refine wpQuiet_nil ?_
 intro w5 hC5
 replace hC5:=Box.mk hC5
 have hH5:Box (Hold w5 g 93 (secCells D.stepD.seen)):=⟨(Hold.of_row hs4.out).chg hC5.out (fun h=>h)⟩
 have hfit5:Box (n*64+(aft.map yc).length<=(secCells D.stepD.seen).length):=⟨by rw [List.length_map,hpl.out,secCells_length _ hD1.out.ok.seen,hsl.out,hN.out]; omega⟩
 go_wp2_with (refine wpList_storeH rfl 93 (.tmp 41) (.tmp 40) rfl g (n*64) 93 (secCells D.stepD.seen) (aft.map yc) rfl rfl hH5.out hfit5.out (yc_one _) (by rw [sizeS,List.length_map,hpl.out]) ?_; intro w6 hl6; replace hl6:=Box.mk hl6)
 have hb6:=Box.mk (hl6.out.chg.blk (hC5.out.blk hb4.out (fun h=>h)) (fun hk=>hs.out.apart hb.out (by decide) (by rw [hk]; rfl)))
 have e6:=Box.mk (hl6.out.chg.blk (hC5.out.blk e4.out (fun h=>h)) (fun hk=>hg4.out hk.symm))
 have hs6:Box (Row w6 93 64 (.slice (some ⟨g,0,none⟩) D.safe.length c) D.safe.length (secCells (D.stepD.seen.set n aft))):=⟨by
  rw [<- secCells_set _ _ _ hD1.out.ok.seen hpl.out (by rw [hsl.out,hN.out]; exact hn)]
  exact hl6.out.row _ _ _ (hs4.out.chg hC5.out (fun _ _ h=>h))⟩
 have hp6:=Box.mk ((hp4.out.chg hC5.out (fun _ _ h=>h)).chg hl6.out.chg (fun k hk hg=>hs.out.unlike hp.out (by decide) g rfl (by rw [hk,hg])))
 have hC6:Box (Chg (fun k=>F k∨w.heap.size<=k) w w6):=⟨by
  have h0:=hC1.out.mono (T:=F) (fun i _ hi=>by rw [hi]; exact h.out.fd)
  have h1:=Chg.of_below hB4.out
  have h2:=(h0.mono (T:=fun k=>F k∨w.heap.size<=k) (fun _ _ h=>.inl h)).trans h1 (fun i hi hk=>.inr (by rw [hz1.out] at hk; exact hk))
  have h3:=h2.trans hC5.out (fun _ _ h=>h.elim)
  exact h3.trans hl6.out.chg (fun i _ hi=>.inl (hF1.out i (by rw [hi]; rfl)))⟩
 clear hH5 hfit5 hC5 hl6 hb4 hs4 hp4 e4 hD4
 rw [Dev.step_ws] at hb6 hp6
 have hvs:Box (∀ k,(Value.slice pa D.ws.length pc).ownBlock=some k->g ≠ k/\bd ≠ k):=⟨fun k hk=>⟨by
  rintro rfl
  exact hs6.out.unlike hp6.out (by decide) g rfl hk,by
  rintro rfl
  exact hp6.out.apart hb6.out (by decide) hk⟩⟩
 have hbd':=Box.mk (hb6.out)
 refine region_go (C:=fun w'=>Blk w' bo (Wr.cells ⟨n,bef,aft⟩) 95) rfl ?_
 have hCd:=Box.mk (hC6.out.drew)
 have hbd:Box (Blk w6.drew bd _ 75):=⟨hb6.out⟩
 have hed:Box (Blk w6.drew bo _ 95):=⟨e6.out⟩
 have hsd:Box (Row w6.drew 93 64 _ _ _):=⟨hs6.out⟩
 have hpd:Box (Row w6.drew 95 129 _ _ _):=⟨hp6.out⟩
 generalize w6.drew=wd at hCd hbd hed hsd hpd ⊢
 clear hC6 hb6 e6 hs6 hp6 hbd'
 refine go_calms [0,1,2,3,5] 6 rfl (by kernel_rfl) (by kernel_rfl) (by kernel_rfl) hed.out ?_
 simp [nth]
 simp only [Act.put]
 repeat (go_big_quiet_step (first | exact fun _=>rfl | rfl))
 have hcl:Box ((Wr.cells ⟨n,bef,aft⟩).length=129):=⟨Wr.cells_length _ hbl.out hpl.out⟩
 refine quiet_any rfl (.agg (Wr.cells ⟨n,bef,aft⟩).toArray) (fun w' hw'=>exec_load_mid _ 95 (.tmp 8) rfl bo 0 rfl (Wr.cells ⟨n,bef,aft⟩) _ (range_all hw') Tryz.underlying95 rfl (by rw [sizeW,hcl.out])) ?_
 simp only [Act.put,zT9,zS9,zZ9]
 refine wpQuiet_nil ?_
 have c1:wd.cell? ⟨bd,1,none⟩=some (.slice pa D.ws.length pc):=hbd.out.cell 1
 have hFp:Box (∀ k,(Value.slice pa D.ws.length pc).ownBlock=some k->F k):=⟨fun k hk=>hF2.out k (by rw [Dev.step_ws]; exact hk)⟩
 have hbo':Box (∀ k,(Value.slice pa D.ws.length pc).ownBlock=some k->k ≠ bo):=⟨fun k hk=>by have h1:=h.out.lt k (hFp.out k hk); have h2:=hbo.out; have h3:=hz1.out; omega⟩
 have hbd0:Box (bd ≠ bo):=⟨by have h1:=h.out.lt bd h.out.fd; have h2:=hbo.out; have h3:=hz1.out; omega⟩
 refine go_fork 4 6 (by kernel_rfl) (goOp_wp 4 rfl rfl (fun K hK=>?_)) (goOp_wp 6 rfl rfl (fun K hK=>?_))
 ·go_simp
  refine hK _ _ hed.out ?_
  clear hK K
  refine go_forced 6 (by kernel_rfl) (goOp_wp 6 rfl rfl (fun K hK=>?_))
  refine wp_slice1 73 95 (.tmp 47) rfl (Wr.cells ⟨n,bef,aft⟩) rfl iW zW Tryz.underlying73 hH.out.1 hH.out.2.1 (by rw [hH.out.2.2.1,hcl.out]) (by rw [hcl.out]; omega) (by rw [hcl.out]; omega) _ rfl ?_
  intro wa hba hca hza
  refine hK _ _ (hca.blk hed.out (fun h=>h)) ?_
  clear hK K
  simp only [Act.put,List.setIfInBounds_toArray]
  refine go_forced 7 (by kernel_rfl) (goOp_wp 7 rfl rfl (fun K hK=>?_))
  refine wp_pushR (.tmp 46) (.tmp 48) 73 95 rfl iW zW 129 136 Tryz.underlying73 hH.out.1 hH.out.2.1 hH.out.2.2.1 hH.out.2.2.2.1 (by rw [hH.out.2.2.2.2]; simp [zeroW_length]) (by omega) (.slice pa D.ws.length pc) D.ws.length _ rfl (hpd.out.chg hca (fun _ _ h=>h)) ⟨_,0,none⟩ 1 1 (Wr.cells ⟨n,bef,aft⟩) rfl (by rw [hcl.out]) (fun j u hj=>by rw [Addr.add_mid]; exact range_all hba j u hj) (Wr.cells_one _) (by have:=hws.out; unfold maxLen; omega) (by have:=hws.out; omega) ?_
  intro v7 w7 hp7
  have hfin:=Box.mk (write_done h.out (by rw [hN.out]; exact hn) hbef.out hpl.out hCd.out hbd.out hsd.out (hF1.out g rfl) hFp.out hca hp7 hvs.out)
  obtain ⟨a7,c7,rfl⟩:=hp7.row.shape
  have hb7:=hp7.chg.blk (hca.blk hbd.out (fun h=>h)) (fun hk=>(hvs.out bd hk).2 rfl)
  have he7:=hp7.chg.blk (hca.blk hed.out (fun h=>h)) (fun hk=>hbo'.out bo hk rfl)
  have c7':w7.cell? ⟨bd,1,none⟩=some (.slice pa D.ws.length pc):=hb7.cell 1
  have f7:=hb7.free 1
  have he8:=Box.mk ((chg1 w7 bd 1 (.slice a7 (D.ws.length+1) c7)).blk he7 (fun hk=>hbd0.out hk.symm))
  refine hK _ _ he7 ?_
  clear hK K c1 hb7 hp7 hba hca hza
  replace he7:=Box.mk he7
  simp only [Act.put]
  refine go_calms [8,9] 1 rfl (by kernel_rfl) (by kernel_rfl) (by kernel_rfl) he7.out ?_
  simp [nth]
  repeat (go_big_quiet_step (first | exact fun _=>rfl | rfl))
  refine wpQuiet_nil ?_
  refine go_forced 10 (by kernel_rfl) (goOp_wp 10 rfl rfl (fun K hK=>?_))
  go_simp
  refine hK _ _ he8.out ?_
  clear hK K
  refine go_done (by kernel_rfl) ?_
  go_wp2_with fail
  go_ret
  exact ⟨rfl,by rw [haft.out]; exact hfin.out⟩
 ·
  refine wp_slice1 73 95 (.tmp 47) rfl (Wr.cells ⟨n,bef,aft⟩) rfl iW zW Tryz.underlying73 hH.out.1 hH.out.2.1 (by rw [hH.out.2.2.1,hcl.out]) (by rw [hcl.out]; omega) (by rw [hcl.out]; omega) _ rfl ?_
  intro wa hba hca hza
  refine hK _ _ (hca.blk hed.out (fun h=>h)) ?_
  clear hK K
  simp only [Act.put,List.setIfInBounds_toArray]
  have c1a:wa.cell? ⟨bd,1,none⟩=some (.slice pa D.ws.length pc):=(hca.blk hbd.out (fun h=>h)).cell 1
  have hea:=Box.mk (hca.blk hed.out (fun h=>h))
  refine go_forced 4 (by kernel_rfl) (goOp_wp 4 rfl rfl (fun K hK=>?_))
  go_simp
  refine hK _ _ hea.out ?_
  clear hK K c1a hea
  refine go_forced 7 (by kernel_rfl) (goOp_wp 7 rfl rfl (fun K hK=>?_))
  refine wp_pushR (.tmp 46) (.tmp 48) 73 95 rfl iW zW 129 136 Tryz.underlying73 hH.out.1 hH.out.2.1 hH.out.2.2.1 hH.out.2.2.2.1 (by rw [hH.out.2.2.2.2]; simp [zeroW_length]) (by omega) (.slice pa D.ws.length pc) D.ws.length _ rfl (hpd.out.chg hca (fun _ _ h=>h)) ⟨_,0,none⟩ 1 1 (Wr.cells ⟨n,bef,aft⟩) rfl (by rw [hcl.out]) (fun j u hj=>by rw [Addr.add_mid]; exact range_all hba j u hj) (Wr.cells_one _) (by have:=hws.out; unfold maxLen; omega) (by have:=hws.out; omega) ?_
  intro v7 w7 hp7
  have hfin:=Box.mk (write_done h.out (by rw [hN.out]; exact hn) hbef.out hpl.out hCd.out hbd.out hsd.out (hF1.out g rfl) hFp.out hca hp7 hvs.out)
  obtain ⟨a7,c7,rfl⟩:=hp7.row.shape
  have hb7:=hp7.chg.blk (hca.blk hbd.out (fun h=>h)) (fun hk=>(hvs.out bd hk).2 rfl)
  have he7:=hp7.chg.blk (hca.blk hed.out (fun h=>h)) (fun hk=>hbo'.out bo hk rfl)
  have c7':w7.cell? ⟨bd,1,none⟩=some (.slice pa D.ws.length pc):=hb7.cell 1
  have f7:=hb7.free 1
  have he8:=Box.mk ((chg1 w7 bd 1 (.slice a7 (D.ws.length+1) c7)).blk he7 (fun hk=>hbd0.out hk.symm))
  refine hK _ _ he7 ?_
  clear hK K c1 hb7 hp7 hba hca hza
  replace he7:=Box.mk he7
  simp only [Act.put,List.setIfInBounds_toArray]
  refine go_calms [8,9] 1 rfl (by kernel_rfl) (by kernel_rfl) (by kernel_rfl) he7.out ?_
  simp [nth]
  repeat (go_big_quiet_step (first | exact fun _=>rfl | rfl))
  refine wpQuiet_nil ?_
  refine go_forced 10 (by kernel_rfl) (goOp_wp 10 rfl rfl (fun K hK=>?_))
  go_simp
  refine hK _ _ he8.out ?_
  clear hK K
  refine go_done (by kernel_rfl) ?_
  go_wp2_with fail
  go_ret
  exact ⟨rfl,by rw [haft.out]; exact hfin.out⟩
end Go.Proofs.YthpfpkikmaiddaaGreatDoor.Pk
namespace Go.Proofs.YthpfpkikmaiddaaGreatDoor.Pk
open Go.RowKit
theorem DNext.small {w w':World} {bd:Nat} {F:Nat->Prop} {D D':Dev} (h:DAt w bd F D) (h1:DAt w' bd F D') (hc:Chg (fun k=>k=bd) w w'):DNext w bd F D' w':=
 ⟨h1.wide (fun _ hk=>.inl hk) fun k hk=>by rcases hk with hk | hk; exact h1.lt k hk; exact hk.2,hc.mono fun i _ hi=>by rw [hi]; exact h.fd⟩
theorem write_any (bd:Nat) (F:Nat->Prop) (D:Dev) (n:Int) (t:ByteArray) (w:World) (h:DAt w bd F D) (hk:D.taken<=1000000) (hf:D.fall<=9223372036854775807) (hws:D.ws.length<=1000000) :
  Calls Tryz.prog 243 #[.pointer (some ⟨bd,0,none⟩),.int .i64 n,.string t] w fun e w'=>e=.returned (.int .i64 (D.writeE n t.data.toList))/\DNext w bd F (D.write n t.data.toList) w':=by
 unfold Dev.writeE Dev.write
 by_cases hr:D.refused n=0
 ·have h0:¬ D.refused n ≠ 0:=fun h=>h hr
  simp only [if_neg h0]
  by_cases ht:t.size<=64
  ·have h64:¬ 64<t.data.toList.length:=by rw [data_len]; omega
   simp only [if_neg h64]
   cases hg:D.goes with
   | true=>
    obtain ⟨h1,k,rfl,h2⟩:=refused_zero hr
    simpa using write_fit bd F D k t w h h1 h2 ht hk hf hws hg
   | false=>exact (write_falls bd F D n t w h hr ht hk hf hg).mono fun e w' ⟨a,b,c,_⟩=>⟨by rw [a]; rfl,by simpa using DNext.small h b c⟩
  ·have h64:64<t.data.toList.length:=by rw [data_len]; omega
   simp only [if_pos h64]
   exact (write_long bd F D n t w h hr (by omega)).mono fun e w' ⟨a,b⟩=>⟨a,b ▸ DNext.same h⟩
 ·simp only [if_pos (show D.refused n ≠ 0 from hr)]
  exact (write_refused bd F D n t w h hr).mono fun e w' ⟨a,b⟩=>⟨a,b ▸ DNext.same h⟩
theorem barrier_off (bd:Nat) (F:Nat->Prop) (D:Dev) (w:World) (h:DAt w bd F D) (hoff:D.off=true) :
  Calls Tryz.prog 244 #[.pointer (some ⟨bd,0,none⟩)] w fun e w'=>e=.returned (.int .i64 7)/\w=w':=by
 obtain ⟨vs,vp,hb,_,_,_,_⟩:=h.out
 have c4:w.cell? ⟨bd,4,none⟩=some (.bool D.off):=hb.cell 4
 rw [hoff] at c4
 clear hb h hoff
 go_enter Tryz.func244,Tryz.ntmps244
 go_wp2_with fail
 go_ret
 exact ⟨rfl,rfl⟩
theorem barrier_falls (bd:Nat) (F:Nat->Prop) (D:Dev) (w:World) (h:DAt w bd F D) (hoff:D.off=false) (hk:D.taken<=1000000) (hf:D.fall<=9223372036854775807) (hg:D.goes=false) :
  Calls Tryz.prog 244 #[.pointer (some ⟨bd,0,none⟩)] w fun e w'=>e=.returned (.int .i64 7)/\DNext w bd F D.stepD w':=by
 have hS:=step_any bd F D w h hk hf
 rw [hg] at hS
 obtain ⟨vs,vp,hb,_,_,_,_⟩:=h.out
 have c4:w.cell? ⟨bd,4,none⟩=some (.bool D.off):=hb.cell 4
 rw [hoff] at c4
 replace hS:=Box.mk hS
 replace h:=Box.mk h
 clear hb hoff hk hf hg
 go_enter Tryz.func244,Tryz.ntmps244
 go_wp2_with fail
 refine hS.out.mono ?_
 rintro e w1 ⟨rfl,hD1,hC1,_⟩
 have hR:=Box.mk (DNext.small h.out hD1 hC1)
 clear hS hD1 hC1 c4
 go_wp2_with fail
 go_ret
 exact ⟨rfl,hR.out⟩
theorem barrier_fit (bd:Nat) (F:Nat->Prop) (D:Dev) (w:World) (h:DAt w bd F D) (hoff:D.off=false) (hk:D.taken<=1000000) (hf:D.fall<=9223372036854775807) (hg:D.goes=true) :
  Calls Tryz.prog 244 #[.pointer (some ⟨bd,0,none⟩)] w fun e w'=>e=.returned (.int .i64 0)/\DNext w bd F { D.stepD with safe:=D.seen,ws:=[] } w':=by
 have hS:=step_any bd F D w h hk hf
 rw [hg] at hS
 obtain ⟨vs,vp,hb,_,_,_,_⟩:=h.out
 have c4:w.cell? ⟨bd,4,none⟩=some (.bool D.off):=hb.cell 4
 rw [hoff] at c4
 replace hS:=Box.mk hS
 replace h:=Box.mk h
 clear hb hoff hk hf hg
 go_enter Tryz.func244,Tryz.ntmps244
 go_wp2_with fail
 refine hS.out.mono ?_
 rintro e w1 ⟨rfl,hD1,hC1,_⟩
 have hseen:D.stepD.seen=D.seen:=by unfold Dev.seen; rw [Dev.step_safe,Dev.step_ws]
 have hR:Box (DNext w bd F { D.stepD with safe:=D.seen,ws:=[] } (w1.setCell ⟨bd,1,none⟩ (.slice none 0 0))):=⟨by
  obtain ⟨vs,vp,hb,hs,hp,hF1,hF2⟩:=hD1.out
  have hc:=chg1 w1 bd 1 (.slice none 0 0)
  refine DNext.small h.out ⟨⟨h.out.ok.seen,okW_nil _,by simp only [Dev.ok.seen_len]; exact h.out.ok.n⟩,⟨vs,.slice none 0 0,hb.setCell 1 _,?_,Row.nil _ _ _,hF1,fun k hk=>by cases hk⟩,hD1.fd,fun k hk=>Nat.lt_of_lt_of_le (hD1.lt k hk) hc.size⟩ ?_
  ·have:=hs.chg hc (fun k hk hb'=>by subst hb'; exact hs.apart hb (by decide) hk)
   rw [hseen,Dev.step_safe] at this
   rw [show ({ D.stepD with safe:=D.seen,ws:=[] }:Dev).seen=D.seen from rfl]
   simp only [Dev.ok.seen_len]
   exact this
  ·exact hC1.trans hc fun _ _ h=>h⟩
 obtain ⟨vs,vp,hb,_,hp,_,_⟩:=hD1.out
 obtain ⟨pa,pc,rfl⟩:=hp.shape
 have c1:w1.cell? ⟨bd,1,none⟩=some (.slice pa D.stepD.ws.length pc):=hb.cell 1
 have f1:=hb.free 1
 clear hS hD1 hC1 c4 hb hp hseen
 go_wp2_with fail
 go_ret
 exact ⟨rfl,hR.out⟩
theorem barrier_any (bd:Nat) (F:Nat->Prop) (D:Dev) (w:World) (h:DAt w bd F D) (hk:D.taken<=1000000) (hf:D.fall<=9223372036854775807) :
  Calls Tryz.prog 244 #[.pointer (some ⟨bd,0,none⟩)] w fun e w'=>e=.returned (.int .i64 D.barrierE)/\DNext w bd F D.barrier w':=by
 unfold Dev.barrierE Dev.barrier
 cases ho:D.off with
 | true=>exact (barrier_off bd F D w h ho).mono fun e w' ⟨a,b⟩=>⟨by simpa using a,by simpa [<- b] using DNext.same h⟩
 | false=>
  cases hg:D.goes with
  | true=>simpa using barrier_fit bd F D w h ho hk hf hg
  | false=>simpa using barrier_falls bd F D w h ho hk hf hg
end Go.Proofs.YthpfpkikmaiddaaGreatDoor.Pk
namespace Go.Proofs.YthpfpkikmaiddaaGreatDoor.Pk
open Go.RowKit Go.Shelf
attribute [local go_sem] Oper.semAt_some
end Go.Proofs.YthpfpkikmaiddaaGreatDoor.Pk
namespace Go.Proofs.YthpfpkikmaiddaaGreatDoor.Pk
open Go.RowKit Go.Shelf
attribute [local go_sem] Oper.semAt_some
end Go.Proofs.YthpfpkikmaiddaaGreatDoor.Pk
namespace Go.Proofs.YthpfpkikmaiddaaGreatDoor.Pk
open Go.RowKit
end Go.Proofs.YthpfpkikmaiddaaGreatDoor.Pk
