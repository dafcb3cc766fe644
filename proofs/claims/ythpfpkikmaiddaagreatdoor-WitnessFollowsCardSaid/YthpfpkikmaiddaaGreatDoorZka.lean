/- - -/
import Derived.Laws.LoneSync
import Derived.Test.YthpfpkikmaiddaaGreatDoorZkv
set_option linter.all false
set_option maxHeartbeats 1600000
set_option maxRecDepth 100000
namespace Go.Proofs.YthpfpkikmaiddaaGreatDoor
open Go Go.RowKit
def kcells (s:ByteArray) (h u:Nat) (d:Int) (v:Value):List Value:=[.string s,.int .i64 (h:Int),.int .i64 (u:Int),.int .u32 d,.int .i32 0,.int .u32 0,v]
def tcells (s:ByteArray) (h:Nat):List Value:=(List.range (2*2 ^ h)).map fun p=>Value.string (plc s h p)
theorem tcells_get (s:ByteArray) (h p:Nat) (hp:p<2*2 ^ h):(tcells s h)[p]?=some (.string (plc s h p)):=by simp [tcells,hp]
def treeV (h:Nat):Option Nat->Value
 | none=>.slice none 0 0
 | some t=>.slice (some ⟨t,0,none⟩) (2*2 ^ h) (2*2 ^ h)
def doneV:Option Nat->Int
 | none=>0
 | some _=>1
structure KeyAt (w:World) (b:Nat) (O:Option Nat) (s:ByteArray) (h u:Nat):Prop where
 blk:Blk w b (kcells s h u (doneV O) (treeV h O)) 145
 tree:∀ t,O=some t->t ≠ b/\Blk w t (tcells s h) 9
 low:h<=4
theorem KeyAt.lt {w:World} {b:Nat} {O:Option Nat} {s:ByteArray} {h u:Nat} (k:KeyAt w b O s h u):b<w.heap.size:=k.blk.lt
theorem KeyAt.chg {S:Nat->Prop} {w w':World} {b:Nat} {O:Option Nat} {s:ByteArray} {h u:Nat} (k:KeyAt w b O s h u) (hc:Pk.Chg S w w') (h1:¬ S b) (h2:∀ t,O=some t->¬ S t):KeyAt w' b O s h u:=
 ⟨hc.blk k.blk h1,fun t e=>⟨(k.tree t e).1,hc.blk (k.tree t e).2 (h2 t e)⟩,k.low⟩
theorem KeyAt.below {B:Nat} {w w':World} {b:Nat} {O:Option Nat} {s:ByteArray} {h u:Nat} (k:KeyAt w b O s h u) (hb:Below B w w') (h1:b<B) (h2:∀ t,O=some t->t<B):KeyAt w' b O s h u:=
 k.chg (Pk.Chg.of_below hb) (by omega) (fun t e=>by have:=h2 t e; omega)
theorem KeyAt.here {w w':World} {b:Nat} {O:Option Nat} {s:ByteArray} {h u:Nat} (k:KeyAt w b O s h u) (hb:Below w.heap.size w w'):KeyAt w' b O s h u:=
 k.below hb k.lt (fun t e=>(k.tree t e).2.lt)
theorem KeyAt.kis {w w':World} {b:Nat} {O:Option Nat} {s:ByteArray} {h u:Nat} (k:KeyAt w b O s h u) (hK:KIs w) (hc:Pk.Chg (fun i=>i=b) w w'):KIs w':=
 hK.chg hc (fun e=>hK.blk_ne k.blk e.symm)
structure KeyTo (w:World) (b:Nat) (O:Option Nat) (s:ByteArray) (h u:Nat) (w':World):Prop where
 ex:∃ O',KeyAt w' b O' s h u/\(O'=O∨∀ t,O'=some t->w.heap.size<=t)
 chg:Pk.Chg (fun i=>i=b) w w'
theorem new_no (s:ByteArray) (n:Int) (w:World) (hn:n<0∨4<n) :
  Calls Tryz.prog 34 #[.string s,.int .i64 n] w fun e w'=>e=.returned (.tuple #[.pointer none,.int .i64 1])/\w'=w:=by
 rcases hn with hn | hn
 ·go_enter Tryz.func34,Tryz.ntmps34
  go_wp2_with fail
  go_returns
  exact ⟨rfl,rfl⟩
 ·have h0:¬ n<0:=by omega
  go_enter Tryz.func34,Tryz.ntmps34
  go_wp2_with fail
  go_returns
  exact ⟨rfl,rfl⟩
theorem new_ok (s:ByteArray) (h:Nat) (w:World) (hh:h<=4) :
  Calls Tryz.prog 34 #[.string s,.int .i64 (h:Int)] w fun e w'=>e=.returned (.tuple #[.pointer (some ⟨w.heap.size,0,none⟩),.int .i64 0])/\KeyAt w' w.heap.size none s h 0/\Below w.heap.size w w':=by
 have h0:¬ (h:Int)<0:=by omega
 have h1:¬ 4<(h:Int):=by omega
 have hA:KeyAt (w.alloc (.cells #[.string s,.int .i64 (h:Int),.int .i64 0,.int .u32 0,.int .i32 0,.int .u32 0,.slice none 0 0] 145)) w.heap.size none s h 0:=⟨Blk.new w (kcells s h 0 0 (.slice none 0 0)) _,(fun t e=>by cases e),hh⟩
 have hB:Box (Below w.heap.size w (w.alloc (.cells #[.string s,.int .i64 (h:Int),.int .i64 0,.int .u32 0,.int .i32 0,.int .u32 0,.slice none 0 0] 145))):=⟨(Below.refl _ _).alloc (Nat.le_refl _) _⟩
 replace hA:=Box.mk hA
 go_enter Tryz.func34,Tryz.ntmps34
 go_wp2_with fail
 go_returns
 exact ⟨rfl,hA.out,hB.out⟩
theorem numbers_any (b:Nat) (O:Option Nat) (s:ByteArray) (h u:Nat) (w:World) (k:KeyAt w b O s h u) :
  Calls Tryz.prog 84 #[.pointer (some ⟨b,0,none⟩)] w fun e w'=>e=.returned (.int .i64 ((2 ^ h:Nat):Int))/\w'=w:=by
 have c1:=k.blk.cell 1
 have hh:=k.low
 clear k
 obtain rfl | rfl | rfl | rfl | rfl:h=0∨h=1∨h=2∨h=3∨h=4:=by omega
 all_goals
  simp only [kcells] at c1
  go_enter Tryz.func84,Tryz.ntmps84
  go_wp2_with fail
  go_ret
  exact ⟨rfl,rfl⟩
theorem used_any (b:Nat) (O:Option Nat) (s:ByteArray) (h u:Nat) (w:World) (k:KeyAt w b O s h u) :
  Calls Tryz.prog 47 #[.pointer (some ⟨b,0,none⟩)] w fun e w'=>e=.returned (.int .i64 (u:Int))/\w'=w:=by
 have c2:w.cell? ⟨b,2,none⟩=some (.int .i64 (u:Int)):=k.blk.cell 2
 have hl:=run_call_load (P:=Tryz.prog) Tryz.func153 (by kernel_rfl) (by kernel_rfl) (by kernel_rfl) .i64 (by kernel_rfl) c2
 clear k
 go_enter Tryz.func47,Tryz.ntmps47
 go_wp2
 go_ret
 exact ⟨rfl,rfl⟩
theorem left_any (b:Nat) (O:Option Nat) (s:ByteArray) (h u:Nat) (w:World) (k:KeyAt w b O s h u) (hu:u<=2 ^ h) :
  Calls Tryz.prog 70 #[.pointer (some ⟨b,0,none⟩)] w fun e w'=>e=.returned (.int .i64 ((2 ^ h-u:Nat):Int))/\w'=w:=by
 have hN:=numbers_any b O s h u w k
 have hU:=used_any b O s h u w k
 have hp:=pow_le h k.low
 obtain ⟨m,hm⟩:∃ m,2 ^ h=m:=⟨_,rfl⟩
 rw [hm] at hN hp hu ⊢
 clear k hm
 go_enter Tryz.func70,Tryz.ntmps70
 go_wp2_with fail
 refine hN.mono ?_
 rintro e w1 ⟨rfl,rfl⟩
 go_wp2_with fail
 refine hU.mono ?_
 rintro e w1 ⟨rfl,rfl⟩
 go_wp2_with fail
 go_ret
 exact ⟨by rw [Ending.returned.injEq]; exact u_eq (by omega),rfl⟩
theorem cas_hit (b:Nat) (x y:Int) (w:World) (hc:w.cell? ⟨b,2,none⟩=some (.int .i64 x)) (hz:w.frozen? ⟨b,2,none⟩=false) :
  Calls Tryz.prog 85 #[.pointer (some ⟨b,2,none⟩),.int .i64 x,.int .i64 y] w fun e w'=>e=.returned (.bool true)/\w'=w.setCell ⟨b,2,none⟩ (.int .i64 y):=by
 have hl:=run_call_cas_hit (P:=Tryz.prog) Tryz.func139 (by kernel_rfl) (by kernel_rfl) (by kernel_rfl) .i64 (by kernel_rfl) (y:=y) hc hz
 go_enter Tryz.func85,Tryz.ntmps85
 go_wp2
 go_ret
 exact ⟨rfl,rfl⟩
theorem KeyAt.use {w:World} {b:Nat} {O:Option Nat} {s:ByteArray} {h u:Nat} (k:KeyAt w b O s h u) (v:Nat):KeyAt (w.setCell ⟨b,2,none⟩ (.int .i64 (v:Int))) b O s h v:=by
 refine ⟨?_,fun t e=>⟨(k.tree t e).1,?_⟩,k.low⟩
 ·have:=k.blk.setCell 2 (.int .i64 (v:Int))
  exact this
 ·have h1:=(k.tree t e).2
  unfold Blk at h1 ⊢
  rw [<- h1]
  exact Below.heap_setCell _ _ _ _ (k.tree t e).1
theorem KeyAt.cell2 {w:World} {b:Nat} {O:Option Nat} {s:ByteArray} {h u:Nat} (k:KeyAt w b O s h u):w.cell? ⟨b,2,none⟩=some (.int .i64 (u:Int)):=k.blk.cell 2
theorem take_ok (b:Nat) (O:Option Nat) (s:ByteArray) (h u c:Nat) (w:World) (k:KeyAt w b O s h u) (hc:u+c<=2 ^ h) :
  Calls Tryz.prog 154 #[.pointer (some ⟨b,0,none⟩),.int .i64 (c:Int)] w fun e w'=>e=.returned (.tuple #[.int .i64 (u:Int),.bool true])/\w'=w.setCell ⟨b,2,none⟩ (.int .i64 ((u+c:Nat):Int)):=by
 have hN:=numbers_any b O s h u w k
 have hU:=used_any b O s h u w k
 have hp:=pow_le h k.low
 have hC:=cas_hit b (u:Int) ((u+c:Nat):Int) w k.cell2 (k.blk.free 2)
 rw [show ((u+c:Nat):Int)=(u:Int)+(c:Int) by omega] at hC
 obtain ⟨m,hm⟩:∃ m,2 ^ h=m:=⟨_,rfl⟩
 rw [hm] at hN hp hc
 rw [show ((u+c:Nat):Int)=(u:Int)+(c:Int) by omega]
 clear k hm
 go_enter Tryz.func154,Tryz.ntmps154
 go_wp2_with fail
 go_loopw [6] (fun q wr=>wr=w) (fun _ _=>0)
 case atStart=>rfl
 case round=>
  obtain rfl:=hrel
  go_wp2_with fail
  refine hU.mono ?_
  rintro e w1 ⟨rfl,rfl⟩
  go_wp2_with fail
  refine hN.mono ?_
  rintro e w1 ⟨rfl,rfl⟩
  go_wp2_with fail
  refine hC.mono ?_
  rintro e w1 ⟨rfl,rfl⟩
  go_wp2_with fail
  go_returns
  exact ⟨rfl,rfl⟩
def skipN (u:Nat) (n:Int) (h:Nat):Nat:=max u (min n.toNat (2 ^ h))
theorem skip_no (b:Nat) (O:Option Nat) (s:ByteArray) (h u:Nat) (n:Int) (w:World) (k:KeyAt w b O s h u) (hn:min n ((2 ^ h:Nat):Int)<=(u:Int)) :
  Calls Tryz.prog 38 #[.pointer (some ⟨b,0,none⟩),.int .i64 n] w fun e w'=>e=.returned (.tuple #[])/\w'=w:=by
 have hN:=numbers_any b O s h u w k
 have hU:=used_any b O s h u w k
 have hp:=pow_le h k.low
 obtain ⟨m,hm⟩:∃ m,2 ^ h=m:=⟨_,rfl⟩
 rw [hm] at hN hp hn
 clear k hm
 obtain ⟨c,hc⟩:∃ c,min n (m:Int)=c:=⟨_,rfl⟩
 rw [hc] at hn
 have hcl:c=n/\n<=m∨c=m/\(m:Int)<n:=by omega
 clear hc
 go_enter Tryz.func38,Tryz.ntmps38
 go_wp2_with fail
 refine hN.mono ?_
 rintro e w1 ⟨rfl,rfl⟩
 rcases hcl with ⟨rfl,hcl⟩ | ⟨rfl,hcl⟩
 all_goals
  go_wp2_with fail
  refine hU.mono ?_
  rintro e w1 ⟨rfl,rfl⟩
  go_wp2_with fail
  go_loopw [4] (fun q wr=>wr=w1/\q=.int .i64 (u:Int)) (fun _ _=>0)
  case atStart=>exact ⟨rfl,rfl⟩
  case round=>
   obtain ⟨rfl,rfl⟩:=hrel
   go_wp2_with fail
   go_end0
   exact ⟨rfl,rfl⟩
theorem skip_yes (b:Nat) (O:Option Nat) (s:ByteArray) (h u c:Nat) (n:Int) (w:World) (k:KeyAt w b O s h u) (hc:min n ((2 ^ h:Nat):Int)=(c:Int)) (hn:u<c) :
  Calls Tryz.prog 38 #[.pointer (some ⟨b,0,none⟩),.int .i64 n] w fun e w'=>e=.returned (.tuple #[])/\w'=w.setCell ⟨b,2,none⟩ (.int .i64 (c:Int)):=by
 have hN:=numbers_any b O s h u w k
 have hU:=used_any b O s h u w k
 have hU2:=used_any b O s h c _ (k.use c)
 have hC:=cas_hit b (u:Int) (c:Int) w k.cell2 (k.blk.free 2)
 have hp:=pow_le h k.low
 obtain ⟨m,hm⟩:∃ m,2 ^ h=m:=⟨_,rfl⟩
 rw [hm] at hN hp hc
 clear k hm
 obtain ⟨w2,hw2⟩:∃ w2,w.setCell ⟨b,2,none⟩ (.int .i64 (c:Int))=w2:=⟨_,rfl⟩
 rw [hw2] at hU2 hC ⊢
 replace hw2:=Box.mk hw2
 go_enter Tryz.func38,Tryz.ntmps38
 go_wp2_with fail
 refine hN.mono ?_
 rintro e w1 ⟨rfl,rfl⟩
 go_wp2_with fail
 refine hU.mono ?_
 rintro e w1 ⟨rfl,rfl⟩
 go_wp2_with fail
 go_loopw [4] (fun q wr=>∃ a:Nat,q=.int .i64 (a:Int)/\(a=u/\wr=w1∨a=c/\wr=w2)) (fun q _=>c-(intOf q).toNat)
 case atStart=>exact ⟨u,rfl,Or.inl ⟨rfl,rfl⟩⟩
 case round=>
  obtain ⟨a,rfl,⟨rfl,rfl⟩ | ⟨rfl,rfl⟩⟩:=hrel
  ·go_wp2_with fail
   refine hC.mono ?_
   rintro e w3 ⟨rfl,rfl⟩
   go_wp2_with fail
   refine hU2.mono ?_
   rintro e w3 ⟨rfl,rfl⟩
   go_wp2_with fail
   refine ⟨⟨_,rfl,Or.inr (by simp)⟩,by simp [intOf]; omega⟩
  ·go_wp2_with fail
   go_end0
   exact ⟨rfl,rfl⟩
theorem skip_any (b:Nat) (O:Option Nat) (s:ByteArray) (h u:Nat) (n:Int) (w:World) (k:KeyAt w b O s h u) :
  Calls Tryz.prog 38 #[.pointer (some ⟨b,0,none⟩),.int .i64 n] w fun e w'=>e=.returned (.tuple #[])/\KeyAt w' b O s h (skipN u n h)/\Pk.Chg (fun i=>i=b) w w':=by
 by_cases hn:min n ((2 ^ h:Nat):Int)<=(u:Int)
 ·refine (skip_no b O s h u n w k hn).mono ?_
  rintro e w' ⟨rfl,rfl⟩
  have:skipN u n h=u:=by unfold skipN; omega
  rw [this]
  exact ⟨rfl,k,Pk.Chg.refl _ _⟩
 ·obtain ⟨c,hc⟩:∃ c:Nat,min n ((2 ^ h:Nat):Int)=(c:Int):=⟨(min n ((2 ^ h:Nat):Int)).toNat,by omega⟩
  refine (skip_yes b O s h u c n w k hc (by omega)).mono ?_
  rintro e w' ⟨rfl,rfl⟩
  have:skipN u n h=c:=by unfold skipN; omega
  rw [this]
  exact ⟨rfl,k.use c,(Pk.Chg.refl (fun i=>i=b) w).setCell (p:=⟨b,2,none⟩) rfl _⟩
def tw (f:Nat->ByteArray) (n:Nat):List Value:=(List.range n).map fun p=>Value.string (f p)
theorem tw_length (f:Nat->ByteArray) (n:Nat):(tw f n).length=n:=by simp [tw]
theorem tw_get (f:Nat->ByteArray) (n p:Nat) (hp:p<n):(tw f n)[p]?=some (.string (f p)):=by simp [tw,hp]
theorem tw_congr {f g:Nat->ByteArray} {n:Nat} (h:∀ p,p<n->f p=g p):tw f n=tw g n:=by
 unfold tw
 apply List.map_congr_left
 intro p hp
 rw [h p (by simpa using hp)]
theorem tw_set (f:Nat->ByteArray) (n i:Nat) (x:ByteArray):(tw f n).set i (.string x)=tw (fun p=>if p=i then x else f p) n:=by
 apply List.ext_getElem?
 intro j
 rw [List.getElem?_set]
 by_cases hj:j<n
 ·rw [tw_get _ _ _ hj,tw_length]
  by_cases h:i=j
  ·subst h; rw [if_pos rfl,if_pos hj,tw_get _ _ _ hj,if_pos rfl]
  ·rw [if_neg h,tw_get _ _ _ hj,if_neg (by omega)]
 ·have h1:(tw f n)[j]?=none:=List.getElem?_eq_none (by rw [tw_length]; omega)
  have h2:(tw (fun p=>if p=i then x else f p) n)[j]?=none:=List.getElem?_eq_none (by rw [tw_length]; omega)
  rw [h1,h2,tw_length]
  split
  ·rw [if_neg (by omega)]
  ·rfl
theorem tw_none (n:Nat):tw (fun _=>⟨#[]⟩) n=List.replicate n (.string ⟨#[]⟩):=by
 unfold tw
 rw [List.map_const',List.length_range]
def lf (s:ByteArray) (h m n p:Nat):ByteArray:=if m<=p/\p<m+n then plc s h p else ⟨#[]⟩
def nd (s:ByteArray) (h i p:Nat):ByteArray:=if i<p then plc s h p else ⟨#[]⟩
theorem plant_any (s:ByteArray) (h:Nat) (w:World) (hK:KIs w) (hs:s.size<=1125899906842624) (hh:h<=4) :
  Calls Tryz.prog 176 #[.string s,.int .i64 (h:Int)] w fun e w'=>e=.returned (treeV h (some w.heap.size))/\Blk w' w.heap.size (tcells s h) 9/\Below w.heap.size w w':=by
 obtain ⟨m,hm⟩:∃ m,2 ^ h=m:=⟨_,rfl⟩
 have hp:(2:Int) ^ h=(m:Int):=by rw [<- hm]; simp
 have hm16:m<=16:=by rw [<- hm]; exact pow_le h hh
 have hm0:0<m:=by rw [<- hm]; exact Nat.two_pow_pos h
 obtain ⟨i0,hi,hz0,hz1,hz2⟩:=info_parts info_s
 have hmk:=run_make (P:=Tryz.prog) (w:=w) 143 9 i0 (.string ⟨#[]⟩) Tryz.underlying143 hi hz0 .i64 .i64 (2*(m:Int)) (2*(m:Int)) (by omega) (by omega) (by rw [hz2]; omega) (by omega)
 obtain ⟨w1,hw1⟩:∃ w1,w.alloc (.cells (madeCells (Value.string ⟨#[]⟩).cells ((2*(m:Int)).toNat*i0.size)) 9)=w1:=⟨_,rfl⟩
 rw [hw1,show (2*(m:Int)).toNat=2*m by omega] at hmk
 have hcells:(madeCells (Value.string ⟨#[]⟩).cells ((2*(m:Int)).toNat*i0.size)).toList=tw (lf s h m 0) (2*m):=by
  rw [hz1,Nat.mul_one,show (Value.string ⟨#[]⟩).cells=#[.string ⟨#[]⟩] from rfl,toList_madeCells_one,show (2*(m:Int)).toNat=2*m by omega,<- tw_none]
  exact tw_congr fun p _=>by rw [lf,if_neg (by omega)]
 have hL0:Box (Blk w1 w.heap.size (tw (lf s h m 0) (2*m)) 9):=⟨by rw [<- hcells,<- hw1]; exact Blk.new w _ _⟩
 have hB0:Box (Below w.heap.size w w1):=⟨by rw [<- hw1]; exact (Below.refl _ _).alloc (Nat.le_refl _) _⟩
 have hP:=fun w1 (hK1:KIs w1) n (hn:n<65536)=>public_ok s n w1 hK1 hn hs
 have hleaf:∀ n,n<m->plc s h (m+n)=pubT s n:=fun n hn=>by rw [<- hm]; exact plc_leaf s h n (by omega)
 have hnode:∀ i,0<i->i<m->plc s h i=nodeV (plc s h (2*i)) (plc s h (2*i+1)):=fun i h0 hi=>plc_node s h i h0 (by omega)
 have htc:tcells s h=tw (plc s h) (2*m):=by rw [tcells,hm]; rfl
 have htv:treeV h (some w.heap.size)=.slice (some ⟨w.heap.size,0,none⟩) (2*m) (2*m):=by rw [treeV,hm]
 rw [htv]
 have hKW:=Box.mk hK
 clear hK
 replace hP:=Box.mk hP
 replace hleaf:=Box.mk hleaf
 replace hnode:=Box.mk hnode
 replace htc:=Box.mk htc
 replace hw1:=Box.mk hw1
 clear hcells htv hm hi hz0 hz1 hz2 hs
 obtain ⟨bt,hbt⟩:∃ bt,w.heap.size=bt:=⟨_,rfl⟩
 rw [hbt] at hmk hL0
 rw [hbt]
 replace hbt:=Box.mk hbt
 go_enter Tryz.func176,Tryz.ntmps176
 go_wp2_with fail
 go_loopw [7,15] (fun _ q wr=>∃ n:Nat,n<=m/\q=.int .i64 (n:Int)/\Box (Blk wr bt (tw (lf s h m n) (2*m)) 9)/\Box (Below w.heap.size w wr)) (fun _ q _=>m-(intOf q).toNat)
 case atStart=>exact ⟨0,by omega,rfl,hL0,hB0⟩
 case round=>
  clear hL0 hB0 hmk
  obtain ⟨n,hn,rfl,hL,hB⟩:=hrel
  by_cases hlt:n<m
  ·have hF:=hP.out wr (hKW.out.below hB.out hKW.out.lt) n (by omega)
   obtain ⟨x,hx⟩:∃ x,pubT s n=x:=⟨_,rfl⟩
   rw [hx] at hF
   have hnext:(tw (lf s h m n) (2*m)).set (m+n) (.string x)=tw (lf s h m (n+1)) (2*m):=by
    rw [tw_set]
    refine tw_congr fun p hp=>?_
    rw [<- hx,<- hleaf.out n hlt]
    unfold lf
    by_cases h1:p=m+n
    ·rw [if_pos h1,if_pos (by omega),h1]
    ·rw [if_neg h1]
     by_cases h2:m<=p/\p<m+n
     ·rw [if_pos h2,if_pos (by omega)]
     ·rw [if_neg h2,if_neg (by omega)]
   replace hx:=Box.mk hx
   replace hnext:=Box.mk hnext
   go_wp2_with fail
   refine hF.mono ?_
   clear hF
   rintro e w2 ⟨rfl,hb2⟩
   have hbtl:bt<wr.heap.size:=hL.out.lt
   have hL2:Blk w2 bt (tw (lf s h m n) (2*m)) 9:=hL.out.below hb2 hbtl
   have hc:=hL2.cell (m+n)
   rw [tw_get _ _ _ (by omega)] at hc
   have hfz:=hL2.free (m+n)
   have hL3:=hL2.setCell (m+n) (.string x)
   rw [hnext.out] at hL3
   have hB3:Box (Below w.heap.size w (w2.setCell ⟨bt,m+n,none⟩ (.string x))):=⟨(mono_bel hB.out hb2 (Nat.le_refl _)).setCell (by have:=hbt.out; simp; omega) _⟩
   replace hL3:=Box.mk hL3
   have hidx:((m:Int)+(n:Int)).toNat=m+n:=by omega
   clear hL hB hb2 hL2 hbtl
   go_wp2_with fail
   exact ⟨⟨n+1,by omega,by go_num,hL3,hB3⟩,by simp [intOf]; omega⟩
  ·obtain rfl:m=n:=by omega
   obtain ⟨k,hk1,hk2⟩:∃ k,k+1<=m/\m<=k+1:=⟨m-1,by omega,by omega⟩
   have hL2:Box (Blk wr bt (tw (nd s h k) (2*m)) 9):=⟨by
    rw [<- tw_congr (f:=lf s h m m) fun p hp=>?_]
    ·exact hL.out
    ·unfold lf nd
     by_cases h1:k<p
     ·rw [if_pos h1,if_pos (by omega)]
     ·rw [if_neg h1,if_neg (by omega)]⟩
   clear hL hlt hP hleaf
   go_wp2_with fail
   go_loopw [8] (fun q wr=>∃ i:Nat,i<=k/\q=.int .i64 (i:Int)/\Box (Blk wr bt (tw (nd s h i) (2*m)) 9)/\Box (Below w.heap.size w wr)) (fun q _=>(intOf q).toNat)
   case atStart=>exact ⟨k,by omega,u_eq (by omega),hL2,hB⟩
   case round=>
    clear hL2 hB
    obtain ⟨i,hi,rfl,hL,hB⟩:=hrel
    by_cases h0:0<i
    ·have hn1:=hnode.out i h0 (by omega)
     have hsa:=plc_size s h (2*i) (by omega)
     have hsb:=plc_size s h (2*i+1) (by omega)
     have c1:=hL.out.cell (2*i)
     have c2:=hL.out.cell (2*i+1)
     rw [tw_get _ _ _ (by omega),nd,if_pos (by omega)] at c1 c2
     obtain ⟨x,hx⟩:∃ x,plc s h (2*i)=x:=⟨_,rfl⟩
     obtain ⟨y,hy⟩:∃ y,plc s h (2*i+1)=y:=⟨_,rfl⟩
     obtain ⟨z,hz⟩:∃ z,nodeV x y=z:=⟨_,rfl⟩
     rw [hx] at hsa c1
     rw [hy] at hsb c2
     rw [hx,hy,hz] at hn1
     have hF:=fun w1 (hK1:KIs w1)=>over_any x y w1 hK1 hsa hsb
     rw [hz] at hF
     have hnext:(tw (nd s h i) (2*m)).set i (.string z)=tw (nd s h (i-1)) (2*m):=by
      rw [tw_set]
      refine tw_congr fun p hp=>?_
      rw [<- hn1]
      unfold nd
      by_cases h1:p=i
      ·rw [if_pos h1,if_pos (by omega),h1]
      ·rw [if_neg h1]
       by_cases h2:i<p
       ·rw [if_pos h2,if_pos (by omega)]
       ·rw [if_neg h2,if_neg (by omega)]
     replace hx:=Box.mk hx
     replace hy:=Box.mk hy
     replace hz:=Box.mk hz
     replace hnext:=Box.mk hnext
     have e1:(2*(i:Int)).toNat=2*i:=by omega
     have e3:IntKind.i64.wrap (2*(i:Int))=2*(i:Int):=by rw [IntKind.wrap_i64]; omega
     have e4:IntKind.i64.wrap (2*(i:Int)+1)=2*(i:Int)+1:=by rw [IntKind.wrap_i64]; omega
     have e2:(2*(i:Int)+1).toNat=2*i+1:=by omega
     have d1:wr.drew.cell? ⟨bt,2*i,none⟩=some (.string x):=c1
     have d2:wr.drew.cell? ⟨bt,2*i+1,none⟩=some (.string y):=c2
     clear hsa hsb hn1
     go_wp2_with fail
     refine region_go (C:=fun w'=>w'.cell? ⟨bt,2*i,none⟩=some (.string x)/\w'.cell? ⟨bt,2*i+1,none⟩=some (.string y)) rfl ?_
     refine go_calms [0,1,2,3,4,5,6,7,8,9,10,11,12] 3 rfl (by kernel_rfl) (by kernel_rfl) (by kernel_rfl) ⟨d1,d2⟩ ?_
     simp [nth]
     try simp only [Act.put]
     repeat (go_big_quiet_step (first | exact fun _=>rfl | rfl))
     refine quiet_any rfl (.int .i64 (2*(i:Int))) (fun w' hw'=>by go_simp) ?_
     simp only [Act.put,zT9,zS9,zZ9]
     refine quiet_any rfl (.pointer (some ⟨bt,2*i,none⟩)) (fun w' hw'=>by go_simp; omega) ?_
     simp only [Act.put,zT9,zS9,zZ9]
     refine quiet_any rfl (.string x) (fun w' hw'=>by have h:=hw'.1; go_simp) ?_
     simp only [Act.put,zT9,zS9,zZ9]
     repeat (go_big_quiet_step (first | exact fun _=>rfl | rfl))
     refine quiet_any rfl (.int .i64 (2*(i:Int))) (fun w' hw'=>by go_simp) ?_
     simp only [Act.put,zT9,zS9,zZ9]
     refine quiet_any rfl (.int .i64 (2*(i:Int)+1)) (fun w' hw'=>by go_simp) ?_
     simp only [Act.put,zT9,zS9,zZ9]
     refine quiet_any rfl (.pointer (some ⟨bt,2*i+1,none⟩)) (fun w' hw'=>by go_simp; omega) ?_
     simp only [Act.put,zT9,zS9,zZ9]
     refine quiet_any rfl (.string y) (fun w' hw'=>by have h:=hw'.2; go_simp) ?_
     simp only [Act.put,zT9,zS9,zZ9]
     refine wpQuiet_nil ?_
     refine go_forced 13 (by kernel_rfl) (goOp_wp 13 rfl rfl (fun K hK=>?_))
     go_simp
     refine (hF wr.drew (hKW.out.below (hB.out.trans ((dB wr).mono hB.out.size)) hKW.out.lt)).mono ?_
     rintro e w2 ⟨rfl,hb2⟩
     have hL2:Blk w2 bt (tw (nd s h i) (2*m)) 9:=(show Blk wr.drew bt _ _ from hL.out).below hb2 hL.out.lt
     have C2:w2.cell? ⟨bt,2*i,none⟩=some (.string x)/\w2.cell? ⟨bt,2*i+1,none⟩=some (.string y):=by
      rw [hL2.cell,hL2.cell,<- hL.out.cell,<- hL.out.cell]; exact ⟨d1,d2⟩
     refine hK _ _ C2 ?_
     clear hF hK K
     refine go_calms [14] 1 rfl (by kernel_rfl) (by kernel_rfl) (by kernel_rfl) C2 ?_
     simp [nth]
     try simp only [Act.put,zT9,zS9,zZ9]
     refine quiet_any rfl (.pointer (some ⟨bt,i,none⟩)) (fun w' hw'=>by go_simp; omega) ?_
     simp only [Act.put,zT9,zS9,zZ9]
     refine wpQuiet_nil ?_
     have hc:=hL2.cell i
     rw [tw_get _ _ _ (by omega)] at hc
     have hfz:=hL2.free i
     have hL3:=Box.mk (hL2.setCell i (.string z))
     rw [hnext.out] at hL3
     have hB3:Box (Below w.heap.size w (w2.setCell ⟨bt,i,none⟩ (.string z))):=⟨(mono_bel (hB.out.trans ((dB wr).mono hB.out.size)) hb2 (Nat.le_refl _)).setCell (by have:=hbt.out; simp; omega) _⟩
     have C3:(w2.setCell ⟨bt,i,none⟩ (.string z)).cell? ⟨bt,2*i,none⟩=some (.string x)/\(w2.setCell ⟨bt,i,none⟩ (.string z)).cell? ⟨bt,2*i+1,none⟩=some (.string y):=
      ⟨(World.cell?_setCell_other _ ⟨bt,i,none⟩ ⟨bt,2*i,none⟩ _ (by simp <;> omega)).trans C2.1,(World.cell?_setCell_other _ ⟨bt,i,none⟩ ⟨bt,2*i+1,none⟩ _ (by simp <;> omega)).trans C2.2⟩
     clear hL hB hb2 hL2
     refine go_forced 15 (by kernel_rfl) (goOp_wp 15 rfl rfl (fun K hK=>?_))
     go_simp
     refine hK _ _ C3 ?_
     clear hK K
     refine go_done (by kernel_rfl) ?_
     go_simp
     go_wp2_with fail
     exact ⟨⟨i-1,by omega,u_eq (by omega),hL3,hB3⟩,by simp [intOf]; omega⟩
    ·obtain rfl:i=0:=by omega
     have hL2:Blk wr bt (tcells s h) 9:=by
      rw [htc.out,<- tw_congr (f:=nd s h 0) fun p hp=>?_]
      ·exact hL.out
      ·unfold nd
       by_cases h1:0<p
       ·rw [if_pos h1]
       ·rw [if_neg h1,plc,if_pos (by omega)]
     replace hL2:=Box.mk hL2
     clear hL
     go_wp2_with fail
     go_ret
     exact ⟨rfl,hL2.out,by have:=hB.out; rwa [hbt.out] at this⟩
end Go.Proofs.YthpfpkikmaiddaaGreatDoor
