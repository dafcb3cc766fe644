/- - -/
import Derived.Deep.Cut
import Derived.Test.YthpfpkikmaiddaaGreatDoorZou
import Derived.Test.YthpfpkikmaiddaaGreatDoorZkr
import Derived.Test.YthpfpkikmaiddaaGreatDoorZka
set_option linter.all false
set_option maxHeartbeats 3200000
set_option maxRecDepth 100000
namespace Go.Proofs.YthpfpkikmaiddaaGreatDoor
open Go Go.RowKit
def tx (s:ByteArray) (j n:Nat):List Value:=(List.range n).map fun i=>Value.string (lvl s j i)
theorem tx_get (s:ByteArray) (j n i:Nat) (hi:i<n):(tx s j n)[i]?=some (.string (lvl s j i)):=by simp [tx,hi]
theorem tx_succ (s:ByteArray) (j n:Nat):tx s j (n+1)=tx s j n++[.string (lvl s j n)]:=by simp [tx,List.range_succ]
def lvs (lv:Nat->Value) (n:Nat):List Value:=(List.range n).map lv
theorem lvs_get (lv:Nat->Value) (n i:Nat) (hi:i<n):(lvs lv n)[i]?=some (lv i):=by simp [lvs,hi]
theorem lvs_succ (lv:Nat->Value) (n:Nat):lvs lv (n+1)=lvs lv n++[lv n]:=by simp [lvs,List.range_succ]
theorem lvs_congr {lv lu:Nat->Value} {n:Nat} (h:∀ i,i<n->lv i=lu i):lvs lv n=lvs lu n:=by
 unfold lvs
 apply List.map_congr_left
 intro i hi
 exact h i (by simpa using hi)
theorem info_ss:(Tryz.prog.info? 22).map (fun i=>(i.zero,i.size,i.bytes))=some (some (.slice none 0 0),1,24):=by kernel_rfl
def qcells (s:ByteArray) (h:Nat) (v:Value) (u:Nat):List Value:=[.string s,.int .i64 (h:Int),v,.int .i64 (u:Int)]
structure QPart (w:World) (b:Nat) (s:ByteArray) (h u:Nat) (bl cl:Nat) (lv:Nat->Value) (j:Nat):Prop where
 blk:Blk w b (qcells s h (.slice (some ⟨bl,0,none⟩) (j+1) cl) u) 178
 row:Pk.Row w 22 1 (.slice (some ⟨bl,0,none⟩) (j+1) cl) (j+1) (lvs lv (j+1))
 lev:∀ i,i<=j->∃ g c,lv i=.slice (some ⟨g,0,none⟩) (2 ^ (h-i)) c/\Pk.Row w 9 1 (.slice (some ⟨g,0,none⟩) (2 ^ (h-i)) c) (2 ^ (h-i)) (tx s i (2 ^ (h-i)))
def Ty (w:World) (b:Nat) (t:TypeId):Prop:=∃ cs,w.heap[b]?=some (.cells cs t)
theorem Ty.inj {w:World} {b:Nat} {t u:TypeId} (h:Ty w b t) (k:Ty w b u):t=u:=by
 obtain ⟨cs,h⟩:=h
 obtain ⟨ds,k⟩:=k
 rw [h] at k
 cases k; rfl
theorem Blk.ty {w:World} {b:Nat} {cs:List Value} {t:TypeId} (h:Blk w b cs t):Ty w b t:=⟨_,h⟩
theorem Row_ty {w:World} {e:TypeId} {size n c g:Nat} {xs:List Value} (h:Pk.Row w e size (.slice (some ⟨g,0,none⟩) n c) n xs):Ty w g e:=by
 obtain ⟨_,⟨h0,_⟩ | ⟨g2,cap,cur,h0,_,hg,_⟩⟩:=h
 ·cases h0
 ·cases h0
  exact ⟨_,hg⟩
theorem Ty.lt {w:World} {b:Nat} {t:TypeId} (h:Ty w b t):b<w.heap.size:=by
 obtain ⟨cs,h⟩:=h
 exact (Array.getElem?_eq_some_iff.1 h).1
theorem QPart.keep {S:Nat->Prop} {w w':World} {b:Nat} {s:ByteArray} {h u bl cl j:Nat} {lv:Nat->Value} (q:QPart w b s h u bl cl lv j) (hc:Pk.Chg S w w')
  (hS:∀ i t,i<w.heap.size->S i->Ty w i t->t ≠ 178/\t ≠ 22/\t ≠ 9):QPart w' b s h u bl cl lv j:=by
 refine ⟨hc.blk q.blk fun e=>(hS b _ q.blk.lt e q.blk.ty).1 rfl,q.row.chg hc fun k hk e=>?_,fun i hi=>?_⟩
 ·obtain rfl:bl=k:=by simpa [Value.ownBlock] using hk
  exact (hS bl _ (Row_ty q.row).lt e (Row_ty q.row)).2.1 rfl
 ·obtain ⟨g,c,e1,hr⟩:=q.lev i hi
  refine ⟨g,c,e1,hr.chg hc fun k hk e=>?_⟩
  obtain rfl:g=k:=by simpa [Value.ownBlock] using hk
  exact (hS g _ (Row_ty hr).lt e (Row_ty hr)).2.2 rfl
theorem QPart.here {w w':World} {b:Nat} {s:ByteArray} {h u bl cl j:Nat} {lv:Nat->Value} (q:QPart w b s h u bl cl lv j) (hb:Below w.heap.size w w'):QPart w' b s h u bl cl lv j:=
 q.keep (S:=fun _=>False) (chg0 hb) (fun _ _ _ hf _=>hf.elim)
theorem one_new (w:World) (x:Value) (e:TypeId):∀ j u,[x][j]?=some u->(w.alloc (.cells #[x] e)).cell? ((⟨w.heap.size,0,none⟩:Addr).add j)=some u:=fun j u hj=>by
 have hadd:(⟨w.heap.size,0,none⟩:Addr).add j=⟨w.heap.size,j,none⟩:=by unfold Addr.add; split <;> simp_all
 rw [hadd,<- hj]
 exact (Blk.new w [x] e).cell j
theorem QPart.bl_ne {w:World} {b:Nat} {s:ByteArray} {h u bl cl j:Nat} {lv:Nat->Value} (q:QPart w b s h u bl cl lv j):bl ≠ b:=fun e=>by
 have tb:=q.blk.ty
 rw [<- e] at tb
 exact absurd (tb.inj (Row_ty q.row)) (by decide)
theorem QPart.told {w w':World} {b:Nat} {s:ByteArray} {h u bl cl j:Nat} {lv:Nat->Value} {v':Value} {n:Nat} {xs:List Value} (_:QPart w b s h u bl cl lv j) (hp:Pk.PushedRow w 22 1 (.slice (some ⟨bl,0,none⟩) (j+1) cl) n xs v' w') :
  Pk.PushedRow w 22 1 (.slice (some ⟨bl,0,none⟩) (j+1) cl) n xs v' w':=hp
theorem r6new_no (s:ByteArray) (n:Int) (w:World) (hn:n<0∨4<n) :
  Calls Tryz.prog 65 #[.string s,.int .i64 n] w fun e w'=>e=.returned (.tuple #[.pointer none,.int .i64 1])/\w'=w:=by
 rcases hn with hn | hn
 ·go_enter Tryz.func65,Tryz.ntmps65
  go_wp2_with fail
  go_returns
  exact ⟨rfl,rfl⟩
 ·have h0:¬ n<0:=by omega
  go_enter Tryz.func65,Tryz.ntmps65
  go_wp2_with fail
  go_returns
  exact ⟨rfl,rfl⟩
structure LowAt (w0 w:World) (s:ByteArray) (h n:Nat) (v:Value):Prop where
 row:Pk.Row w 9 1 v n (tx s 0 n)
 own:∀ k,v.ownBlock=some k->w0.heap.size<k
 blk:Blk w w0.heap.size (qcells s h (.slice none 0 0) 0) 178
 bel:Below w0.heap.size w0 w
theorem LowAt.push {w0 wr w2 w3 w4:World} {s x:ByteArray} {h n:Nat} {v vo:Value} (hL:LowAt w0 wr s h n v) (hb2:Below wr.heap.size wr w2) (hb3:Below w2.heap.size w2 w3) (hx:pubT s n=x)
  (hp:Pk.PushedRow w3 9 1 v (n+1) (tx s 0 n++[.string x]) vo w4):LowAt w0 w4 s h (n+1) vo:=by
 have hb:Below wr.heap.size wr w3:=mono_bel hb2 hb3 (Nat.le_refl _)
 have hsz:=hL.bel.size
 have hsz3:=hb.size
 have hl:=hL.blk.lt
 refine ⟨?_,fun k hk=>?_,hp.chg.blk (hL.blk.below hb hl) fun e=>?_,(mono_bel hL.bel hb (Nat.le_refl _)).trans (hp.chg.below (by omega) fun i hi=>?_)⟩
 ·rw [tx_succ,show lvl s 0 n=pubT s n from rfl,hx]
  exact hp.row
 ·rcases hp.place k hk with h1 | h1
  ·exact hL.own k h1
  ·omega
 ·have:=hL.own _ e
  omega
 ·have:=hL.own _ hi
  omega
theorem nil_pushed {w2 w3:World} {e:TypeId} {size n:Nat} {xs:List Value} {v:Value} (hp:Pk.PushedRow w2 e size (.slice none 0 0) n xs v w3):Pk.Chg (fun _=>False) w2 w3:=hp.chg.mono fun i _ e=>by cases e
theorem QPart.start {w0 wr w2 w3:World} {s:ByteArray} {h g c bl cl m:Nat} (hm:2 ^ h=m) (hL:LowAt w0 wr s h m (.slice (some ⟨g,0,none⟩) m c)) (hb:Below wr.heap.size wr w2)
  (hp:Pk.PushedRow w2 22 1 (.slice none 0 0) 1 [.slice (some ⟨g,0,none⟩) m c] (.slice (some ⟨bl,0,none⟩) 1 cl) w3) :
  QPart (w3.setCell ⟨w0.heap.size,2,none⟩ (.slice (some ⟨bl,0,none⟩) 1 cl)) w0.heap.size s h 0 bl cl (fun _=>.slice (some ⟨g,0,none⟩) m c) 0/\w0.heap.size<bl/\Below w0.heap.size w0 (w3.setCell ⟨w0.heap.size,2,none⟩ (.slice (some ⟨bl,0,none⟩) 1 cl)):=by
 subst hm
 have hg:=hL.own g rfl
 have hl:=hL.blk.lt
 have hsz:=hb.size
 have hbl:w2.heap.size<=bl:=by
  rcases hp.place bl rfl with h1 | h1
  ·cases h1
  ·exact h1
 have hc2:=nil_pushed hp
 have hc:Pk.Chg (fun _=>False) wr w3:=(chg0 hb).trans hc2 fun _ _ h=>h
 have hK:=(hc.blk hL.blk (fun h=>h)).setCell 2 (.slice (some ⟨bl,0,none⟩) 1 cl)
 have hlow:Below w0.heap.size w0 w3:=hL.bel.trans ((hc.below (Nat.le_refl _) (fun _ h=>h.elim)).mono hL.bel.size)
 refine ⟨⟨hK,?_,fun i hi=>?_⟩,by omega,hlow.setCell (by simp) _⟩
 ·refine (show Pk.Row w3 _ 1 _ _ _ from hp.row).kept fun k hk=>?_
  obtain rfl:bl=k:=by simpa [Value.ownBlock] using hk
  exact Below.heap_setCell _ _ _ _ (by simp; omega)
 ·obtain rfl:i=0:=by omega
  refine ⟨g,c,rfl,?_⟩
  refine (hL.row.chg hc (fun _ _ h=>h)).kept fun k hk=>?_
  obtain rfl:g=k:=by simpa [Value.ownBlock] using hk
  exact Below.heap_setCell _ _ _ _ (by simp; omega)
theorem QPart.push {w w2 w3:World} {b:Nat} {s:ByteArray} {h u bl cl j g c bl' cl' m:Nat} {lv:Nat->Value} (hm:2 ^ (h-(j+1))=m) (q:QPart w b s h u bl cl lv j)
  (hr:Pk.Row w 9 1 (.slice (some ⟨g,0,none⟩) m c) m (tx s (j+1) m)) (hb:Below w.heap.size w w2)
  (hp:Pk.PushedRow w2 22 1 (.slice (some ⟨bl,0,none⟩) (j+1) cl) (j+1+1) (lvs lv (j+1)++[.slice (some ⟨g,0,none⟩) m c]) (.slice (some ⟨bl',0,none⟩) (j+1+1) cl') w3) :
  QPart (w3.setCell ⟨b,2,none⟩ (.slice (some ⟨bl',0,none⟩) (j+1+1) cl')) b s h u bl' cl' (fun i=>if i<=j then lv i else .slice (some ⟨g,0,none⟩) m c) (j+1)/\(bl'=bl∨w.heap.size<=bl') /\
  Pk.Chg (fun i=>i=b∨i=bl) w (w3.setCell ⟨b,2,none⟩ (.slice (some ⟨bl',0,none⟩) (j+1+1) cl')):=by
 subst hm
 have hplace:bl'=bl∨w2.heap.size<=bl':=by
  rcases hp.place bl' rfl with h1 | h1
  ·exact .inl (by simpa [Value.ownBlock] using h1.symm)
  ·exact .inr h1
 have tb:=q.blk.ty
 have tl:=Row_ty q.row
 have hne:b ≠ bl:=fun e=>by subst e; exact absurd (tb.inj tl) (by decide)
 have hsz:=hb.size
 have hc2:Pk.Chg (fun i=>i=bl) w2 w3:=hp.chg.mono fun i _ e=>by simpa [Value.ownBlock] using e.symm
 have hc:Pk.Chg (fun i=>i=bl) w w3:=(chg0 hb).trans hc2 fun _ _ h=>h
 have hK:=(hc.blk q.blk hne).setCell 2 (.slice (some ⟨bl',0,none⟩) (j+1+1) cl')
 have hlt:=q.blk.lt
 have hne2:bl' ≠ b:=by rcases hplace with h1 | h1 <;> omega
 have hstr:∀ n c m xs,Pk.Row w 9 1 (.slice (some ⟨m,0,none⟩) n c) n xs->Pk.Row (w3.setCell ⟨b,2,none⟩ (.slice (some ⟨bl',0,none⟩) (j+1+1) cl')) 9 1 (.slice (some ⟨m,0,none⟩) n c) n xs:=fun n c m xs hx=>by
  have tx:=Row_ty hx
  refine (hx.chg hc fun k hk e=>?_).kept fun k hk=>?_
  ·obtain rfl:m=k:=by simpa [Value.ownBlock] using hk
   subst e
   exact absurd (tl.inj tx) (by decide)
  ·obtain rfl:m=k:=by simpa [Value.ownBlock] using hk
   refine Below.heap_setCell _ _ _ _ (fun e=>?_)
   obtain rfl:m=b:=e
   exact absurd (tb.inj tx) (by decide)
 refine ⟨⟨hK,?_,fun i hi=>?_⟩,by omega,(hc.mono fun i _ h=>.inr h).setCell (.inl rfl) _⟩
 ·have h1:lvs (fun i=>if i<=j then lv i else .slice (some ⟨g,0,none⟩) (2 ^ (h-(j+1))) c) (j+1+1)=lvs lv (j+1)++[.slice (some ⟨g,0,none⟩) (2 ^ (h-(j+1))) c]:=by
   rw [lvs_succ,if_neg (by omega)]
   congr 1
   exact lvs_congr fun i hi=>if_pos (by omega)
  rw [h1]
  refine hp.row.kept fun k hk=>?_
  obtain rfl:bl'=k:=by simpa [Value.ownBlock] using hk
  exact Below.heap_setCell _ _ _ _ (by simpa using hne2)
 ·by_cases hij:i<=j
  ·obtain ⟨g1,c1,e1,h1⟩:=q.lev i hij
   exact ⟨g1,c1,by rw [if_pos hij]; exact e1,hstr _ _ _ _ h1⟩
  ·obtain rfl:i=j+1:=by omega
   exact ⟨g,c,by rw [if_neg hij],hstr _ _ _ _ hr⟩
structure UpAt (wb w:World) (s:ByteArray) (j n:Nat) (v:Value):Prop where
 row:Pk.Row w 9 1 v n (tx s j n)
 own:∀ k,v.ownBlock=some k->wb.heap.size<=k
 bel:Below wb.heap.size wb w
theorem UpAt.push {wb wr w3 w4:World} {s x:ByteArray} {j n:Nat} {v vo:Value} (hL:UpAt wb wr s j n v) (hb:Below wr.heap.size wr w3) (hx:lvl s j n=x)
  (hp:Pk.PushedRow w3 9 1 v (n+1) (tx s j n++[.string x]) vo w4):UpAt wb w4 s j (n+1) vo:=by
 have hsz:=hL.bel.size
 have hsz3:=hb.size
 refine ⟨?_,fun k hk=>?_,(mono_bel hL.bel hb (Nat.le_refl _)).trans (hp.chg.below (by omega) fun i hi=>?_)⟩
 ·rw [tx_succ,hx]
  exact hp.row
 ·rcases hp.place k hk with h1 | h1
  ·exact hL.own k h1
  ·omega
 ·exact hL.own _ hi
def LvO (B:Nat) (lv:Nat->Value) (j:Nat):Prop:=∀ i,i<=j->∀ g,(lv i).ownBlock=some g->B<=g
theorem r6new_own (s:ByteArray) (h:Nat) (w:World) (hh:h<=4) (hs:s.size<=140737488351232) :
  Calls Tryz.prog 65 #[.string s,.int .i64 (h:Int)] w fun e w'=>e=.returned (.tuple #[.pointer (some ⟨w.heap.size,0,none⟩),.int .i64 0])/\(∃ bl cl lv,QPart w' w.heap.size s h 0 bl cl lv h/\w.heap.size<bl/\LvO w.heap.size lv h)/\Below w.heap.size w w':=by
 have hP:=fun n w1 (hn:n<65536)=>rpublic_ok s n w1 hn hs
 have h0:¬ (h:Int)<0:=by omega
 have h1:¬ 4<(h:Int):=by omega
 obtain ⟨P,hPe⟩:∃ P,2 ^ h=P:=⟨_,rfl⟩
 have hp:(2:Int) ^ h=(P:Int):=by rw [<- hPe]; simp
 have hP16:P<=16:=by rw [<- hPe]; exact pow_le h hh
 have hP1:1<=P:=by rw [<- hPe]; exact Nat.one_le_two_pow
 have hwr:IntKind.i64.wrap (P:Int)=(P:Int):=by rw [IntKind.wrap_i64]; omega
 obtain ⟨iT,hiT,hzT,hsT,hbT⟩:=info_parts info_s
 obtain ⟨iS,hiS,hzS,hsS,hbS⟩:=info_parts info_ss
 have hT:=Box.mk (And.intro hiT (And.intro hzT (And.intro hsT hbT)))
 have hS:=Box.mk (And.intro hiS (And.intro hzS (And.intro hsS hbS)))
 obtain ⟨w1,hw1⟩:∃ w1,w.alloc (.cells #[.string s,.int .i64 (h:Int),.slice none 0 0,.int .i64 0] 178)=w1:=⟨_,rfl⟩
 have hL0:LowAt w w1 s h 0 (.slice none 0 0):=by
  refine ⟨Pk.Row.nil _ _ _,(fun k hk=>by cases hk),?_,?_⟩
  ·rw [<- hw1]; exact Blk.new w (qcells s h (.slice none 0 0) 0) _
  ·rw [<- hw1]; exact (Below.refl _ _).alloc (Nat.le_refl _) _
 replace hL0:=Box.mk hL0
 replace hP:=Box.mk hP
 replace hPe:=Box.mk hPe
 clear hiT hzT hsT hbT hiS hzS hsS hbS hs
 go_enter Tryz.func65,Tryz.ntmps65
 go_wp2_with fail
 replace hw1:=Box.mk hw1
 go_loopw [7,8] (fun v q wr=>∃ n:Nat,n<=P/\q=.int .i64 (n:Int)/\Box (LowAt w wr s h n v)) (fun _ q _=>P-(intOf q).toNat)
 case atStart=>exact ⟨0,by omega,rfl,hL0⟩
 case round=>
  clear hL0
  obtain ⟨n,hn,rfl,hL⟩:=hrel
  by_cases hlt:n<P
  ·have hF:=hP.out n wr (by omega)
   obtain ⟨x,hx⟩:∃ x,pubT s n=x:=⟨_,rfl⟩
   rw [hx] at hF
   replace hx:=Box.mk hx
   go_wp2_with fail
   refine hF.mono ?_
   clear hF
   rintro e w2 ⟨rfl,hb2⟩
   have hR2:=hL.out.row.chg (chg0 (S:=fun _=>False) hb2) (fun _ _ h=>h)
   replace hb2:=Box.mk hb2
   obtain ⟨w3,hw3⟩:∃ w3,w2.alloc (.cells #[.string x] 9)=w3:=⟨_,rfl⟩
   have hb3:Below w2.heap.size w2 w3:=by rw [<- hw3]; exact (Below.refl _ _).alloc (Nat.le_refl _) _
   have hR3:=Box.mk (hR2.chg (chg0 (S:=fun _=>False) hb3) (fun _ _ h=>h))
   have hc3:=Box.mk (one_new w2 (.string x) 9)
   rw [hw3] at hc3
   have ho3:Box (∀ u ∈ [Value.string x],u.oneCell'=true):=⟨by simp [Value.oneCell']⟩
   have hlen:Box (n+1<=maxLen/\(n+1)*16<=140737488355328):=⟨by unfold maxLen; omega,by omega⟩
   replace hb3:=Box.mk hb3
   clear hR2
   go_wp2_with (refine Pk.wpList_pushR rfl (.tmp 36) (.tmp 38) 22 9 rfl iT (.string ⟨#[]⟩) 1 16 Tryz.underlying22 hT.out.1 hT.out.2.1 hT.out.2.2.1 hT.out.2.2.2 rfl (by omega) _ n (tx s 0 n) rfl hR3.out ⟨w2.heap.size,0,none⟩ 1 1 [.string x] rfl rfl hc3.out ho3.out hlen.out.1 hlen.out.2 ?_; intro vo w4 hpush)
   have hN:=hL.out.push hb2.out hb3.out hx.out hpush
   exact ⟨⟨n+1,by omega,by go_num,⟨hN⟩⟩,by simp [intOf]; omega⟩
  ·obtain rfl:n=P:=by omega
   clear hP
   have hLr:=hL.out.row
   obtain ⟨g,c,rfl,hgl⟩:=hLr.some hP1
   have c2:wr.cell? ⟨w.heap.size,2,none⟩=some (.slice none 0 0):=hL.out.blk.cell 2
   obtain ⟨w2,hw2⟩:∃ w2,wr.alloc (.cells #[.slice (some ⟨g,0,none⟩) n c] 22)=w2:=⟨_,rfl⟩
   have hb2:Below wr.heap.size wr w2:=by rw [<- hw2]; exact (Below.refl _ _).alloc (Nat.le_refl _) _
   have hc3:=Box.mk (one_new wr (.slice (some ⟨g,0,none⟩) n c) 22)
   rw [hw2] at hc3
   have ho3:Box (∀ u ∈ [Value.slice (some ⟨g,0,none⟩) n c],u.oneCell'=true):=⟨by simp [Value.oneCell']⟩
   have hK2:=Box.mk (hL.out.blk.below hb2 hL.out.blk.lt)
   have hn0:Box (Pk.Row w2 22 1 (.slice none 0 0) 0 []):=⟨Pk.Row.nil _ _ _⟩
   replace hb2:=Box.mk hb2
   clear hgl hLr
   go_wp2_with (refine Pk.wpList_pushR rfl (.tmp 44) (.tmp 46) 176 22 rfl iS (.slice none 0 0) 1 24 Tryz.underlying176 hS.out.1 hS.out.2.1 hS.out.2.2.1 hS.out.2.2.2 rfl (by omega) _ 0 [] rfl hn0.out ⟨wr.heap.size,0,none⟩ 1 1 [.slice (some ⟨g,0,none⟩) n c] rfl rfl hc3.out ho3.out (by decide) (by decide) ?_; intro vo w3 hpush; obtain ⟨bl,cl,rfl,hbl⟩:=hpush.row.some (Nat.succ_pos 0); have hK3:=Box.mk ((nil_pushed hpush).blk hK2.out (fun h=>h)); have c3:w3.cell? ⟨w.heap.size,2,none⟩=some (.slice none 0 0):=hK3.out.cell 2; have f3:=hK3.out.free 2; clear hbl)
   obtain ⟨k4,hbl4,hB4⟩:=QPart.start hPe.out hL.out hb2.out hpush
   have hO4:LvO w.heap.size (fun _=>Value.slice (some ⟨g,0,none⟩) n c) 0:=fun i _ g' e=>by
    cases e
    exact Nat.le_of_lt (hL.out.own g rfl)
   replace hbl4:=And.intro hbl4 hO4
   obtain ⟨w4,hw4⟩:∃ w4,w3.setCell ⟨w.heap.size,2,none⟩ (.slice (some ⟨bl,0,none⟩) 1 cl)=w4:=⟨_,rfl⟩
   rw [hw4] at k4 hB4 ⊢
   replace k4:=Box.mk k4
   replace hbl4:=Box.mk hbl4
   replace hB4:=Box.mk hB4
   clear hO4 hpush hw4 hK3 c3 f3 hn0 hK2 ho3 hc3 hw2 hb2 c2 hL hp hwr hPe hP16 hP1 hn hlt hw1
   go_loopw [7,11] (fun v q wr=>∃ (j bl cl:Nat) (lv:Nat->Value),j<=h/\v=lv j/\q=.int .i64 (j:Int)/\Box (QPart wr w.heap.size s h 0 bl cl lv j)/\Box (w.heap.size<bl/\LvO w.heap.size lv j)/\Box (Below w.heap.size w wr)) (fun _ q _=>h-(intOf q).toNat)
   case atStart=>exact ⟨0,bl,cl,_,by omega,rfl,rfl,k4,hbl4,hB4⟩
   case round=>
    clear k4 hbl4 hB4
    obtain ⟨j,bl,cl,lv,hj,rfl,rfl,hQ,hbl,hB⟩:=hrel
    obtain ⟨wb,rfl⟩:∃ wb,wb=wr:=⟨wr,rfl⟩
    by_cases hlt:j<h
    ·obtain ⟨q,hq⟩:∃ q,2 ^ (h-(j+1))=q:=⟨_,rfl⟩
     have hq2:2 ^ (h-j)=2*q:=by rw [<- hq,<- Nat.pow_succ']; congr 1; omega
     have hq16:q<=16:=by rw [<- hq]; exact pow_le _ (by omega)
     have hq1:1<=q:=by rw [<- hq]; exact Nat.one_le_two_pow
     obtain ⟨g,c,hlv,hrow⟩:=hQ.out.lev j (Nat.le_refl _)
     rw [hq2] at hlv hrow
     rw [hlv]
     have hU0:Box (UpAt wb wb s (j+1) 0 (.slice none 0 0)):=⟨Pk.Row.nil _ _ _,(fun k hk=>by cases hk),Below.refl _ _⟩
     replace hq:=Box.mk hq
     replace hq2:=Box.mk hq2
     replace hlv:=Box.mk hlv
     replace hrow:=Box.mk hrow
     go_wp2_with fail
     go_loopw [12,13] (fun v q' wr=>∃ m:Nat,m<=q/\q'=.int .i64 (2*(m:Int))/\Box (UpAt wb wr s (j+1) m v)) (fun _ q' _=>2*q-(intOf q').toNat)
     case atStart=>exact ⟨0,by omega,rfl,hU0⟩
     case round=>
      clear hU0
      obtain ⟨m,hm,rfl,hU⟩:=hrel
      by_cases hmq:m<q
      ·have hrow2:=hrow.out.chg (chg0 (S:=fun _=>False) hU.out.bel) (fun _ _ h=>h)
       have hsx:=lvl_size s j (2*m)
       have hsy:=lvl_size s j (2*m+1)
       have c1:=hrow2.cells (2*m) _ (tx_get s j (2*q) (2*m) (by omega))
       have c2:=hrow2.cells (2*m+1) _ (tx_get s j (2*q) (2*m+1) (by omega))
       have hz:lvl s (j+1) m=hashOf (tagL 37 [lvl s j (2*m),lvl s j (2*m+1)]):=rfl
       obtain ⟨x,hx⟩:∃ x,lvl s j (2*m)=x:=⟨_,rfl⟩
       obtain ⟨y,hy⟩:∃ y,lvl s j (2*m+1)=y:=⟨_,rfl⟩
       rw [hx] at hsx c1 hz
       rw [hy] at hsy c2 hz
       obtain ⟨z,hze⟩:∃ z,hashOf (tagL 37 [x,y])=z:=⟨_,rfl⟩
       obtain ⟨wA,hwA⟩:∃ wA,(wr.alloc (.cells #[.string x,.string y] 9)).drew=wA:=⟨_,rfl⟩
       have hbA:Below wr.heap.size wr wA:=by rw [<- hwA]; exact (dB wr).alloc (Nat.le_refl _) (.cells #[.string x,.string y] 9)
       have hF:=rtag_parts 37 (.slice (some ⟨wr.heap.size,0,none⟩) 2 2) [x,y] wA (by rw [<- hwA]; exact parts_new wr.drew [x,y] 9) (by have:=tag2_len 37 x y (by omega) (by omega); omega) (by simp)
       rw [hze] at hz hF
       have hrA:=hrow2.chg (chg0 (S:=fun _=>False) hbA) (fun _ _ h=>h)
       have cA:wA.cell? ⟨g,2*m,none⟩=some (.string x)/\wA.cell? ⟨g,2*m+1,none⟩=some (.string y):=⟨by rw [<- c1]; exact hbA.cell (p:=⟨g,2*m,none⟩) (by have:=(Row_ty hrow2).lt; exact this),by rw [<- c2]; exact hbA.cell (p:=⟨g,2*m+1,none⟩) (by have:=(Row_ty hrow2).lt; exact this)⟩
       have tyA:=(Row_ty hrA).lt
       have hgb:=(Row_ty hrow.out).lt
       replace hbA:=Box.mk hbA
       replace hrA:=Box.mk hrA
       replace hz:=Box.mk hz
       have d1:wr.drew.cell? ⟨g,2*m,none⟩=some (.string x):=c1
       have d2:wr.drew.cell? ⟨g,2*m+1,none⟩=some (.string y):=c2
       clear hsx hsy hrow2 hx hy hze c1 c2
       go_wp2_with fail
       have e1:(2*(m:Int)).toNat=2*m:=by omega
       have e2:(2*(m:Int)+1).toNat=2*m+1:=by omega
       have e3:IntKind.i64.wrap (2*(m:Int)+1)=2*(m:Int)+1:=by rw [IntKind.wrap_i64]; omega
       refine region_go (C:=fun w'=>w'.cell? ⟨g,2*m,none⟩=some (.string x)/\w'.cell? ⟨g,2*m+1,none⟩=some (.string y)) rfl ?_
       refine go_calms [0,1,2,3,4,5,6,7,8,9] 5 rfl (by kernel_rfl) (by kernel_rfl) (by kernel_rfl) ⟨d1,d2⟩ ?_
       simp [nth]
       try simp only [Act.put]
       repeat (go_big_quiet_step (first | exact fun _=>rfl | rfl))
       refine quiet_any rfl (.pointer (some ⟨g,2*m,none⟩)) (fun w' hw'=>by go_simp; omega) ?_
       simp only [Act.put,zT9,zS9,zZ9]
       refine quiet_any rfl (.string x) (fun w' hw'=>by have h:=hw'.1; go_simp) ?_
       simp only [Act.put,zT9,zS9,zZ9]
       repeat (go_big_quiet_step (first | exact fun _=>rfl | rfl))
       refine quiet_any rfl (.int .i64 (2*(m:Int)+1)) (fun w' hw'=>by go_simp) ?_
       simp only [Act.put,zT9,zS9,zZ9]
       refine quiet_any rfl (.pointer (some ⟨g,2*m+1,none⟩)) (fun w' hw'=>by go_simp; omega) ?_
       simp only [Act.put,zT9,zS9,zZ9]
       refine quiet_any rfl (.string y) (fun w' hw'=>by have h:=hw'.2; go_simp) ?_
       simp only [Act.put,zT9,zS9,zZ9]
       refine wpQuiet_nil ?_
       refine go_forced 10 (by kernel_rfl) (goOp_wp 10 rfl rfl (fun K hK=>?_))
       go_simp
       refine hK _ _ cA ?_
       clear hK K
       refine go_forced 11 (by kernel_rfl) (goOp_wp 11 rfl rfl (fun K hK=>?_))
       go_simp
       refine hF.mono ?_
       rintro e wB ⟨rfl,hbB⟩
       have cB:wB.cell? ⟨g,2*m,none⟩=some (.string x)/\wB.cell? ⟨g,2*m+1,none⟩=some (.string y):=⟨by rw [<- cA.1]; exact hbB.cell (p:=⟨g,2*m,none⟩) tyA,by rw [<- cA.2]; exact hbB.cell (p:=⟨g,2*m+1,none⟩) tyA⟩
       refine hK _ _ cB ?_
       have hb2:Below wr.heap.size wr wB:=mono_bel hbA.out hbB (Nat.le_refl _)
       clear hK K hF cA hwA
       obtain ⟨wC,hwC⟩:∃ wC,wB.alloc (.cells #[.string z] 9)=wC:=⟨_,rfl⟩
       have hbC:Below wB.heap.size wB wC:=by rw [<- hwC]; exact (Below.refl _ _).alloc (Nat.le_refl _) _
       have hb3:Below wr.heap.size wr wC:=mono_bel hb2 hbC (Nat.le_refl _)
       have hR3:=hU.out.row.chg (chg0 (S:=fun _=>False) hb3) (fun _ _ h=>h)
       have hc3:=one_new wB (.string z) 9
       rw [hwC] at hc3
       have ho3:∀ u ∈ [Value.string z],u.oneCell'=true:=by simp [Value.oneCell']
       have hg3:g<wB.heap.size:=Nat.lt_of_lt_of_le tyA hbB.size
       have cC:wC.cell? ⟨g,2*m,none⟩=some (.string x)/\wC.cell? ⟨g,2*m+1,none⟩=some (.string y):=⟨by rw [<- cB.1]; exact hbC.cell (p:=⟨g,2*m,none⟩) hg3,by rw [<- cB.2]; exact hbC.cell (p:=⟨g,2*m+1,none⟩) hg3⟩
       refine go_forced 12 (by kernel_rfl) (goOp_wp 12 rfl rfl (fun K hK=>?_))
       go_simp
       refine hK _ _ cC ?_
       clear hK K
       refine go_forced 13 (by kernel_rfl) (goOp_wp 13 rfl rfl (fun K hK=>?_))
       refine Pk.wp_pushR (.tmp 61) (.tmp 73) 22 9 rfl iT (.string ⟨#[]⟩) 1 16 Tryz.underlying22 hT.out.1 hT.out.2.1 hT.out.2.2.1 hT.out.2.2.2 rfl (by omega) _ m (tx s (j+1) m) rfl hR3 ⟨wB.heap.size,0,none⟩ 1 1 [.string z] rfl rfl hc3 ho3 (by unfold maxLen; omega) (by omega) ?_
       intro vo wD hpush
       have hN:=hU.out.push hb3 hz.out hpush
       have hgD:g<wC.heap.size:=Nat.lt_of_lt_of_le hg3 hbC.size
       have hne:¬ (fun k=>u12.ownBlock=some k) g:=fun e=>by have:=hU.out.own g e; omega
       have cD:wD.cell? ⟨g,2*m,none⟩=some (.string x)/\wD.cell? ⟨g,2*m+1,none⟩=some (.string y):=by
        have hh:=hpush.chg.block g hgD hne
        unfold World.cell? at cC ⊢
        rw [hh]
        exact cC
       go_simp
       refine hK _ _ cD ?_
       clear hK K
       refine go_calms [14] 0 rfl (by kernel_rfl) (by kernel_rfl) (by kernel_rfl) cD ?_
       simp [nth]
       try simp only [Act.put]
       repeat (go_big_quiet_step (first | exact fun _=>rfl | rfl))
       refine wpQuiet_nil ?_
       refine go_done (by kernel_rfl) ?_
       go_simp
       replace hN:=Box.mk hN
       clear hpush cD hgD hne cC hg3 ho3 hc3 hR3 hb3 hbC hwC hb2 cB hbB tyA hgb hrA hbA hz hU d1 d2
       go_wp2_with fail
       exact ⟨⟨m+1,by omega,by go_num,hN⟩,by simp [intOf]; omega⟩
      ·obtain rfl:m=q:=by omega
       have hrow2:=hU.out.row
       obtain ⟨g2,c2,rfl,hgl⟩:=hrow2.some hq1
       have hQ2:=hQ.out.here hU.out.bel
       obtain ⟨w5,hw5⟩:∃ w5,wr.alloc (.cells #[.slice (some ⟨g2,0,none⟩) m c2] 22)=w5:=⟨_,rfl⟩
       have hb5:Below wr.heap.size wr w5:=by rw [<- hw5]; exact (Below.refl _ _).alloc (Nat.le_refl _) _
       have hc5:=Box.mk (one_new wr (.slice (some ⟨g2,0,none⟩) m c2) 22)
       rw [hw5] at hc5
       have ho5:Box (∀ u ∈ [Value.slice (some ⟨g2,0,none⟩) m c2],u.oneCell'=true):=⟨by simp [Value.oneCell']⟩
       have k2:wr.cell? ⟨w.heap.size,2,none⟩=some (.slice (some ⟨bl,0,none⟩) (j+1) cl):=hQ2.blk.cell 2
       have hQ5:=hQ2.here hb5
       have hr5:=Box.mk hQ5.row
       have hlim:Box (j+1+1<=maxLen/\(j+1+1)*24<=140737488355328):=⟨by unfold maxLen; omega,by omega⟩
       replace hQ5:=Box.mk hQ5
       replace hb5:=Box.mk hb5
       replace hQ2:=Box.mk hQ2
       clear hrow2 hgl
       have hge:¬ (2*(m:Int)<2*(m:Int)):=by omega
       go_wp2_with (refine Pk.wpList_pushR rfl (.tmp 79) (.tmp 81) 176 22 rfl iS (.slice none 0 0) 1 24 Tryz.underlying176 hS.out.1 hS.out.2.1 hS.out.2.2.1 hS.out.2.2.2 rfl (by omega) _ (j+1) (lvs lv (j+1)) rfl hr5.out ⟨wr.heap.size,0,none⟩ 1 1 [.slice (some ⟨g2,0,none⟩) m c2] rfl rfl hc5.out ho5.out hlim.out.1 hlim.out.2 ?_; intro vo w6 hpush0; have hpush:=QPart.told hQ5.out hpush0; clear hpush0; obtain ⟨bl6,cl6,rfl,hbl6⟩:=hpush.row.some (Nat.succ_pos _); have hK6:=Box.mk (hpush.chg.blk hQ5.out.blk (fun e=>hQ5.out.bl_ne (by simpa [Value.ownBlock] using e))); have k6:w6.cell? ⟨w.heap.size,2,none⟩=some (.slice (some ⟨bl,0,none⟩) (j+1) cl):=hK6.out.cell 2; have f6:=hK6.out.free 2; clear hbl6)
       obtain ⟨k7,hpl,hc7⟩:=QPart.push hq.out hQ2.out hU.out.row hb5.out hpush
       have hB7:=(mono_bel hB.out hU.out.bel (Nat.le_refl _)).trans (hc7.below (B:=w.heap.size) (mono_bel hB.out hU.out.bel (Nat.le_refl _)).size (fun i hi=>by have:=hbl.out.1; omega))
       refine ⟨⟨j+1,bl6,cl6,_,by omega,?_,by go_num,⟨k7⟩,⟨?_⟩,⟨hB7⟩⟩,by simp [intOf]; omega⟩
       ·exact (if_neg (by omega)).symm
       ·have h1:=(mono_bel hB.out hU.out.bel (Nat.le_refl _)).size
        have h2:=hbl.out.1
        have h3:=hQ2.out.blk.lt
        refine ⟨by omega,fun i hi g' e=>?_⟩
        have e':(if i<=j then lv i else Value.slice (some ⟨g2,0,none⟩) m c2).ownBlock=some g':=e
        split at e'
        ·next hij=>exact hbl.out.2 i hij g' e'
        ·cases e'
         exact Nat.le_trans hB.out.size (hU.out.own g2 rfl)
    ·obtain rfl:j=h:=by omega
     obtain ⟨g,c,hlv,hrow⟩:=hQ.out.lev j (Nat.le_refl _)
     rw [hlv]
     clear hrow hlv
     go_wp2_with fail
     go_returns
     exact ⟨rfl,⟨bl,cl,lv,hQ.out,hbl.out.1,hbl.out.2⟩,hB.out⟩
theorem r6new_ok (s:ByteArray) (h:Nat) (w:World) (hh:h<=4) (hs:s.size<=140737488351232) :
  Calls Tryz.prog 65 #[.string s,.int .i64 (h:Int)] w fun e w'=>e=.returned (.tuple #[.pointer (some ⟨w.heap.size,0,none⟩),.int .i64 0])/\(∃ bl cl lv,QPart w' w.heap.size s h 0 bl cl lv h)/\Below w.heap.size w w':=
 (r6new_own s h w hh hs).mono fun _ _ ⟨he,⟨bl,cl,lv,hQ,_⟩,hB⟩=>⟨he,⟨bl,cl,lv,hQ⟩,hB⟩
def QKey (w:World) (b:Nat) (s:ByteArray) (h u:Nat):Prop:=(∃ bl cl lv,QPart w b s h u bl cl lv h)/\h<=4
theorem QKey.blk {w:World} {b:Nat} {s:ByteArray} {h u:Nat} (q:QKey w b s h u):∃ v,Blk w b (qcells s h v u) 178:=by
 obtain ⟨⟨bl,cl,lv,hq⟩,_⟩:=q
 exact ⟨_,hq.blk⟩
theorem QKey.keep {S:Nat->Prop} {w w':World} {b:Nat} {s:ByteArray} {h u:Nat} (q:QKey w b s h u) (hc:Pk.Chg S w w')
  (hS:∀ i t,i<w.heap.size->S i->Ty w i t->t ≠ 178/\t ≠ 22/\t ≠ 9):QKey w' b s h u:=by
 obtain ⟨⟨bl,cl,lv,hq⟩,hh⟩:=q
 exact ⟨⟨bl,cl,lv,hq.keep hc hS⟩,hh⟩
theorem QKey.here {w w':World} {b:Nat} {s:ByteArray} {h u:Nat} (q:QKey w b s h u) (hb:Below w.heap.size w w'):QKey w' b s h u:=
 q.keep (S:=fun _=>False) (chg0 hb) (fun _ _ _ hf _=>hf.elim)
structure QC (w:World) (b h u bl cl g c:Nat) (j i n:Nat) (x:ByteArray):Prop where
 c1:w.cell? ⟨b,1,none⟩=some (.int .i64 (h:Int))
 c2:w.cell? ⟨b,2,none⟩=some (.slice (some ⟨bl,0,none⟩) (h+1) cl)
 c3:w.cell? ⟨b,3,none⟩=some (.int .i64 (u:Int))
 l:w.cell? ⟨bl,j,none⟩=some (.slice (some ⟨g,0,none⟩) n c)
 x:w.cell? ⟨g,i,none⟩=some (.string x)
theorem QC.below {w w':World} {b h u bl cl g c j i n:Nat} {x:ByteArray} (q:QC w b h u bl cl g c j i n x) (hb:Below w.heap.size w w'):QC w' b h u bl cl g c j i n x:=by
 have lt:∀ p v,w.cell? p=some v->w'.cell? p=some v:=fun p v hp=>by
  by_cases hl:p.block<w.heap.size
  ·rw [hb.cell hl]; exact hp
  ·exfalso
   unfold World.cell? at hp
   rw [Array.getElem?_eq_none (by omega)] at hp
   cases hp
 exact ⟨lt _ _ q.c1,lt _ _ q.c2,lt _ _ q.c3,lt _ _ q.l,lt _ _ q.x⟩
theorem QPart.qc {w:World} {b:Nat} {s:ByteArray} {h u bl cl:Nat} {lv:Nat->Value} (q:QPart w b s h u bl cl lv h) (j i:Nat) (hj:j<=h) (hi:i<2 ^ (h-j)):∃ g c,QC w b h u bl cl g c j i (2 ^ (h-j)) (lvl s j i):=by
 obtain ⟨g,c,e,hr⟩:=q.lev j hj
 refine ⟨g,c,q.blk.cell 1,q.blk.cell 2,q.blk.cell 3,?_,?_⟩
 ·rw [q.row.cells j _ (lvs_get lv (h+1) j (by omega)),e]
 ·exact hr.cells i _ (tx_get _ _ _ _ hi)
theorem r6ID_any (b:Nat) (s:ByteArray) (h u:Nat) (w:World) (q:QKey w b s h u) :
  Calls Tryz.prog 53 #[.pointer (some ⟨b,0,none⟩)] w fun e w'=>e=.returned (.string (keyID s h))/\Below w.heap.size w w':=by
 obtain ⟨⟨bl,cl,lv,hq⟩,hh⟩:=q
 obtain ⟨g,c,hc⟩:=hq.qc h 0 (Nat.le_refl _) (by simp)
 rw [Nat.sub_self,Nat.pow_zero] at hc
 have hF:=r6id_any h (lvl s h 0) w.drew (by omega) (lvl_size _ _ _)
 obtain ⟨x,hx⟩:∃ x,lvl s h 0=x:=⟨_,rfl⟩
 obtain ⟨y,hy⟩:∃ y,idV h x=y:=⟨_,rfl⟩
 rw [show keyID s h=idV h (lvl s h 0) from rfl]
 rw [hx] at hc hF ⊢
 rw [hy] at hF ⊢
 have hd:QC w.drew b h u bl cl g c h 0 1 x:=hc.below (dB w)
 clear hq hc hx hy
 go_enter Tryz.func53,Tryz.ntmps53
 go_wp2_with fail
 refine region_go (C:=fun w'=>QC w' b h u bl cl g c h 0 1 x) rfl ?_
 refine go_calms [0,1,2,3,4,5,6,7,8,9,10,11,12,13,14,15] 2 rfl (by kernel_rfl) (by kernel_rfl) (by kernel_rfl) hd ?_
 simp [nth]
 try simp only [Act.put]
 repeat (go_big_quiet_step (first | exact fun _=>rfl | rfl))
 refine quiet_any rfl (.int .i64 (h:Int)) (fun w' hw'=>by have h:=hw'.c1; go_simp) ?_
 simp only [Act.put,zT9,zS9,zZ9]
 repeat (go_big_quiet_step (first | exact fun _=>rfl | rfl))
 refine quiet_any rfl (.slice (some ⟨bl,0,none⟩) (h+1) cl) (fun w' hw'=>by have h:=hw'.c2; go_simp) ?_
 simp only [Act.put,zT9,zS9,zZ9]
 repeat (go_big_quiet_step (first | exact fun _=>rfl | rfl))
 refine quiet_any rfl (.int .i64 (h:Int)) (fun w' hw'=>by have h:=hw'.c1; go_simp) ?_
 simp only [Act.put,zT9,zS9,zZ9]
 repeat (go_big_quiet_step (first | exact fun _=>rfl | rfl))
 repeat (go_big_quiet_step (first | exact fun _=>rfl | rfl))
 refine quiet_any rfl (.slice (some ⟨g,0,none⟩) 1 c) (fun w' hw'=>by have h:=hw'.l; go_simp) ?_
 simp only [Act.put,zT9,zS9,zZ9]
 repeat (go_big_quiet_step (first | exact fun _=>rfl | rfl))
 refine quiet_any rfl (.string x) (fun w' hw'=>by have h:=hw'.x; go_simp) ?_
 simp only [Act.put,zT9,zS9,zZ9]
 refine wpQuiet_nil ?_
 refine go_forced 16 (by kernel_rfl) (goOp_wp 16 rfl rfl (fun K hK=>?_))
 go_simp
 refine hF.mono ?_
 clear hF
 rintro e w2 ⟨rfl,hb2⟩
 have hd2:=hd.below hb2
 refine hK _ _ hd2 ?_
 have hB:=Box.mk ((dB w).trans (hb2.mono (dB w).size))
 clear hK K hb2
 refine go_calms [17] 0 rfl (by kernel_rfl) (by kernel_rfl) (by kernel_rfl) hd2 ?_
 simp [nth]
 try simp only [Act.put]
 repeat (go_big_quiet_step (first | exact fun _=>rfl | rfl))
 refine wpQuiet_nil ?_
 refine go_done (by kernel_rfl) ?_
 go_simp
 go_wp2_with fail
 go_ret
 exact ⟨rfl,hB.out⟩
theorem keyS_acc (s:ByteArray) (h n:Nat) (t:ByteArray):keyS s h n t=(by1 h++by2 n++sigT s n t)++accT (besV s n) h:=rfl
theorem app_accT (x:ByteArray) (g:Nat->ByteArray) (j:Nat):(x++accT g j)++g j=x++accT g (j+1):=by rw [ByteArray.append_assoc,accT_succ]
theorem app_acc0 (x:ByteArray) (g:Nat->ByteArray):x++accT g 0=x:=by rw [accT_zero]; exact ByteArray.append_empty
theorem r6at_any (b:Nat) (s t:ByteArray) (h u n:Nat) (w:World) (q:QKey w b s h u) (hn:n<2 ^ h) (hs:s.size<=140737488351232) (ht:t.size<=140737488351232) :
  Calls Tryz.prog 64 #[.pointer (some ⟨b,0,none⟩),.int .i64 (n:Int),.string t] w fun e w'=>e=.returned (.string (keyS s h n t))/\Below w.heap.size w w':=by
 have hp:=pow_le h q.2
 have hS:=rsign_ok s t n w (by omega) hs ht
 have c0:w.cell? ⟨b,0,none⟩=some (.string s):=by
  obtain ⟨v,hb⟩:=q.blk
  exact hb.cell 0
 have hQ:=Box.mk q
 have hNum:=fun w=>rnumber_any n w
 have hh:=q.2
 have hE:=keyS_acc s h n t
 obtain ⟨g,hg⟩:∃ g,sigT s n t=g:=⟨_,rfl⟩
 rw [hg] at hS hE
 rw [hE]
 obtain ⟨x,hx⟩:∃ x,UInt8.ofNat h=x:=⟨_,rfl⟩
 have hv:(h:Int)=(x.toNat:Int):=by rw [<- hx,UInt8.toNat_ofNat']; omega
 have hxl:x.toNat<256:=x.toNat_lt
 have hbx:by1 h=one x:=by rw [by1,hx]
 have hA0:=app_acc0 (by1 h++by2 n++g) (besV s n)
 have hAs:=app_accT (by1 h++by2 n++g) (besV s n)
 rw [hbx] at hA0 hAs ⊢
 obtain ⟨x2,hx2⟩:∃ x,by2 n=x:=⟨_,rfl⟩
 rw [hx2] at hNum hA0 hAs ⊢
 obtain ⟨G,hG⟩:∃ G:Nat->ByteArray,(fun j=>one x++x2++g++accT (besV s n) j)=G:=⟨_,rfl⟩
 rw [show one x++x2++g++accT (besV s n) h=G h by rw [<- hG]]
 have hG0:G 0=one x++x2++g:=by rw [<- hG]; exact hA0
 have hGs:∀ j,G j++besV s n j=G (j+1):=fun j=>by rw [<- hG]; exact hAs j
 have hwn:(n:Int)<16:=by omega
 have y1:(one x).size=1:=rfl
 have y2:x2.size=2:=by rw [<- hx2]; rfl
 have y3:g.size=288:=by rw [<- hg]; exact sigT_size _ _ _
 have hGz:∀ j,(G j).size=291+32*j:=fun j=>by
  rw [<- hG]
  simp only [ByteArray.size_append,accT32 (besV s n) (besV_size s n) j,y1,y2,y3]
 have z1:(one x).size+x2.size<=9223372036854775807:=by omega
 have z2:(one x).size+x2.size+g.size<=9223372036854775807:=by omega
 replace hGz:=Box.mk hGz
 replace hGs:=Box.mk hGs
 replace hG0:=Box.mk hG0
 replace hn:=Box.mk hn
 replace hv:=Box.mk hv
 clear hA0 hAs hG hE hx hx2 hg q hbx y1 y2 y3
 go_enter Tryz.func64,Tryz.ntmps64
 go_wp2_with fail
 refine hS.mono ?_
 clear hS
 rintro e wz ⟨rfl,hb1⟩
 have hQ1:=Box.mk (hQ.out.here hb1)
 have hBz:=Box.mk hb1
 have hCw:Box (∀ W,Below wz.heap.size wz W->W.cell? ⟨b,1,none⟩=some (.int .i64 (x.toNat:Int))):=⟨fun W hW=>by
  obtain ⟨v,hb⟩:=(hQ1.out.here hW).blk
  rw [<- hv.out]
  exact hb.cell 1⟩
 clear hQ hb1 c0
 go_upto_region 2 with fail
 go_cut [9] from 21 (fun v9 wc=>v9=.string (G 0)/\Box (Below wz.heap.size wz wc))
 case first=>
  go_wp2_with fail
  have c1:=hCw.out _ (dB wz)
  have hBd:Box (Below wz.heap.size wz wz.drew):=⟨dB wz⟩
  refine region_go (C:=fun w'=>w'.cell? ⟨b,1,none⟩=some (.int .i64 (x.toNat:Int))) rfl ?_
  generalize wz.drew=wd at hBd c1 ⊢
  refine go_calms [0,1,2,3,4,7,8,11] 6 rfl (by kernel_rfl) (by kernel_rfl) (by kernel_rfl) c1 ?_
  simp [nth]
  try simp only [Act.put]
  repeat (go_big_quiet_step (first | exact fun _=>rfl | rfl))
  refine quiet_any rfl (.int .i64 (x.toNat:Int)) (fun w' hw'=>by have h:=hw'; go_simp) ?_
  simp only [Act.put,zT9,zS9,zZ9]
  repeat (go_big_quiet_step (first | exact fun _=>rfl | rfl))
  refine wpQuiet_nil ?_
  refine go_fork 5 9 (by kernel_rfl) (goOp_wp 5 rfl rfl (fun K hK=>?_)) (goOp_wp 9 rfl rfl (fun K hK=>?_))
  ·go_simp
   have hB1:Box (Below wz.heap.size wz (wd.alloc (.cells #[Value.int .u8 (x.toNat:Int)] 5))):=⟨hBd.out.alloc hBd.out.size _⟩
   refine hK _ _ (hCw.out _ hB1.out) ?_
   clear hK K
   have hO1_1:=Box.mk (own_one wd x)
   clear hBd
   obtain ⟨a1,ha1⟩:∃ a,wd.heap.size=a:=⟨_,rfl⟩
   rw [ha1] at hO1_1 ⊢
   generalize wd.alloc (.cells #[Value.int .u8 (x.toNat:Int)] 5)=w1 at hB1 hO1_1 ⊢
   clear ha1
   refine go_fork 6 9 (by kernel_rfl) (goOp_wp 6 rfl rfl (fun K hK=>?_)) (goOp_wp 9 rfl rfl (fun K hK=>?_))
   ·have hcv2:=own_text hO1_1.out
    rw [show (⟨[x].toArray⟩:ByteArray)=one x from rfl] at hcv2
    go_simp
    refine hK _ _ (hCw.out _ hB1.out) ?_
    clear hK K hcv2 hO1_1
    refine go_forced 9 (by kernel_rfl) (goOp_wp 9 rfl rfl (fun K hK=>?_))
    go_simp
    refine (hNum w1).mono ?_
    rintro e w3 ⟨rfl,hb3⟩
    have hB3:Box (Below wz.heap.size wz w3):=⟨hB1.out.trans (hb3.mono hB1.out.size)⟩
    refine hK _ _ (hCw.out _ hB3.out) ?_
    clear hK K
    clear hb3 hB1
    have cE:=hCw.out _ hB3.out
    refine go_calms [10,12,13] 0 rfl (by kernel_rfl) (by kernel_rfl) (by kernel_rfl) cE ?_
    simp [nth]
    try simp only [Act.put]
    refine quiet_any rfl (.string (one x++x2)) (fun w' hw'=>by go_simp) ?_
    simp only [Act.put,zT9,zS9,zZ9]
    refine quiet_any rfl (.string (one x++x2++g)) (fun w' hw'=>by go_simp) ?_
    simp only [Act.put,zT9,zS9,zZ9]
    repeat (go_big_quiet_step (first | exact fun _=>rfl | rfl))
    refine wpQuiet_nil ?_
    refine go_done (by kernel_rfl) ?_
    go_simp
    go_wp2_with fail
    go_meet
    exact ⟨by rw [hG0.out],hB3⟩
   ·go_simp
    refine (hNum w1).mono ?_
    rintro e w4 ⟨rfl,hb4⟩
    have hB4:Box (Below wz.heap.size wz w4):=⟨hB1.out.trans (hb4.mono hB1.out.size)⟩
    refine hK _ _ (hCw.out _ hB4.out) ?_
    clear hK K
    have hO1_4:=Box.mk (ownsRow_below hO1_1.out hb4)
    clear hb4 hB1 hO1_1
    refine go_forced 6 (by kernel_rfl) (goOp_wp 6 rfl rfl (fun K hK=>?_))
    have hcv5:=own_text hO1_4.out
    rw [show (⟨[x].toArray⟩:ByteArray)=one x from rfl] at hcv5
    go_simp
    refine hK _ _ (hCw.out _ hB4.out) ?_
    clear hK K hcv5 hO1_4
    have cE:=hCw.out _ hB4.out
    refine go_calms [10,12,13] 0 rfl (by kernel_rfl) (by kernel_rfl) (by kernel_rfl) cE ?_
    simp [nth]
    try simp only [Act.put]
    refine quiet_any rfl (.string (one x++x2)) (fun w' hw'=>by go_simp) ?_
    simp only [Act.put,zT9,zS9,zZ9]
    refine quiet_any rfl (.string (one x++x2++g)) (fun w' hw'=>by go_simp) ?_
    simp only [Act.put,zT9,zS9,zZ9]
    repeat (go_big_quiet_step (first | exact fun _=>rfl | rfl))
    refine wpQuiet_nil ?_
    refine go_done (by kernel_rfl) ?_
    go_simp
    go_wp2_with fail
    go_meet
    exact ⟨by rw [hG0.out],hB4⟩
  ·go_simp
   refine (hNum wd).mono ?_
   rintro e w6 ⟨rfl,hb6⟩
   have hB6:Box (Below wz.heap.size wz w6):=⟨hBd.out.trans (hb6.mono hBd.out.size)⟩
   refine hK _ _ (hCw.out _ hB6.out) ?_
   clear hK K
   clear hb6 hBd
   refine go_forced 5 (by kernel_rfl) (goOp_wp 5 rfl rfl (fun K hK=>?_))
   go_simp
   have hB7:Box (Below wz.heap.size wz (w6.alloc (.cells #[Value.int .u8 (x.toNat:Int)] 5))):=⟨hB6.out.alloc hB6.out.size _⟩
   refine hK _ _ (hCw.out _ hB7.out) ?_
   clear hK K
   have hO1_7:=Box.mk (own_one w6 x)
   clear hB6
   obtain ⟨a7,ha7⟩:∃ a,w6.heap.size=a:=⟨_,rfl⟩
   rw [ha7] at hO1_7 ⊢
   generalize w6.alloc (.cells #[Value.int .u8 (x.toNat:Int)] 5)=w7 at hB7 hO1_7 ⊢
   clear ha7
   refine go_forced 6 (by kernel_rfl) (goOp_wp 6 rfl rfl (fun K hK=>?_))
   have hcv8:=own_text hO1_7.out
   rw [show (⟨[x].toArray⟩:ByteArray)=one x from rfl] at hcv8
   go_simp
   refine hK _ _ (hCw.out _ hB7.out) ?_
   clear hK K hcv8 hO1_7
   have cE:=hCw.out _ hB7.out
   refine go_calms [10,12,13] 0 rfl (by kernel_rfl) (by kernel_rfl) (by kernel_rfl) cE ?_
   simp [nth]
   try simp only [Act.put]
   refine quiet_any rfl (.string (one x++x2)) (fun w' hw'=>by go_simp) ?_
   simp only [Act.put,zT9,zS9,zZ9]
   refine quiet_any rfl (.string (one x++x2++g)) (fun w' hw'=>by go_simp) ?_
   simp only [Act.put,zT9,zS9,zZ9]
   repeat (go_big_quiet_step (first | exact fun _=>rfl | rfl))
   refine wpQuiet_nil ?_
   refine go_done (by kernel_rfl) ?_
   go_simp
   go_wp2_with fail
   go_meet
   exact ⟨by rw [hG0.out],hB7⟩
 case rest=>
  clear hCw
  obtain ⟨rfl,hB2⟩:=hcut
  have hQ2:=Box.mk (hQ1.out.here hB2.out)
  have hB3:=Box.mk (mono_bel hBz.out hB2.out (Nat.le_refl _))
  clear hQ1 hB2 hBz hNum hG0 z1 z2
  replace hxl:=Box.mk hxl
  go_wp2_with fail
  go_loopw [9,10] (fun v9 v10 wr=>∃ j:Nat,j<=h/\v9=.string (G j)/\v10=.int .i64 (j:Int)/\Box (QKey wr b s h u)/\Box (Below w.heap.size w wr)) (fun _ v10 _=>h-(intOf v10).toNat)
  case atStart=>exact ⟨0,by omega,rfl,rfl,hQ2,hB3⟩
  case round=>
   clear hQ2 hB3
   obtain ⟨j,hj,rfl,rfl,hQ,hB⟩:=hrel
   obtain ⟨⟨bl,cl,lv,hq⟩,_⟩:=hQ.out
   by_cases hlt:j<h
   ·have hm1:n / 2 ^ j<2 ^ (h-j):=by
     rw [Nat.div_lt_iff_lt_mul (Nat.two_pow_pos j),<- Nat.pow_add,show h-j+j=h by omega]
     exact hn.out
    have hpe:2 ^ (h-j)=2*2 ^ (h-(j+1)):=by rw [<- Nat.pow_succ']; congr 1; omega
    have hle:2 ^ (h-j)<=16:=pow_le _ (by omega)
    have hdv:(n:Int) / 2 ^ j=((n / 2 ^ j:Nat):Int):=by simp
    obtain ⟨m,hm⟩:∃ m,n / 2 ^ j=m:=⟨_,rfl⟩
    rw [hm] at hm1 hdv
    have hnb:nb m<2 ^ (h-j):=by unfold nb; split <;> omega
    obtain ⟨g1,c1,hc⟩:=hq.qc j (nb m) (by omega) hnb
    have hx:bits .xor .i64 (m:Int) 1=((nb m:Nat):Int):=xor_nb m (by omega)
    have hGj:=hGs.out j
    have hGl:=hGz.out j
    have hyz:=besV_size s n j
    rw [show besV s n j=lvl s j (nb m) by rw [besV,hm]] at hGj hyz
    obtain ⟨y,hy⟩:∃ y,lvl s j (nb m)=y:=⟨_,rfl⟩
    rw [hy] at hc hGj hyz
    obtain ⟨q,hq2⟩:∃ q,nb m=q:=⟨_,rfl⟩
    obtain ⟨N,hN⟩:∃ N,2 ^ (h-j)=N:=⟨_,rfl⟩
    rw [hq2] at hc hnb hx
    rw [hN] at hc hnb hle hm1
    have hd:QC wr.drew b h u bl cl g1 c1 j q N y:=hc.below (dB wr)
    have k1:=hc.c1
    have z3:(G j).size+y.size<=9223372036854775807:=by omega
    have hQd:=Box.mk (hQ.out.here (dB wr))
    have hBd:=Box.mk (mono_bel hB.out (dB wr) (Nat.le_refl _))
    replace hGj:=Box.mk hGj
    clear hq hm hq2 hN hpe hy hGl hyz hQ hB hc
    go_wp2_with fail
    refine region_go (C:=fun w'=>QC w' b h u bl cl g1 c1 j q N y) rfl ?_
    refine go_calms [0,1,2,3,4,5,6,7,8,9,10,11,12,13,14,15] 0 rfl (by kernel_rfl) (by kernel_rfl) (by kernel_rfl) hd ?_
    simp [nth]
    try simp only [Act.put]
    repeat (go_big_quiet_step (first | exact fun _=>rfl | rfl))
    refine quiet_any rfl (.slice (some ⟨bl,0,none⟩) (h+1) cl) (fun w' hw'=>by have h:=hw'.c2; go_simp) ?_
    simp only [Act.put,zT9,zS9,zZ9]
    repeat (go_big_quiet_step (first | exact fun _=>rfl | rfl))
    refine quiet_any rfl (.slice (some ⟨g1,0,none⟩) N c1) (fun w' hw'=>by have h:=hw'.l; go_simp) ?_
    simp only [Act.put,zT9,zS9,zZ9]
    repeat (go_big_quiet_step (first | exact fun _=>rfl | rfl))
    refine quiet_any rfl (.string y) (fun w' hw'=>by have h:=hw'.x; go_simp) ?_
    simp only [Act.put,zT9,zS9,zZ9]
    refine quiet_any rfl (.string (G j++y)) (fun w' hw'=>by go_simp) ?_
    simp only [Act.put,zT9,zS9,zZ9]
    repeat (go_big_quiet_step (first | exact fun _=>rfl | rfl))
    refine wpQuiet_nil ?_
    refine go_done (by kernel_rfl) ?_
    go_simp
    clear hd k1 hx hdv z3
    go_wp2_with fail
    exact ⟨⟨j+1,by omega,by rw [hGj.out],by go_num,hQd,hBd⟩,by simp [intOf]; omega⟩
   ·obtain rfl:j=h:=by omega
    have k1:wr.cell? ⟨b,1,none⟩=some (.int .i64 (j:Int)):=hq.blk.cell 1
    clear hq
    go_wp2_with fail
    go_ret
    exact ⟨rfl,hB.out⟩
end Go.Proofs.YthpfpkikmaiddaaGreatDoor
