/- - -/
import Derived.SizedLaws
import Derived.Deep.DeepHandedRow
import Derived.Deep.Slices
import Derived.ChangeMaps5
import Derived.Test.YthpfpkikmaiddaaGreatDoorZch
set_option linter.all false
namespace Go.Proofs.YthpfpkikmaiddaaGreatDoor.Pk
theorem layM_never:∀ (l:List Bs) (D:Dev) (n:Nat),D.off=false->D.fall=0->n+l.length<=D.safe.length->(∀ t ∈ l,t.length<=64) ->
  (layM l D n).1=0/\(layM l D n).2.off=false/\(layM l D n).2.fall=0/\(layM l D n).2.taken=D.taken+l.length+1/\(layM l D n).2.safe.length=D.safe.length
 | [],D,n,ho,hf,_,_=>by
  obtain ⟨h1,h2⟩:=barrier_goes ho (by omega)
  unfold layM
  rw [h1,h2]
  refine ⟨rfl,ho,by show D.fall-1=0; omega,rfl,?_⟩
  show D.seen.length=_
  exact Dev.ok.seen_len
 | t::r,D,n,ho,hf,hn,ht=>by
  have hl:(t::r).length=r.length+1:=by simp
  rw [hl] at hn
  obtain ⟨h1,h2⟩:=write_goes (n:=n) (t:=t) ho (by omega) (ht t (by simp)) (by omega)
  unfold layM
  rw [h1,if_pos rfl]
  have ih:=layM_never r (D.write n t) (n+1) (by rw [h2]; exact ho) (by rw [h2]; show D.fall-1=0; omega) (by rw [h2]; show n+1+r.length<=D.safe.length; omega) (fun u hu=>ht u (by simp [hu]))
  have e1:(D.write n t).taken=D.taken+1:=by rw [h2]
  have e2:(D.write n t).safe.length=D.safe.length:=by rw [h2]
  refine ⟨ih.1,ih.2.1,ih.2.2.1,by rw [ih.2.2.2.1,e1,hl]; omega,ih.2.2.2.2.trans e2⟩
theorem commit_never {D:Dev} {base half num:Nat} {c d:Ct} {last:Nat} (hD:Calm D) (hf:D.fall=0) (hR:Region D.safe base half num c last) (hd:d.ok) (hn:num<1000000) (hl:(bytesC d).length<=64*(half-1)) :
  (commitM D (toC base half last) (hdr (num+1) (bytesC d).length) (pieces d)).1=0/\Done D (commitM D (toC base half last) (hdr (num+1) (bytesC d).length) (pieces d)).2 base half num d last /\
   (commitM D (toC base half last) (hdr (num+1) (bytesC d).length) (pieces d)).2.taken=D.taken+(pieces d).length+5/\(commitM D (toC base half last) (hdr (num+1) (bytesC d).length) (pieces d)).2.fall=0:=by
 have hfit:=hR.fit
 have h2:=hR.half2
 have hi:=toC_in (base:=base) hR.last1 h2
 have hpl:=pieces_len d half hl
 have a1:=layM_never [zeros] D (toC base half last) hD.off hf (by simp; omega) (by simp [zeros])
 obtain ⟨x1,x2,x3,x4,x5⟩:=a1
 have a2:=layM_never (pieces d) _ (toC base half last+1) x2 x3 (by rw [x5]; omega) (pieces_le d)
 obtain ⟨y1,y2,y3,y4,y5⟩:=a2
 have a3:=layM_never [hdr (num+1) (bytesC d).length] _ (toC base half last) y2 y3 (by rw [y5,x5]; simp; omega) (by simp [hdr_length])
 obtain ⟨z1,z2,z3,z4,z5⟩:=a3
 have e:commitM D (toC base half last) (hdr (num+1) (bytesC d).length) (pieces d)=layM [hdr (num+1) (bytesC d).length] (layM (pieces d) (layM [zeros] D (toC base half last)).2 (toC base half last+1)).2 (toC base half last):=by
  unfold commitM; rw [x1,if_pos rfl,y1,if_pos rfl]
 rcases commit_cases hD hR hd hn hl with ⟨c1,c2⟩ | ⟨c1,_,_⟩
 ·refine ⟨c1,c2,?_,?_⟩
  ·rw [e,z4,y4,x4]; simp; omega
  ·rw [e]; exact z3
 ·rw [e,z1] at c1; cases c1
end Go.Proofs.YthpfpkikmaiddaaGreatDoor.Pk
namespace Go.Proofs.YthpfpkikmaiddaaGreatDoor.Pk
open Go.RowKit Go.Maps
def DoesIn (w0:World) (f:FuncId) (args:Array Value) (O:Obj) (Q:Ending->Obj):Prop:=
 ∀ w F,O w F->(∀ k,F k->w0.heap.size<=k)->Below w0.heap.size w0 w->Calls Tryz.prog f args w fun e w'=>Box (Q e w' (Ext F w w')/\Chg F w w')
theorem Does.in_ {w0:World} {f:FuncId} {args:Array Value} {O:Obj} {Q:Ending->Obj} (h:Does f args O Q):DoesIn w0 f args O Q:=fun w F hO _ _=>h w F hO
theorem DoesIn.beside {w0:World} {f:FuncId} {args:Array Value} {O:Obj} {Q:Ending->Obj} (h:DoesIn w0 f args O Q) {O2:Obj} (g2:Good O2):DoesIn w0 f args (Pair2 O O2) fun e=>Pair2 (Q e) O2:=by
 rintro w F ⟨F1,F2,h1,h2,hd,e1,e2,hl⟩ hF hB
 refine (h w F1 h1 (fun k hk=>hF k (e1 k hk)) hB).mono fun e w' hb=>⟨⟨Ext F1 w w',F2,hb.out.1,g2.chg h2 hb.out.2 fun k hk hk2=>hd k hk2 hk,fun k hk hk2=>?_,fun k hk=>?_,fun k hk=>.inl (e2 k hk),fun k hk=>?_⟩,hb.out.2.mono fun k _ hk=>e1 k hk⟩
 ·rcases hk with hk | hk
  ·exact hd k hk hk2
  ·have:=g2.lt h2 k hk2; omega
 ·rcases hk with hk | hk
  ·exact .inl (e1 k hk)
  ·exact .inr hk
 ·rcases hk with hk | hk
  ·exact Nat.lt_of_lt_of_le (hl k hk) hb.out.2.size
  ·exact hk.2
theorem DoesIn.conv {w0:World} {f:FuncId} {args:Array Value} {O O':Obj} {Q Q':Ending->Obj} (h:DoesIn w0 f args O Q) (hO:∀ w F,O' w F->O w F) (hQ:∀ e w F,Q e w F->Q' e w F):DoesIn w0 f args O' Q':=
 fun w F hw hF hB=>(h w F (hO w F hw) hF hB).mono fun _ _ hb=>⟨hQ _ _ _ hb.out.1,hb.out.2⟩
theorem RetE.beside {v:Value} {O O2:Obj} {e:Ending} {w:World} {F:Nat->Prop} (h:Pair2 (RetE v O e) O2 w F):RetE v (Pair2 O O2) e w F:=by
 obtain ⟨F1,F2,⟨h0,h1⟩,h2⟩:=h
 exact ⟨h0,F1,F2,h1,h2⟩
theorem DoesIn.ret {w0:World} {f:FuncId} {args:Array Value} {O O':Obj} {v:Value} (h:DoesIn w0 f args O (RetE v O')) {O2:Obj} (g2:Good O2):DoesIn w0 f args (Pair2 O O2) (RetE v (Pair2 O' O2)):=
 (h.beside g2).conv (fun _ _ h=>h) fun _ _ _ h=>RetE.beside h
theorem DoesIn.ret' {w0:World} {f:FuncId} {args:Array Value} {O O':Obj} {v:Value} (h:DoesIn w0 f args O (RetE v O')) {O2:Obj} (g2:Good O2):DoesIn w0 f args (Pair2 O2 O) (RetE v (Pair2 O2 O')):=
 (h.ret g2).conv (fun _ _ h=>h.swap) fun _ _ _ h=>⟨h.1,h.2.swap⟩
theorem Kept.step {w0 w:World} {O O':Obj} {f:FuncId} {args:Array Value} {v:Value} (h:Kept w0 O w) (hd:DoesIn w0 f args O (RetE v O')):Calls Tryz.prog f args w fun e w'=>e=.returned v/\Box (Kept w0 O' w'):=by
 obtain ⟨F,h1,h2,h3⟩:=h
 refine (hd w F h1 h2 h3).mono fun e w' hb=>⟨hb.out.1.1,⟨_,hb.out.1.2,fun k hk=>?_,h3.trans (hb.out.2.below h3.size h2)⟩⟩
 rcases hk with hk | hk
 ·exact h2 k hk
 ·exact Nat.le_trans h3.size hk.1
theorem Kept.stepQ {w0 w:World} {O:Obj} {f:FuncId} {args:Array Value} {Q:Ending->Obj} (h:Kept w0 O w) (hd:DoesIn w0 f args O Q):Calls Tryz.prog f args w fun e w'=>Box (Kept w0 (Q e) w'):=by
 obtain ⟨F,h1,h2,h3⟩:=h
 refine (hd w F h1 h2 h3).mono fun e w' hb=>⟨_,hb.out.1,fun k hk=>?_,h3.trans (hb.out.2.below h3.size h2)⟩
 rcases hk with hk | hk
 ·exact h2 k hk
 ·exact Nat.le_trans h3.size hk.1
theorem Kept.start {w0 w w':World} {O:Obj} {G:Nat->Prop} (hB0:Below w0.heap.size w0 w) (hB:Below w.heap.size w w') (h:O w' G) (hG:∀ k,G k->w.heap.size<=k):Kept w0 O w':=
 ⟨G,h,fun k hk=>Nat.le_trans hB0.size (hG k hk),hB0.trans (hB.mono hB0.size)⟩
def OpenQ (bd base half:Nat) (D:Dev) (M:CellM):Ending->Obj:=fun e w F=>∃ bc,e=.returned (.tuple #[.pointer (some ⟨bc,0,none⟩),.int .i64 0])/\Pair2 (DevO bd D) (CelO bd bc base half M) w F
theorem open_does (bd base half:Nat) (D:Dev) (M:CellM) (hoff:D.off=false) (h2:2<=half) (hin:base+2*half<=D.safe.length) (hM:openN D.seen base half=(M.num,M.was,M.last)) (hMn:M.now=M.was) (hMo:M.off=false) (hok:M.ok base half) :
  Does 36 #[.pointer (some ⟨bd,0,none⟩),.int .i64 (base:Int),.int .i64 (half:Int)] (DevO bd D) (OpenQ bd base half D M):=by
 intro w F h
 have hl:∀ k,F k->k<w.heap.size:=h.lt
 refine (open_fit bd F D base half w h hoff h2 hin M hM hMn hMo hok).mono fun e w' ⟨bc,he,hb⟩=>⟨⟨bc,he,F,_,DAt.below h hb.out.1,hb.out.2,fun k hk hk2=>by have:=hl k hk; omega,fun _=>.inl,fun _=>.inr,fun k hk=>?_⟩,(Chg.of_below hb.out.1).mono fun i hi hk=>by omega⟩
 rcases hk with hk | hk
 ·exact Nat.lt_of_lt_of_le (hl k hk) hb.out.1.size
 ·exact hk.2
theorem newdev_kept {w0 w:World} (hB0:Below w0.heap.size w0 w) (n:Nat) (h1:1<=n) (h2:n<=4096) :
  Calls Tryz.prog 7 #[.int .i64 (n:Int)] w fun e w'=>∃ bd,e=.returned (.tuple #[.pointer (some ⟨bd,0,none⟩),.int .i64 0])/\Box (Kept w0 (DevO bd (Dev.new n)) w'):=
 (new_fit n w h1 h2).mono fun _ _ ⟨bd,a,b,c⟩=>⟨bd,a,⟨Kept.start hB0 c b fun _ hk=>hk.1⟩⟩
theorem Kept.opens {w0 w:World} {bd base half:Nat} {D:Dev} {O:Obj} (h:Kept w0 (Pair2 (DevO bd D) O) w) (g:Good O) (M:CellM) (hoff:D.off=false) (h2:2<=half) (hin:base+2*half<=D.safe.length) (hM:openN D.seen base half=(M.num,M.was,M.last)) (hMn:M.now=M.was) (hMo:M.off=false) (hok:M.ok base half) :
  Calls Tryz.prog 36 #[.pointer (some ⟨bd,0,none⟩),.int .i64 (base:Int),.int .i64 (half:Int)] w fun e w'=>∃ bc,e=.returned (.tuple #[.pointer (some ⟨bc,0,none⟩),.int .i64 0])/\Box (Kept w0 (Pair2 (Pair2 (DevO bd D) (CelO bd bc base half M)) O) w'):=
 (h.stepQ ((open_does bd base half D M hoff h2 hin hM hMn hMo hok).in_.beside g)).mono fun e w' hb=>by
  obtain ⟨F,⟨F1,F2,⟨bc,he,h1⟩,h3⟩,h4⟩:=hb.out
  exact ⟨bc,he,⟨F,⟨F1,F2,h1,h3⟩,h4⟩⟩
end Go.Proofs.YthpfpkikmaiddaaGreatDoor.Pk
namespace Go.Proofs.YthpfpkikmaiddaaGreatDoor.Pk
open Go.RowKit Go.Maps
structure Sound (base half:Nat) (D:Dev) (M:CellM):Prop where
 calm:Calm D
 region:Region D.safe base half M.num M.was M.last
 ok:M.ok base half
 off:M.off=false
theorem Sound.now {base half:Nat} {D:Dev} {M:CellM} (h:Sound base half D M) {c:Ct} (hc:c.ok):Sound base half D { M with now:=c }:=⟨h.calm,h.region,⟨hc,h.ok.was,h.ok.num,h.ok.last,h.ok.base,h.ok.half⟩,h.off⟩
structure Goes (base half:Nat) (D:Dev) (M:CellM):Prop where
 e:commitE base half D M=0
 c:commitC base half D M={ M with was:=M.now,num:=M.num+1,last:=1-M.last }
 sound:Sound base half (commitD base half D M) (commitC base half D M)
 taken:(commitD base half D M).taken=D.taken+(pieces M.now).length+5
 fall:(commitD base half D M).fall=0
 len:(commitD base half D M).safe.length=D.safe.length
 out:∀ i,i<base∨base+2*half<=i->(commitD base half D M).safe[i]?=D.safe[i]?
theorem Sound.goes {base half:Nat} {D:Dev} {M:CellM} (h:Sound base half D M) (hf:D.fall=0) (hn:M.num<1000000) (hl:(bytesC M.now).length<=64*(half-1)):Goes base half D M:=by
 obtain ⟨a1,a2,a3,a4⟩:=commit_never h.calm hf h.region h.ok.now hn hl
 have eE:commitE base half D M=(commitM D (toC base half M.last) (hdr (M.num+1) (bytesC M.now).length) (pieces M.now)).1:=by unfold commitE; rw [h.off,if_neg (by decide),if_neg (by omega)]
 have eD:commitD base half D M=(commitM D (toC base half M.last) (hdr (M.num+1) (bytesC M.now).length) (pieces M.now)).2:=by unfold commitD; rw [h.off,if_neg (by decide),if_neg (by omega)]
 have eC:commitC base half D M={ M with was:=M.now,num:=M.num+1,last:=1-M.last }:=by unfold commitC; rw [h.off,if_neg (by decide),if_neg (by omega),if_pos a1]
 have hok:=commitC_ok (D:=D) h.ok hn
 exact ⟨by rw [eE]; exact a1,eC,⟨by rw [eD]; exact a2.calm,by rw [eD,eC]; exact a2.region,hok,by rw [eC]; exact h.off⟩,by rw [eD]; exact a3,by rw [eD]; exact a4,by rw [eD]; exact a2.len,by rw [eD]; exact a2.out⟩
def M0:CellM:=⟨[],[],0,1,false⟩
theorem Calm.new (n:Nat) (h:n<=4096):Calm (Dev.new n):=⟨Dev.new_ok n h,rfl,rfl⟩
theorem new_zero (n i:Nat):(Dev.new n).safe.getD i zeroS=zeroS:=by
 show (List.replicate n zeroS).getD i zeroS=zeroS
 rw [List.getD_eq_getElem?_getD,List.getElem?_replicate]
 split <;> rfl
theorem Sound.new (n base half:Nat) (hn:n<=4096) (h2:2<=half) (hf:base+2*half<=n):Sound base half (Dev.new n) M0:=
 ⟨Calm.new n hn,Region.new _ _ _ (by show base+2*half<=(List.replicate n zeroS).length; rw [List.length_replicate]; exact hf) h2 (new_zero n),⟨Ct.ok_nil,Ct.ok_nil,by decide,by decide,by omega,by omega⟩,rfl⟩
theorem Sound.opens {base half:Nat} {D:Dev} {M:CellM} (h:Sound base half D M):openN D.seen base half=(M.num,M.was,M.last):=by
 rw [seen_calm h.calm]; exact h.region.opensN
end Go.Proofs.YthpfpkikmaiddaaGreatDoor.Pk
namespace Go.Proofs.YthpfpkikmaiddaaGreatDoor.Pk
open Go Go.ChangeShapes Go.WideShapes Go.ChangeAt Go.RowKit Go.ChangeMaps
theorem u8_of {n:Int} (h:(Lit.int .u8 n).wf=true):∃ x:UInt8,n=(x.toNat:Int):=by
 have h0:IntKind.u8.min<=n/\n<=IntKind.u8.max:=by simpa [Lit.wf] using h
 have h1:IntKind.u8.min=0:=by decide
 have h2:IntKind.u8.max=255:=by decide
 exact ⟨UInt8.ofNat n.toNat,by simp [UInt8.toNat_ofNat']; omega⟩
structure RowIn (w:World) (a:Option Addr) (L:Nat) (P:Nat->Value->Prop):Prop where
 out:0<L->∃ cb co,a=some ⟨cb,co,none⟩/\cb<w.heap.size/\∀ i,i<L->∃ v,w.cell? ⟨cb,co+i,none⟩=some v/\P i v
theorem RowIn.of {w:World} {a:Addr} {L:Nat} {P:Nat->Value->Prop} (h:∀ i,i<L->∃ v,w.cell? (a.add i)=some v/\P i v):RowIn w (some a) L P:=⟨fun h0=>by
 obtain ⟨v0,hc0,_⟩:=h 0 h0
 obtain ⟨blk,off,spot⟩:=a
 have hspot:spot=none:=by simpa [Addr.add] using World.cell?_spot hc0
 subst hspot
 have hadd:∀ j,(⟨blk,off,none⟩:Addr).add j=⟨blk,off+j,none⟩:=fun j=>by
  unfold Addr.add
  split
  ·next h=>subst h; rfl
  ·rfl
 refine ⟨blk,off,rfl,?_,fun i hi=>?_⟩
 ·have:=World.block_lt_of_cell? w _ hc0
  rw [hadd] at this; exact this
 ·obtain ⟨v,h1,h2⟩:=h i hi
  rw [hadd] at h1
  exact ⟨v,h1,h2⟩⟩
def IsStr (_:Nat) (v:Value):Prop:=∃ s:ByteArray,v=.string s/\s.size<=9223372036854775807
def IsU8 (_:Nat) (v:Value):Prop:=∃ x:UInt8,v=.int .u8 (x.toNat:Int)
theorem strs_open {H:Type} {enc:TypeId × Value->H} {w:World} {base:Nat} {held:Bool} {fuel:Nat} {a0:Option Addr} {l0 c0:Nat} {x:DataW H × List MemPlace}
  (h:DataW.trod enc Tryz.prog w base (fun _=>true) held fuel 22 [.slice a0 l0 c0]=some x):RowIn w a0 l0 IsStr/\l0<=c0/\c0<=maxLen:=by
 rcases Deep.open_slice Tryz.underlying22 h with ⟨h0,_⟩ | ⟨a,len,cap,m,n,D,Pl,e0,hb,hl,hm,hmm,rfl,hx⟩
 ·simp at h0
  obtain ⟨rfl,rfl,rfl⟩:=h0
  exact ⟨⟨fun h=>by cases h⟩,Nat.le_refl _,Nat.zero_le _⟩
 ·simp at e0
  obtain ⟨rfl,rfl,rfl⟩:=e0
  simp only [if_true] at hmm
  have z9:Tryz.prog.cellsOf 9=1:=by kernel_rfl
  refine ⟨RowIn.of fun i hi=>?_,hl,hm⟩
  obtain ⟨cs',h1,h2⟩:=hx i (by omega)
  rw [z9,Nat.mul_one] at h1
  obtain ⟨q,e0,_,hq⟩:=DataW.trod_string Tryz.underlying9 h2
  subst e0
  obtain ⟨_,_,hcell⟩:=World.cells?_some h1
  have:=hcell 0 (by simp)
  unfold maxLen at hq
  exact ⟨_,by simpa [Deep.add_add] using this,q,rfl,by omega⟩
theorem u8s_open {H:Type} {enc:TypeId × Value->H} {w:World} {base:Nat} {held:Bool} {fuel:Nat} {a0:Option Addr} {l0 c0:Nat} {x:DataW H × List MemPlace}
  (h:DataW.trod enc Tryz.prog w base (fun _=>true) held fuel 23 [.slice a0 l0 c0]=some x):RowIn w a0 l0 IsU8/\l0<=c0/\c0<=maxLen:=by
 rcases Deep.open_slice Tryz.underlying23 h with ⟨h0,_⟩ | ⟨a,len,cap,m,n,D,Pl,e0,hb,hl,hm,hmm,rfl,hx⟩
 ·simp at h0
  obtain ⟨rfl,rfl,rfl⟩:=h0
  exact ⟨⟨fun h=>by cases h⟩,Nat.le_refl _,Nat.zero_le _⟩
 ·simp at e0
  obtain ⟨rfl,rfl,rfl⟩:=e0
  simp only [if_true] at hmm
  have z5:Tryz.prog.cellsOf 5=1:=by kernel_rfl
  refine ⟨RowIn.of fun i hi=>?_,hl,hm⟩
  obtain ⟨cs',h1,h2⟩:=hx i (by omega)
  rw [z5,Nat.mul_one] at h1
  obtain ⟨q,e0,_,hq⟩:=DataW.trod_int Tryz.underlying5 h2
  subst e0
  obtain ⟨y,rfl⟩:=u8_of hq
  obtain ⟨_,_,hcell⟩:=World.cells?_some h1
  have:=hcell 0 (by simp)
  exact ⟨_,by simpa [Deep.add_add] using this,y,rfl⟩
end Go.Proofs.YthpfpkikmaiddaaGreatDoor.Pk
namespace Go.Proofs.YthpfpkikmaiddaaGreatDoor.Pk
open Go.RowKit Go.Maps
end Go.Proofs.YthpfpkikmaiddaaGreatDoor.Pk
