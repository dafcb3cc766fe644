/- - -/
import Derived.Lib.SlicesCompact
import Derived.RangeFuncBound
import Derived.RangeFuncCalls
import Derived.RangeFuncLeaves
import Derived.RangeFuncBox
import Derived.Maps.AppendAt
import Derived.Shelf.AbstractIn
import Derived.Shelf.RegionOpen
import Derived.TacticsInMore
import Derived.LoopNIn
import Derived.LoopIn
import Derived.Test.YthpfpkikmaiddaaGreatDoorZtx
import Derived.Test.YthpfpkikmaiddaaGreatDoorZou
set_option linter.all false
set_option maxHeartbeats 3200000
set_option maxRecDepth 100000
namespace Go.Proofs.YthpfpkikmaiddaaGreatDoor
open Go Go.RowKit
def bl (a b:ByteArray):Bool:=Op.bytesLess a.toList b.toList
theorem bytesLess_iff:∀ a b:List UInt8,Op.bytesLess a b=decide (a<b)
 | _,[]=>by simp [Op.bytesLess]
 | [],y::s=>by simp [Op.bytesLess]
 | x::r,y::s=>by
  rw [Op.bytesLess,bytesLess_iff r s]
  by_cases h:x<y
  ·simp [h,List.cons_lt_cons_iff]
  ·by_cases he:x=y
   ·simp [he]
   ·simp [h,he,List.cons_lt_cons_iff]
theorem bl_iff (a b:ByteArray):bl a b=true ↔ a.data.toList<b.data.toList:=by
 rw [bl,bytesLess_iff,ByteArray.toList_eq,ByteArray.toList_eq]; simp
theorem ba_ext {a b:ByteArray} (h:a.data.toList=b.data.toList):a=b:=ByteArray.ext (Array.ext' h)
theorem bl_irrefl (a:ByteArray):bl a a=false:=by
 rw [Bool.eq_false_iff,ne_eq,bl_iff]; exact List.lt_irrefl _
theorem bl_trans {a b c:ByteArray} (h:bl a b=true) (k:bl b c=true):bl a c=true:=by
 rw [bl_iff] at *; exact List.lt_trans h k
theorem bl_asymm {a b:ByteArray} (h:bl a b=true):bl b a=false:=by
 rw [Bool.eq_false_iff]; intro k
 have:=bl_trans h k
 rw [bl_irrefl] at this; cases this
theorem bl_tri {a b:ByteArray} (h:bl a b=false) (hne:a ≠ b):bl b a=true:=by
 rw [bl_iff]
 have h1:¬ a.data.toList<b.data.toList:=fun k=>by rw [(bl_iff a b).2 k] at h; cases h
 rcases List.le_iff_lt_or_eq.1 (List.not_lt.1 h1) with h2 | h2
 ·exact h2
 ·exact absurd (ba_ext h2).symm hne
theorem eq_toList (a b:ByteArray):(a.toList==b.toList)=decide (a=b):=by
 rw [ByteArray.toList_eq,ByteArray.toList_eq,Bool.eq_iff_iff]
 simp only [beq_iff_eq,decide_eq_true_eq]
 exact ⟨ba_ext,fun h=>by rw [h]⟩
def okAt (ids:List ByteArray) (i:Nat):Bool:=decide ((ids.getD i ByteArray.empty).size=32) && (decide (i=0) || bl (ids.getD (i-1) ByteArray.empty) (ids.getD i ByteArray.empty))
def chkB (ids:List ByteArray) (need:Int):Bool:=decide (1<=need) && (decide (need<=(ids.length:Int)) && (decide (ids.length<=16) && (List.range ids.length).all (okAt ids)))
def chkE (ids:List ByteArray) (need:Int):Int:=if chkB ids need then 0 else 1
theorem chkB_iff (ids:List ByteArray) (need:Int):chkB ids need=true ↔ 1<=need/\need<=(ids.length:Int)/\ids.length<=16/\∀ i,i<ids.length->okAt ids i=true:=by
 simp [chkB]
theorem chk_no (ids:List ByteArray) (need:Int) (h:need<1∨(ids.length:Int)<need∨16<ids.length):chkE ids need=1:=by
 have:chkB ids need=false:=by
  rw [Bool.eq_false_iff]; intro k
  rw [chkB_iff] at k
  omega
 rw [chkE,this]; rfl
theorem chk_bad (ids:List ByteArray) (need:Int) (i:Nat) (hi:i<ids.length) (h:okAt ids i=false):chkE ids need=1:=by
 have:chkB ids need=false:=by
  rw [Bool.eq_false_iff]; intro k
  rw [((chkB_iff ids need).1 k).2.2.2 i hi] at h; cases h
 rw [chkE,this]; rfl
theorem chk_ok (ids:List ByteArray) (need:Int) (h1:1<=need) (h2:need<=(ids.length:Int)) (h3:ids.length<=16) (h:∀ i,i<ids.length->okAt ids i=true):chkE ids need=0:=by
 rw [chkE,if_pos ((chkB_iff ids need).2 ⟨h1,h2,h3,h⟩)]
def sgnB (id text:ByteArray) (s:ByteArray × ByteArray):Bool:=decide (s.1=id) && decide (verE id text s.2=0)
def whoL (ids:List ByteArray) (text:ByteArray) (sg:List (ByteArray × ByteArray)):List ByteArray:=ids.filter fun id=>sg.any (sgnB id text)
def whoE (ids:List ByteArray) (need:Int) (text:ByteArray) (sg:List (ByteArray × ByteArray)):List ByteArray:=if chkB ids need then whoL ids text sg else []
def enB (ids:List ByteArray) (need:Int) (text:ByteArray) (sg:List (ByteArray × ByteArray)):Bool:=chkB ids need && decide (need<=((whoL ids text sg).length:Int))
end Go.Proofs.YthpfpkikmaiddaaGreatDoor
namespace Go.Proofs.YthpfpkikmaiddaaGreatDoor
open Go Go.RowKit
theorem PartsAt.here {w w':World} {v:Value} {ps:List ByteArray} (h:PartsAt w v ps) (hb:Below w.heap.size w w'):PartsAt w' v ps:=by
 obtain ⟨a,cap,rfl,hh⟩:=h.ex
 refine ⟨a,cap,rfl,fun h0=>?_⟩
 obtain ⟨blk,off,e,hl,hc⟩:=hh h0
 exact ⟨blk,off,e,Nat.lt_of_lt_of_le hl hb.size,fun i hi=>(hb.cell (p:=⟨blk,off+i,none⟩) hl).trans (hc i hi)⟩
theorem check_some (blk off cap:Nat) (ids:List ByteArray) (need:Int) (w:World) (hlt:blk<w.heap.size) (hc:∀ i,i<ids.length->w.cell? ⟨blk,off+i,none⟩=some (.string (ids.getD i ByteArray.empty)))
  (hn1:1<=need) (hn2:need<=(ids.length:Int)) (hn3:ids.length<=16) :
  Calls Tryz.prog 105 #[.agg #[.slice (some ⟨blk,off,none⟩) ids.length cap,.int .i64 need]] w fun e w'=>e=.returned (.int .i64 (chkE ids need))/\Below w.heap.size w w':=by
 obtain ⟨L,hL⟩:∃ L,ids.length=L:=⟨_,rfl⟩
 have hbad:=fun i=>chk_bad ids need i
 have hok:=chk_ok ids need hn1 hn2 hn3
 have hE:∀ i,okAt ids i=(decide ((ids.getD i ByteArray.empty).size=32) && (decide (i=0) || bl (ids.getD (i-1) ByteArray.empty) (ids.getD i ByteArray.empty))):=fun _=>rfl
 obtain ⟨E,hEE⟩:∃ E,chkE ids need=E:=⟨_,rfl⟩
 rw [hEE] at hbad hok ⊢
 rw [hL] at hc hn2 hn3 hbad hok ⊢
 have hg1:¬ need<1:=by omega
 have hg2:¬ (L:Int)<need:=by omega
 have hg3:¬ 16<(L:Int):=by omega
 replace hbad:=Box.mk hbad
 replace hok:=Box.mk hok
 replace hc:=Box.mk hc
 replace hE:=Box.mk hE
 have hltB:=Box.mk hlt
 clear hL hlt hEE
 go_enter Tryz.func105,Tryz.ntmps105
 go_wp2_with fail
 have hB0:Box (Below w.heap.size w (w.alloc (.cells #[.slice (some ⟨blk,off,none⟩) L cap,.int .i64 need] 104))):=⟨(Below.refl _ _).alloc (Nat.le_refl _) _⟩
 go_loopw [3,4,25] (fun _ _ q wr=>∃ i:Nat,i<=L/\q=.int .i64 (i:Int)/\Box (∀ j,j<i->okAt ids j=true)/\wr=w.alloc (.cells #[.slice (some ⟨blk,off,none⟩) L cap,.int .i64 need] 104)) (fun _ _ q _=>L-(intOf q).toNat)
 case atStart=>exact ⟨0,by omega,rfl,⟨fun j hj=>by omega⟩,rfl⟩
 case round=>
  obtain ⟨i,hi,rfl,hA,rfl⟩:=hrel
  by_cases hlt:i<L
  ·have hx:=hc.out i hlt
   have hEi:=hE.out i
   have hbadi:=hbad.out i hlt
   obtain ⟨x,hxe⟩:∃ x,ids.getD i ByteArray.empty=x:=⟨_,rfl⟩
   rw [hxe] at hx hEi
   have hxw:(w.alloc (.cells #[.slice (some ⟨blk,off,none⟩) L cap,.int .i64 need] 104)).cell? ⟨blk,off+i,none⟩=some (.string x):=(hB0.out.cell (p:=⟨blk,off+i,none⟩) hltB.out).trans hx
   replace hEi:=Box.mk hEi
   replace hbadi:=Box.mk hbadi
   have hAn:∀ v,okAt ids i=v->v=true->∀ j,j<i+1->okAt ids j=true:=fun v e ev j hj=>by
    by_cases e2:j=i
    ·subst e2; rw [e,ev]
    ·exact hA.out j (by omega)
   replace hAn:=Box.mk hAn
   clear hx hxe
   by_cases hs:x.size=32
   ·by_cases h0:i=0
    ·subst h0
     rw [Nat.add_zero] at hxw
     go_wp2_with fail
     exact ⟨⟨1,by omega,rfl,⟨hAn.out true (by rw [hEi.out]; simp [hs]) rfl⟩,trivial⟩,by simp [intOf]; omega⟩
    ·have hy:=hc.out (i-1) (by omega)
     obtain ⟨y,hye⟩:∃ y,ids.getD (i-1) ByteArray.empty=y:=⟨_,rfl⟩
     have hEi2:=hEi.out
     rw [hye] at hy hEi2
     have hyw:(w.alloc (.cells #[.slice (some ⟨blk,off,none⟩) L cap,.int .i64 need] 104)).cell? ⟨blk,off+(i-1),none⟩=some (.string y):=(hB0.out.cell (p:=⟨blk,off+(i-1),none⟩) hltB.out).trans hy
     have hi1:(((i:Int)-1).toNat)=i-1:=by omega
     have hi2:0<(i:Int):=by omega
     have hble:bl y x=true->(Op.bytesLess x.toList y.toList || x.toList==y.toList)=false:=fun hb=>by
      have h1:Op.bytesLess x.toList y.toList=false:=bl_asymm hb
      rw [h1,eq_toList,Bool.false_or,decide_eq_false_iff_not]
      intro e
      rw [e,bl_irrefl] at hb; cases hb
     have hblt:bl y x=false->(Op.bytesLess x.toList y.toList || x.toList==y.toList)=true:=fun hb=>by
      rw [eq_toList]
      by_cases e:x=y
      ·simp [e]
      ·have h1:Op.bytesLess x.toList y.toList=true:=bl_tri hb (fun h=>e h.symm)
       rw [h1,Bool.true_or]
     replace hEi2:=Box.mk hEi2
     replace hble:=Box.mk hble
     replace hblt:=Box.mk hblt
     clear hy hye
     by_cases hb:bl y x=true
     ·have hcmp:=hble.out hb
      have hEk:Box (okAt ids i=true):=⟨by rw [hEi2.out]; simp [hs,hb]⟩
      clear hb
      go_wp2_with fail
      exact ⟨⟨i+1,by omega,by go_num,⟨hAn.out true hEk.out rfl⟩,trivial⟩,by simp [intOf]; omega⟩
     ·have hcmp:=hblt.out (by simpa using hb)
      have hEk:Box (okAt ids i=false):=⟨by rw [hEi2.out]; simp [hb,h0]⟩
      clear hb
      go_wp2_with fail
      go_returns
      exact ⟨by rw [hbadi.out hEk.out]; rfl,hB0.out⟩
   ·have hEk:Box (okAt ids i=false):=⟨by rw [hEi.out]; simp [hs]⟩
    go_wp2_with fail
    go_returns
    exact ⟨by rw [hbadi.out hEk.out]; rfl,hB0.out⟩
  ·obtain rfl:i=L:=by omega
   have hokL:Box (E=0):=⟨hok.out hA.out⟩
   go_wp2_with fail
   go_returns
   exact ⟨by rw [hokL.out]; rfl,hB0.out⟩
theorem check_no (a:Option Addr) (cap L:Nat) (need:Int) (w:World) (hL:L<=maxLen) (h:need<1∨(L:Int)<need∨16<L) :
  Calls Tryz.prog 105 #[.agg #[.slice a L cap,.int .i64 need]] w fun e w'=>e=.returned (.int .i64 1)/\Below w.heap.size w w':=by
 have hB0:Box (Below w.heap.size w (w.alloc (.cells #[.slice a L cap,.int .i64 need] 104))):=⟨(Below.refl _ _).alloc (Nat.le_refl _) _⟩
 unfold maxLen at hL
 by_cases h1:need<1
 ·clear h
  go_enter Tryz.func105,Tryz.ntmps105
  go_wp2_with fail
  go_returns
  exact ⟨rfl,hB0.out⟩
 ·by_cases h2:(L:Int)<need
  ·clear h
   go_enter Tryz.func105,Tryz.ntmps105
   go_wp2_with fail
   go_returns
   exact ⟨rfl,hB0.out⟩
  ·have h3:(16:Int)<(L:Int):=by omega
   clear h
   go_enter Tryz.func105,Tryz.ntmps105
   go_wp2_with fail
   go_returns
   exact ⟨rfl,hB0.out⟩
theorem check_any (v:Value) (ids:List ByteArray) (need:Int) (w:World) (hv:PartsAt w v ids) (hm:ids.length<=maxLen) :
  Calls Tryz.prog 105 #[.agg #[v,.int .i64 need]] w fun e w'=>e=.returned (.int .i64 (chkE ids need))/\Below w.heap.size w w':=by
 obtain ⟨a,cap,rfl,hh⟩:=hv.ex
 by_cases h:need<1∨(ids.length:Int)<need∨16<ids.length
 ·rw [chk_no ids need h]
  exact check_no a cap ids.length need w hm h
 ·obtain ⟨blk,off,rfl,hlt,hc⟩:=hh (by omega)
  exact check_some blk off cap ids need w hlt hc (by omega) (by omega) (by omega)
end Go.Proofs.YthpfpkikmaiddaaGreatDoor
namespace Go.Proofs.YthpfpkikmaiddaaGreatDoor
open Go Go.RowKit Go.Sort Go.Shelf
attribute [local go_sem] Oper.semAt_some
end Go.Proofs.YthpfpkikmaiddaaGreatDoor
namespace Go.Proofs.YthpfpkikmaiddaaGreatDoor
open Go Go.RowKit Go.Sort Go.Shelf
theorem chkE_of (ids:List ByteArray) (need:Int):chkE ids need=if chkB ids need then 0 else 1:=rfl
end Go.Proofs.YthpfpkikmaiddaaGreatDoor
namespace Go.Proofs.YthpfpkikmaiddaaGreatDoor
open Go Go.RowKit
end Go.Proofs.YthpfpkikmaiddaaGreatDoor
namespace Go.Proofs.YthpfpkikmaiddaaGreatDoor
open Go Go.RowKit
end Go.Proofs.YthpfpkikmaiddaaGreatDoor
namespace Go.Proofs.YthpfpkikmaiddaaGreatDoor
open Go Go.RowKit Go.Shelf
structure SigsAt (w:World) (v:Value) (sg:List (ByteArray × ByteArray)):Prop where
 ex:∃ (a:Option Addr) (cap:Nat),v=.slice a sg.length cap/\(0<sg.length->∃ blk off,a=some ⟨blk,off,none⟩/\blk<w.heap.size/\∀ i,i<sg.length->w.cell? ⟨blk,off+i*2,none⟩=some (.string (sg.getD i default).1)/\w.cell? ⟨blk,off+i*2+1,none⟩=some (.string (sg.getD i default).2))
theorem SigsAt.here {w w':World} {v:Value} {sg:List (ByteArray × ByteArray)} (h:SigsAt w v sg) (hb:Below w.heap.size w w'):SigsAt w' v sg:=by
 obtain ⟨a,cap,rfl,hh⟩:=h.ex
 refine ⟨a,cap,rfl,fun h0=>?_⟩
 obtain ⟨blk,off,e,hl,hc⟩:=hh h0
 exact ⟨blk,off,e,Nat.lt_of_lt_of_le hl hb.size,fun i hi=>⟨(hb.cell (p:=⟨blk,off+i*2,none⟩) hl).trans (hc i hi).1,(hb.cell (p:=⟨blk,off+i*2+1,none⟩) hl).trans (hc i hi).2⟩⟩
theorem closure_any (b1 b2:Nat) (id text i t:ByteArray) (w:World) (h1:w.cell? ⟨b1,0,none⟩=some (.string id)) (h2:w.cell? ⟨b2,0,none⟩=some (.string text)) (l1:b1<w.heap.size) (l2:b2<w.heap.size) (hK:KIs w) (ht:text.size<=140737488351232) :
  Calls Tryz.prog 266 #[.agg #[.string i,.string t],.pointer (some ⟨b1,0,none⟩),.pointer (some ⟨b2,0,none⟩)] w fun e w'=>e=.returned (.bool (sgnB id text (i,t)))/\Below w.heap.size w w':=by
 obtain ⟨W1,hW1⟩:∃ W1,w.alloc (.cells #[.string i,.string t] 58)=W1:=⟨_,rfl⟩
 have hB1:Below w.heap.size w W1:=by rw [<- hW1]; exact bel_alloc _ _
 have hS1:Blk W1 w.heap.size [.string i,.string t] 58:=by rw [<- hW1]; exact Blk.new w _ _
 have c1:=(hB1.cell (p:=⟨b1,0,none⟩) l1).trans h1
 have c2:=(hB1.cell (p:=⟨b2,0,none⟩) l2).trans h2
 have s0:W1.cell? ⟨w.heap.size,0,none⟩=some (.string i):=hS1.cell 0
 have s1:W1.cell? ⟨w.heap.size,1,none⟩=some (.string t):=hS1.cell 1
 have hF:=verify_any id text t W1 (hK.below hB1 hK.lt) (by omega)
 have heq:(i.toList==id.toList)=decide (i=id):=eq_toList i id
 have hres:sgnB id text (i,t)=(decide (i=id) && decide (verE id text t=0)):=rfl
 obtain ⟨E,hE⟩:∃ E,verE id text t=E:=⟨_,rfl⟩
 rw [hE] at hF hres
 rw [hres]
 replace hB1:=Box.mk hB1
 clear h1 h2 l1 l2 hK ht hS1 hres hE
 by_cases hi:i=id
 ·rw [show decide (i=id)=true by simpa using hi] at heq ⊢
  clear hi
  go_enter Tryz.func266,Tryz.ntmps266
  go_wp2_with fail
  refine hF.mono ?_
  rintro e w2 ⟨rfl,hb2⟩
  have hB2:=Box.mk (mono_bel hB1.out hb2 (Nat.le_refl _))
  clear hF hb2
  go_wp2_with fail
  go_ret
  exact ⟨by by_cases h:E=0 <;> simp [h],hB2.out⟩
 ·rw [show decide (i=id)=false by simpa using hi] at heq ⊢
  clear hi
  go_enter Tryz.func266,Tryz.ntmps266
  go_wp2_with fail
  go_ret
  exact ⟨by simp,hB1.out⟩
theorem index_zero (a:Option Addr) (c:Nat) (f:Value) (w:World) (hf:∃ g l,f=.func (.func g) #[] l) :
  Calls Tryz.prog 264 #[.slice a 0 c,f] w fun e w'=>e=.returned (.int .i64 (-1))/\Below w.heap.size w w':=by
 obtain ⟨g,l,rfl⟩:=hf
 have hB0:Box (Below w.heap.size w w):=⟨Below.refl _ _⟩
 go_enter Tryz.func264,Tryz.ntmps264
 go_wp2_with fail
 go_loopw [5,8] (fun _ q wr=>q=.int .i64 0/\wr=w) (fun _ _ _=>0)
 case atStart=>exact ⟨rfl,rfl⟩
 case round=>
  obtain ⟨rfl,rfl⟩:=hrel
  go_wp2_with fail
  go_ret
  exact ⟨rfl,hB0.out⟩
theorem contains_zero (a:Option Addr) (c:Nat) (f:Value) (w:World) (hf:∃ g l,f=.func (.func g) #[] l) :
  Calls Tryz.prog 213 #[.slice a 0 c,f] w fun e w'=>e=.returned (.bool false)/\Below w.heap.size w w':=by
 have hF:=index_zero a c f w hf
 obtain ⟨g,l,rfl⟩:=hf
 go_enter Tryz.func213,Tryz.ntmps213
 go_wp2_with fail
 refine hF.mono ?_
 rintro e w2 ⟨rfl,hb2⟩
 replace hb2:=Box.mk hb2
 clear hF
 go_wp2_with fail
 go_ret
 exact ⟨rfl,hb2.out⟩
def sigC (x:ByteArray × ByteArray):List Value:=[.string x.1,.string x.2]
theorem contains_any (b1 b2:Nat) (id text:ByteArray) (v:Value) (sg:List (ByteArray × ByteArray)) (w:World) (hv:SigsAt w v sg) (hm:sg.length<=maxLen) (h1:w.cell? ⟨b1,0,none⟩=some (.string id)) (h2:w.cell? ⟨b2,0,none⟩=some (.string text)) (l1:b1<w.heap.size) (l2:b2<w.heap.size) (hK:KIs w) (ht:text.size<=140737488351232) :
  Calls Tryz.prog 213 #[v,.func (.func 266) #[] #[.pointer (some ⟨b1,0,none⟩),.pointer (some ⟨b2,0,none⟩)]] w fun e w'=>e=.returned (.bool (sg.any (sgnB id text)))/\Below w.heap.size w w':=by
 obtain ⟨a,cap,rfl,hh⟩:=hv.ex
 by_cases h0:0<sg.length
 ·obtain ⟨blk,off,rfl,hl,hc⟩:=hh h0
  have hp:PredBelow Tryz.prog 266 #[.pointer (some ⟨b1,0,none⟩),.pointer (some ⟨b2,0,none⟩)] (fun x=>.agg (sigC x).toArray) (sgnB id text) w:=fun W x hW=>
   (closure_any b1 b2 id text x.1 x.2 W ((hW.cell (p:=⟨b1,0,none⟩) l1).trans h1) ((hW.cell (p:=⟨b2,0,none⟩) l2).trans h2) (Nat.lt_of_lt_of_le l1 hW.size) (Nat.lt_of_lt_of_le l2 hW.size) (hK.below hW hK.lt) ht).mono fun e w' ⟨he,hb⟩=>⟨he,mono_bel hW hb (Nat.le_refl _)⟩
  have hbig:sg.length<=9223372036854775807:=by unfold maxLen at hm; omega
  have:=AnyQ.slices_ContainsFunc Tryz.containsL 2 Tryz.isAgg58 Tryz.sizeOf58 sigC (fun _=>rfl) (sgnB id text) 266 #[.pointer (some ⟨b1,0,none⟩),.pointer (some ⟨b2,0,none⟩)] (enters_of Tryz.func266 (by kernel_rfl) rfl) blk off sg.length cap sg w hp (Nat.le_refl _) hbig hl (fun j hj i u hi=>by
   have hjd:sg[j]! = sg.getD j default:=by rw [getElem!_pos sg j hj]; simp [List.getD,hj]
   rw [hjd] at hi
   obtain ⟨k1,k2⟩:=hc j hj
   match i,hi with
   | 0,hi=>cases hi; exact k1
   | 1,hi=>cases hi; exact k2
   | k+2,hi=>cases hi)
  rw [List.take_length] at this
  exact this
 ·obtain rfl:sg=[]:=List.length_eq_zero_iff.1 (by omega)
  exact contains_zero a cap _ w ⟨_,_,rfl⟩
theorem signed_any (id text:ByteArray) (v:Value) (sg:List (ByteArray × ByteArray)) (w:World) (hv:SigsAt w v sg) (hm:sg.length<=maxLen) (hK:KIs w) (ht:text.size<=140737488351232) :
  Calls Tryz.prog 217 #[.string id,.string text,v] w fun e w'=>e=.returned (.bool (sg.any (sgnB id text)))/\Below w.heap.size w w':=by
 obtain ⟨W1,hW1⟩:∃ W1,w.alloc (.cells #[.string id] 9)=W1:=⟨_,rfl⟩
 obtain ⟨W2,hW2⟩:∃ W2,W1.alloc (.cells #[.string text] 9)=W2:=⟨_,rfl⟩
 have hB1:Below w.heap.size w W1:=by rw [<- hW1]; exact bel_alloc _ _
 have hB2:Below W1.heap.size W1 W2:=by rw [<- hW2]; exact bel_alloc _ _
 have hS1:Blk W1 w.heap.size [.string id] 9:=by rw [<- hW1]; exact Blk.new w _ _
 have hS2:Blk W2 W1.heap.size [.string text] 9:=by rw [<- hW2]; exact Blk.new W1 _ _
 have hS1':=hS1.below hB2 hS1.lt
 have hB:=mono_bel hB1 hB2 (Nat.le_refl _)
 have hF:=contains_any w.heap.size W1.heap.size id text v sg W2 (hv.here hB) hm (hS1'.cell 0) (hS2.cell 0) hS1'.lt hS2.lt (hK.below hB hK.lt) ht
 obtain ⟨E,hE⟩:∃ E,sg.any (sgnB id text)=E:=⟨_,rfl⟩
 obtain ⟨C,hC⟩:∃ C,W1.heap.size=C:=⟨_,rfl⟩
 rw [hE] at hF ⊢
 rw [hC] at hF
 have hsv:∃ a l c,v=.slice a l c:=by
  obtain ⟨a,c,rfl,_⟩:=hv.ex; exact ⟨_,_,_,rfl⟩
 replace hB:=Box.mk hB
 clear hv hm hK ht hB1 hB2 hS1 hS2 hS1' hE
 obtain ⟨a,l,c,rfl⟩:=hsv
 go_enter Tryz.func217,Tryz.ntmps217
 go_wp2_with fail
 refine hF.mono ?_
 rintro e w3 ⟨rfl,hb3⟩
 have hB3:=Box.mk (mono_bel hB.out hb3 (Nat.le_refl _))
 clear hb3 hF
 go_wp2_with fail
 go_ret
 exact ⟨rfl,hB3.out⟩
theorem filter_take (p:ByteArray->Bool) (ids:List ByteArray) (i:Nat) (h:i<ids.length):(ids.take (i+1)).filter p=(ids.take i).filter p++if p (ids.getD i ByteArray.empty) then [ids.getD i ByteArray.empty] else []:=by
 rw [List.take_succ_eq_append_getElem h,List.filter_append]
 have:ids.getD i ByteArray.empty=ids[i]:=by simp [List.getD,h]
 rw [this]
 by_cases hp:p ids[i] <;> simp [hp]
structure WhAt (w0 w:World) (R:List ByteArray) (v:Value):Prop where
 row:TxR w0.heap.size w v R
 bel:Below w0.heap.size w0 w
theorem WhAt.here {w0 w w':World} {R:List ByteArray} {v:Value} (h:WhAt w0 w R v) (hb:Below w.heap.size w w'):WhAt w0 w' R v:=⟨h.row.here hb,mono_bel h.bel hb (Nat.le_refl _)⟩
def WhoS (B:Nat) (R:List ByteArray) (e:Ending) (w':World):Prop:=∃ v,e=.returned v/\TxR B w' v R
theorem who_good (blk off cap:Nat) (ids:List ByteArray) (need:Int) (text:ByteArray) (sv:Value) (sg:List (ByteArray × ByteArray)) (w:World) (hb:blk<w.heap.size) (hc:∀ i,i<ids.length->w.cell? ⟨blk,off+i,none⟩=some (.string (ids.getD i ByteArray.empty))) (hg:chkB ids need=true)
  (hs:SigsAt w sv sg) (hm:sg.length<=maxLen) (hK:KIs w) (ht:text.size<=140737488351232) :
  Calls Tryz.prog 165 #[.agg #[.slice (some ⟨blk,off,none⟩) ids.length cap,.int .i64 need],.string text,sv] w fun e w'=>WhoS w.heap.size (whoL ids text sg) e w'/\Below w.heap.size w w':=by
 obtain ⟨_,_,hl16,_⟩:=(chkB_iff ids need).1 hg
 obtain ⟨W1,hW1⟩:∃ W1,w.alloc (.cells #[.slice (some ⟨blk,off,none⟩) ids.length cap,.int .i64 need] 104)=W1:=⟨_,rfl⟩
 have hB1:Below w.heap.size w W1:=by rw [<- hW1]; exact bel_alloc _ _
 have hS1:Blk W1 w.heap.size [.slice (some ⟨blk,off,none⟩) ids.length cap,.int .i64 need] 104:=by rw [<- hW1]; exact Blk.new w _ _
 have hP:PartsAt W1 (.slice (some ⟨blk,off,none⟩) ids.length cap) ids:=PartsAt.here ⟨_,_,rfl,fun _=>⟨blk,off,rfl,hb,hc⟩⟩ hB1
 have hF:=check_any _ ids need W1 hP (by unfold maxLen; omega)
 rw [chkE_of,hg,if_pos rfl] at hF
 have hSig:=fun id w1 (h1:Below w.heap.size w w1)=>signed_any id text sv sg w1 (hs.here h1) hm (hK.below h1 hK.lt) ht
 obtain ⟨p,hp⟩:∃ p:ByteArray->Bool,(fun id=>sg.any (sgnB id text))=p:=⟨_,rfl⟩
 have hpe:∀ id,sg.any (sgnB id text)=p id:=fun id=>by rw [<- hp]
 rw [whoL,hp]
 have hst:=fun i hi=>filter_take p ids i hi
 obtain ⟨L,hL⟩:∃ L,ids.length=L:=⟨_,rfl⟩
 have hLb:=Box.mk hL
 rw [hL] at hc hF hst hS1 hW1 hl16 ⊢
 have s0:W1.cell? ⟨w.heap.size,0,none⟩=some (.slice (some ⟨blk,off,none⟩) L cap):=hS1.cell 0
 have s1:W1.cell? ⟨w.heap.size,1,none⟩=some (.int .i64 need):=hS1.cell 1
 have hS1b:=Box.mk hS1
 have hBb:=Box.mk hB1
 have hbB:=Box.mk hb
 replace hc:=Box.mk hc
 replace hSig:=Box.mk hSig
 replace hst:=Box.mk hst
 replace hpe:=Box.mk hpe
 have hsv:∃ a l c,sv=.slice a l c:=by
  obtain ⟨a,c,rfl,_⟩:=hs.ex; exact ⟨_,_,_,rfl⟩
 clear hg hs hm hK ht hB1 hS1 hP hL hp hb
 obtain ⟨sa,sl,sc,rfl⟩:=hsv
 go_enter Tryz.func165,Tryz.ntmps165
 go_wp2_with fail
 refine hF.mono ?_
 rintro e w2 ⟨rfl,hb2⟩
 have s2:w2.cell? ⟨w.heap.size,0,none⟩=some (.slice (some ⟨blk,off,none⟩) L cap):=(hS1b.out.below hb2 hS1b.out.lt).cell 0
 have hA0:Box (WhAt w w2 ((ids.take 0).filter p) (.slice none 0 0)):=⟨⟨TxR.nil _ _,mono_bel hBb.out hb2 (Nat.le_refl _)⟩⟩
 clear hF hb2 s0 s1 hS1b hBb hW1
 go_wp2_with fail
 go_loopw [7,9,16] (fun v7 _ q wr=>∃ i:Nat,i<=L/\q=.int .i64 (i:Int)/\Box (WhAt w wr ((ids.take i).filter p) v7)) (fun _ _ q _=>L-(intOf q).toNat)
 case atStart=>exact ⟨0,by omega,rfl,hA0⟩
 case round=>
  clear hA0 s2
  obtain ⟨i,hi,rfl,hA⟩:=hrel
  by_cases hlt:i<L
  ·have hx:=(hA.out.bel.cell (p:=⟨blk,off+i,none⟩) hbB.out).trans (hc.out i hlt)
   have hsti:=hst.out i hlt
   obtain ⟨x,hxe⟩:∃ x,ids.getD i ByteArray.empty=x:=⟨_,rfl⟩
   rw [hxe] at hx hsti
   have hF:=hSig.out x wr hA.out.bel
   rw [hpe.out] at hF
   obtain ⟨R,hR⟩:∃ R,(ids.take i).filter p=R:=⟨_,rfl⟩
   rw [hR] at hA hsti
   obtain ⟨a7,c7,e7⟩:=hA.out.row.shape
   have hRl:R.length<=L:=by rw [<- hR]; exact Nat.le_trans (List.length_filter_le _ _) (by rw [List.length_take,hLb.out]; omega)
   obtain ⟨n7,hn7⟩:∃ n,R.length=n:=⟨_,rfl⟩
   rw [hn7] at e7 hRl
   subst e7
   replace hn7:=Box.mk hn7
   clear hxe hR
   cases hpx:p x with
   | true=>
    rw [hpx] at hF hsti
    rw [if_pos rfl] at hsti
    replace hsti:=Box.mk hsti
    go_wp2_with fail
    refine hF.mono ?_
    rintro e w3 ⟨rfl,hb3⟩
    have hA3:=Box.mk (hA.out.here hb3)
    clear hF hA hb3 hx hpx
    go_wp2_with (at_builtin; refine wpList_pushT rfl (.tmp 24) (.tmp 26) rfl w.heap.size _ R [x] rfl (hA3.out.row.here (bel_alloc _ _)) (by have:=hA3.out.bel.size; simp; omega) (some ⟨w3.heap.size,0,none⟩) 1 1 rfl rfl (parts_new w3 [x] 9) (by rw [hn7.out]; omega) ?_)
    rintro v8 w8 hp8
    have hA8:Box (WhAt w w8 ((ids.take (i+1)).filter p) v8):=⟨⟨by rw [hsti.out]; exact hp8.row,hp8.bel (mono_bel hA3.out.bel (bel_alloc _ _) (Nat.le_refl _)) (hA3.out.row.here (bel_alloc _ _))⟩⟩
    clear hA3 hp8
    go_wp2_with fail
    exact ⟨⟨i+1,by omega,by go_num,hA8⟩,by simp [intOf]; omega⟩
   | false=>
    rw [hpx] at hF hsti
    rw [if_neg (by simp),List.append_nil] at hsti
    replace hsti:=Box.mk hsti
    go_wp2_with fail
    refine hF.mono ?_
    rintro e w3 ⟨rfl,hb3⟩
    have hA3:Box (WhAt w w3 ((ids.take (i+1)).filter p) (.slice a7 n7 c7)):=⟨by rw [hsti.out]; exact hA.out.here hb3⟩
    clear hF hA hb3 hx hpx
    go_wp2_with fail
    exact ⟨⟨i+1,by omega,by go_num,hA3⟩,by simp [intOf]; omega⟩
  ·obtain rfl:i=L:=by omega
   have hT:=hA.out.row
   rw [<- hLb.out,List.take_length] at hT
   obtain ⟨a7,c7,e7⟩:=hT.shape
   obtain ⟨n7,hn7⟩:∃ n,(ids.filter p).length=n:=⟨_,rfl⟩
   rw [hn7] at e7
   subst e7
   have hB:=Box.mk hA.out.bel
   replace hT:=Box.mk hT
   clear hA
   go_wp2_with fail
   go_ret
   exact ⟨⟨_,rfl,hT.out⟩,hB.out⟩
theorem who_any (v:Value) (ids:List ByteArray) (need:Int) (text:ByteArray) (sv:Value) (sg:List (ByteArray × ByteArray)) (w:World) (hv:PartsAt w v ids) (hl:ids.length<=maxLen)
  (hs:SigsAt w sv sg) (hm:sg.length<=maxLen) (hK:KIs w) (ht:text.size<=140737488351232) :
  Calls Tryz.prog 165 #[.agg #[v,.int .i64 need],.string text,sv] w fun e w'=>WhoS w.heap.size (whoE ids need text sg) e w'/\Below w.heap.size w w':=by
 cases hg:chkB ids need with
 | true=>
  obtain ⟨a,cap,rfl,hh⟩:=hv.ex
  obtain ⟨h1,h2,_,_⟩:=(chkB_iff ids need).1 hg
  obtain ⟨blk,off,rfl,hb,hc⟩:=hh (by omega)
  rw [whoE,hg,if_pos rfl]
  exact who_good blk off cap ids need text sv sg w hb hc hg hs hm hK ht
 | false=>
  obtain ⟨W1,hW1⟩:∃ W1,w.alloc (.cells #[v,.int .i64 need] 104)=W1:=⟨_,rfl⟩
  have hB1:Below w.heap.size w W1:=by rw [<- hW1]; exact bel_alloc _ _
  have hS1:Blk W1 w.heap.size [v,.int .i64 need] 104:=by rw [<- hW1]; exact Blk.new w _ _
  have hF:=check_any v ids need W1 (hv.here hB1) hl
  rw [chkE_of,hg,if_neg (by simp)] at hF
  rw [whoE,hg,if_neg (by simp)]
  have s0:W1.cell? ⟨w.heap.size,0,none⟩=some v:=hS1.cell 0
  have s1:W1.cell? ⟨w.heap.size,1,none⟩=some (.int .i64 need):=hS1.cell 1
  have hsv:∃ a l c,sv=.slice a l c:=by
   obtain ⟨a,c,rfl,_⟩:=hs.ex; exact ⟨_,_,_,rfl⟩
  have hvv:∃ a l c,v=.slice a l c:=by
   obtain ⟨a,c,rfl,_⟩:=hv.ex; exact ⟨_,_,_,rfl⟩
  replace hB1:=Box.mk hB1
  clear hg hs hm hK ht hS1 hv hl
  obtain ⟨sa,sl,sc,rfl⟩:=hsv
  obtain ⟨va,vl,vc,rfl⟩:=hvv
  go_enter Tryz.func165,Tryz.ntmps165
  go_wp2_with fail
  refine hF.mono ?_
  rintro e w2 ⟨rfl,hb2⟩
  have hB2:=Box.mk (mono_bel hB1.out hb2 (Nat.le_refl _))
  clear hF hb2
  go_wp2_with fail
  go_ret
  exact ⟨⟨_,rfl,TxR.nil _ _⟩,hB2.out⟩
end Go.Proofs.YthpfpkikmaiddaaGreatDoor
namespace Go.Proofs.YthpfpkikmaiddaaGreatDoor
open Go Go.RowKit
theorem enough_any (v:Value) (ids:List ByteArray) (need:Int) (text:ByteArray) (sv:Value) (sg:List (ByteArray × ByteArray)) (w:World) (hv:PartsAt w v ids) (hl:ids.length<=maxLen)
  (hs:SigsAt w sv sg) (hm:sg.length<=maxLen) (hK:KIs w) (ht:text.size<=140737488351232) :
  Calls Tryz.prog 106 #[.agg #[v,.int .i64 need],.string text,sv] w fun e w'=>e=.returned (.bool (enB ids need text sg))/\Below w.heap.size w w':=by
 obtain ⟨W1,hW1⟩:∃ W1,w.alloc (.cells #[v,.int .i64 need] 104)=W1:=⟨_,rfl⟩
 have hB1:Below w.heap.size w W1:=by rw [<- hW1]; exact bel_alloc _ _
 have hB1d:Below w.heap.size w W1.drew:=mono_bel hB1 (dB W1) (Nat.le_refl _)
 have hS1:Blk W1 w.heap.size [v,.int .i64 need] 104:=by rw [<- hW1]; exact Blk.new w _ _
 have hS1d:Blk W1.drew w.heap.size [v,.int .i64 need] 104:=hS1.drew
 have hF:=check_any v ids need W1.drew (hv.here hB1d) hl
 have hW:=fun w1 (h1:Below w.heap.size w w1)=>who_any v ids need text sv sg w1 (hv.here h1) hl (hs.here h1) hm (hK.below h1 hK.lt) ht
 have hsv:∃ a l c,sv=.slice a l c:=by
  obtain ⟨a,c,rfl,_⟩:=hs.ex; exact ⟨_,_,_,rfl⟩
 have hvv:∃ a l c,v=.slice a l c:=by
  obtain ⟨a,c,rfl,_⟩:=hv.ex; exact ⟨_,_,_,rfl⟩
 have hC1:W1.drew.cell? ⟨w.heap.size,0,none⟩=some v/\W1.drew.cell? ⟨w.heap.size,1,none⟩=some (.int .i64 need):=⟨hS1d.cell 0,hS1d.cell 1⟩
 replace hB1d:=Box.mk hB1d
 replace hS1d:=Box.mk hS1d
 replace hW:=Box.mk hW
 replace hC1:=Box.mk hC1
 obtain ⟨B,hBe⟩:∃ B,w.heap.size=B:=⟨_,rfl⟩
 rw [hBe] at hC1 hS1d
 clear hs hm hK ht hS1 hv hl hB1
 obtain ⟨sa,sl,sc,rfl⟩:=hsv
 obtain ⟨va,vl,vc,rfl⟩:=hvv
 cases hg:chkB ids need with
 | true=>
  rw [chkE_of,hg,if_pos rfl] at hF
  have hen:∀ n:Nat,(whoE ids need text sg).length=n->enB ids need text sg=decide (need<=(n:Int)):=fun n hn=>by
   rw [enB,hg,Bool.true_and,<- hn,whoE,hg,if_pos rfl]
  replace hen:=Box.mk hen
  clear hg
  go_enter Tryz.func106,Tryz.ntmps106
  go_wp2_with fail
  refine region_go (C:=fun w'=>w'.cell? ⟨B,0,none⟩=some (.slice va vl vc)/\w'.cell? ⟨B,1,none⟩=some (.int .i64 need)) rfl ?_
  refine go_calms [0] 13 rfl (by kernel_rfl) (by kernel_rfl) (by kernel_rfl) hC1.out ?_
  simp [nth]
  try simp only [Act.put,zT9,zS9,zZ9]
  refine quiet_any rfl (.agg #[.slice va vl vc,.int .i64 need]) (fun w' hw'=>by obtain ⟨k0,k1⟩:=hw'; go_simp) ?_
  simp only [Act.put,zT9,zS9,zZ9]
  refine wpQuiet_nil ?_
  refine go_forced 1 (by kernel_rfl) (goOp_wp 1 rfl rfl (fun K hK=>?_))
  go_simp
  refine hF.mono ?_
  clear hF
  rintro e w2 ⟨rfl,hb2⟩
  have hS2:=hS1d.out.below hb2 hS1d.out.lt
  have hC2:w2.cell? ⟨B,0,none⟩=some (.slice va vl vc)/\w2.cell? ⟨B,1,none⟩=some (.int .i64 need):=⟨hS2.cell 0,hS2.cell 1⟩
  have hB2:=Box.mk (mono_bel hB1d.out hb2 (Nat.le_refl _))
  have hWF:=hW.out w2 hB2.out
  refine hK _ _ hC2 ?_
  replace hS2:=Box.mk hS2
  clear hK K hb2
  refine go_calms [2,3,4,5,6,9,10] 5 rfl (by kernel_rfl) (by kernel_rfl) (by kernel_rfl) hC2 ?_
  simp [nth]
  try simp only [Act.put,zT9,zS9,zZ9]
  refine quiet_any rfl (.bool true) (fun w' hw'=>by go_simp) ?_
  simp only [Act.put,zT9,zS9,zZ9]
  repeat (go_big_quiet_step (first | exact fun _=>rfl | rfl))
  refine quiet_any rfl (.agg #[.slice va vl vc,.int .i64 need]) (fun w' hw'=>by obtain ⟨k0,k1⟩:=hw'; go_simp) ?_
  simp only [Act.put,zT9,zS9,zZ9]
  repeat (go_big_quiet_step (first | exact fun _=>rfl | rfl))
  refine quiet_any rfl (.pointer (some ⟨B,1,none⟩)) (fun w' hw'=>by go_simp) ?_
  simp only [Act.put,zT9,zS9,zZ9]
  refine quiet_any rfl (.int .i64 need) (fun w' hw'=>by obtain ⟨k0,k1⟩:=hw'; go_simp) ?_
  simp only [Act.put,zT9,zS9,zZ9]
  refine wpQuiet_nil ?_
  refine go_forced 7 (by kernel_rfl) (goOp_wp 7 rfl rfl (fun K hK=>?_))
  go_simp
  refine hWF.mono ?_
  clear hWF
  rintro e w3 ⟨⟨v3,rfl,h3⟩,hb3⟩
  obtain ⟨a3,c3,e3⟩:=h3.shape
  obtain ⟨n3,hn3⟩:∃ n,(whoE ids need text sg).length=n:=⟨_,rfl⟩
  rw [hn3] at e3
  subst e3
  have hS3:=hS2.out.below hb3 hS2.out.lt
  have hC3:w3.cell? ⟨B,0,none⟩=some (.slice va vl vc)/\w3.cell? ⟨B,1,none⟩=some (.int .i64 need):=⟨hS3.cell 0,hS3.cell 1⟩
  have hB3:=Box.mk (mono_bel hB2.out hb3 (Nat.le_refl _))
  have hen3:=hen.out n3 hn3
  refine hK _ _ hC3 ?_
  clear hK K hb3 h3 hn3 hS3
  obtain ⟨E,hE⟩:∃ E,decide (need<=(n3:Int))=E:=⟨_,rfl⟩
  rw [hE] at hen3
  replace hen3:=Box.mk hen3
  refine go_calm 8 (by kernel_rfl) rfl (by kernel_rfl) (by kernel_rfl) hC3 (yields (v:=.int .i64 (n3:Int)) rfl (fun w' hw'=>by go_simp)) ?_
  refine go_calms [11,12,13] 0 rfl (by kernel_rfl) (by kernel_rfl) (by kernel_rfl) hC3 ?_
  simp [nth]
  try simp only [Act.put,zT9,zS9,zZ9]
  refine quiet_any rfl (.bool E) (fun w' hw'=>by go_simp) ?_
  simp only [Act.put,zT9,zS9,zZ9]
  refine quiet_any rfl (.bool E) (fun w' hw'=>by go_simp) ?_
  simp only [Act.put,zT9,zS9,zZ9]
  repeat (go_big_quiet_step (first | exact fun _=>rfl | rfl))
  refine wpQuiet_nil ?_
  refine go_done (by kernel_rfl) ?_
  go_simp
  go_wp2_with fail
  go_ret
  exact ⟨by rw [hen3.out]; rfl,hB3.out⟩
 | false=>
  rw [chkE_of,hg,if_neg (by simp)] at hF
  have hen:Box (enB ids need text sg=false):=⟨by rw [enB,hg,Bool.false_and]⟩
  clear hg
  go_enter Tryz.func106,Tryz.ntmps106
  go_wp2_with fail
  refine region_go (C:=fun w'=>w'.cell? ⟨B,0,none⟩=some (.slice va vl vc)/\w'.cell? ⟨B,1,none⟩=some (.int .i64 need)) rfl ?_
  refine go_calms [0] 13 rfl (by kernel_rfl) (by kernel_rfl) (by kernel_rfl) hC1.out ?_
  simp [nth]
  try simp only [Act.put,zT9,zS9,zZ9]
  refine quiet_any rfl (.agg #[.slice va vl vc,.int .i64 need]) (fun w' hw'=>by obtain ⟨k0,k1⟩:=hw'; go_simp) ?_
  simp only [Act.put,zT9,zS9,zZ9]
  refine wpQuiet_nil ?_
  refine go_forced 1 (by kernel_rfl) (goOp_wp 1 rfl rfl (fun K hK=>?_))
  go_simp
  refine hF.mono ?_
  clear hF
  rintro e w2 ⟨rfl,hb2⟩
  have hS2:=hS1d.out.below hb2 hS1d.out.lt
  have hC2:w2.cell? ⟨B,0,none⟩=some (.slice va vl vc)/\w2.cell? ⟨B,1,none⟩=some (.int .i64 need):=⟨hS2.cell 0,hS2.cell 1⟩
  have hB2:=Box.mk (mono_bel hB1d.out hb2 (Nat.le_refl _))
  refine hK _ _ hC2 ?_
  clear hK K hb2 hS2
  refine go_calms [2,3,4,5,6,9,10] 5 rfl (by kernel_rfl) (by kernel_rfl) (by kernel_rfl) hC2 ?_
  simp [nth]
  try simp only [Act.put,zT9,zS9,zZ9]
  refine quiet_any rfl (.bool false) (fun w' hw'=>by go_simp) ?_
  simp only [Act.put,zT9,zS9,zZ9]
  repeat (go_big_quiet_step (first | exact fun _=>rfl | rfl))
  refine wpQuiet_nil ?_
  refine go_calm 7 (by kernel_rfl) rfl (by kernel_rfl) (by kernel_rfl) hC2 (yields_skip rfl) ?_
  refine go_calm 8 (by kernel_rfl) rfl (by kernel_rfl) (by kernel_rfl) hC2 (yields_skip rfl) ?_
  refine go_calms [11,12,13] 0 rfl (by kernel_rfl) (by kernel_rfl) (by kernel_rfl) hC2 ?_
  simp [nth]
  try simp only [Act.put,zT9,zS9,zZ9]
  repeat (go_big_quiet_step (first | exact fun _=>rfl | rfl))
  refine quiet_any rfl (.bool false) (fun w' hw'=>by go_simp) ?_
  simp only [Act.put,zT9,zS9,zZ9]
  repeat (go_big_quiet_step (first | exact fun _=>rfl | rfl))
  refine wpQuiet_nil ?_
  refine go_done (by kernel_rfl) ?_
  go_simp
  go_wp2_with fail
  go_ret
  exact ⟨by rw [hen.out]; rfl,hB2.out⟩
end Go.Proofs.YthpfpkikmaiddaaGreatDoor
namespace Go.Proofs.YthpfpkikmaiddaaGreatDoor
open Go Go.RowKit
end Go.Proofs.YthpfpkikmaiddaaGreatDoor
namespace Go.Proofs.YthpfpkikmaiddaaGreatDoor
open Go Go.RowKit
end Go.Proofs.YthpfpkikmaiddaaGreatDoor
