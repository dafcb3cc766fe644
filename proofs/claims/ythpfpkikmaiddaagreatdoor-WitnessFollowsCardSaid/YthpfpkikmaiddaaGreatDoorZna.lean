/- - -/
import Derived.Deep.Upon
import Derived.Test.YthpfpkikmaiddaaGreatDoorZkr
import Derived.Test.YthpfpkikmaiddaaGreatDoorZnm
set_option linter.all false
set_option maxHeartbeats 1600000
set_option maxRecDepth 100000
namespace Go.Proofs.YthpfpkikmaiddaaGreatDoor.Nt
open Go Go.RowKit
theorem mono_bel {B:Nat} {w w1 w2:World} (h:Below B w w1) (k:Below w1.heap.size w1 w2) (hB:B<=w.heap.size):Below B w w2:=h.trans (k.mono (Nat.le_trans hB h.size))
theorem dB (w:World):Below w.heap.size w w.drew:=Drawn.below ⟨1,rfl⟩
theorem bel_alloc (w:World) (o:Obj):Below w.heap.size w (w.alloc o):=(Below.refl _ _).alloc (Nat.le_refl _) _
theorem parts_new (w:World) (ps:List ByteArray) (t:TypeId):PartsAt (w.alloc (.cells (ps.map Value.string).toArray t)) (.slice (some ⟨w.heap.size,0,none⟩) ps.length ps.length) ps:=by
 refine ⟨some ⟨w.heap.size,0,none⟩,ps.length,rfl,fun h0=>⟨w.heap.size,0,rfl,by simp,fun i hi=>?_⟩⟩
 rw [cell_of_row _ _ _ _ _ _ (heap_alloc_new w _)]
 simp [List.getD,hi]
theorem info_s:(Tryz.prog.info? 9).map (fun i=>(i.zero,i.size,i.bytes))=some (some (.string ⟨#[]⟩),1,16):=by kernel_rfl
def TxR (B:Nat) (w:World) (v:Value) (ids:List ByteArray):Prop:=w.ownsRow B 9 1 v ids.length (ids.map Value.string)
theorem TxR.shape {B:Nat} {w:World} {v:Value} {ids:List ByteArray} (h:TxR B w v ids):∃ a c,v=.slice a ids.length c:=by
 obtain ⟨_,⟨rfl,h0⟩ | ⟨g,cap,cur,rfl,_⟩⟩:=h
 ·exact ⟨none,0,by rw [h0]⟩
 ·exact ⟨_,_,rfl⟩
theorem TxR.parts {B:Nat} {w:World} {v:Value} {ids:List ByteArray} (h:TxR B w v ids):PartsAt w v ids:=by
 have hh:=h
 obtain ⟨hx,⟨rfl,h0⟩ | ⟨g,cap,cur,rfl,b1,hg,b2⟩⟩:=h
 ·obtain rfl:ids=[]:=List.length_eq_zero_iff.1 h0
  exact ⟨none,0,rfl,fun h=>absurd h (Nat.lt_irrefl 0)⟩
 ·refine ⟨_,cap,rfl,fun h0=>⟨g,0,rfl,(Array.getElem?_eq_some_iff.1 hg).1,fun i hi=>?_⟩⟩
  have:=World.ownsRow.cells (g:=g) hh rfl i (.string (ids.getD i ByteArray.empty)) (by simp [hi,List.getD])
  have hadd:(⟨g,0,none⟩:Addr).add i=⟨g,0+i,none⟩:=by unfold Addr.add; split <;> simp_all
  rw [hadd] at this; exact this
theorem TxR.here {B:Nat} {w w':World} {v:Value} {ids:List ByteArray} (h:TxR B w v ids) (hb:Below w.heap.size w w'):TxR B w' v ids:=by
 obtain ⟨hx,h0 | ⟨g,cap,cur,rfl,b1,hg,b2⟩⟩:=h
 ·exact ⟨hx,.inl h0⟩
 ·exact ⟨hx,.inr ⟨g,cap,cur,rfl,b1,(hb.block g (Array.getElem?_eq_some_iff.1 hg).1).trans hg,b2⟩⟩
theorem TxR.base {B C:Nat} {w:World} {v:Value} {ids:List ByteArray} (h:TxR B w v ids) (hC:C<=B):TxR C w v ids:=by
 obtain ⟨hx,h0 | ⟨g,cap,cur,rfl,b1,hg,b2⟩⟩:=h
 ·exact ⟨hx,.inl h0⟩
 ·exact ⟨hx,.inr ⟨g,cap,cur,rfl,Nat.le_trans hC b1,hg,b2⟩⟩
structure PushedT (B:Nat) (w:World) (v:Value) (ids:List ByteArray) (v':Value) (w':World):Prop where
 row:TxR B w' v' ids
 chg:Pk.Chg (fun i=>v.ownBlock=some i) w w'
 place:∀ k,v'.ownBlock=some k->v.ownBlock=some k∨w.heap.size<=k
theorem TxR.own {B:Nat} {w:World} {v:Value} {ids:List ByteArray} (h:TxR B w v ids) (k:Nat) (hk:v.ownBlock=some k):B<=k/\k<w.heap.size:=World.ownsRow.lt h k hk
theorem TxR.of_row {B:Nat} {w:World} {v:Value} {ids:List ByteArray} (h:Pk.Row w 9 1 v ids.length (ids.map Value.string)) (hB:∀ k,v.ownBlock=some k->B<=k):TxR B w v ids:=by
 obtain ⟨hx,h0 | ⟨g,cap,cur,rfl,b1,b2⟩⟩:=h
 ·exact ⟨hx,.inl h0⟩
 ·exact ⟨hx,.inr ⟨g,cap,cur,rfl,hB g rfl,b2⟩⟩
theorem push_texts (B:Nat) (w:World) (ty:TypeId) (v:Value) (ids zs:List ByteArray) (h:TxR B w v ids) (hB:B<=w.heap.size) (a:Option Addr) (m c:Nat) (hm:zs.length=m) (hz:PartsAt w (.slice a m c) zs) (hlen:(ids.length+m)*16<=140737488355328) :
  ∃ v' w',(Builtin.append_ #[22,22] ty #[v,.slice a m c]).run Tryz.prog w=.ok v' w'/\PushedT B w v (ids++zs) v' w':=by
 obtain ⟨i0,hi,hz0,hz1,hz2⟩:=info_parts info_s
 subst hm
 obtain ⟨a2,c2,e2,hh⟩:=hz.ex
 cases e2
 by_cases h0:0<zs.length
 ·obtain ⟨blk,off,rfl,hb,hc⟩:=hh h0
  obtain ⟨v',w',hr,hp⟩:=Pk.push_row (P:=Tryz.prog) w 22 ty 9 i0 (.string ⟨#[]⟩) 1 16 Tryz.underlying22 hi hz0 hz1 hz2 rfl (by decide) v ids.length (ids.map Value.string) (TxR.base h (Nat.zero_le _)) ⟨blk,off,none⟩ zs.length c (zs.map Value.string) (by simp)
   (fun j u hj=>by
    have hjl:j<zs.length:=by
     rcases Nat.lt_or_ge j zs.length with h | h
     ·exact h
     ·rw [List.getElem?_eq_none (by simpa using h)] at hj; cases hj
    have hadd:(⟨blk,off,none⟩:Addr).add j=⟨blk,off+j,none⟩:=by
     unfold Addr.add
     split
     ·next h=>subst h; rfl
     ·rfl
    rw [hadd,hc j hjl,<- hj]
    simp [List.getD,hjl])
   (fun u hu=>by simp only [List.mem_map] at hu; obtain ⟨y,_,rfl⟩:=hu; rfl) (by unfold maxLen; omega) hlen
  refine ⟨v',w',hr,⟨TxR.of_row (by rw [List.length_append,List.map_append]; exact hp.row) fun k hk=>?_,hp.chg,hp.place⟩⟩
  rcases hp.place k hk with h1 | h1
  ·exact (h.own k h1).1
  ·omega
 ·obtain rfl:zs=[]:=List.length_eq_zero_iff.1 (by omega)
  obtain ⟨a3,c3,rfl⟩:=h.shape
  have hle:ids.length<=c3:=by
   obtain ⟨_,⟨h1,h2⟩ | ⟨g,cap,cur,h1,_,_,h3,_⟩⟩:=h
   ·omega
   ·cases h1; exact h3
  have hs:Src Tryz.prog i0.size 22 (.slice a 0 c) 0 [] w:=by
   cases a with
   | none=>exact Src.ofNil w Tryz.underlying22 c
   | some ad=>exact Src.ofSlice w Tryz.underlying22 ad 0 c [] (by simp) (fun j u hu=>by simp at hu) (fun u hu=>by cases hu)
  have hr:=run_append_nothing (P:=Tryz.prog) w 22 22 ty 9 i0 Tryz.underlying22 hi a3 ids.length c3 hle (.slice a 0 c) hs
  exact ⟨_,w,hr,⟨by rw [List.append_nil]; exact h,Pk.Chg.refl _ _,fun k hk=>.inl hk⟩⟩
section
variable {w:World} {o:Oper} {a:Act} {Q:Exit->Act->World->Prop}
theorem wp_pushT {K:Act->World->Prop} (s x:Operand) (ho:o.op=.call { callee:=.builtin .append,args:=#[s,x],argTypes:=#[22,22] }) (B:Nat) (v:Value) (ids zs:List ByteArray) (hs:a.eval s=v)
  (h:TxR B w v ids) (hB:B<=w.heap.size) (ad:Option Addr) (m c:Nat) (hx:a.eval x=.slice ad m c) (hm:zs.length=m) (hz:PartsAt w (.slice ad m c) zs) (hlen:(ids.length+m)*16<=140737488355328)
  (k:∀ v' w',PushedT B w v (ids++zs) v' w'->K (a.put o.dst v') w'):o.wp Tryz.prog a w K Q:=by
 obtain ⟨v',w',hr,hp⟩:=push_texts B w o.type v ids zs h hB ad m c hm hz hlen
 unfold Oper.wp execOp
 simp only [ho,resolve,invoke,builtin,Sem.run_bind,Sem.run_pure,Result.andThen_ok,List.map_toArray,List.map_cons,List.map_nil,hs,hx,hr]
 exact k _ _ hp
theorem wpList_pushT {ops:Array Oper} {rest:List Oper} (hgd:o.guard=none) (s x:Operand) (ho:o.op=.call { callee:=.builtin .append,args:=#[s,x],argTypes:=#[22,22] }) (B:Nat) (v:Value) (ids zs:List ByteArray) (hs:a.eval s=v)
  (h:TxR B w v ids) (hB:B<=w.heap.size) (ad:Option Addr) (m c:Nat) (hx:a.eval x=.slice ad m c) (hm:zs.length=m) (hz:PartsAt w (.slice ad m c) zs) (hlen:(ids.length+m)*16<=140737488355328)
  (k:∀ v' w',PushedT B w v (ids++zs) v' w'->wpList Tryz.prog ops Q rest (a.put o.dst v') w'):wpList Tryz.prog ops Q (o::rest) a w:=
 wpList_plain hgd fun _ hK=>wp_pushT s x ho B v ids zs hs h hB ad m c hx hm hz hlen fun v' w' hp=>hK _ _ (k v' w' hp)
end
theorem TxR.nil (B:Nat) (w:World):TxR B w (.slice none 0 0) []:=World.ownsRow_nil _ _ _ _
theorem PushedT.below {B:Nat} {w w':World} {v v':Value} {ids zs:List ByteArray} (hp:PushedT B w v zs v' w') (h:TxR B w v ids):Pk.Chg (fun i=>B<=i) w w':=hp.chg.mono fun i _ e=>(h.own i e).1
theorem PushedT.bel {w0 w w':World} {v v':Value} {ids zs:List ByteArray} (hp:PushedT w0.heap.size w v zs v' w') (hB:Below w0.heap.size w0 w) (h:TxR w0.heap.size w v ids):Below w0.heap.size w0 w':=hB.trans ((hp.below h).below hB.size fun _ h=>h)
theorem ret_b {a b:Bool} (h:b=a):Ending.returned (.bool a)=.returned (.bool b):=by rw [h]
theorem ret_i {k:IntKind} {a b:Int} (h:b=a):Ending.returned (.int k a)=.returned (.int k b):=by rw [h]
theorem gO_bad {s:ByteArray} {i:Nat} (h:i<s.size) (x:UInt8) (hx:s[i]=x) (hn:¬ (33<=x.toNat/\x.toNat<=126)):gO s.data.toList=false:=by
 rw [<- Bool.not_eq_true]
 intro hg
 unfold gO at hg
 simp only [Bool.and_eq_true,List.all_eq_true,decide_eq_true_eq] at hg
 exact hn (hg.1 x (by rw [<- hx]; exact List.getElem_mem (l:=s.data.toList) (by rw [data_len]; exact h)))
theorem gO_all {s:ByteArray} (h:∀ j (hj:j<s.size),33<=s[j].toNat/\s[j].toNat<=126):gO s.data.toList=decide (1<=s.size/\s.size<=64):=by
 unfold gO
 rw [data_len]
 have:(s.data.toList.all fun c=>decide (33<=c.toNat/\c.toNat<=126))=true:=by
  simp only [List.all_eq_true,decide_eq_true_eq]
  intro x hx
  obtain ⟨i,hi,rfl⟩:=List.getElem_of_mem hx
  exact h i (by rw [data_len] at hi; exact hi)
 rw [this,Bool.true_and]
def OkTo (s:ByteArray) (i:Nat):Prop:=∀ j (hj:j<s.size),j<i->33<=s[j].toNat/\s[j].toNat<=126
theorem OkTo.zero (s:ByteArray):OkTo s 0:=fun _ _ h=>absurd h (Nat.not_lt_zero _)
theorem OkTo.next {s:ByteArray} {i:Nat} (h:OkTo s i) (hi:i<s.size) (x:UInt8) (hx:s[i]=x) (h1:33<=x.toNat/\x.toNat<=126):OkTo s (i+1):=fun j hj hl=>by
 by_cases hji:j<i
 ·exact h j hj hji
 ·obtain rfl:j=i:=by omega
  rw [hx]; exact h1
theorem origin_any (s:ByteArray) (w:World) (hs:s.size<=140737488355328) :
  Calls Tryz.prog 188 #[.string s] w fun e w'=>e=.returned (.bool (gO s.data.toList))/\w=w':=by
 by_cases hlen:1<=s.size/\s.size<=64
 ·obtain ⟨h1,h2⟩:=hlen
  have hO:=Box.mk (OkTo.zero s)
  have d1:decide ((s.size:Int)<1)=false:=by simpa using (by omega:¬ (s.size:Int)<1)
  have d2:decide (64<(s.size:Int))=false:=by simpa using (by omega:¬ 64<(s.size:Int))
  go_enter Tryz.func188,Tryz.ntmps188
  go_wp2_with fail
  go_loop [14] (fun q=>∃ i:Nat,i<=s.size/\q=.int .i64 (i:Int)/\Box (OkTo s i)) (fun q=>s.size-(intOf q).toNat)
  case atStart=>exact ⟨0,by omega,rfl,hO⟩
  case round=>
   clear hO
   obtain ⟨i,hi,rfl,hO⟩:=hrel
   by_cases hlt:i<s.size
   ·obtain ⟨x,hx⟩:∃ x,s[i]=x:=⟨_,rfl⟩
    have hxl:=x.toNat_lt
    by_cases hk:33<=x.toNat/\x.toNat<=126
    ·have hN:=Box.mk (hO.out.next hlt x hx hk)
     obtain ⟨k1,k2⟩:=hk
     clear hO
     go_wp2_with fail
     go_round
     case rel=>exact ⟨i+1,by omega,by go_num,hN⟩
     case measure=>simp [intOf]; omega
    ·have hN:=Box.mk (gO_bad hlt x hx hk)
     clear hO
     by_cases k1:33<=x.toNat
     ·have k2:126<x.toNat:=by omega
      clear hk
      go_wp2_with fail
      go_ret
      exact ⟨ret_b hN.out,rfl⟩
     ·clear hk
      go_wp2_with fail
      go_ret
      exact ⟨ret_b hN.out,rfl⟩
   ·obtain rfl:i=s.size:=by omega
    have hN:=Box.mk (gO_all fun j hj=>hO.out j hj hj)
    rw [decide_eq_true (⟨h1,h2⟩:1<=s.size/\s.size<=64)] at hN
    clear hO
    go_wp2_with fail
    go_ret
    exact ⟨ret_b hN.out,rfl⟩
 ·have hN:gO s.data.toList=false:=by
   rw [<- Bool.not_eq_true]
   intro hg
   unfold gO at hg
   rw [data_len] at hg
   simp only [Bool.and_eq_true,decide_eq_true_eq] at hg
   exact hlen hg.2
  replace hN:=Box.mk hN
  by_cases k1:1<=s.size
  ·have k2:64<s.size:=by omega
   clear hlen
   go_enter Tryz.func188,Tryz.ntmps188
   go_wp2_with fail
   go_ret
   exact ⟨ret_b hN.out,rfl⟩
  ·clear hlen
   go_enter Tryz.func188,Tryz.ntmps188
   go_wp2_with fail
   go_ret
   exact ⟨ret_b hN.out,rfl⟩
theorem dorigin_any (s:ByteArray) (w:World) (hs:s.size<=140737488355328) :
  Calls Tryz.prog 29 #[.string s] w fun e w'=>e=.returned (.bool (gO s.data.toList))/\w=w':=by
 have hO:=Box.mk (OkTo.zero s)
 go_enter Tryz.func29,Tryz.ntmps29
 go_wp2_with fail
 go_loop [3] (fun q=>∃ i:Nat,i<=s.size/\q=.int .i64 (i:Int)/\Box (OkTo s i)) (fun q=>s.size-(intOf q).toNat)
 case atStart=>exact ⟨0,by omega,rfl,hO⟩
 case round=>
  clear hO
  obtain ⟨i,hi,rfl,hO⟩:=hrel
  by_cases hlt:i<s.size
  ·obtain ⟨x,hx⟩:∃ x,s[i]=x:=⟨_,rfl⟩
   have hxl:=x.toNat_lt
   by_cases hk:33<=x.toNat/\x.toNat<=126
   ·have hN:=Box.mk (hO.out.next hlt x hx hk)
    obtain ⟨k1,k2⟩:=hk
    clear hO
    go_wp2_with fail
    go_round
    case rel=>exact ⟨i+1,by omega,by go_num,hN⟩
    case measure=>simp [intOf]; omega
   ·have hN:=Box.mk (gO_bad hlt x hx hk)
    clear hO
    by_cases k1:33<=x.toNat
    ·have k2:126<x.toNat:=by omega
     clear hk
     go_wp2_with fail
     go_ret
     exact ⟨ret_b hN.out,rfl⟩
    ·clear hk
     go_wp2_with fail
     go_ret
     exact ⟨ret_b hN.out,rfl⟩
  ·obtain rfl:i=s.size:=by omega
   have hN:=Box.mk (gO_all fun j hj=>hO.out j hj hj)
   clear hO
   by_cases k1:1<=s.size
   ·by_cases k2:s.size<=64
    ·rw [decide_eq_true (⟨k1,k2⟩:1<=s.size/\s.size<=64)] at hN
     go_wp2_with fail
     go_ret
     exact ⟨ret_b (hN.out.trans (decide_eq_true (by omega)).symm),rfl⟩
    ·rw [decide_eq_false (fun h=>k2 h.2:¬ (1<=s.size/\s.size<=64))] at hN
     go_wp2_with fail
     go_ret
     exact ⟨ret_b (hN.out.trans (decide_eq_false (by omega)).symm),rfl⟩
   ·rw [decide_eq_false (fun h=>k1 h.1:¬ (1<=s.size/\s.size<=64))] at hN
    go_wp2_with fail
    go_ret
    exact ⟨ret_b hN.out,rfl⟩
theorem nunhex_any (s:ByteArray) (w:World) (hs:s.size<=70368744177664) :
  Calls Tryz.prog 151 #[.string s] w fun e w'=>e=.returned (.string (unT s.data.toList))/\Below w.heap.size w w':=by
 have hF:=unhex_any s w hs
 obtain ⟨T,hT⟩:∃ T,unT s.data.toList=T:=⟨_,rfl⟩
 obtain ⟨C,hC⟩:∃ C,unB s.data.toList=C:=⟨_,rfl⟩
 rw [hT,hC] at hF
 rw [hT]
 clear hT hC
 go_enter Tryz.func151,Tryz.ntmps151
 go_wp2_with fail
 refine hF.mono ?_
 rintro e w1 ⟨rfl,hb⟩
 replace hb:=Box.mk hb
 clear hF
 go_wp2_with fail
 go_ret
 exact ⟨rfl,hb.out⟩
def ckV (c:Ck):Value:=.agg #[.string c.o,.int .i64 c.n,.string c.r]
theorem good_any (c:Ck) (w:World) (ho:c.o.size<=140737488355328) (hr:c.r.size<=140737488355328) :
  Calls Tryz.prog 123 #[ckV c] w fun e w'=>e=.returned (.bool (gC c))/\Below w.heap.size w w':=by
 obtain ⟨o,n,r⟩:=c
 simp only at ho hr
 have hF:=fun w'=>origin_any o w' ho
 have hg:gC ⟨o,n,r⟩=(gO o.data.toList && decide (0<=n) && decide (n<=1024) && decide (r.size=32)):=rfl
 rw [hg]
 obtain ⟨G,hG⟩:∃ G,gO o.data.toList=G:=⟨_,rfl⟩
 rw [hG] at hF ⊢
 have hb:=bel_alloc w (.cells #[.string o,.int .i64 n,.string r] 109)
 replace hb:=Box.mk hb
 unfold ckV
 clear hg hG ho
 cases G with
 | false=>
  go_enter Tryz.func123,Tryz.ntmps123
  go_wp2_with fail
  refine (hF _).mono ?_
  clear hF
  rintro e w1 ⟨rfl,rfl⟩
  go_wp2_with fail
  go_ret
  exact ⟨rfl,hb.out⟩
 | true=>
  by_cases h1:0<=n
  ·by_cases h2:n<=1024
   ·by_cases h3:r.size=32
    ·have h4:(r.size:Int)=32:=by omega
     rw [decide_eq_true h1,decide_eq_true h2,decide_eq_true h3]
     clear h3
     go_enter Tryz.func123,Tryz.ntmps123
     go_wp2_with fail
     refine (hF _).mono ?_
     clear hF
     rintro e w1 ⟨rfl,rfl⟩
     go_wp2_with fail
     go_ret
     exact ⟨rfl,hb.out⟩
    ·have h4:((r.size:Int)==32)=false:=by simpa using (by omega:(r.size:Int) ≠ 32)
     rw [decide_eq_true h1,decide_eq_true h2,decide_eq_false h3]
     clear h3
     go_enter Tryz.func123,Tryz.ntmps123
     go_wp2_with fail
     refine (hF _).mono ?_
     clear hF
     rintro e w1 ⟨rfl,rfl⟩
     go_wp2_with fail
     go_ret
     exact ⟨rfl,hb.out⟩
   ·rw [decide_eq_true h1,decide_eq_false h2]
    go_enter Tryz.func123,Tryz.ntmps123
    go_wp2_with fail
    refine (hF _).mono ?_
    clear hF
    rintro e w1 ⟨rfl,rfl⟩
    go_wp2_with fail
    go_ret
    exact ⟨rfl,hb.out⟩
  ·rw [decide_eq_false h1]
   go_enter Tryz.func123,Tryz.ntmps123
   go_wp2_with fail
   refine (hF _).mono ?_
   clear hF
   rintro e w1 ⟨rfl,rfl⟩
   go_wp2_with fail
   go_ret
   exact ⟨rfl,hb.out⟩
end Go.Proofs.YthpfpkikmaiddaaGreatDoor.Nt
