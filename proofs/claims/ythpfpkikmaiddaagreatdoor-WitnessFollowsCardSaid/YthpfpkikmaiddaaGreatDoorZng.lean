/- - -/
import Derived.Test.YthpfpkikmaiddaaGreatDoorZnc
set_option linter.all false
set_option maxHeartbeats 6400000
set_option maxRecDepth 100000
namespace Go.Proofs.YthpfpkikmaiddaaGreatDoor.Nt
open Go Go.RowKit
theorem chk_used (b:Nat) (w:World) (h0:w.cell? ⟨b,0,none⟩=some (.pointer (some ⟨b,0,none⟩))) :
  Calls Tryz.prog 215 #[.pointer (some ⟨b,0,none⟩)] w fun e w'=>e=.returned (.tuple #[])/\w'=w:=
 Any.Builder_copyCheck_used { Tryz.lays166 with } Tryz.Builder_Extra_166.toX72 b w h0
theorem chk_fresh (b:Nat) (v:Value) (w:World) (hb:Pk.Blk w b [.pointer none,v] 226) :
  Calls Tryz.prog 215 #[.pointer (some ⟨b,0,none⟩)] w fun e w'=>e=.returned (.tuple #[])/\w'=w.setCell ⟨b,0,none⟩ (.pointer (some ⟨b,0,none⟩)):=
 Any.Builder_copyCheck_fresh { Tryz.lays166 with } Tryz.Builder_Extra_166.toX72 b w (hb.cell 0) (by
  have:w.heap[b]?=some (.cells #[.pointer none,v] 226 (0,0)):=hb
  simp only [World.shape?,this]
  rfl) (hb.free 0)
structure BdAt (w:World) (b:Nat) (v:Value) (l:List UInt8):Prop where
 blk:∃ p,(p=.pointer none∨p=.pointer (some ⟨b,0,none⟩))/\Pk.Blk w b [p,v] 226
 own:Pk.Own w v l
theorem BdAt.new (w:World):BdAt (w.alloc (.cells #[.pointer none,.slice none 0 0] 226)) w.heap.size (.slice none 0 0) []:=
 ⟨⟨_,.inl rfl,Pk.Blk.new w [.pointer none,.slice none 0 0] _⟩,Pk.Own.nil _⟩
theorem BdAt.apart {w:World} {b:Nat} {v:Value} {l:List UInt8} (h:BdAt w b v l):v.ownBlock ≠ some b:=by
 obtain ⟨p,hp,hk⟩:=h.blk
 exact h.own.apart hk (by decide)
theorem chk_any (b:Nat) (v:Value) (l:List UInt8) (w:World) (h:BdAt w b v l) :
  Calls Tryz.prog 215 #[.pointer (some ⟨b,0,none⟩)] w fun e w'=>e=.returned (.tuple #[])/\Pk.Blk w' b [.pointer (some ⟨b,0,none⟩),v] 226/\Pk.Own w' v l/\Pk.Chg (fun k=>k=b) w w':=by
 obtain ⟨p,hp,hk⟩:=h.blk
 rcases hp with rfl | rfl
 ·refine (chk_fresh b v w hk).mono fun e w' he=>⟨he.1,?_⟩
  rw [he.2]
  have hs:Pk.Chg (fun k=>k=b) w (w.setCell ⟨b,0,none⟩ (.pointer (some ⟨b,0,none⟩))):=(Pk.Chg.refl (fun k=>k=b) w).setCell (p:=⟨b,0,none⟩) rfl _
  exact ⟨hk.setCell 0 _,h.own.chg hs fun k hk e=>h.apart (by rw [hk,e]),hs⟩
 ·refine (chk_used b w (hk.cell 0)).mono fun e w' he=>⟨he.1,?_⟩
  rw [he.2]
  exact ⟨hk,h.own,Pk.Chg.refl _ _⟩
structure BdPut (w:World) (b:Nat) (v:Value) (l:List UInt8) (v':Value) (w':World):Prop where
 at_:BdAt w' b v' l
 chg:Pk.Chg (fun k=>k=b∨v.ownBlock=some k) w w'
 place:∀ k,v'.ownBlock=some k->v.ownBlock=some k∨w.heap.size<=k
theorem wstr_any (b:Nat) (v:Value) (l:List UInt8) (s:ByteArray) (w:World) (h:BdAt w b v l) (hlen:l.length+s.size<=70368744177664) :
  Calls Tryz.prog 157 #[.pointer (some ⟨b,0,none⟩),.string s] w fun e w'=>e=.returned (.tuple #[.int .i64 (s.size:Int),.nilIface])/\∃ v',BdPut w b v (l++s.data.toList) v' w':=by
 have hC:=chk_any b v l w h
 obtain ⟨a,c,rfl⟩:=h.own.shape
 replace h:=Box.mk h
 go_enter Tryz.func157,Tryz.ntmps157
 go_wp2_with fail
 refine hC.mono ?_
 clear hC
 rintro e w1 ⟨rfl,hk,hO,hc1⟩
 have c1:=hk.cell 1
 simp only [List.getElem?_cons_zero,List.getElem?_cons_succ] at c1
 replace hk:=Box.mk hk
 replace hO:=Box.mk hO
 replace hc1:=Box.mk hc1
 go_wp2_with (at_builtin; refine Pk.wpList_pushS rfl (.tmp 12) (.tmp 13) rfl _ l rfl hO.out s rfl hlen ?_)
 intro v' w2 hp
 have hap:=hO.out.apart hk.out (by decide)
 have hk2:=hp.chg.blk hk.out fun e=>hap e
 have d1:=hk2.cell 1
 have f1:=hk2.free 1
 simp only [List.getElem?_cons_zero,List.getElem?_cons_succ] at d1
 obtain ⟨a2,cc,rfl⟩:=hp.own.shape
 obtain ⟨M,hM⟩:∃ M,(l++s.data.toList).length=M:=⟨_,rfl⟩
 rw [hM] at hp ⊢
 clear hM
 replace hk2:=Box.mk hk2
 replace hp:=Box.mk hp
 clear hlen
 go_wp2_with fail
 go_returns
 have hs:Pk.Chg (fun k=>k=b) w2 (w2.setCell ⟨b,1,none⟩ (.slice a2 M cc)):=(Pk.Chg.refl (fun k=>k=b) w2).setCell (p:=⟨b,1,none⟩) rfl _
 have hap2:=hp.out.own.apart hk2.out (by decide)
 refine ⟨rfl,_,⟨⟨_,.inr rfl,hk2.out.setCell 1 _⟩,hp.out.own.chg hs fun k hk e=>hap2 (by rw [hk,e])⟩,?_,fun k hk=>?_⟩
 ·exact ((hc1.out.mono fun i _ e=>.inl e).trans (hp.out.chg.mono fun i _ e=>.inr e) fun i _ e=>e).trans hs fun i _ e=>.inl e
 ·rcases hp.out.place k hk with h1 | h1
  ·exact .inl h1
  ·exact .inr (Nat.le_trans hc1.out.size h1)
theorem freeze_chg (w:World) (g n:Nat):Pk.Chg (fun k=>k=g) w (w.freeze ⟨g,0,none⟩ n):=by
 have h:=Lib.below_freeze (B:=0) (Below.refl 0 w) (p:=⟨g,0,none⟩) (Nat.zero_le _) n
 refine ⟨h.os,h.tape,h.output,h.size,fun k hk hn=>?_⟩
 unfold World.freeze
 split
 ·rfl
 ·simp only [Array.getElem?_modify]
  rw [if_neg (Ne.symm hn)]
theorem bstr_any (b:Nat) (v:Value) (l:List UInt8) (w:World) (h:BdAt w b v l) (h0:l ≠ []) :
  Calls Tryz.prog 158 #[.pointer (some ⟨b,0,none⟩)] w fun e w'=>e=.returned (.string ⟨l.toArray⟩)/\Pk.Chg (fun k=>v.ownBlock=some k) w w':=by
 obtain ⟨p,_,hk⟩:=h.blk
 have hown:=h.own
 have hl0:l.length ≠ 0:=by simpa using h0
 obtain ⟨g,cap,cur,rfl,_,hg,hnc,hcm,hcs,htake⟩:∃ g cap cur,v=.slice (some ⟨g,0,none⟩) l.length cap/\0<=g/\w.heap[g]?=some (.cells cur 5 (0,0))/\l.length<=cap/\cap<=maxLen/\cur.size=cap*1/\cur.toList.take (l.length*1)=l.map Pk.yc:=by
  rcases hown.2 with ⟨_,hz⟩ | ⟨g,cap,cur,hv,r⟩
  ·exact absurd hz hl0
  ·exact ⟨g,cap,cur,hv,r⟩
 have hk2:Pk.Blk w.drew b [p,.slice (some ⟨g,0,none⟩) l.length cap] 226:=hk
 have c1:w.drew.cell? ⟨b,1,none⟩=some (.slice (some ⟨g,0,none⟩) l.length cap):=hk2.cell 1
 have hSD:(Builtin.unsafeSliceData_ #[23] 274 #[.slice (some ⟨g,0,none⟩) l.length cap]).run Tryz.prog w.drew=.ok (.pointer (some ⟨g,0,none⟩)) w.drew:=
  Lib.run_unsafeSliceData_row _ _ _ _ _ _ (by omega)
 have hUS:(Builtin.unsafeString_ #[274,3] 9 #[.pointer (some ⟨g,0,none⟩),.int .i64 l.length]).run Tryz.prog w.drew=.ok (.string ⟨l.toArray⟩) (w.drew.freeze ⟨g,0,none⟩ l.length):=by
  refine Lib.run_unsafeString_row w.drew 274 3 9 5 Tryz.underlying274 (by kernel_rfl) g cur.size (by have hg':w.drew.heap[g]?=some (.cells cur 5 (0,0)):=hg; simp [World.shape?,hg']) l h0 (by omega) (by unfold maxLen at hcm; omega) ?_
  intro j x hx
  have:=World.ownsRow.cells (g:=g) hown rfl j (.int .u8 x.toNat) (by simp [Pk.yc,hx]; rfl)
  exact this
 have hfz:=(Pk.Chg.refl (fun k=>k=g) w).drew.trans (freeze_chg w.drew g l.length) fun i _ e=>e
 have hG:Box (Pk.Chg (fun k=>(Value.slice (some ⟨g,0,none⟩) l.length cap).ownBlock=some k) w (w.drew.freeze ⟨g,0,none⟩ l.length)):=⟨hfz.mono fun i _ e=>by rw [e]; rfl⟩
 clear hfz htake hcs hg hown hk hk2 h hcm hnc
 go_enter Tryz.func158,Tryz.ntmps158
 go_wp2_with fail
 go_region
 all_goals (go_wp2_with fail; go_ret; exact ⟨rfl,hG.out⟩)
def fmV (n:ByteArray × List (ByteArray × ByteArray)):Value:=.tuple #[.string (fmtN n),.int .i64 (fmtE n)]
theorem fmV_yes {n:ByteArray × List (ByteArray × ByteArray)} (h:gN n=true):fmV n=.tuple #[.string ⟨(byN n).toArray⟩,.int .i64 0]:=by unfold fmV fmtN fmtE; rw [if_pos h,if_pos h]
theorem fmV_no {n:ByteArray × List (ByteArray × ByteArray)} (h:gN n=false):fmV n=.tuple #[.string ⟨#[]⟩,.int .i64 1]:=by unfold fmV fmtN fmtE; rw [if_neg (by simp [h]),if_neg (by simp [h])]; rfl
theorem gN_iff {t:ByteArray} {sg:List (ByteArray × ByteArray)}:gN (t,sg)=true ↔ gT t.data.toList=true/\sg.length<=16/\∀ x ∈ sg,x.1.size=32/\1<=x.2.size/\x.2.size<=1024:=by
 unfold gN gS; simp [and_assoc]
def fmL (t:ByteArray) (sg:List (ByteArray × ByteArray)) (i:Nat):List UInt8:=t.data.toList++10::sgL (sg.take i)
theorem fmL_zero (t:ByteArray) (sg:List (ByteArray × ByteArray)):fmL t sg 0=(t++sN).data.toList:=by
 unfold fmL sgL sN; simp [jn]
def sSig:ByteArray:=⟨#[115,105,103,32]⟩
def sBl:ByteArray:=⟨#[32]⟩
theorem fmL_succ (t:ByteArray) (sg:List (ByteArray × ByteArray)) (i:Nat) (h:i<sg.length):fmL t sg (i+1)=fmL t sg i++(sSig++hxT (sg.getD i default).1++sBl++hxT (sg.getD i default).2++sN).data.toList:=by
 have e:sg.take (i+1)=sg.take i++[sg.getD i default]:=by
  rw [List.take_succ_eq_append_getElem h,show sg.getD i default=sg[i] by simp [List.getD,h]]
 unfold fmL sgL
 rw [e,List.map_append,jn_app]
 simp [jn,sLn,sSig,hxT,sBl,sN,lSig]
theorem fmL_all (t:ByteArray) (sg:List (ByteArray × ByteArray)):fmL t sg sg.length=byN (t,sg):=by unfold fmL byN; rw [List.take_length]
theorem sLn_len (x:ByteArray × ByteArray) (h1:x.1.size=32) (h2:x.2.size<=1024):(sLn x).length<=2200:=by
 unfold sLn lSig
 simp [hexL_length]
 have e1:=data_len x.1
 have e2:=data_len x.2
 simp at e1 e2
 omega
theorem sgL_len:∀ sg:List (ByteArray × ByteArray),(∀ x ∈ sg,x.1.size=32/\x.2.size<=1024)->(sgL sg).length<=2201*sg.length
 | [],_=>by simp [sgL,jn]
 | x::sg,h=>by
  have e:sgL (x::sg)=sLn x++10::sgL sg:=by unfold sgL; rw [List.map_cons,jn_cons]
  have h1:=sLn_len x (h x (by simp)).1 (h x (by simp)).2
  have h2:=sgL_len sg fun y hy=>h y (by simp [hy])
  rw [e]
  simp only [List.length_append,List.length_cons]
  omega
theorem fmL_len {t:ByteArray} {sg:List (ByteArray × ByteArray)} (h:gN (t,sg)=true) (i:Nat):(fmL t sg i).length<=t.size+35217:=by
 obtain ⟨_,h2,h3⟩:=gN_iff.1 h
 have h4:=sgL_len (sg.take i) fun x hx=>⟨(h3 x (List.mem_of_mem_take hx)).1,(h3 x (List.mem_of_mem_take hx)).2.2⟩
 have h5:(sg.take i).length<=16:=by rw [List.length_take]; omega
 unfold fmL
 rw [List.length_append,List.length_cons,data_len]
 omega
structure FmAt (w0 w:World) (b:Nat) (v:Value) (l:List UInt8):Prop where
 at_:BdAt w b v l
 bb:w0.heap.size<=b
 bo:∀ k,v.ownBlock=some k->w0.heap.size<=k
 bel:Below w0.heap.size w0 w
theorem FmAt.here {w0 w w':World} {b:Nat} {v:Value} {l:List UInt8} (h:FmAt w0 w b v l) (hb:Below w.heap.size w w'):FmAt w0 w' b v l:=by
 obtain ⟨p,hp,hk⟩:=h.at_.blk
 exact ⟨⟨⟨p,hp,(hb.block _ hk.lt).trans hk⟩,h.at_.own.kept fun k hk=>hb.block k (h.at_.own.lt k hk)⟩,h.bb,h.bo,mono_bel h.bel hb (Nat.le_refl _)⟩
theorem FmAt.put {w0 w w':World} {b:Nat} {v v':Value} {l l':List UInt8} (h:FmAt w0 w b v l) (hp:BdPut w b v l' v' w'):FmAt w0 w' b v' l':=
 ⟨hp.at_,h.bb,fun k hk=>by
  rcases hp.place k hk with h1 | h1
  ·exact h.bo k h1
  ·exact Nat.le_trans h.bel.size h1,h.bel.trans (hp.chg.below h.bel.size fun i hi=>by
  rcases hi with rfl | hi
  ·exact h.bb
  ·exact h.bo i hi)⟩
theorem FmAt.new (w:World):FmAt w (w.alloc (.cells #[.pointer none,.slice none 0 0] 226)) w.heap.size (.slice none 0 0) []:=⟨BdAt.new w,Nat.le_refl _,fun k hk=>(by cases hk),bel_alloc _ _⟩
theorem format_any (t:ByteArray) (a:Option Addr) (n c:Nat) (sg:List (ByteArray × ByteArray)) (B:Nat) (w:World) (hL:NL B w) (hB:B<=w.heap.size) (hs:t.size<=1073741824) (hv:SigsAt w (.slice a n c) sg) (hn:sg.length=n) (hm:n<=1073741824) (hz:ZS sg) :
  Calls Tryz.prog 97 #[.agg #[.string t,.slice a n c]] w fun e w'=>e=.returned (fmV (t,sg))/\Below w.heap.size w w':=by
 obtain ⟨W1,hW1⟩:∃ W1,w.alloc (.cells #[.string t,.slice a n c] 120)=W1:=⟨_,rfl⟩
 have hB1:Below w.heap.size w W1:=by rw [<- hW1]; exact bel_alloc _ _
 have hS1:Pk.Blk W1 w.heap.size [.string t,.slice a n c] 120:=by rw [<- hW1]; exact Pk.Blk.new w _ _
 have s0:W1.cell? ⟨w.heap.size,0,none⟩=some (.string t):=hS1.cell 0
 have s1:W1.cell? ⟨w.heap.size,1,none⟩=some (.slice a n c):=hS1.cell 1
 have hF:=goodnote_any t a n c sg B W1 (hL.here hB hB1) (Nat.le_trans hB hB1.size) hs (hv.here hB1) hn hm hz
 cases hg:gN (t,sg) with
 | false=>
  rw [hg] at hF
  rw [fmV_no hg]
  replace hB1:=Box.mk hB1
  clear hL hB hv hn hz hs hS1 hg
  go_enter Tryz.func97,Tryz.ntmps97
  go_wp2_with fail
  refine hF.mono ?_
  clear hF
  rintro e w1 ⟨rfl,hb1⟩
  replace hb1:=Box.mk hb1
  go_wp2_with fail
  go_ret2
  exact ⟨rfl,mono_bel hB1.out hb1.out (Nat.le_refl _)⟩
 | true=>
  rw [hg] at hF
  rw [fmV_yes hg]
  obtain ⟨_,g2,g3⟩:=gN_iff.1 hg
  have hlen:=Box.mk (fmL_len hg)
  have hz0:=Box.mk (fmL_zero t sg)
  have hsu:=Box.mk (fmL_succ t sg)
  have hall:=Box.mk (fmL_all t sg)
  have hvB:=Box.mk (hv.here hB1)
  have hnB:=Box.mk hn
  replace g3:=Box.mk g3
  rw [hn] at g2
  replace hB1:=Box.mk hB1
  replace hS1:=Box.mk hS1
  clear hL hB hv hz hg hn hm
  go_enter Tryz.func97,Tryz.ntmps97
  go_wp2_with fail
  refine hF.mono ?_
  clear hF
  rintro e w1 ⟨rfl,hb1⟩
  have hS2:=Box.mk ((hb1.block _ hS1.out.lt).trans hS1.out)
  have hB2:=Box.mk (mono_bel hB1.out hb1 (Nat.le_refl _))
  have hv2:=Box.mk (hvB.out.here hb1)
  have hA:=Box.mk (FmAt.new w1)
  have hS3:Pk.Blk (w1.alloc (.cells #[.pointer none,.slice none 0 0] 226)) w.heap.size [.string t,.slice a n c] 120:=((bel_alloc w1 _).block _ (Pk.Blk.lt hS2.out)).trans hS2.out
  have t0:(w1.alloc (.cells #[.pointer none,.slice none 0 0] 226)).cell? ⟨w.heap.size,0,none⟩=some (.string t):=hS3.cell 0
  have hW:=wstr_any w1.heap.size (.slice none 0 0) [] (t++sN) _ hA.out.at_ (by show 0+(t++sN).size<=_; rw [ByteArray.size_append]; show 0+(t.size+1)<=_; omega)
  rw [List.nil_append] at hW
  rw [<- hz0.out] at hW
  unfold sN at hW
  obtain ⟨bb,hbb⟩:∃ b,w1.heap.size=b:=⟨_,rfl⟩
  rw [hbb] at hW hA
  have hbb1:w.heap.size<w1.heap.size:=Pk.Blk.lt hS2.out
  clear s0 s1 hb1 hS1 hvB hB1 hS3 hz0
  go_wp2_with fail
  refine hW.mono ?_
  clear hW t0
  rintro e w2 ⟨rfl,v2,hp2⟩
  have hA2:=Box.mk (hA.out.put hp2)
  have s1:w2.cell? ⟨w.heap.size,1,none⟩=some (.slice a n c):=(hA2.out.bel.cell (p:=⟨w.heap.size,1,none⟩) hbb1).trans (Pk.Blk.cell hS2.out 1)
  clear hA hp2 hbb hS2 hbb1
  go_wp2_with fail
  go_loopw [17] (fun q wr=>∃ (i:Nat) (v:Value),i<=n/\q=.int .i64 (i:Int)/\Box (FmAt w1 wr bb v (fmL t sg i))) (fun q _=>n-(intOf q).toNat)
  case atStart=>exact ⟨0,v2,by omega,rfl,hA2⟩
  case round=>
   clear hA2 s1
   obtain ⟨i,v,hi,rfl,hA⟩:=hrel
   by_cases hlt:i<n
   ·have hig:i<sg.length:=by rw [hnB.out]; exact hlt
    obtain ⟨b1,o1,rfl,k0,k1⟩:=(hv2.out.here hA.out.bel).at i hig
    have hsi:=hsu.out i hig
    have hxs:=g3.out _ (mem_getD hig)
    have hln:=hlen.out i
    obtain ⟨x,hx⟩:∃ x,sg.getD i default=x:=⟨_,rfl⟩
    rw [hx] at k0 k1 hsi hxs
    obtain ⟨x1,x2⟩:=x
    simp only at k0 k1 hsi hxs
    obtain ⟨e1,e2,e3⟩:=hxs
    have hii:(i:Int)<(n:Int):=by omega
    obtain ⟨wx,hwx⟩:∃ wx,wr.alloc (.cells #[.string x1,.string x2] 58)=wx:=⟨_,rfl⟩
    have hA3:Box (FmAt w1 wx bb v (fmL t sg i)):=⟨by rw [<- hwx]; exact hA.out.here (bel_alloc _ _)⟩
    have hSx:Box (Pk.Blk wx wr.heap.size [.string x1,.string x2] 58):=⟨by rw [<- hwx]; exact Pk.Blk.new wr _ _⟩
    have hsz:Box ((hxT x1).size=64/\(hxT x2).size<=2048):=⟨by rw [hxT_size,e1],by rw [hxT_size]; omega⟩
    have hH1:=Box.mk (fun w'=>hex_any x1 w' (by omega))
    have hH2:=Box.mk (fun w'=>hex_any x2 w' (by omega))
    have hWs:=Box.mk (fun (w':World) (h:Below wx.heap.size wx w')=>wstr_any bb v (fmL t sg i) (sSig++hxT x1++sBl++hxT x2++sN) w' (hA3.out.here h).at_ (by
     have h1:=hsz.out
     rw [ByteArray.size_append,ByteArray.size_append,ByteArray.size_append,ByteArray.size_append]
     have z1:sSig.size=4:=rfl
     have z2:sBl.size=1:=rfl
     have z3:sN.size=1:=rfl
     omega))
    rw [<- hsi] at hWs
    clear hx hig hsi hln e1 e2 e3 hA
    go_wp2_with fail
    refine region_steady (PC wx) (fun w w'=>Below w.heap.size w w') rfl (dB wx) ?_
    refine anyS_calms [0,1] 9 rfl (fun _=>Below.refl _ _) (PC.st wx) (by kernel_rfl) (by kernel_rfl) (by kernel_rfl) ?_
    simp [nth]
    try simp only [Act.put,zT9,zS9,zZ9]
    repeat (go_big_quiet_step (first | exact fun _=>rfl | rfl))
    refine quiet_val rfl (.string x1) (fun w' hw'=>by have h3:=(Pk.Blk.cell ((hw'.block _ (Pk.Blk.lt hSx.out)).trans hSx.out) 0); simp only [List.getElem?_cons_zero] at h3; go_simp) ?_
    simp only [Act.put,zT9,zS9,zZ9]
    refine wpQuiet_nil ?_
    refine anyS_call 2 (.string (hxT x1)) (fun _=>Below.refl _ _) (PC.st wx) (by kernel_rfl) rfl (by kernel_rfl) (by kernel_rfl) rfl (fun w' _=>hH1.out w') (fun w' _=>by go_simp) ?_
    refine anyS_calms [3,4,5,6] 4 rfl (fun _=>Below.refl _ _) (PC.st wx) (by kernel_rfl) (by kernel_rfl) (by kernel_rfl) ?_
    simp [nth]
    try simp only [Act.put,zT9,zS9,zZ9]
    refine quiet_val rfl (.string (sSig++hxT x1)) (fun w' _=>by unfold sSig; go_simp; have:=hsz.out; omega) ?_
    simp only [Act.put,zT9,zS9,zZ9]
    refine quiet_val rfl (.string (sSig++hxT x1++sBl)) (fun w' _=>by unfold sBl; go_simp; have:=hsz.out; have z1:sSig.size=4:=rfl; omega) ?_
    simp only [Act.put,zT9,zS9,zZ9]
    repeat (go_big_quiet_step (first | exact fun _=>rfl | rfl))
    refine quiet_val rfl (.string x2) (fun w' hw'=>by have h3:=(Pk.Blk.cell ((hw'.block _ (Pk.Blk.lt hSx.out)).trans hSx.out) 1); simp only [List.getElem?_cons_zero,List.getElem?_cons_succ] at h3; go_simp) ?_
    simp only [Act.put,zT9,zS9,zZ9]
    refine wpQuiet_nil ?_
    refine anyS_call 7 (.string (hxT x2)) (fun _=>Below.refl _ _) (PC.st wx) (by kernel_rfl) rfl (by kernel_rfl) (by kernel_rfl) rfl (fun w' _=>hH2.out w') (fun w' _=>by go_simp) ?_
    refine anyS_calms [8,9] 1 rfl (fun _=>Below.refl _ _) (PC.st wx) (by kernel_rfl) (by kernel_rfl) (by kernel_rfl) ?_
    simp [nth]
    try simp only [Act.put,zT9,zS9,zZ9]
    refine quiet_val rfl (.string (sSig++hxT x1++sBl++hxT x2)) (fun w' _=>by go_simp; have:=hsz.out; have z1:sSig.size=4:=rfl; have z2:sBl.size=1:=rfl; omega) ?_
    simp only [Act.put,zT9,zS9,zZ9]
    refine quiet_val rfl (.string (sSig++hxT x1++sBl++hxT x2++sN)) (fun w' _=>by unfold sN; go_simp; have:=hsz.out; have z1:sSig.size=4:=rfl; have z2:sBl.size=1:=rfl; omega) ?_
    simp only [Act.put,zT9,zS9,zZ9]
    refine wpQuiet_nil ?_
    generalize sSig++hxT x1++sBl++hxT x2++sN=Z at hWs ⊢
    clear hH1 hH2 hsz
    refine anyS_last 10 (by kernel_rfl) rfl rfl (by kernel_rfl) (by kernel_rfl) (fun wc hWc K hK=>?_)
    have hF:=hWs.out wc hWc
    go_simp
    refine hF.mono ?_
    rintro e w5 ⟨rfl,v5,hp5⟩
    have hA5:=Box.mk ((hA3.out.here hWc).put hp5)
    refine hK _ _ ?_
    clear hK K hF hWc hp5 hA3 hWs hSx hwx k0 k1
    go_wp2_with fail
    exact ⟨⟨i+1,v5,by omega,by go_num,hA5⟩,by simp [intOf]; omega⟩
   ·obtain rfl:i=n:=by omega
    have hl0:fmL t sg i ≠ []:=by unfold fmL; simp
    have hF:=bstr_any bb v (fmL t sg i) wr hA.out.at_ hl0
    have he:fmL t sg i=byN (t,sg):=by rw [<- hnB.out]; exact hall.out
    rw [he] at hF
    have hfin:=Box.mk (fun (w':World) (hc:Pk.Chg (fun k=>v.ownBlock=some k) wr w')=>(mono_bel hB2.out (hA.out.bel.trans (hc.below hA.out.bel.size fun k hk=>hA.out.bo k hk)) (Nat.le_refl _):Below w.heap.size w w'))
    obtain ⟨Z,hZ⟩:∃ Z:ByteArray,(⟨(byN (t,sg)).toArray⟩:ByteArray)=Z:=⟨_,rfl⟩
    rw [hZ] at hF
    replace hZ:=Box.mk hZ
    clear hA he hl0
    go_wp2_with fail
    refine hF.mono ?_
    clear hF
    rintro e w5 ⟨rfl,hc5⟩
    replace hc5:=Box.mk hc5
    go_wp2_with fail
    go_ret2
    exact ⟨by rw [hZ.out]; rfl,hfin.out _ hc5.out⟩
def neB (x:ByteArray):Bool := !decide (x=⟨#[]⟩)
theorem ne_b (x:ByteArray):(!x.toList.isEmpty)=neB x:=by
 unfold neB
 have h:=tl_eq x ⟨#[]⟩
 have e:(⟨#[]⟩:ByteArray).toList=[]:=by rw [ByteArray.toList_eq]
 rw [e] at h
 rw [<- h]
 cases x.toList <;> rfl
theorem gN_doc (t:ByteArray) (sg:List (ByteArray × ByteArray)):gN (t,sg)=(((lnB t && (lnT t).all neB) && sg.all gS) && decide (0<(lnT t).length) && decide (sg.length<=16)):=by
 have h1:gT t.data.toList=(lnB t && (lnT t).all neB && decide (0<(lnT t).length)):=by
  rw [gT_eq]
  unfold gTd lnB lnT
  rw [List.all_map,List.length_map]
  have e1:(lnL t.data.toList).2.isEmpty=decide ((lnL t.data.toList).2=[]):=by
   cases (lnL t.data.toList).2 <;> simp
  have e2:(neB ∘ bT)=(fun a:List UInt8 => !a.isEmpty):=by
   funext a
   show (!decide (bT a=⟨#[]⟩)) = !a.isEmpty
   cases a with
   | nil=>rfl
   | cons x a=>
    have:¬ bT (x::a)=⟨#[]⟩:=fun h=>by
     have:=congrArg (fun z:ByteArray=>z.data.toList) h
     simp [bT] at this
    rw [decide_eq_false this]; rfl
  have e3:(!(lnL t.data.toList).1.isEmpty)=decide (0<(lnL t.data.toList).1.length):=by
   cases (lnL t.data.toList).1 <;> simp
  rw [e1,e2,e3]
 show (gT t.data.toList && decide (sg.length<=16) && sg.all gS)=_
 rw [h1]
 generalize lnB t=a
 generalize (lnT t).all neB=b
 generalize decide (0<(lnT t).length)=c
 generalize decide (sg.length<=16)=d
 generalize sg.all gS=e
 revert a b c d e
 decide
theorem all_take {α:Type} [Inhabited α] (p:α->Bool) (l:List α) (i:Nat) (h:i<l.length) (d:α):(l.take (i+1)).all p=((l.take i).all p && p (l.getD i d)):=by
 rw [List.take_succ_eq_append_getElem h,List.all_append,show l.getD i d=l[i] by simp [List.getD,h]]
 simp
theorem dgood_any (t:ByteArray) (a:Option Addr) (n c:Nat) (sg:List (ByteArray × ByteArray)) (w:World) (hs:t.size<=1073741824) (hv:SigsAt w (.slice a n c) sg) (hn:sg.length=n) (hm:n<=1073741824) :
  Calls Tryz.prog 111 #[.agg #[.string t,.slice a n c]] w fun e w'=>e=.returned (.bool (gN (t,sg)))/\Below w.heap.size w w':=by
 obtain ⟨W1,hW1⟩:∃ W1,w.alloc (.cells #[.string t,.slice a n c] 120)=W1:=⟨_,rfl⟩
 have hB1:Below w.heap.size w W1:=by rw [<- hW1]; exact bel_alloc _ _
 have hS1:Pk.Blk W1 w.heap.size [.string t,.slice a n c] 120:=by rw [<- hW1]; exact Pk.Blk.new w _ _
 have s0:W1.cell? ⟨w.heap.size,0,none⟩=some (.string t):=hS1.cell 0
 have hpl:=lnT_length t
 have hLn:Calls Tryz.prog 163 #[.string t] W1 fun e wb=>∃ (a:Option Addr) (c:Nat),e=.returned (.tuple #[.slice a (lnT t).length c,.bool (lnB t)])/\Box (PartsAt wb (.slice a (lnT t).length c) (lnT t))/\Box (Below W1.heap.size W1 wb):=(lines_any t W1 hs).mono fun e wb h=>by
  obtain ⟨⟨v,h1,h2⟩,h3⟩:=h
  obtain ⟨a,c,rfl⟩:=h2.shape
  exact ⟨a,c,h1,⟨h2.parts⟩,⟨h3⟩⟩
 rw [gN_doc]
 obtain ⟨q,hq⟩:∃ q,lnT t=q:=⟨_,rfl⟩
 obtain ⟨ok,hok⟩:∃ b,lnB t=b:=⟨_,rfl⟩
 rw [hq,hok] at hLn
 rw [hq] at hpl
 rw [hq,hok]
 obtain ⟨L,hLe⟩:∃ L,q.length=L:=⟨_,rfl⟩
 rw [hLe] at hLn hpl
 rw [hLe,hn]
 replace hLe:=Box.mk hLe
 have hvB:=Box.mk hv
 have hnB:=Box.mk hn
 replace hB1:=Box.mk hB1
 replace hS1:=Box.mk hS1
 clear hv hn hq hok
 go_enter Tryz.func111,Tryz.ntmps111
 go_wp2_with fail
 refine hLn.mono ?_
 clear hLn
 rintro e wb ⟨ga,gc,rfl,hP,hBb⟩
 have hB2:=Box.mk (mono_bel hB1.out hBb.out (Nat.le_refl _))
 have hS2:=Box.mk ((hBb.out.block _ (Pk.Blk.lt hS1.out)).trans hS1.out)
 have s1:wb.cell? ⟨w.heap.size,1,none⟩=some (.slice a n c):=Pk.Blk.cell hS2.out 1
 have h00:Box (ok=(ok && (q.take 0).all neB)):=⟨by simp⟩
 clear s0 hW1 hB1 hBb
 go_wp2_with fail
 go_loop [4,5] (fun o q'=>∃ (i:Nat) (b:Bool),i<=L/\q'=.int .i64 (i:Int)/\o=.bool b/\Box (b=(ok && (q.take i).all neB))) (fun _ q'=>L-(intOf q').toNat)
 case atStart=>exact ⟨0,ok,by omega,rfl,rfl,h00⟩
 case round=>
  clear h00
  obtain ⟨i,b,hi,rfl,rfl,hb⟩:=hrel
  by_cases hlt:i<L
  ·have hat:=all_take neB q i (by rw [hLe.out]; exact hlt) ByteArray.empty
   obtain ⟨ga2,gc2,e2,hcl⟩:=hP.out.ex
   rw [hLe.out] at e2 hcl
   cases e2
   obtain ⟨g,off,rfl,hglt,hcell⟩:=hcl (by omega)
   have p1:=hcell i hlt
   obtain ⟨x,hx⟩:∃ x,q.getD i ByteArray.empty=x:=⟨_,rfl⟩
   rw [hx] at hat p1
   have hii:(i:Int)<(L:Int):=by omega
   cases b with
   | false=>
    have hn2:Box (false=(ok && (q.take (i+1)).all neB)):=⟨by rw [hat,<- Bool.and_assoc,<- hb.out,Bool.false_and]⟩
    clear hat hb hcell hcl hx
    go_wp2_with fail
    go_round
    case rel=>exact ⟨i+1,false,by omega,by go_num,rfl,hn2⟩
    case measure=>simp [intOf]; omega
   | true=>
    have hn2:Box (neB x=(ok && (q.take (i+1)).all neB)):=⟨by rw [hat,<- Bool.and_assoc,<- hb.out,Bool.true_and]⟩
    clear hat hb hcell hcl hx
    go_wp2_with fail
    go_round
    case rel=>exact ⟨i+1,neB x,by omega,by go_num,by rw [ne_b],hn2⟩
    case measure=>simp [intOf]; omega
  ·obtain rfl:i=L:=by omega
   rw [<- hLe.out,List.take_length] at hb
   obtain ⟨b1,hb1⟩:∃ b1,b=b1:=⟨_,rfl⟩
   rw [hb1] at hb ⊢
   have h00:Box (b1=(b1 && (sg.take 0).all gS)):=⟨by simp⟩
   clear hP
   go_wp2_with fail
   go_loop [4,6] (fun o q'=>∃ (i:Nat) (b:Bool),i<=n/\q'=.int .i64 (i:Int)/\o=.bool b/\Box (b=(b1 && (sg.take i).all gS))) (fun _ q'=>n-(intOf q').toNat)
   case atStart=>exact ⟨0,b1,by omega,rfl,rfl,h00⟩
   case round=>
    clear h00
    obtain ⟨j,r,hj,rfl,rfl,hr⟩:=hrel
    by_cases hlt2:j<n
    ·have hjg:j<sg.length:=by rw [hnB.out]; exact hlt2
     have hat:=all_take gS sg j hjg default
     obtain ⟨g1,o1,rfl,k0,k1⟩:=(hvB.out.here (mono_bel hB2.out (Below.refl _ _) (Nat.le_refl _))).at j hjg
     obtain ⟨x,hx⟩:∃ x,sg.getD j default=x:=⟨_,rfl⟩
     rw [hx] at hat k0 k1
     obtain ⟨x1,x2⟩:=x
     simp only at k0 k1
     have hii:(j:Int)<(n:Int):=by omega
     cases r with
     | false=>
      have hn2:Box (false=(b1 && (sg.take (j+1)).all gS)):=⟨by rw [hat,<- Bool.and_assoc,<- hr.out,Bool.false_and]⟩
      clear hat hr hx hjg
      go_wp2_with fail
      go_round
      case rel=>exact ⟨j+1,false,by omega,by go_num,rfl,hn2⟩
      case measure=>simp [intOf]; omega
     | true=>
      have hn2:Box (gS (x1,x2)=(b1 && (sg.take (j+1)).all gS)):=⟨by rw [hat,<- Bool.and_assoc,<- hr.out,Bool.true_and]⟩
      have hg:gS (x1,x2)=(decide (x1.size=32) && decide (1<=x2.size) && decide (x2.size<=1024)):=rfl
      clear hat hr hx hjg
      by_cases m1:x1.size=32
      ·have d1:((x1.size:Int)==32)=true:=by rw [m1]; rfl
       by_cases m2:1<=x2.size
       ·by_cases m3:x2.size<=1024
        ·rw [hg,decide_eq_true m1,decide_eq_true m2,decide_eq_true m3] at hn2
         clear hg m1
         go_wp2_with fail
         go_round
         case rel=>exact ⟨j+1,true,by omega,by go_num,by first | rfl | (simp <;> omega),hn2⟩
         case measure=>simp [intOf]; omega
        ·rw [hg,decide_eq_true m1,decide_eq_true m2,decide_eq_false m3] at hn2
         clear hg m1
         go_wp2_with fail
         go_round
         case rel=>exact ⟨j+1,false,by omega,by go_num,by first | rfl | (simp <;> omega),hn2⟩
         case measure=>simp [intOf]; omega
       ·rw [hg,decide_eq_true m1,decide_eq_false m2] at hn2
        clear hg m1
        go_wp2_with fail
        go_round
        case rel=>exact ⟨j+1,false,by omega,by go_num,by first | rfl | (simp <;> omega),hn2⟩
        case measure=>simp [intOf]; omega
      ·have d1:((x1.size:Int)==32)=false:=by simpa using (by omega:(x1.size:Int) ≠ 32)
       rw [hg,decide_eq_false m1] at hn2
       clear hg m1
       go_wp2_with fail
       go_round
       case rel=>exact ⟨j+1,false,by omega,by go_num,rfl,hn2⟩
       case measure=>simp [intOf]; omega
    ·obtain rfl:j=n:=by omega
     rw [<- hnB.out,List.take_length,hb.out] at hr
     cases r with
     | false=>
      have hfin:=Box.mk hr.out
      clear hr
      go_wp2_with fail
      go_ret
      exact ⟨ret_b (by rw [<- hfin.out]; rfl),hB2.out⟩
     | true=>
      have hfin:=Box.mk hr.out
      clear hr
      by_cases m1:0<i
      ·by_cases m2:j<=16
       ·go_wp2_with fail
        go_ret
        exact ⟨ret_b (by first | rfl | (rw [<- hfin.out]; simp <;> omega) | (simp <;> omega)),hB2.out⟩
       ·go_wp2_with fail
        go_ret
        exact ⟨ret_b (by first | rfl | (rw [<- hfin.out]; simp <;> omega) | (simp <;> omega)),hB2.out⟩
      ·go_wp2_with fail
       go_ret
       exact ⟨ret_b (by first | rfl | (rw [<- hfin.out]; simp <;> omega) | (simp <;> omega)),hB2.out⟩
theorem bT_next (t:ByteArray) (sg:List (ByteArray × ByteArray)) (i:Nat) (h:i<sg.length):bT (fmL t sg i)++sSig++hxT (sg.getD i default).1++sBl++hxT (sg.getD i default).2++sN=bT (fmL t sg (i+1)):=by
 refine ba_ext ?_
 show _=fmL t sg (i+1)
 rw [fmL_succ t sg i h]
 simp only [ByteArray.data_append,Array.toList_append,List.append_assoc]
 rfl
theorem bT_size (l:List UInt8):(bT l).size=l.length:=rfl
theorem dformat_any (t:ByteArray) (a:Option Addr) (n c:Nat) (sg:List (ByteArray × ByteArray)) (w:World) (hs:t.size<=1073741824) (hv:SigsAt w (.slice a n c) sg) (hn:sg.length=n) (hm:n<=1073741824) :
  Calls Tryz.prog 63 #[.agg #[.string t,.slice a n c]] w fun e w'=>e=.returned (fmV (t,sg))/\Below w.heap.size w w':=by
 obtain ⟨W1,hW1⟩:∃ W1,w.alloc (.cells #[.string t,.slice a n c] 120)=W1:=⟨_,rfl⟩
 have hB1:Below w.heap.size w W1:=by rw [<- hW1]; exact bel_alloc _ _
 have hS1:Pk.Blk W1 w.heap.size [.string t,.slice a n c] 120:=by rw [<- hW1]; exact Pk.Blk.new w _ _
 have s0:W1.cell? ⟨w.heap.size,0,none⟩=some (.string t):=hS1.cell 0
 have s1:W1.cell? ⟨w.heap.size,1,none⟩=some (.slice a n c):=hS1.cell 1
 have hF:=dgood_any t a n c sg W1 hs (hv.here hB1) hn hm
 cases hg:gN (t,sg) with
 | false=>
  rw [hg] at hF
  rw [fmV_no hg]
  replace hB1:=Box.mk hB1
  clear hv hn hs hS1 hg
  go_enter Tryz.func63,Tryz.ntmps63
  go_wp2_with fail
  refine hF.mono ?_
  clear hF
  rintro e w1 ⟨rfl,hb1⟩
  replace hb1:=Box.mk hb1
  go_wp2_with fail
  go_ret2
  exact ⟨rfl,mono_bel hB1.out hb1.out (Nat.le_refl _)⟩
 | true=>
  rw [hg] at hF
  rw [fmV_yes hg]
  obtain ⟨_,g2,g3⟩:=gN_iff.1 hg
  have hlen:=Box.mk (fmL_len hg)
  have hz0:Box (t++⟨#[10]⟩=bT (fmL t sg 0)):=⟨ba_ext (by show _=fmL t sg 0; rw [fmL_zero]; rfl)⟩
  have hsu:=Box.mk (bT_next t sg)
  have hall:Box (bT (fmL t sg n)=⟨(byN (t,sg)).toArray⟩):=⟨by rw [<- hn,fmL_all]; rfl⟩
  have hvB:=Box.mk (hv.here hB1)
  have hnB:=Box.mk hn
  replace g3:=Box.mk g3
  rw [hn] at g2
  replace hB1:=Box.mk hB1
  replace hS1:=Box.mk hS1
  clear hv hg hn hm
  go_enter Tryz.func63,Tryz.ntmps63
  go_wp2_with fail
  refine hF.mono ?_
  clear hF
  rintro e w1 ⟨rfl,hb1⟩
  have hS2:=Box.mk ((hb1.block _ hS1.out.lt).trans hS1.out)
  have hB2:=Box.mk (mono_bel hB1.out hb1 (Nat.le_refl _))
  have hv2:=Box.mk (hvB.out.here hb1)
  have s0:w1.cell? ⟨w.heap.size,0,none⟩=some (.string t):=Pk.Blk.cell hS2.out 0
  have hB0:Box (Below w1.heap.size w1 w1):=⟨Below.refl _ _⟩
  have hbb1:w.heap.size<w1.heap.size:=Pk.Blk.lt hS2.out
  have hd1:t.size+1<=9223372036854775807:=by omega
  clear hb1 hS1 hvB hB1 hW1
  go_wp2_with fail
  go_loopw [4,5] (fun z q wr=>∃ i:Nat,i<=n/\q=.int .i64 (i:Int)/\z=.string (bT (fmL t sg i))/\Box (Below w1.heap.size w1 wr)) (fun _ q _=>n-(intOf q).toNat)
  case atStart=>exact ⟨0,by omega,rfl,by rw [<- hz0.out],hB0⟩
  case round=>
   clear hB0 s0 hz0
   obtain ⟨i,hi,rfl,rfl,hB⟩:=hrel
   have s1:wr.cell? ⟨w.heap.size,1,none⟩=some (.slice a n c):=(hB.out.cell (p:=⟨w.heap.size,1,none⟩) hbb1).trans (Pk.Blk.cell hS2.out 1)
   by_cases hlt:i<n
   ·have hig:i<sg.length:=by rw [hnB.out]; exact hlt
    have hvr:=hv2.out.here hB.out
    obtain ⟨b1,o1,rfl,k0,k1⟩:=hvr.at i hig
    have hsi:=hsu.out i hig
    have hxs:=g3.out _ (mem_getD hig)
    have hln:=hlen.out i
    have hcc:Box (∀ w',Below wr.heap.size wr w'->w'.cell? ⟨b1,o1+i*2,none⟩=some (.string (sg.getD i default).1)/\w'.cell? ⟨b1,o1+i*2+1,none⟩=some (.string (sg.getD i default).2)):=⟨fun w' hw=>by
     obtain ⟨b3,o3,e3,j0,j1⟩:=(hvr.here hw).at i hig
     cases e3
     exact ⟨j0,j1⟩⟩
    obtain ⟨x,hx⟩:∃ x,sg.getD i default=x:=⟨_,rfl⟩
    rw [hx] at hcc hsi hxs
    obtain ⟨x1,x2⟩:=x
    simp only at hcc hsi hxs
    obtain ⟨e1,e2,e3⟩:=hxs
    have hii:(i:Int)<(n:Int):=by omega
    obtain ⟨Z,hZ⟩:∃ Z,bT (fmL t sg i)=Z:=⟨_,rfl⟩
    have hZs:Z.size<=1073741824+35217:=by rw [<- hZ,bT_size]; omega
    rw [hZ] at hsi ⊢
    have hsz:Box ((hxT x1).size=64/\(hxT x2).size<=2048/\Z.size<=1073741824+35217):=⟨by rw [hxT_size,e1],by rw [hxT_size]; omega,hZs⟩
    have hH1:=Box.mk (fun w'=>rhex_any x1 w' (by omega))
    have hH2:=Box.mk (fun w'=>rhex_any x2 w' (by omega))
    have hlt':w.heap.size<wr.heap.size:=Nat.lt_of_lt_of_le hbb1 hB.out.size
    have hs1:=Box.mk (fun w' (hw:Below wr.heap.size wr w')=>(hw.cell (p:=⟨w.heap.size,1,none⟩) hlt').trans s1)
    replace hsi:=Box.mk hsi
    clear hx hig hln e1 e2 e3 hvr k0 k1 hZ hZs hlt'
    go_wp2_with fail
    refine region_quiet (fun w'=>Below wr.heap.size wr w') (by kernel_rfl) (by kernel_rfl) (dB _) ?_
    repeat (go_big_quiet_step (first | exact fun _=>rfl | rfl))
    refine quiet_val rfl (.string (Z++sSig)) (fun w' _=>by unfold sSig; go_simp; have:=hsz.out; omega) ?_
    simp only [Act.put,zT9,zS9,zZ9]
    repeat (go_big_quiet_step (first | exact fun _=>rfl | rfl))
    refine quiet_val rfl (.slice (some ⟨b1,o1,none⟩) n c) (fun w' hw'=>by have h3:=hs1.out w' hw'; go_simp) ?_
    simp only [Act.put,zT9,zS9,zZ9]
    repeat (go_big_quiet_step (first | exact fun _=>rfl | rfl))
    refine quiet_val rfl (.string x1) (fun w' hw'=>by have h3:=(hcc.out w' hw').1; go_simp) ?_
    simp only [Act.put,zT9,zS9,zZ9]
    repeat (go_big_quiet_step (first | exact fun _=>rfl | rfl))
    refine quiet_call rfl (.string (hxT x1)) (fun w' hw'=>bel_call (hH1.out w') hw') (fun w' _=>by go_simp) ?_
    simp only [Act.put,zT9,zS9,zZ9]
    repeat (go_big_quiet_step (first | exact fun _=>rfl | rfl))
    refine quiet_val rfl (.string (Z++sSig++hxT x1)) (fun w' _=>by go_simp; have:=hsz.out; have z1:sSig.size=4:=rfl; omega) ?_
    simp only [Act.put,zT9,zS9,zZ9]
    repeat (go_big_quiet_step (first | exact fun _=>rfl | rfl))
    refine quiet_val rfl (.string (Z++sSig++hxT x1++sBl)) (fun w' _=>by unfold sBl; go_simp; have:=hsz.out; have z1:sSig.size=4:=rfl; omega) ?_
    simp only [Act.put,zT9,zS9,zZ9]
    repeat (go_big_quiet_step (first | exact fun _=>rfl | rfl))
    refine quiet_val rfl (.slice (some ⟨b1,o1,none⟩) n c) (fun w' hw'=>by have h3:=hs1.out w' hw'; go_simp) ?_
    simp only [Act.put,zT9,zS9,zZ9]
    repeat (go_big_quiet_step (first | exact fun _=>rfl | rfl))
    refine quiet_val rfl (.string x2) (fun w' hw'=>by have h3:=(hcc.out w' hw').2; go_simp) ?_
    simp only [Act.put,zT9,zS9,zZ9]
    repeat (go_big_quiet_step (first | exact fun _=>rfl | rfl))
    refine quiet_call rfl (.string (hxT x2)) (fun w' hw'=>bel_call (hH2.out w') hw') (fun w' _=>by go_simp) ?_
    simp only [Act.put,zT9,zS9,zZ9]
    repeat (go_big_quiet_step (first | exact fun _=>rfl | rfl))
    refine quiet_val rfl (.string (Z++sSig++hxT x1++sBl++hxT x2)) (fun w' _=>by go_simp; have:=hsz.out; have z1:sSig.size=4:=rfl; have z2:sBl.size=1:=rfl; omega) ?_
    simp only [Act.put,zT9,zS9,zZ9]
    repeat (go_big_quiet_step (first | exact fun _=>rfl | rfl))
    refine quiet_val rfl (.string (Z++sSig++hxT x1++sBl++hxT x2++sN)) (fun w' _=>by unfold sN; go_simp; have:=hsz.out; have z1:sSig.size=4:=rfl; have z2:sBl.size=1:=rfl; omega) ?_
    simp only [Act.put,zT9,zS9,zZ9]
    repeat (go_big_quiet_step (first | exact fun _=>rfl | rfl))
    refine wpQuiet_nil ?_
    intro w5 hw5
    have hB5:=Box.mk (mono_bel hB.out hw5 (Nat.le_refl _))
    rw [hsi.out]
    clear hH1 hH2 hsz hs1 hcc hB s1 hsi hw5
    go_wp2_with fail
    exact ⟨⟨i+1,by omega,by go_num,rfl,hB5⟩,by simp [intOf]; omega⟩
   ·obtain rfl:i=n:=by omega
    have hfin:=Box.mk (mono_bel hB2.out hB.out (Nat.le_refl _))
    clear hB
    go_wp2_with fail
    go_ret2
    exact ⟨by rw [<- hall.out]; rfl,hfin.out⟩
end Go.Proofs.YthpfpkikmaiddaaGreatDoor.Nt
