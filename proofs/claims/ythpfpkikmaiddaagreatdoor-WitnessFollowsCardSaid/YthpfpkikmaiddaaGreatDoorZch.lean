/- - -/
import Derived.Test.YthpfpkikmaiddaaGreatDoorZcq
set_option linter.all false
set_option maxHeartbeats 12800000
set_option maxRecDepth 100000
namespace Go.Proofs.YthpfpkikmaiddaaGreatDoor.Pk
open Go.RowKit Go.Maps
def DevO (bd:Nat) (D:Dev):Obj:=fun w F=>DAt w bd F D
theorem DevO.good (bd:Nat) (D:Dev):Good (DevO bd D) where
 lt:=fun h=>h.lt
 chg:=fun h hc hn=>h.chg hc hn
 wide:=fun h hG hl=>h.wide hG hl
def commitE (base half:Nat) (D:Dev) (M:CellM):Int:=
 if M.off then 7 else if 64*(half-1)<(bytesC M.now).length then 4 else (commitM D (toC base half M.last) (hdr (M.num+1) (bytesC M.now).length) (pieces M.now)).1
def commitD (base half:Nat) (D:Dev) (M:CellM):Dev:=
 if M.off then D else if 64*(half-1)<(bytesC M.now).length then D else (commitM D (toC base half M.last) (hdr (M.num+1) (bytesC M.now).length) (pieces M.now)).2
def commitC (base half:Nat) (D:Dev) (M:CellM):CellM:=
 if M.off then M else if 64*(half-1)<(bytesC M.now).length then M
 else if (commitM D (toC base half M.last) (hdr (M.num+1) (bytesC M.now).length) (pieces M.now)).1=0 then { M with was:=M.now,num:=M.num+1,last:=1-M.last } else { M with off:=true }
theorem hdr_ne (n l:Nat):hdr n l ≠ []:=fun e=>by have:=hdr_length n l; rw [e] at this; cases this
theorem chg_three (w:World) (b i j k:Nat) (u v x:Value):Chg (fun q=>q=b) w (((w.setCell ⟨b,i,none⟩ u).setCell ⟨b,j,none⟩ v).setCell ⟨b,k,none⟩ x):=
 (((Chg.refl (fun q=>q=b) w).setCell (p:=⟨b,i,none⟩) rfl u).setCell (p:=⟨b,j,none⟩) rfl v).setCell (p:=⟨b,k,none⟩) rfl x
theorem commit_end {w w4 w9:World} {bd bc:Nat} {F:Nat->Prop} {D:Dev} (hN:DNext w bd F D w4) (hF:¬ F bc) (hb:bc<w.heap.size) (hC:Chg (fun k=>k=bc) w4 w9):w.heap.size<=w4.heap.size/\w4.heap.size<=w9.heap.size/\DAt w9 bd (fun k=>F k∨(w.heap.size<=k/\k<w4.heap.size)) D/\Chg (fun k=>F k∨k=bc) w w9:=
 ⟨hN.chg.size,hC.size,hN.at_.chg hC fun k hk e=>by
   rcases hk with hk | hk
   ·exact hF (e ▸ hk)
   ·omega,
  (hN.chg.mono fun i _ hi=>.inl hi).trans (hC.mono fun i _ hi=>.inr hi) fun _ _ h=>h⟩
def CommitPost (bd bc bn:Nat) (p:Option Nat) (base half:Nat) (F:Nat->Prop) (M:CellM) (w:World) (e:Int) (D':Dev) (w':World):Prop:=
 ∃ m,(w.heap.size<=m/\m<=w'.heap.size/\DAt w' bd (fun k=>F k∨(w.heap.size<=k/\k<m)) D'/\Chg (fun k=>F k∨k=bc) w w')/\MapAt w' bn M.now/\WasAt w' p M.was /\
  if e=0 then ∃ b3,m<=b3/\Blk w' bc (cellCells bd bn (some b3) base half { M with was:=M.now,num:=M.num+1,last:=1-M.last }) 152/\MapAt w' b3 M.now
  else Blk w' bc (cellCells bd bn p base half { M with off:=true }) 152
theorem commit_go (bd bc bn:Nat) (p:Option Nat) (base half:Nat) (F:Nat->Prop) (D:Dev) (M:CellM) (w:World) (hD:DAt w bd F D) (hb:Blk w bc (cellCells bd bn p base half M) 152) (hM:MapAt w bn M.now) (hW:WasAt w p M.was)
  (hF:¬ F bc/\¬ F bn/\∀ b,p=some b->¬ F b) (hok:M.ok base half) (hoff:M.off=false) (hfit:(bytesC M.now).length<=64*(half-1)) (hk:D.taken<=100000) (hf:D.fall<=9223372036854775807) (hws:D.ws.length<=100000) (hnum:M.num<1000000) :
  Calls Tryz.prog 89 #[.pointer (some ⟨bc,0,none⟩)] w fun e w'=>
   e=.returned (.int .i64 (commitM D (toC base half M.last) (hdr (M.num+1) (bytesC M.now).length) (pieces M.now)).1)/\Box (CommitPost bd bc bn p base half F M w (commitM D (toC base half M.last) (hdr (M.num+1) (bytesC M.now).length) (pieces M.now)).1 (commitM D (toC base half M.last) (hdr (M.num+1) (bytesC M.now).length) (pieces M.now)).2 w'):=by
 have hbl:=hb.lt
 have hbase:=hok.base
 have hhalf:=hok.half
 have hlast:=hok.last
 obtain ⟨at1,ha1⟩:∃ at1,base+M.last*half=at1:=⟨_,rfl⟩
 obtain ⟨at2,ha2⟩:∃ at2,base+(1-M.last)*half=at2:=⟨_,rfl⟩
 have hat2:at2<=90000:=by
  rw [<- ha2]
  rcases (show M.last=0∨M.last=1 by omega) with h | h <;> rw [h] <;> simp <;> omega
 have hto:toC base half M.last=at2:=ha2
 obtain ⟨num,hnu⟩:∃ num,M.num=num:=⟨_,rfl⟩
 unfold cellCells at hb
 rw [ha1,ha2,hoff,hnu] at hb
 rw [hto,hnu]
 rw [hnu] at hnum
 have hby:=Box.mk (cbytes_any bn M.now w hM hok.now)
 obtain ⟨bs,hbs⟩:∃ bs,bytesC M.now=bs:=⟨_,rfl⟩
 have hpieces:pieces M.now=cut bs.length bs:=by unfold pieces; rw [hbs]
 rw [hbs] at hby hfit
 rw [hbs,hpieces]
 have c5:w.cell? ⟨bc,9,none⟩=some (.bool false):=hb.cell 9
 have c0:w.cell? ⟨bc,0,none⟩=some (.map (some bn)):=hb.cell 0
 replace hb:=Box.mk hb
 replace hD:=Box.mk hD
 replace hM:=Box.mk hM
 replace hW:=Box.mk hW
 replace hF:=Box.mk hF
 replace hok:=Box.mk hok
 replace hoff:=Box.mk hoff
 replace hnu:=Box.mk hnu
 replace ha1:=Box.mk ha1
 replace ha2:=Box.mk ha2
 replace hto:=Box.mk hto
 replace hbs:=Box.mk hbs
 replace hpieces:=Box.mk hpieces
 go_enter Tryz.func89,Tryz.ntmps89
 go_wp2_with fail
 refine hby.out.mono ?_
 rintro e w1 ⟨rfl,hB1⟩
 have hb1:Blk w1 bc _ _:=(hB1.out.block _ hbl).trans hb.out
 clear hby c5 c0
 have d6:w1.cell? ⟨bc,6,none⟩=some (.pointer (some ⟨bd,0,none⟩)):=hb1.cell 6
 have d7:w1.cell? ⟨bc,7,none⟩=some (.int .i64 (at2:Int)):=hb1.cell 7
 have d8:w1.cell? ⟨bc,8,none⟩=some (.int .i64 (half:Int)):=hb1.cell 8
 have hroom:=Box.mk (room_any (.pointer (some ⟨bd,0,none⟩)) (.int .i64 (at2:Int)) half w1 (by omega) (by omega))
 have hsz:(btx bs).size=bs.length:=mk_size bs
 replace hb1:=Box.mk hb1
 go_wp2_with fail
 refine hroom.out.mono ?_
 rintro e w2 ⟨rfl,hB2⟩
 have hb2:Blk w2 bc _ _:=(hB2.block _ hb1.out.lt).trans hb1.out
 have hB2':Box (Below w.heap.size w w2):=⟨hB1.out.trans (hB2.mono hB1.out.size)⟩
 clear hroom d6 d7 d8 hb1 hB1 hB2
 have d2:w2.cell? ⟨bc,2,none⟩=some (.int .i64 (num:Int)):=hb2.cell 2
 have hlong:¬ ((half:Int)-1)*64<(bs.length:Int):=by omega
 have hHd:=headerBytes_any (num+1) bs.length w2 (by omega) (by omega)
 rw [show ((num+1:Nat):Int)=(num:Int)+1 by omega] at hHd
 replace hHd:=Box.mk hHd
 replace hb2:=Box.mk hb2
 go_wp2_with fail
 refine hHd.out.mono ?_
 rintro e w3 ⟨rfl,hB3⟩
 have hb3:Blk w3 bc _ _:=(hB3.out.block _ hb2.out.lt).trans hb2.out
 have hBw:Box (Below w.heap.size w w3):=⟨hB2'.out.trans (hB3.out.mono hB2'.out.size)⟩
 clear hHd d2 hb2 hB2' hB3
 have d6:w3.cell? ⟨bc,6,none⟩=some (.pointer (some ⟨bd,0,none⟩)):=hb3.cell 6
 have d7:w3.cell? ⟨bc,7,none⟩=some (.int .i64 (at2:Int)):=hb3.cell 7
 have d8:w3.cell? ⟨bc,8,none⟩=some (.int .i64 (half:Int)):=hb3.cell 8
 have hPw:=Box.mk (pwrite_any bd F D at2 (half:Int) (hdr (num+1) bs.length) bs w3 (hD.out.below hBw.out) hk hf hws hat2 (hdr_ne _ _) (by rw [hdr_length]; omega) (by omega))
 obtain ⟨e4,he4⟩:∃ e4,(commitM D at2 (hdr (num+1) bs.length) (cut bs.length bs)).1=e4:=⟨_,rfl⟩
 obtain ⟨D4,hd4⟩:∃ D4,(commitM D at2 (hdr (num+1) bs.length) (cut bs.length bs)).2=D4:=⟨_,rfl⟩
 rw [he4,hd4] at hPw
 have hpost:Box ((commitM D at2 (hdr (num+1) bs.length) (cut bs.length bs)).1=e4/\(commitM D at2 (hdr (num+1) bs.length) (cut bs.length bs)).2=D4):=⟨he4,hd4⟩
 replace hb3:=Box.mk hb3
 clear he4 hd4
 by_cases hz:e4=0
 ·subst hz
  go_wp2_with fail
  refine hPw.out.mono ?_
  rintro e w4 ⟨rfl,hN4⟩
  have hN:Box (DNext w bd F D4 w4):=⟨DNext.from_ hBw.out hN4.out⟩
  have hb4:Blk w4 bc _ _:=hN4.out.chg.blk hb3.out hF.out.1
  have hM4:Box (MapAt w4 bn M.now):=⟨(hM.out.below hBw.out hM.out.lt).chg hN4.out.chg hF.out.2.1⟩
  have hW4:Box (WasAt w4 p M.was):=⟨(hW.out.chg (Chg.of_below hBw.out) fun b hb2 hb3=>by have:=hW.out.lt b hb2; omega).chg hN4.out.chg fun b hb2=>hF.out.2.2 b hb2⟩
  have hbl4:=hb4.lt
  clear hPw hN4 d6 d7 d8
  have d2:w4.cell? ⟨bc,2,none⟩=some (.int .i64 (num:Int)):=hb4.cell 2
  have f2:w4.frozen? ⟨bc,2,none⟩=false:=hb4.free 2
  obtain ⟨w5,hw5⟩:∃ w5,w4.setCell ⟨bc,2,none⟩ (.int .i64 ((num:Int)+1))=w5:=⟨_,rfl⟩
  have hb5:Blk w5 bc [.map (some bn),.map p,.int .i64 ((num:Int)+1),.pointer (some ⟨bd,0,none⟩),.int .i64 (at1:Int),.int .i64 (half:Int),.pointer (some ⟨bd,0,none⟩),.int .i64 (at2:Int),.int .i64 (half:Int),.bool false] 152:=by rw [<- hw5]; exact hb4.setCell 2 _
  have hC5:Box (Chg (fun k=>k=bc) w4 w5):=⟨by rw [<- hw5]; exact (Chg.refl (fun k=>k=bc) w4).setCell (p:=⟨bc,2,none⟩) rfl _⟩
  have hnb:Box (bn ≠ bc):=⟨hM4.out.ne hb4⟩
  have hbw:Box (bc<w.heap.size):=⟨hbl⟩
  have hpb:Box (∀ b,p=some b->b ≠ bc):=⟨fun b hb2=>by
   rcases hW4.out with ⟨h1,_⟩ | ⟨b',h1,h2⟩
   ·rw [h1] at hb2; cases hb2
   ·rw [h1] at hb2; cases hb2; exact h2.ne hb4⟩
  have hM5:Box (MapAt w5 bn M.now):=⟨hM4.out.chg hC5.out hnb.out⟩
  have d0:w5.cell? ⟨bc,0,none⟩=some (.map (some bn)):=hb5.cell 0
  have hCl:=Box.mk (mclone_any bn M.now w5 hM5.out)
  replace hb4:=Box.mk hb4
  replace hb5:=Box.mk hb5
  replace hbl4:=Box.mk hbl4
  go_wp2_with fail
  refine hCl.out.mono ?_
  rintro e w6 ⟨rfl,hM6,hB6⟩
  obtain ⟨b3,hb3n⟩:∃ b3,w5.heap.size=b3:=⟨_,rfl⟩
  rw [hb3n] at hM6
  have hb6:Blk w6 bc _ _:=(hB6.block _ hb5.out.lt).trans hb5.out
  have c1:w6.cell? ⟨bc,1,none⟩=some (.map p):=hb6.cell 1
  have f1:w6.frozen? ⟨bc,1,none⟩=false:=hb6.free 1
  obtain ⟨w7,hw7⟩:∃ w7,w6.setCell ⟨bc,1,none⟩ (.map (some b3))=w7:=⟨_,rfl⟩
  have hb7:Blk w7 bc [.map (some bn),.map (some b3),.int .i64 ((num:Int)+1),.pointer (some ⟨bd,0,none⟩),.int .i64 (at1:Int),.int .i64 (half:Int),.pointer (some ⟨bd,0,none⟩),.int .i64 (at2:Int),.int .i64 (half:Int),.bool false] 152:=by rw [<- hw7]; exact hb6.setCell 1 _
  have hC7:Box (Chg (fun k=>k=bc) w6 w7):=⟨by rw [<- hw7]; exact (Chg.refl (fun k=>k=bc) w6).setCell (p:=⟨bc,1,none⟩) rfl _⟩
  have hC47:Box (Chg (fun k=>k=bc) w4 w7):=⟨(hC5.out.trans ((Chg.of_below hB6).mono (T:=fun k=>k=bc) fun i hi hk=>by omega) fun _ _ h=>h).trans hC7.out fun _ _ h=>h⟩
  have hM7:Box (MapAt w7 b3 M.now):=⟨hM6.chg hC7.out fun e=>by have:=hb5.out.lt; omega⟩
  have hb3c:Box (b3 ≠ bc):=⟨fun e=>by have:=hb5.out.lt; omega⟩
  have hb3s:Box (w4.heap.size<=b3):=⟨by have h2:=hC5.out.size; omega⟩
  replace hM6:=Box.mk hM6
  replace hB6:=Box.mk hB6
  clear hCl d2 f2 d0 hw5
  replace hb6:=Box.mk hb6
  replace hb7:=Box.mk hb7
  go_wp2_with fail
  clear hw7 c1 f1
  have d3:w7.cell? ⟨bc,3,none⟩=some (.pointer (some ⟨bd,0,none⟩)):=hb7.out.cell 3
  have d4:w7.cell? ⟨bc,4,none⟩=some (.int .i64 (at1:Int)):=hb7.out.cell 4
  have d5:w7.cell? ⟨bc,5,none⟩=some (.int .i64 (half:Int)):=hb7.out.cell 5
  have d6:w7.cell? ⟨bc,6,none⟩=some (.pointer (some ⟨bd,0,none⟩)):=hb7.out.cell 6
  have d7:w7.cell? ⟨bc,7,none⟩=some (.int .i64 (at2:Int)):=hb7.out.cell 7
  have d8:w7.cell? ⟨bc,8,none⟩=some (.int .i64 (half:Int)):=hb7.out.cell 8
  have f3:w7.frozen? ⟨bc,3,none⟩=false:=hb7.out.free 3
  have f4:w7.frozen? ⟨bc,4,none⟩=false:=hb7.out.free 4
  have f5:w7.frozen? ⟨bc,5,none⟩=false:=hb7.out.free 5
  have f6:w7.frozen? ⟨bc,6,none⟩=false:=hb7.out.free 6
  have f7:w7.frozen? ⟨bc,7,none⟩=false:=hb7.out.free 7
  have f8:w7.frozen? ⟨bc,8,none⟩=false:=hb7.out.free 8
  refine region_go (C:=fun _=>True) rfl ?_
  refine go_calms [0,1,2,3,4,6,7,8] 8 rfl (by kernel_rfl) (by kernel_rfl) (by kernel_rfl) True.intro ?_
  simp [nth]
  try simp only [Act.put]
  repeat (go_big_quiet_step (first | exact fun _=>rfl | rfl))
  refine wpQuiet_nil ?_
  refine go_fork 5 9 (by kernel_rfl) (goOp_wp 5 rfl rfl (fun K hK=>?_)) (goOp_wp 9 rfl rfl (fun K hK=>?_))
  ·go_simp
   refine hK _ _ True.intro ?_
   clear hK K
   refine go_forced 9 (by kernel_rfl) (goOp_wp 9 rfl rfl (fun K hK=>?_))
   go_simp
   refine hK _ _ True.intro ?_
   clear hK K
   refine go_calms [10,11] 4 rfl (by kernel_rfl) (by kernel_rfl) (by kernel_rfl) True.intro ?_
   simp [nth]
   try simp only [Act.put]
   repeat (go_big_quiet_step (first | exact fun _=>rfl | rfl))
   refine wpQuiet_nil ?_
   refine go_forced 12 (by kernel_rfl) (goOp_wp 12 rfl rfl (fun K hK=>?_))
   go_simp
   have hb8:Blk (((w7.setCell ⟨bc,3,none⟩ (.pointer (some ⟨bd,0,none⟩))).setCell ⟨bc,4,none⟩ (.int .i64 (at2:Int))).setCell ⟨bc,5,none⟩ (.int .i64 (half:Int))).drew bc [.map (some bn),.map (some b3),.int .i64 ((num:Int)+1),.pointer (some ⟨bd,0,none⟩),.int .i64 (at2:Int),.int .i64 (half:Int),.pointer (some ⟨bd,0,none⟩),.int .i64 (at2:Int),.int .i64 (half:Int),.bool false] 152:=((hb7.out.setCell 3 _).setCell 4 _).setCell 5 _
   have hC8:Box (Chg (fun k=>k=bc) w7 (((w7.setCell ⟨bc,3,none⟩ (.pointer (some ⟨bd,0,none⟩))).setCell ⟨bc,4,none⟩ (.int .i64 (at2:Int))).setCell ⟨bc,5,none⟩ (.int .i64 (half:Int))).drew):=⟨(chg_three w7 bc 3 4 5 _ _ _).drew⟩
   generalize (((w7.setCell ⟨bc,3,none⟩ (.pointer (some ⟨bd,0,none⟩))).setCell ⟨bc,4,none⟩ (.int .i64 (at2:Int))).setCell ⟨bc,5,none⟩ (.int .i64 (half:Int))).drew=w8 at hb8 hC8 ⊢
   refine hK _ _ True.intro ?_
   clear hK K d3 d4 d5 d6 d7 d8 f3 f4 f5 f6 f7 f8
   have d6:w8.cell? ⟨bc,6,none⟩=some (.pointer (some ⟨bd,0,none⟩)):=hb8.cell 6
   have d7:w8.cell? ⟨bc,7,none⟩=some (.int .i64 (at2:Int)):=hb8.cell 7
   have d8:w8.cell? ⟨bc,8,none⟩=some (.int .i64 (half:Int)):=hb8.cell 8
   have f6:w8.frozen? ⟨bc,6,none⟩=false:=hb8.free 6
   have f7:w8.frozen? ⟨bc,7,none⟩=false:=hb8.free 7
   have f8:w8.frozen? ⟨bc,8,none⟩=false:=hb8.free 8
   replace hb8:=Box.mk hb8
   try simp only [Act.put]
   refine go_calms [13,14] 1 rfl (by kernel_rfl) (by kernel_rfl) (by kernel_rfl) True.intro ?_
   simp [nth]
   try simp only [Act.put]
   repeat (go_big_quiet_step (first | exact fun _=>rfl | rfl))
   refine wpQuiet_nil ?_
   refine go_forced 15 (by kernel_rfl) (goOp_wp 15 rfl rfl (fun K hK=>?_))
   go_simp
   have hb9:Box (Blk (((w8.setCell ⟨bc,6,none⟩ (.pointer (some ⟨bd,0,none⟩))).setCell ⟨bc,7,none⟩ (.int .i64 (at1:Int))).setCell ⟨bc,8,none⟩ (.int .i64 (half:Int))) bc [.map (some bn),.map (some b3),.int .i64 ((num:Int)+1),.pointer (some ⟨bd,0,none⟩),.int .i64 (at2:Int),.int .i64 (half:Int),.pointer (some ⟨bd,0,none⟩),.int .i64 (at1:Int),.int .i64 (half:Int),.bool false] 152):=⟨((hb8.out.setCell 6 _).setCell 7 _).setCell 8 _⟩
   have hC9:Box (Chg (fun k=>k=bc) w4 (((w8.setCell ⟨bc,6,none⟩ (.pointer (some ⟨bd,0,none⟩))).setCell ⟨bc,7,none⟩ (.int .i64 (at1:Int))).setCell ⟨bc,8,none⟩ (.int .i64 (half:Int)))):=⟨(hC47.out.trans hC8.out fun _ _ h=>h).trans (chg_three w8 bc 6 7 8 _ _ _) fun _ _ h=>h⟩
   have hM9:Box (MapAt (((w8.setCell ⟨bc,6,none⟩ (.pointer (some ⟨bd,0,none⟩))).setCell ⟨bc,7,none⟩ (.int .i64 (at1:Int))).setCell ⟨bc,8,none⟩ (.int .i64 (half:Int))) b3 M.now):=⟨(hM7.out.chg hC8.out hb3c.out).chg (chg_three w8 bc 6 7 8 _ _ _) hb3c.out⟩
   generalize ((w8.setCell ⟨bc,6,none⟩ (.pointer (some ⟨bd,0,none⟩))).setCell ⟨bc,7,none⟩ (.int .i64 (at1:Int))).setCell ⟨bc,8,none⟩ (.int .i64 (half:Int))=w9 at hb9 hC9 hM9 ⊢
   refine hK _ _ True.intro ?_
   clear hK K d6 d7 d8 f6 f7 f8
   refine go_done (by kernel_rfl) ?_
   go_wp2_with fail
   go_returns
   rw [hpost.out.1,hpost.out.2]
   refine ⟨rfl,⟨_,commit_end hN.out hF.out.1 hbw.out hC9.out,hM4.out.chg hC9.out hnb.out,hW4.out.chg hC9.out hpb.out,?_⟩⟩
   rw [if_pos rfl]
   refine ⟨b3,hb3s.out,?_,hM9.out⟩
   unfold cellCells
   simp only
   rw [show base+(1-M.last)*half=at2 from ha2.out,show 1-(1-M.last)=M.last by omega,ha1.out,hnu.out,hoff.out]
   exact hb9.out
  ·go_simp
   refine hK _ _ True.intro ?_
   clear hK K
   refine go_forced 5 (by kernel_rfl) (goOp_wp 5 rfl rfl (fun K hK=>?_))
   go_simp
   refine hK _ _ True.intro ?_
   clear hK K
   refine go_calms [10,11] 4 rfl (by kernel_rfl) (by kernel_rfl) (by kernel_rfl) True.intro ?_
   simp [nth]
   try simp only [Act.put]
   repeat (go_big_quiet_step (first | exact fun _=>rfl | rfl))
   refine wpQuiet_nil ?_
   refine go_forced 12 (by kernel_rfl) (goOp_wp 12 rfl rfl (fun K hK=>?_))
   go_simp
   have hb8:Blk (((w7.setCell ⟨bc,3,none⟩ (.pointer (some ⟨bd,0,none⟩))).setCell ⟨bc,4,none⟩ (.int .i64 (at2:Int))).setCell ⟨bc,5,none⟩ (.int .i64 (half:Int))).drew bc [.map (some bn),.map (some b3),.int .i64 ((num:Int)+1),.pointer (some ⟨bd,0,none⟩),.int .i64 (at2:Int),.int .i64 (half:Int),.pointer (some ⟨bd,0,none⟩),.int .i64 (at2:Int),.int .i64 (half:Int),.bool false] 152:=((hb7.out.setCell 3 _).setCell 4 _).setCell 5 _
   have hC8:Box (Chg (fun k=>k=bc) w7 (((w7.setCell ⟨bc,3,none⟩ (.pointer (some ⟨bd,0,none⟩))).setCell ⟨bc,4,none⟩ (.int .i64 (at2:Int))).setCell ⟨bc,5,none⟩ (.int .i64 (half:Int))).drew):=⟨(chg_three w7 bc 3 4 5 _ _ _).drew⟩
   generalize (((w7.setCell ⟨bc,3,none⟩ (.pointer (some ⟨bd,0,none⟩))).setCell ⟨bc,4,none⟩ (.int .i64 (at2:Int))).setCell ⟨bc,5,none⟩ (.int .i64 (half:Int))).drew=w8 at hb8 hC8 ⊢
   refine hK _ _ True.intro ?_
   clear hK K d3 d4 d5 d6 d7 d8 f3 f4 f5 f6 f7 f8
   have d6:w8.cell? ⟨bc,6,none⟩=some (.pointer (some ⟨bd,0,none⟩)):=hb8.cell 6
   have d7:w8.cell? ⟨bc,7,none⟩=some (.int .i64 (at2:Int)):=hb8.cell 7
   have d8:w8.cell? ⟨bc,8,none⟩=some (.int .i64 (half:Int)):=hb8.cell 8
   have f6:w8.frozen? ⟨bc,6,none⟩=false:=hb8.free 6
   have f7:w8.frozen? ⟨bc,7,none⟩=false:=hb8.free 7
   have f8:w8.frozen? ⟨bc,8,none⟩=false:=hb8.free 8
   replace hb8:=Box.mk hb8
   try simp only [Act.put]
   refine go_calms [13,14] 1 rfl (by kernel_rfl) (by kernel_rfl) (by kernel_rfl) True.intro ?_
   simp [nth]
   try simp only [Act.put]
   repeat (go_big_quiet_step (first | exact fun _=>rfl | rfl))
   refine wpQuiet_nil ?_
   refine go_forced 15 (by kernel_rfl) (goOp_wp 15 rfl rfl (fun K hK=>?_))
   go_simp
   have hb9:Box (Blk (((w8.setCell ⟨bc,6,none⟩ (.pointer (some ⟨bd,0,none⟩))).setCell ⟨bc,7,none⟩ (.int .i64 (at1:Int))).setCell ⟨bc,8,none⟩ (.int .i64 (half:Int))) bc [.map (some bn),.map (some b3),.int .i64 ((num:Int)+1),.pointer (some ⟨bd,0,none⟩),.int .i64 (at2:Int),.int .i64 (half:Int),.pointer (some ⟨bd,0,none⟩),.int .i64 (at1:Int),.int .i64 (half:Int),.bool false] 152):=⟨((hb8.out.setCell 6 _).setCell 7 _).setCell 8 _⟩
   have hC9:Box (Chg (fun k=>k=bc) w4 (((w8.setCell ⟨bc,6,none⟩ (.pointer (some ⟨bd,0,none⟩))).setCell ⟨bc,7,none⟩ (.int .i64 (at1:Int))).setCell ⟨bc,8,none⟩ (.int .i64 (half:Int)))):=⟨(hC47.out.trans hC8.out fun _ _ h=>h).trans (chg_three w8 bc 6 7 8 _ _ _) fun _ _ h=>h⟩
   have hM9:Box (MapAt (((w8.setCell ⟨bc,6,none⟩ (.pointer (some ⟨bd,0,none⟩))).setCell ⟨bc,7,none⟩ (.int .i64 (at1:Int))).setCell ⟨bc,8,none⟩ (.int .i64 (half:Int))) b3 M.now):=⟨(hM7.out.chg hC8.out hb3c.out).chg (chg_three w8 bc 6 7 8 _ _ _) hb3c.out⟩
   generalize ((w8.setCell ⟨bc,6,none⟩ (.pointer (some ⟨bd,0,none⟩))).setCell ⟨bc,7,none⟩ (.int .i64 (at1:Int))).setCell ⟨bc,8,none⟩ (.int .i64 (half:Int))=w9 at hb9 hC9 hM9 ⊢
   refine hK _ _ True.intro ?_
   clear hK K d6 d7 d8 f6 f7 f8
   refine go_done (by kernel_rfl) ?_
   go_wp2_with fail
   go_returns
   rw [hpost.out.1,hpost.out.2]
   refine ⟨rfl,⟨_,commit_end hN.out hF.out.1 hbw.out hC9.out,hM4.out.chg hC9.out hnb.out,hW4.out.chg hC9.out hpb.out,?_⟩⟩
   rw [if_pos rfl]
   refine ⟨b3,hb3s.out,?_,hM9.out⟩
   unfold cellCells
   simp only
   rw [show base+(1-M.last)*half=at2 from ha2.out,show 1-(1-M.last)=M.last by omega,ha1.out,hnu.out,hoff.out]
   exact hb9.out
 ·have hz1:(e4==0)=false:=by simpa using hz
  have hz2:(e4 != 0)=true:=by simpa using hz
  replace hz:=Box.mk hz
  go_wp2_with fail
  refine hPw.out.mono ?_
  rintro e w4 ⟨rfl,hN4⟩
  have hN:Box (DNext w bd F D4 w4):=⟨DNext.from_ hBw.out hN4.out⟩
  have hb4:Blk w4 bc _ _:=hN4.out.chg.blk hb3.out hF.out.1
  have hM4:Box (MapAt w4 bn M.now):=⟨(hM.out.below hBw.out hM.out.lt).chg hN4.out.chg hF.out.2.1⟩
  have hW4:Box (WasAt w4 p M.was):=⟨(hW.out.chg (Chg.of_below hBw.out) fun b hb2 hb3=>by have:=hW.out.lt b hb2; omega).chg hN4.out.chg fun b hb2=>hF.out.2.2 b hb2⟩
  clear hPw hN4 d6 d7 d8
  have d9:w4.cell? ⟨bc,9,none⟩=some (.bool false):=hb4.cell 9
  have f9:w4.frozen? ⟨bc,9,none⟩=false:=hb4.free 9
  have hb5:Box (Blk (w4.setCell ⟨bc,9,none⟩ (.bool true)) bc [.map (some bn),.map p,.int .i64 (num:Int),.pointer (some ⟨bd,0,none⟩),.int .i64 (at1:Int),.int .i64 (half:Int),.pointer (some ⟨bd,0,none⟩),.int .i64 (at2:Int),.int .i64 (half:Int),.bool true] 152):=⟨hb4.setCell 9 _⟩
  have hC5:Box (Chg (fun k=>k=bc) w4 (w4.setCell ⟨bc,9,none⟩ (.bool true))):=⟨(Chg.refl (fun k=>k=bc) w4).setCell (p:=⟨bc,9,none⟩) rfl _⟩
  have hnb:Box (bn ≠ bc):=⟨hM4.out.ne hb4⟩
  have hpb:Box (∀ b,p=some b->b ≠ bc):=⟨fun b hb2=>by
   rcases hW4.out with ⟨h1,_⟩ | ⟨b',h1,h2⟩
   ·rw [h1] at hb2; cases hb2
   ·rw [h1] at hb2; cases hb2; exact h2.ne hb4⟩
  have hR:Box (MapAt (w4.setCell ⟨bc,9,none⟩ (.bool true)) bn M.now/\WasAt (w4.setCell ⟨bc,9,none⟩ (.bool true)) p M.was):=⟨hM4.out.chg hC5.out hnb.out,hW4.out.chg hC5.out hpb.out⟩
  have hE5:=Box.mk (commit_end hN.out hF.out.1 hbl hC5.out)
  clear hb4
  go_wp2_with fail
  go_returns
  rw [hpost.out.1,hpost.out.2]
  refine ⟨rfl,⟨_,hE5.out,hR.out.1,hR.out.2,?_⟩⟩
  rw [if_neg hz.out]
  unfold cellCells
  simp only
  rw [ha1.out,ha2.out,hnu.out]
  exact hb5.out
end Go.Proofs.YthpfpkikmaiddaaGreatDoor.Pk
namespace Go.Proofs.YthpfpkikmaiddaaGreatDoor.Pk
open Go.RowKit Go.Maps
theorem commit_off (bc:Nat) (cs:List Value) (w:World) (hb:Blk w bc cs 152) (h9:cs[9]?=some (.bool true)) :
  Calls Tryz.prog 89 #[.pointer (some ⟨bc,0,none⟩)] w fun e w'=>e=.returned (.int .i64 7)/\w=w':=by
 have c5:w.cell? ⟨bc,9,none⟩=some (.bool true):=(hb.cell 9).trans h9
 clear hb h9
 go_enter Tryz.func89,Tryz.ntmps89
 go_wp2_with fail
 go_returns
 exact ⟨rfl,rfl⟩
theorem commit_long (bc bn bd at2 half:Nat) (u0 u1 u2 u3 u4:Value) (now:Ct) (w:World) (hb:Blk w bc [.map (some bn),u0,u1,u2,u3,u4,.pointer (some ⟨bd,0,none⟩),.int .i64 (at2:Int),.int .i64 (half:Int),.bool false] 152) (hM:MapAt w bn now) (hok:now.ok) (h2:2<=half/\half<=4096) (hfit:64*(half-1)<(bytesC now).length) :
  Calls Tryz.prog 89 #[.pointer (some ⟨bc,0,none⟩)] w fun e w'=>e=.returned (.int .i64 4)/\Box (Below w.heap.size w w'):=by
 have hbl:=hb.lt
 have hby:=Box.mk (cbytes_any bn now w hM hok)
 obtain ⟨bs,hbs⟩:∃ bs,bytesC now=bs:=⟨_,rfl⟩
 rw [hbs] at hby hfit
 have c5:w.cell? ⟨bc,9,none⟩=some (.bool false):=hb.cell 9
 have c0:w.cell? ⟨bc,0,none⟩=some (.map (some bn)):=hb.cell 0
 replace hb:=Box.mk hb
 clear hM hok hbs
 go_enter Tryz.func89,Tryz.ntmps89
 go_wp2_with fail
 refine hby.out.mono ?_
 rintro e w1 ⟨rfl,hB1⟩
 have hb1:Blk w1 bc _ _:=(hB1.out.block _ hbl).trans hb.out
 clear hby c5 c0
 have d6:w1.cell? ⟨bc,6,none⟩=some (.pointer (some ⟨bd,0,none⟩)):=hb1.cell 6
 have d7:w1.cell? ⟨bc,7,none⟩=some (.int .i64 (at2:Int)):=hb1.cell 7
 have d8:w1.cell? ⟨bc,8,none⟩=some (.int .i64 (half:Int)):=hb1.cell 8
 have hroom:=Box.mk (room_any (.pointer (some ⟨bd,0,none⟩)) (.int .i64 (at2:Int)) half w1 (by omega) (by omega))
 have hsz:(btx bs).size=bs.length:=mk_size bs
 have hlong:((half:Int)-1)*64<(bs.length:Int):=by omega
 replace hb1:=Box.mk hb1
 go_wp2_with fail
 refine hroom.out.mono ?_
 rintro e w2 ⟨rfl,hB2⟩
 have hB2':Box (Below w.heap.size w w2):=⟨hB1.out.trans (hB2.mono hB1.out.size)⟩
 clear hroom d6 d7 d8 hb1 hB1 hB2
 go_wp2_with fail
 go_returns
 exact ⟨rfl,hB2'⟩
theorem Good.pair2 {O1 O2:Obj} (g1:Good O1) (g2:Good O2):Good (Pair2 O1 O2):=Pair2.good g1 g2
theorem RetE.same {v:Value} {O:Obj} {w w':World} {F:Nat->Prop} (g:Good O) (h:O w F) (hb:Below w.heap.size w w'):RetE v O (.returned v) w' (Ext F w w')/\Chg F w w':=
 ⟨⟨rfl,(Ext.of_below g h hb).1⟩,(Ext.of_below g h hb).2⟩
theorem CelO.rest {bd bc base half:Nat} {M:CellM} {w w':World} {F:Nat->Prop} {bn:Nat} {p:Option Nat} {S:Nat->Prop} {M':CellM} (m:Nat) (h:CelO bd bc base half M w F) (hok:M'.ok base half) (hc:Chg S w w')
  (hb:Blk w' bc (cellCells bd bn p base half M') 152) (hM:MapAt w' bn M'.now) (hW:WasAt w' p M'.was) (hn:F bn∨m<=bn) (hp:∀ b,p=some b->F b∨m<=b) (hne:p ≠ some bn):CelO bd bc base half M' w' (fun k=>F k∨(m<=k/\k<w'.heap.size)):=
 ⟨hok,⟨bn,p,hb,hM,hW,hn.imp id fun h=>⟨h,hM.lt⟩,fun b hb=>(hp b hb).imp id fun h=>⟨h,hW.lt b hb⟩,hne⟩,.inl h.fc,fun k hk=>by
  rcases hk with hk | hk
  ·exact Nat.lt_of_lt_of_le (h.lt k hk) hc.size
  ·exact hk.2⟩
theorem put_does (bd bc base half:Nat) (M:CellM) (s t:ByteArray) (hs:s.size<=maxLen) (ht:t.size<=maxLen) :
  Does 88 #[.pointer (some ⟨bc,0,none⟩),.string s,.string t] (CelO bd bc base half M) (RetE (.int .i64 (putE M.now s.data.toList t.data.toList)) (CelO bd bc base half { M with now:=putM M.now s.data.toList t.data.toList })):=by
 intro w F h
 obtain ⟨bn,p,hb,hM,hW,hFn,hFp,hne⟩:=h.out
 refine (put_map bc bn _ M.now s t w hb hM h.ok.now hs ht).mono fun e w' ⟨he,hL⟩=>⟨⟨he,?_⟩,hL.out.2.mono fun i _ hi=>hi ▸ hFn⟩
 have hc:=hL.out.2
 exact h.rest w.heap.size ⟨h.ok.now.put _ _,h.ok.was,h.ok.num,h.ok.last,h.ok.base,h.ok.half⟩ hc (hc.blk hb (fun e=>hM.ne hb e.symm)) hL.out.1 (hW.chg hc fun b hb2 e=>hne (by rw [hb2,e])) (.inl hFn) (fun b hb2=>.inl (hFp b hb2)) hne
theorem WasAt.ne {w:World} {p:Option Nat} {c:Ct} {bc:Nat} {cs:List Value} {t:TypeId} (h:WasAt w p c) (hb:Blk w bc cs t):p ≠ some bc:=by
 rintro rfl
 rcases h with ⟨h1,_⟩ | ⟨b',h1,h2⟩
 ·cases h1
 ·cases h1; exact h2.ne hb rfl
theorem undo_does (bd bc base half:Nat) (M:CellM) :
  Does 80 #[.pointer (some ⟨bc,0,none⟩)] (CelO bd bc base half M) (RetE (.tuple #[]) (CelO bd bc base half { M with now:=M.was })):=by
 intro w F h
 obtain ⟨bn,p,hb,hM,hW,hFn,hFp,hne⟩:=h.out
 refine (undo_map bc _ p _ M.was w hb hW (hW.ne hb) h.ok.was).mono fun e w' ⟨he,hL⟩=>?_
 obtain ⟨b2,h1,h2,h3,hc⟩:=hL.out
 exact ⟨⟨he,h.rest w.heap.size ⟨h.ok.was,h.ok.was,h.ok.num,h.ok.last,h.ok.base,h.ok.half⟩ hc h3 h2 (hW.chg hc fun b hb2 e=>hW.ne hb (by rw [hb2,e])) (.inr h1) (fun b hb2=>.inl (hFp b hb2)) (fun e=>by have:=hW.lt _ e; omega)⟩,hc.mono fun i _ hi=>hi ▸ h.fc⟩
theorem get_does (bd bc base half:Nat) (M:CellM) (s:ByteArray) (hs:s.size<=maxLen) :
  Does 81 #[.pointer (some ⟨bc,0,none⟩),.string s] (CelO bd bc base half M) (RetE (getV M.now s.data.toList) (CelO bd bc base half M)):=by
 intro w F h
 obtain ⟨bn,p,hb,hM,hW,hFn,hFp,hne⟩:=h.out
 exact (get_any bc bn _ M.now s w hb hM hs).mono fun e w' ⟨he,hB⟩=>⟨he ▸ RetE.same (CelO.good _ _ _ _ _) h hB⟩
theorem commitC_ok {base half:Nat} {D:Dev} {M:CellM} (h:M.ok base half) (hn:M.num<1000000):(commitC base half D M).ok base half:=by
 unfold commitC
 split
 ·exact h
 ·split
  ·exact h
  ·split
   ·exact ⟨h.now,h.now,by show M.num+1<=_; omega,by show 1-M.last<=1; omega,h.base,h.half⟩
   ·exact ⟨h.now,h.was,h.num,h.last,h.base,h.half⟩
theorem commit_does (bd bc base half:Nat) (D:Dev) (M:CellM) (hk:D.taken<=100000) (hf:D.fall<=9223372036854775807) (hws:D.ws.length<=100000) (hnum:M.num<1000000) :
  Does 89 #[.pointer (some ⟨bc,0,none⟩)] (Pair2 (DevO bd D) (CelO bd bc base half M)) (RetE (.int .i64 (commitE base half D M)) (Pair2 (DevO bd (commitD base half D M)) (CelO bd bc base half (commitC base half D M)))):=by
 rintro w G ⟨F,F2,hD,h,hdis,e1,e2,hl⟩
 have gD:=DevO.good bd D
 have gC:=CelO.good bd bc base half M
 obtain ⟨bn,p,hb,hM,hW,hFn,hFp,hne⟩:=h.out
 have hCok:=commitC_ok (D:=D) h.ok hnum
 have hsame:∀ w',Below w.heap.size w w'->Pair2 (DevO bd D) (CelO bd bc base half M) w' (Ext G w w')/\Chg G w w':=fun w' hB=>Ext.of_below (gD.pair2 gC) ⟨F,F2,hD,h,hdis,e1,e2,hl⟩ hB
 cases hoff:M.off with
 | true=>
  have hE:commitE base half D M=7:=by unfold commitE; rw [hoff,if_pos rfl]
  have hDd:commitD base half D M=D:=by unfold commitD; rw [hoff,if_pos rfl]
  have hCc:commitC base half D M=M:=by unfold commitC; rw [hoff,if_pos rfl]
  rw [hE,hDd,hCc]
  exact (commit_off bc _ w hb (by unfold cellCells; rw [hoff]; rfl)).mono fun e w' ⟨he,hB⟩=>⟨⟨he,(hsame w' (hB ▸ Below.refl _ _)).1⟩,(hsame w' (hB ▸ Below.refl _ _)).2⟩
 | false=>
  by_cases hlong:64*(half-1)<(bytesC M.now).length
  ·have hE:commitE base half D M=4:=by unfold commitE; rw [hoff,if_neg (by decide),if_pos hlong]
   have hDd:commitD base half D M=D:=by unfold commitD; rw [hoff,if_neg (by decide),if_pos hlong]
   have hCc:commitC base half D M=M:=by unfold commitC; rw [hoff,if_neg (by decide),if_pos hlong]
   rw [hE,hDd,hCc]
   unfold cellCells at hb
   rw [hoff] at hb
   exact (commit_long bc bn bd _ half _ _ _ _ _ M.now w hb hM h.ok.now h.ok.half hlong).mono fun e w' ⟨he,hB⟩=>⟨⟨he,(hsame w' hB.out).1⟩,(hsame w' hB.out).2⟩
  ·have hE:commitE base half D M=(commitM D (toC base half M.last) (hdr (M.num+1) (bytesC M.now).length) (pieces M.now)).1:=by unfold commitE; rw [hoff,if_neg (by decide),if_neg hlong]
   have hDd:commitD base half D M=(commitM D (toC base half M.last) (hdr (M.num+1) (bytesC M.now).length) (pieces M.now)).2:=by unfold commitD; rw [hoff,if_neg (by decide),if_neg hlong]
   have hCc:commitC base half D M=if (commitM D (toC base half M.last) (hdr (M.num+1) (bytesC M.now).length) (pieces M.now)).1=0 then { M with was:=M.now,num:=M.num+1,last:=1-M.last } else { M with off:=true }:=by
    unfold commitC; rw [hoff,if_neg (by decide),if_neg hlong]
   refine (commit_go bd bc bn p base half F D M w hD hb hM hW ⟨fun hh=>hdis _ hh h.fc,fun hh=>hdis _ hh hFn,fun b hb2 hh=>hdis _ hh (hFp b hb2)⟩ h.ok hoff (by omega) hk hf hws hnum).mono fun e w' ⟨he,hP⟩=>?_
   obtain ⟨m,⟨m1,m2,p1,p2⟩,p3,p4,p5⟩:=hP.out
   rw [<- hE,<- hDd] at *
   have hcel:CelO bd bc base half (commitC base half D M) w' (fun k=>F2 k∨(m<=k/\k<w'.heap.size)):=by
    rw [hCc] at hCok ⊢
    split at p5
    ·next hz=>
     rw [if_pos hz] at hCok ⊢
     obtain ⟨b3,q1,q2,q3⟩:=p5
     exact h.rest m hCok p2 q2 p3 (.inr ⟨b3,rfl,q3⟩) (.inl hFn) (fun b hb2=>by cases hb2; exact .inr q1) (fun e=>by
      have e1:b3=bn:=by cases e; rfl
      have:=hM.lt; omega)
    ·next hz=>
     rw [if_neg hz] at hCok ⊢
     exact h.rest m hCok p2 p5 p3 p4 (.inl hFn) (fun b hb2=>.inl (hFp b hb2)) hne
   have hFl:=hD.lt
   have hFl2:=h.lt
   refine ⟨⟨he,⟨_,_,p1,hcel,fun k hk hk2=>?_,fun k hk=>?_,fun k hk=>?_,fun k hk=>?_⟩⟩,p2.mono fun i _ hi=>hi.elim (e1 i) fun hi=>hi ▸ e2 _ h.fc⟩
   ·rcases hk with hk | hk
    ·rcases hk2 with hk2 | hk2
     ·exact hdis k hk hk2
     ·have:=hFl k hk; omega
    ·rcases hk2 with hk2 | hk2
     ·have:=hFl2 k hk2; omega
     ·omega
   ·exact hk.imp (e1 k) fun hk=>⟨hk.1,by omega⟩
   ·exact hk.imp (e2 k) fun hk=>⟨by omega,hk.2⟩
   ·rcases hk with hk | hk
    ·exact Nat.lt_of_lt_of_le (hl k hk) p2.size
    ·exact hk.2
end Go.Proofs.YthpfpkikmaiddaaGreatDoor.Pk
namespace Go.Proofs.YthpfpkikmaiddaaGreatDoor.Pk
open Go.RowKit Go.Maps
def readN (S:List Sec) (a half:Nat):Nat × Ct:=(readM S a half).getD (0,[])
def openN (S:List Sec) (base half:Nat):Nat × Ct × Nat:=
 if 0<(readN S base half).1/\(readN S (base+half) half).1<=(readN S base half).1 then ((readN S base half).1,(readN S base half).2,0) else ((readN S (base+half) half).1,(readN S (base+half) half).2,1)
theorem Region.opensN {S:List Sec} {base half num:Nat} {c:Ct} {last:Nat} (h:Region S base half num c last):openN S base half=(num,c,last):=by
 have hl:=h.last1
 have hc:=h.cur
 have ho:=h.old
 unfold openN readN
 rcases (show last=0∨last=1 by omega) with rfl | rfl
 ·simp only [Nat.zero_mul,Nat.add_zero,Nat.sub_zero,Nat.one_mul] at hc ho
  have h0:num ≠ 0:=fun e=>by have:=(h.zero e).1; omega
  rw [if_neg h0] at hc
  rw [hc]
  cases hx:readM S (base+half) half with
  | none=>
   show (if 0<num/\0<=num then _ else _)=_
   rw [if_pos (by omega)]; rfl
  | some x=>
   have:=ho x hx
   show (if 0<num/\x.1<=num then _ else _)=_
   rw [if_pos (by omega)]; rfl
 ·simp only [Nat.zero_mul,Nat.add_zero,Nat.sub_self,Nat.one_mul] at hc ho
  by_cases h0:num=0
  ·rw [if_pos h0] at hc
   have hz:=h.zero h0
   rw [hc]
   cases hx:readM S base half with
   | none=>
    show (if 0<0/\0<=0 then _ else _)=_
    rw [if_neg (by omega)]; rw [h0,hz.2]; rfl
   | some x=>have:=ho x hx; omega
  ·rw [if_neg h0] at hc
   rw [hc]
   cases hx:readM S base half with
   | none=>
    show (if 0<0/\num<=0 then _ else _)=_
    rw [if_neg (by omega)]; rfl
   | some x=>
    have:=ho x hx
    show (if 0<x.1/\num<=x.1 then _ else _)=_
    rw [if_neg (by omega)]; rfl
structure ReadAll (D:Dev) (a half:Nat) (w:World) (p:Option Nat) (w':World):Prop where
 at_:WasAt w' p (readN D.seen a half).2
 new:∀ b,p=some b->w.heap.size<=b
 k:Below w.heap.size w w'
def ReadAny (D:Dev) (a half:Nat) (w:World) (e:Ending) (w':World):Prop:=
 ∃ p,e=.returned (.tuple #[.int .i64 ((readN D.seen a half).1:Int),.map p])/\Box (ReadAll D a half w p w')
theorem pread_all (bd:Nat) (F:Nat->Prop) (D:Dev) (at_ half:Nat) (w:World) (h:DAt w bd F D) (hoff:D.off=false) (h2:2<=half) (hfit:at_+half<=D.safe.length) :
  Calls Tryz.prog 79 #[.agg #[.pointer (some ⟨bd,0,none⟩),.int .i64 (at_:Int),.int .i64 (half:Int)]] w (ReadAny D at_ half w):=by
 refine (pread_any bd F D at_ half w h hoff h2 hfit).mono ?_
 rintro e w' ⟨hb,⟨n,c,b,rfl,hY⟩ | ⟨hn,rfl⟩⟩
 ·have e1:readN D.seen at_ half=(n,c):=by unfold readN; rw [hY.is]; rfl
  exact ⟨some b,by rw [e1],⟨⟨by rw [e1]; exact .inr ⟨b,rfl,hY.at_⟩,fun b' hb'=>by cases hb'; exact hY.new,hb⟩⟩⟩
 ·have e1:readN D.seen at_ half=(0,[]):=by unfold readN; rw [hn]; rfl
  exact ⟨none,by rw [e1]; rfl,⟨⟨by rw [e1]; exact .inl ⟨rfl,rfl⟩,fun b' hb'=>(by cases hb'),hb⟩⟩⟩
theorem open_nil (base half:Int) (w:World):Calls Tryz.prog 36 #[.pointer none,.int .i64 base,.int .i64 half] w fun e w'=>e=.returned (.tuple #[.pointer none,.int .i64 1])/\w=w':=by
 go_enter Tryz.func36,Tryz.ntmps36
 go_wp2_with fail
 go_returns
 exact ⟨rfl,rfl⟩
theorem cells_one {bd b base half m:Nat} {p:Option Nat} {M:CellM} (h1:M.num=m) (h2:M.last=1) (h3:M.off=false):cellCells bd b p base half M=[.map (some b),.map p,.int .i64 (m:Int),.pointer (some ⟨bd,0,none⟩),.int .i64 ((base:Int)+(half:Int)),.int .i64 (half:Int),.pointer (some ⟨bd,0,none⟩),.int .i64 (base:Int),.int .i64 (half:Int),.bool false]:=by
 unfold cellCells
 rw [h1,h2,h3,show ((base+1*half:Nat):Int)=(base:Int)+(half:Int) by omega,show ((base+(1-1)*half:Nat):Int)=(base:Int) by simp]
theorem cells_zero {bd b base half m:Nat} {p:Option Nat} {M:CellM} (h1:M.num=m) (h2:M.last=0) (h3:M.off=false):cellCells bd b p base half M=[.map (some b),.map p,.int .i64 (m:Int),.pointer (some ⟨bd,0,none⟩),.int .i64 (base:Int),.int .i64 (half:Int),.pointer (some ⟨bd,0,none⟩),.int .i64 ((base:Int)+(half:Int)),.int .i64 (half:Int),.bool false]:=by
 unfold cellCells
 rw [h1,h2,h3,show ((base+0*half:Nat):Int)=(base:Int) by simp,show ((base+(1-0)*half:Nat):Int)=(base:Int)+(half:Int) by omega]
theorem open_end {w w8 w9:World} {bd bc base half:Nat} {p:Option Nat} {M:CellM} {cs:List Value} (hB:Below w.heap.size w w8) (hbc:w.heap.size<=bc) (hW:WasAt w8 p M.was) (hp:∀ b,p=some b->w.heap.size<=b) (hb8:bc<w8.heap.size)
  (hL:UndoLeft w8 bc (.map p) cs M.was w9) (hne:p ≠ some bc) (hcs:∀ b,.map (some b)::.map p::cs=cellCells bd b p base half M) (hMn:M.now=M.was) (hok:M.ok base half) :
  Below w.heap.size w w9/\CelO bd bc base half M w9 (fun k=>w.heap.size<=k/\k<w9.heap.size):=by
 obtain ⟨b2,h1,h2,h3,hc⟩:=hL
 have hs:=hB.size
 have hs9:=hc.size
 have hW9:WasAt w9 p M.was:=hW.chg hc fun b hb2 e=>hne (by rw [hb2,e])
 refine ⟨hB.trans (hc.below hs fun i hi=>hi ▸ hbc),hok,⟨b2,p,?_,by rw [hMn]; exact h2,hW9,⟨by omega,h2.lt⟩,fun b hb=>⟨hp b hb,hW9.lt b hb⟩,fun e=>by have:=hW.lt _ e; omega⟩,⟨hbc,by omega⟩,fun k hk=>hk.2⟩
 rw [<- hcs b2]; exact h3
def plC (bd:Nat) (a h:Int):List Value:=[.pointer (some ⟨bd,0,none⟩),.int .i64 a,.int .i64 h]
theorem open_fit (bd:Nat) (F:Nat->Prop) (D:Dev) (base half:Nat) (w:World) (h:DAt w bd F D) (hoff:D.off=false) (h2:2<=half) (hin:base+2*half<=D.safe.length) (M:CellM) (hM:openN D.seen base half=(M.num,M.was,M.last)) (hMn:M.now=M.was) (hMo:M.off=false) (hok:M.ok base half) :
  Calls Tryz.prog 36 #[.pointer (some ⟨bd,0,none⟩),.int .i64 (base:Int),.int .i64 (half:Int)] w fun e w'=>∃ bc,e=.returned (.tuple #[.pointer (some ⟨bc,0,none⟩),.int .i64 0])/\Box (Below w.heap.size w w'/\CelO bd bc base half M w' (fun k=>w.heap.size<=k/\k<w'.heap.size)):=by
 have hn:=h.ok.n
 have hSe:=sectors_any bd F D w h
 have hWi:=within_any D.safe.length (base:Int) (half:Int) w h.ok.n (by omega) (by omega)
 have hinR:inR D.safe.length (base:Int) (half:Int)=true:=by unfold inR; simp; omega
 have hOf:=off_any bd F D w h
 rw [hinR] at hWi
 rw [hoff] at hOf
 replace hSe:=Box.mk hSe
 replace hWi:=Box.mk hWi
 replace hOf:=Box.mk hOf
 obtain ⟨b1,hb1⟩:∃ b1,w.heap.size=b1:=⟨_,rfl⟩
 have hP1:Blk (w.alloc (.cells #[.pointer (some ⟨bd,0,none⟩),.int .i64 (base:Int),.int .i64 (half:Int)] 148)) b1 (plC bd base half) 148:=by rw [<- hb1]; exact Blk.new w _ _
 obtain ⟨w2,hw2⟩:∃ w2,(w.alloc (.cells #[.pointer (some ⟨bd,0,none⟩),.int .i64 (base:Int),.int .i64 (half:Int)] 148)).alloc (.cells #[.pointer (some ⟨bd,0,none⟩),.int .i64 ((base:Int)+(half:Int)),.int .i64 (half:Int)] 148)=w2:=⟨_,rfl⟩
 have hP2:Blk w2 (b1+1) (plC bd ((base:Int)+(half:Int)) half) 148:=by
  have h1:=Blk.new (w.alloc (.cells #[.pointer (some ⟨bd,0,none⟩),.int .i64 (base:Int),.int .i64 (half:Int)] 148)) (plC bd ((base:Int)+(half:Int)) half) 148
  have h2:(w.alloc (.cells #[.pointer (some ⟨bd,0,none⟩),.int .i64 (base:Int),.int .i64 (half:Int)] 148)).heap.size=b1+1:=by rw [<- hb1]; simp
  rw [h2] at h1
  rw [<- hw2]; exact h1
 have hP12:Blk w2 b1 (plC bd base half) 148:=by rw [<- hw2]; exact hP1.chg0 _
 have hB2:Below w.heap.size w w2:=by rw [<- hw2]; exact ((Below.refl _ _).alloc (Nat.le_refl _) _).alloc (by simp) _
 obtain ⟨w3,hw3⟩:∃ w3,w2.alloc (.cells #[.map none,.map none,.int .i64 0,.pointer (some ⟨bd,0,none⟩),.int .i64 ((base:Int)+(half:Int)),.int .i64 (half:Int),.pointer (some ⟨bd,0,none⟩),.int .i64 (base:Int),.int .i64 (half:Int),.bool false] 152)=w3:=⟨_,rfl⟩
 obtain ⟨bc,hbc⟩:∃ bc,w2.heap.size=bc:=⟨_,rfl⟩
 have hP3:Box (Blk w3 bc [.map none,.map none,.int .i64 0,.pointer (some ⟨bd,0,none⟩),.int .i64 ((base:Int)+(half:Int)),.int .i64 (half:Int),.pointer (some ⟨bd,0,none⟩),.int .i64 (base:Int),.int .i64 (half:Int),.bool false] 152):=⟨by rw [<- hw3,<- hbc]; exact Blk.new w2 _ _⟩
 have hP13:Box (Blk w3 b1 (plC bd base half) 148):=⟨by rw [<- hw3]; exact hP12.chg0 _⟩
 have hP23:Box (Blk w3 (b1+1) (plC bd ((base:Int)+(half:Int)) half) 148):=⟨by rw [<- hw3]; exact hP2.chg0 _⟩
 have hB3:Box (Below w.heap.size w w3):=⟨by rw [<- hw3]; exact hB2.alloc hB2.size _⟩
 have c10:w2.cell? ⟨b1,0,none⟩=some (.pointer (some ⟨bd,0,none⟩)):=hP12.cell 0
 have c11:w2.cell? ⟨b1,1,none⟩=some (.int .i64 (base:Int)):=hP12.cell 1
 have c12:w2.cell? ⟨b1,2,none⟩=some (.int .i64 (half:Int)):=hP12.cell 2
 have c20:w2.cell? ⟨b1+1,0,none⟩=some (.pointer (some ⟨bd,0,none⟩)):=hP2.cell 0
 have c21:w2.cell? ⟨b1+1,1,none⟩=some (.int .i64 ((base:Int)+(half:Int))):=hP2.cell 1
 have c22:w2.cell? ⟨b1+1,2,none⟩=some (.int .i64 (half:Int)):=hP2.cell 2
 have hne:Box (b1 ≠ bc/\b1+1 ≠ bc/\w.heap.size<=b1/\w.heap.size<=bc):=⟨by
  have h2:=hP2.lt
  have h4:=hB2.size
  omega⟩
 replace hP1:=Box.mk hP1
 replace hP2:=Box.mk hP2
 replace hP12:=Box.mk hP12
 replace hB2:=Box.mk hB2
 replace h:=Box.mk h
 replace hoff:=Box.mk hoff
 replace hM:=Box.mk hM
 replace hMn:=Box.mk hMn
 replace hMo:=Box.mk hMo
 replace hok:=Box.mk hok
 clear hinR
 go_enter Tryz.func36,Tryz.ntmps36
 go_wp2_with fail
 refine hSe.out.mono ?_
 rintro e w' ⟨rfl,rfl⟩
 go_wp2_with fail
 refine hWi.out.mono ?_
 rintro e w' ⟨rfl,rfl⟩
 go_wp2_with fail
 refine hOf.out.mono ?_
 rintro e w' ⟨rfl,rfl⟩
 have e20:w3.cell? ⟨b1+1,0,none⟩=some (.pointer (some ⟨bd,0,none⟩)):=hP23.out.cell 0
 have e21:w3.cell? ⟨b1+1,1,none⟩=some (.int .i64 ((base:Int)+(half:Int))):=hP23.out.cell 1
 have e22:w3.cell? ⟨b1+1,2,none⟩=some (.int .i64 (half:Int)):=hP23.out.cell 2
 have hRm:=pread_all bd F D (base+half) half w3 (h.out.below hB3.out) hoff.out h2 (by omega)
 rw [show ((base+half:Nat):Int)=(base:Int)+(half:Int) by omega] at hRm
 replace hRm:=Box.mk hRm
 go_wp2_with fail
 refine hRm.out.mono ?_
 rintro e w4 ⟨pm,rfl,hm⟩
 obtain ⟨m,hmm⟩:∃ m,(readN D.seen (base+half) half).1=m:=⟨_,rfl⟩
 rw [hmm]
 replace hmm:=Box.mk hmm
 have hB4:Box (Below w.heap.size w w4):=⟨hB3.out.trans (hm.out.k.mono hB3.out.size)⟩
 have hb4:Blk w4 bc _ _:=(hm.out.k.block _ hP3.out.lt).trans hP3.out
 have hP14:Box (Blk w4 b1 (plC bd base half) 148):=⟨(hm.out.k.block _ hP13.out.lt).trans hP13.out⟩
 have hP24:Box (Blk w4 (b1+1) (plC bd ((base:Int)+(half:Int)) half) 148):=⟨(hm.out.k.block _ hP23.out.lt).trans hP23.out⟩
 have d1:w4.cell? ⟨bc,1,none⟩=some (.map none):=hb4.cell 1
 have d2:w4.cell? ⟨bc,2,none⟩=some (.int .i64 0):=hb4.cell 2
 have f1:w4.frozen? ⟨bc,1,none⟩=false:=hb4.free 1
 have f2:w4.frozen? ⟨bc,2,none⟩=false:=hb4.free 2
 obtain ⟨w5,hw5⟩:∃ w5,(w4.setCell ⟨bc,2,none⟩ (.int .i64 (m:Int))).setCell ⟨bc,1,none⟩ (.map pm)=w5:=⟨_,rfl⟩
 have hb5:Box (Blk w5 bc [.map none,.map pm,.int .i64 (m:Int),.pointer (some ⟨bd,0,none⟩),.int .i64 ((base:Int)+(half:Int)),.int .i64 (half:Int),.pointer (some ⟨bd,0,none⟩),.int .i64 (base:Int),.int .i64 (half:Int),.bool false] 152):=⟨by rw [<- hw5]; exact (hb4.setCell 2 _).setCell 1 _⟩
 have hC5:Box (Chg (fun k=>k=bc) w4 w5):=⟨by rw [<- hw5]; exact chg2 w4 bc 2 1 _ _⟩
 have hP15:=Box.mk (hC5.out.blk hP14.out hne.out.1)
 have hP25:=Box.mk (hC5.out.blk hP24.out hne.out.2.1)
 have hB5:Box (Below w.heap.size w w5):=⟨hB4.out.trans (hC5.out.below hB4.out.size fun i hi=>hi ▸ hne.out.2.2.2)⟩
 have hWm:Box (WasAt w5 pm (readN D.seen (base+half) half).2):=⟨hm.out.at_.chg hC5.out fun b hb e=>by have h6:=hm.out.new b hb; have h7:=hP3.out.lt; omega⟩
 have hnm:Box (∀ b,pm=some b->w.heap.size<=b/\b ≠ bc):=⟨fun b hb=>by have h6:=hm.out.new b hb; have h7:=hP3.out.lt; have h8:=hB3.out.size; omega⟩
 have e10:w5.cell? ⟨b1,0,none⟩=some (.pointer (some ⟨bd,0,none⟩)):=hP15.out.cell 0
 have e11:w5.cell? ⟨b1,1,none⟩=some (.int .i64 (base:Int)):=hP15.out.cell 1
 have e12:w5.cell? ⟨b1,2,none⟩=some (.int .i64 (half:Int)):=hP15.out.cell 2
 have hRn:=Box.mk (pread_all bd F D base half w5 (h.out.below hB5.out) hoff.out h2 (by omega))
 replace hb4:=Box.mk hb4
 clear hRm hm e20 e21 e22 c10 c11 c12 c20 c21 c22 hw2 hw3
 go_wp2_with fail
 refine hRn.out.mono ?_
 rintro e w6 ⟨pn,rfl,hr⟩
 obtain ⟨n,hnn⟩:∃ n,(readN D.seen base half).1=n:=⟨_,rfl⟩
 rw [hnn]
 replace hnn:=Box.mk hnn
 have hB6:Box (Below w.heap.size w w6):=⟨hB5.out.trans (hr.out.k.mono hB5.out.size)⟩
 have hb6:Blk w6 bc _ _:=(hr.out.k.block _ hb5.out.lt).trans hb5.out
 have hP16:Box (Blk w6 b1 (plC bd base half) 148):=⟨(hr.out.k.block _ hP15.out.lt).trans hP15.out⟩
 have hP26:Box (Blk w6 (b1+1) (plC bd ((base:Int)+(half:Int)) half) 148):=⟨(hr.out.k.block _ hP25.out.lt).trans hP25.out⟩
 have hWn:Box (WasAt w6 pn (readN D.seen base half).2):=⟨hr.out.at_⟩
 have hnn2:Box (∀ b,pn=some b->w.heap.size<=b/\b ≠ bc):=⟨fun b hb=>by have h6:=hr.out.new b hb; have h7:=hb5.out.lt; have h8:=hB5.out.size; omega⟩
 have hWm6:Box (WasAt w6 pm (readN D.seen (base+half) half).2):=⟨hWm.out.chg (Chg.of_below hr.out.k) fun b hb=>by have:=hWm.out.lt b hb; omega⟩
 clear hRn hr d1 d2 f1 f2 e10 e11 e12 hw5
 have d2:w6.cell? ⟨bc,2,none⟩=some (.int .i64 (m:Int)):=hb6.cell 2
 by_cases hcase:0<n/\m<=n
 ·obtain ⟨hn0,hmn⟩:=hcase
  have hopen:Box (M.num=n/\M.was=(readN D.seen base half).2/\M.last=0):=⟨by
   have h9:=hM.out
   unfold openN at h9
   rw [hnn.out,hmm.out,if_pos ⟨hn0,hmn⟩] at h9
   simp only [Prod.mk.injEq] at h9
   exact ⟨h9.1.symm,h9.2.1.symm,h9.2.2.symm⟩⟩
  have hmn2:(m:Int)<=(n:Int):=by omega
  have d1:w6.cell? ⟨bc,1,none⟩=some (.map pm):=hb6.cell 1
  have f1:w6.frozen? ⟨bc,1,none⟩=false:=hb6.free 1
  have f2:w6.frozen? ⟨bc,2,none⟩=false:=hb6.free 2
  obtain ⟨w7,hw7⟩:∃ w7,(w6.setCell ⟨bc,2,none⟩ (.int .i64 (n:Int))).setCell ⟨bc,1,none⟩ (.map pn)=w7:=⟨_,rfl⟩
  have hb7:Box (Blk w7 bc [.map none,.map pn,.int .i64 (n:Int),.pointer (some ⟨bd,0,none⟩),.int .i64 ((base:Int)+(half:Int)),.int .i64 (half:Int),.pointer (some ⟨bd,0,none⟩),.int .i64 (base:Int),.int .i64 (half:Int),.bool false] 152):=⟨by rw [<- hw7]; exact (hb6.setCell 2 _).setCell 1 _⟩
  have hC7:Box (Chg (fun k=>k=bc) w6 w7):=⟨by rw [<- hw7]; exact chg2 w6 bc 2 1 _ _⟩
  have hP17:=Box.mk (hC7.out.blk hP16.out hne.out.1)
  have hP27:=Box.mk (hC7.out.blk hP26.out hne.out.2.1)
  replace hb6:=Box.mk hb6
  go_wp2_with fail
  clear hw7 d1 d2 f1 f2
  refine region_go (C:=fun w'=>Blk w' b1 (plC bd base half) 148/\Blk w' (b1+1) (plC bd ((base:Int)+(half:Int)) half) 148) rfl ?_
  have hbd7:Box (Blk w7.drew bc _ 152):=⟨hb7.out⟩
  have hCd7:Box (Chg (fun k=>k=bc) w6 w7.drew):=⟨hC7.out.drew⟩
  have hPd7:Box (Blk w7.drew b1 (plC bd base half) 148/\Blk w7.drew (b1+1) (plC bd ((base:Int)+(half:Int)) half) 148):=⟨hP17.out,hP27.out⟩
  generalize w7.drew=wd at hbd7 hCd7 hPd7 ⊢
  clear hb7 hC7 hP17 hP27
  refine go_calms [0,1,2,3,4,5] 4 rfl (by kernel_rfl) (by kernel_rfl) (by kernel_rfl) hPd7.out ?_
  simp [nth]
  try simp only [Act.put]
  repeat (go_big_quiet_step (first | exact fun _=>rfl | exact fun _ _=>rfl | rfl))
  refine quiet_any rfl (.agg #[.pointer (some ⟨bd,0,none⟩),.int .i64 (base:Int),.int .i64 (half:Int)]) (fun w' hw'=>by
   have c0:w'.cell? ⟨b1,0,none⟩=some (.pointer (some ⟨bd,0,none⟩)):=hw'.1.cell 0
   have c1:w'.cell? ⟨b1,1,none⟩=some (.int .i64 (base:Int)):=hw'.1.cell 1
   have c2:w'.cell? ⟨b1,2,none⟩=some (.int .i64 (half:Int)):=hw'.1.cell 2
   go_simp) ?_
  simp only [Act.put,zT9,zS9,zZ9]
  refine quiet_any rfl (.agg #[.pointer (some ⟨bd,0,none⟩),.int .i64 ((base:Int)+(half:Int)),.int .i64 (half:Int)]) (fun w' hw'=>by
   have c0:w'.cell? ⟨b1+1,0,none⟩=some (.pointer (some ⟨bd,0,none⟩)):=hw'.2.cell 0
   have c1:w'.cell? ⟨b1+1,1,none⟩=some (.int .i64 ((base:Int)+(half:Int))):=hw'.2.cell 1
   have c2:w'.cell? ⟨b1+1,2,none⟩=some (.int .i64 (half:Int)):=hw'.2.cell 2
   go_simp) ?_
  simp only [Act.put,zT9,zS9,zZ9]
  repeat (go_big_quiet_step (first | exact fun _=>rfl | exact fun _ _=>rfl | rfl))
  refine wpQuiet_nil ?_
  have d3:wd.cell? ⟨bc,3,none⟩=some (.pointer (some ⟨bd,0,none⟩)):=hbd7.out.cell 3
  have d4:wd.cell? ⟨bc,4,none⟩=some (.int .i64 ((base:Int)+(half:Int))):=hbd7.out.cell 4
  have d5:wd.cell? ⟨bc,5,none⟩=some (.int .i64 (half:Int)):=hbd7.out.cell 5
  have f3:wd.frozen? ⟨bc,3,none⟩=false:=hbd7.out.free 3
  have f4:wd.frozen? ⟨bc,4,none⟩=false:=hbd7.out.free 4
  have f5:wd.frozen? ⟨bc,5,none⟩=false:=hbd7.out.free 5
  refine go_forced 6 (by kernel_rfl) (goOp_wp 6 rfl rfl (fun K hK=>?_))
  go_simp
  have hb8:Blk ((wd.setCell ⟨bc,3,none⟩ (.pointer (some ⟨bd,0,none⟩))).setCell ⟨bc,4,none⟩ (.int .i64 (base:Int))|>.setCell ⟨bc,5,none⟩ (.int .i64 (half:Int))) bc [.map none,.map pn,.int .i64 (n:Int),.pointer (some ⟨bd,0,none⟩),.int .i64 (base:Int),.int .i64 (half:Int),.pointer (some ⟨bd,0,none⟩),.int .i64 (base:Int),.int .i64 (half:Int),.bool false] 152:=((hbd7.out.setCell 3 _).setCell 4 _).setCell 5 _
  have hC8:=Box.mk (chg_three wd bc 3 4 5 (.pointer (some ⟨bd,0,none⟩)) (.int .i64 (base:Int)) (.int .i64 (half:Int)))
  generalize ((wd.setCell ⟨bc,3,none⟩ (.pointer (some ⟨bd,0,none⟩))).setCell ⟨bc,4,none⟩ (.int .i64 (base:Int))).setCell ⟨bc,5,none⟩ (.int .i64 (half:Int))=w8 at hb8 hC8 ⊢
  have hP8:Box (Blk w8 b1 (plC bd base half) 148/\Blk w8 (b1+1) (plC bd ((base:Int)+(half:Int)) half) 148):=⟨hC8.out.blk hPd7.out.1 hne.out.1,hC8.out.blk hPd7.out.2 hne.out.2.1⟩
  refine hK _ _ hP8.out ?_
  clear hK K d3 d4 d5 f3 f4 f5
  have d6:w8.cell? ⟨bc,6,none⟩=some (.pointer (some ⟨bd,0,none⟩)):=hb8.cell 6
  have d7:w8.cell? ⟨bc,7,none⟩=some (.int .i64 (base:Int)):=hb8.cell 7
  have d8:w8.cell? ⟨bc,8,none⟩=some (.int .i64 (half:Int)):=hb8.cell 8
  have f6:w8.frozen? ⟨bc,6,none⟩=false:=hb8.free 6
  have f7:w8.frozen? ⟨bc,7,none⟩=false:=hb8.free 7
  have f8:w8.frozen? ⟨bc,8,none⟩=false:=hb8.free 8
  replace hb8:=Box.mk hb8
  try simp only [Act.put]
  refine go_calms [7,8] 1 rfl (by kernel_rfl) (by kernel_rfl) (by kernel_rfl) hP8.out ?_
  simp [nth]
  try simp only [Act.put]
  repeat (go_big_quiet_step (first | exact fun _=>rfl | exact fun _ _=>rfl | rfl))
  refine wpQuiet_nil ?_
  refine go_forced 9 (by kernel_rfl) (goOp_wp 9 rfl rfl (fun K hK=>?_))
  go_simp
  have hb9:Blk ((w8.setCell ⟨bc,6,none⟩ (.pointer (some ⟨bd,0,none⟩))).setCell ⟨bc,7,none⟩ (.int .i64 ((base:Int)+(half:Int)))|>.setCell ⟨bc,8,none⟩ (.int .i64 (half:Int))) bc (.map none::.map pn::[.int .i64 (n:Int),.pointer (some ⟨bd,0,none⟩),.int .i64 (base:Int),.int .i64 (half:Int),.pointer (some ⟨bd,0,none⟩),.int .i64 ((base:Int)+(half:Int)),.int .i64 (half:Int),.bool false]) 152:=((hb8.out.setCell 6 _).setCell 7 _).setCell 8 _
  have hC9:=Box.mk (chg_three w8 bc 6 7 8 (.pointer (some ⟨bd,0,none⟩)) (.int .i64 ((base:Int)+(half:Int))) (.int .i64 (half:Int)))
  generalize ((w8.setCell ⟨bc,6,none⟩ (.pointer (some ⟨bd,0,none⟩))).setCell ⟨bc,7,none⟩ (.int .i64 ((base:Int)+(half:Int)))).setCell ⟨bc,8,none⟩ (.int .i64 (half:Int))=wt at hb9 hC9 ⊢
  refine hK _ _ ⟨hC9.out.blk hP8.out.1 hne.out.1,hC9.out.blk hP8.out.2 hne.out.2.1⟩ ?_
  clear hK K d6 d7 d8 f6 f7 f8
  have hCt:Box (Chg (fun k=>k=bc) w6 wt):=⟨(hCd7.out.trans hC8.out fun _ _ h=>h).trans hC9.out fun _ _ h=>h⟩
  have hBt:Box (Below w.heap.size w wt):=⟨hB6.out.trans (hCt.out.below hB6.out.size fun i hi=>hi ▸ hne.out.2.2.2)⟩
  have hWt:Box (WasAt wt pn (readN D.seen base half).2):=⟨hWn.out.chg hCt.out fun b hb=>(hnn2.out b hb).2⟩
  have hUn:=undo_map bc _ pn _ (readN D.seen base half).2 wt hb9 hWt.out (fun e=>(hnn2.out bc e).2 rfl) (by rw [<- hopen.out.2.1]; exact hok.out.was)
  replace hUn:=Box.mk hUn
  replace hb9:=Box.mk hb9
  refine go_done (by kernel_rfl) ?_
  go_wp2_with fail
  refine hUn.out.mono ?_
  rintro e w9 ⟨rfl,hL⟩
  have hEnd:Box (Below w.heap.size w w9/\CelO bd bc base half M w9 (fun k=>w.heap.size<=k/\k<w9.heap.size)):=⟨open_end hBt.out hne.out.2.2.2 (by rw [hopen.out.2.1]; exact hWt.out) (fun b hb=>(hnn2.out b hb).1) hb9.out.lt (by rw [hopen.out.2.1]; exact hL.out) (fun e=>(hnn2.out bc e).2 rfl) (fun b=>(cells_zero hopen.out.1 hopen.out.2.2 hMo.out).symm) hMn.out hok.out⟩
  clear hL hUn
  go_wp2_with fail
  go_returns
  exact ⟨bc,rfl,hEnd⟩
 ·have hopen:Box (M.num=m/\M.was=(readN D.seen (base+half) half).2/\M.last=1):=⟨by
   have h9:=hM.out
   unfold openN at h9
   rw [hnn.out,hmm.out,if_neg hcase] at h9
   simp only [Prod.mk.injEq] at h9
   exact ⟨h9.1.symm,h9.2.1.symm,h9.2.2.symm⟩⟩
  have hUn:=undo_map bc _ pm _ (readN D.seen (base+half) half).2 w6 hb6 hWm6.out (fun e=>(hnm.out bc e).2 rfl) (by rw [<- hopen.out.2.1]; exact hok.out.was)
  replace hUn:=Box.mk hUn
  by_cases hn0:0<n
  ·have hmn:¬ (m:Int)<=(n:Int):=by omega
   replace hb6:=Box.mk hb6
   replace hcase:=Box.mk hcase
   go_wp2_with fail
   refine hUn.out.mono ?_
   rintro e w9 ⟨rfl,hL⟩
   have hEnd:Box (Below w.heap.size w w9/\CelO bd bc base half M w9 (fun k=>w.heap.size<=k/\k<w9.heap.size)):=⟨open_end hB6.out hne.out.2.2.2 (by rw [hopen.out.2.1]; exact hWm6.out) (fun b hb=>(hnm.out b hb).1) hb6.out.lt (by rw [hopen.out.2.1]; exact hL.out) (fun e=>(hnm.out bc e).2 rfl) (fun b=>(cells_one hopen.out.1 hopen.out.2.2 hMo.out).symm) hMn.out hok.out⟩
   clear hL hUn d2
   go_wp2_with fail
   go_returns
   exact ⟨bc,rfl,hEnd⟩
  ·replace hb6:=Box.mk hb6
   replace hcase:=Box.mk hcase
   go_wp2_with fail
   refine hUn.out.mono ?_
   rintro e w9 ⟨rfl,hL⟩
   have hEnd:Box (Below w.heap.size w w9/\CelO bd bc base half M w9 (fun k=>w.heap.size<=k/\k<w9.heap.size)):=⟨open_end hB6.out hne.out.2.2.2 (by rw [hopen.out.2.1]; exact hWm6.out) (fun b hb=>(hnm.out b hb).1) hb6.out.lt (by rw [hopen.out.2.1]; exact hL.out) (fun e=>(hnm.out bc e).2 rfl) (fun b=>(cells_one hopen.out.1 hopen.out.2.2 hMo.out).symm) hMn.out hok.out⟩
   clear hL hUn d2
   go_wp2_with fail
   go_returns
   exact ⟨bc,rfl,hEnd⟩
end Go.Proofs.YthpfpkikmaiddaaGreatDoor.Pk
