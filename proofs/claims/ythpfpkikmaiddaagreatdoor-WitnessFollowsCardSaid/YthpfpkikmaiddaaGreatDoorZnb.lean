/- - -/
import Derived.Lib.ItoaLen
import Derived.Laws.StructEq
import Derived.Test.YthpfpkikmaiddaaGreatDoorZna
import Derived.Test.YthpfpkikmaiddaaGreatDoorZl1
set_option linter.all false
set_option maxHeartbeats 3200000
set_option maxRecDepth 100000
namespace Go.Proofs.YthpfpkikmaiddaaGreatDoor.Nt
open Go Go.RowKit
structure NL (B:Nat) (w:World):Prop where
 pis : ∀ w', Below B w w' -> Lib.TabIs Tryz.prog w' "internal/strconv.uint64pow10" .u64 Lib.pow10Tab
 s:∃ te pe,w.cell? ⟨1,0,none⟩=some (.iface te pe)
 r:∃ te pe,w.cell? ⟨2,0,none⟩=some (.iface te pe)
 m:∃ k,w.cell? ⟨0,0,none⟩=some (.int .i64 k)
 ls:1<B
 lr:2<B
 lm:0<B
theorem NL.below {B:Nat} {w w':World} (h:NL B w) (hb:Below B w w'):NL B w':=by
 obtain ⟨a,b,c⟩:=h.s
 obtain ⟨d,e,f⟩:=h.r
 obtain ⟨k,hk⟩:=h.m
 exact ⟨fun w2 h2=>h.pis w2 (hb.trans h2),⟨a,b,(hb.cell (p:=⟨1,0,none⟩) h.ls).trans c⟩,⟨d,e,(hb.cell (p:=⟨2,0,none⟩) h.lr).trans f⟩,⟨k,(hb.cell (p:=⟨0,0,none⟩) h.lm).trans hk⟩,h.ls,h.lr,h.lm⟩
theorem NL.here {B:Nat} {w w':World} (h:NL B w) (hB:B<=w.heap.size) (hb:Below w.heap.size w w'):NL B w':=h.below (hb.mono hB)
def txN (n:Int):ByteArray:=⟨(Lib.itoa n).toArray⟩
theorem bel_grow (w:World) (k:Nat) (os:Array Obj):Below w.heap.size w (Sort.grow (w.drewN k) os):=
 ⟨rfl,rfl,rfl,by simp [Sort.grow],fun j hj=>by simp [Sort.grow,Array.getElem?_append,hj]⟩
theorem itoa_any (n:Int) (B:Nat) (w:World) (hL:NL B w) (h0 : -9223372036854775808<=n) (h1:n<=9223372036854775807) :
  Calls Tryz.prog 109 #[.int .i64 n] w fun e w'=>e=.returned (.string (txN n))/\Below w.heap.size w w':=
 (Tryz.strconv_Itoa n h0 h1 w (hL.pis w (Below.refl _ _))).mono fun e w'=>by
  rintro ⟨rfl,k,os,rfl⟩
  exact ⟨rfl,bel_grow w k os⟩
theorem txN_size (n:Int) (h0 : -9223372036854775808<=n) (h1:n<=9223372036854775807):(txN n).size<=21:=Lib.itoa_length_le n h0 h1
theorem bel_call {w0 w:World} {f:FuncId} {args:Array Value} {v:Value} (h:Calls Tryz.prog f args w fun e w'=>e=.returned v/\Below w.heap.size w w') (hb:Below w0.heap.size w0 w) :
  Calls Tryz.prog f args w fun e w'=>e=.returned v/\Below w0.heap.size w0 w':=h.mono fun _ _ he=>⟨he.1,mono_bel hb he.2 (Nat.le_refl _)⟩
theorem tl_eq (a b:ByteArray):(a.toList==b.toList)=decide (a=b):=by
 by_cases h:a=b
 ·subst h; simp
 ·have:¬ a.toList=b.toList:=fun e=>h (ba_ext (by rw [<- ByteArray.toList_eq,<- ByteArray.toList_eq]; exact e))
  simp [h,this]
theorem number_any (x:ByteArray) (B:Nat) (w:World) (hE:NL B w) (hx:x.size<=281474976710656) :
  Calls Tryz.prog 150 #[.string x] w fun e w'=>e=.returned (.int .i64 (numI x.data.toList))/\Below w.heap.size w w':=by
 cases ha:Lib.atoiAll x.data.toList with
 | ok v=>
  have hC:=Tryz.strconv_Atoi_ok x (by omega) v ha w
  have hn:numI x.data.toList=v:=by unfold numI; rw [ha]
  rw [hn]
  clear hn ha
  go_enter Tryz.func150,Tryz.ntmps150
  go_wp2_with fail
  refine hC.mono ?_
  rintro e w1 ⟨rfl,hw⟩
  have hb:Box (Below w.heap.size w w1):=⟨by
   rcases hw with rfl | ⟨t,rfl⟩
   ·exact Below.refl _ _
   ·exact Lib.bytesWorld_below _ _ _⟩
  clear hw hC
  go_wp2_with fail
  go_ret
  exact ⟨rfl,hb.out⟩
 | range=>
  obtain ⟨te,pe,hv⟩:=hE.r
  have hC:=Tryz.strconv_Atoi_range x hx ha _ w hv (.inr ⟨te,pe,rfl⟩)
  have hn:numI x.data.toList = -1:=by unfold numI; rw [ha]
  rw [hn]
  clear hn ha hv
  go_enter Tryz.func150,Tryz.ntmps150
  go_wp2_with fail
  refine hC.mono ?_
  rintro e w1 ⟨N,rfl,_,_,hb⟩
  replace hb:=Box.mk hb
  clear hC
  go_wp2_with fail
  go_ret
  exact ⟨rfl,hb.out⟩
 | _=>
  obtain ⟨te,pe,hv⟩:=hE.s
  have hC:=Tryz.strconv_Atoi_syntax x hx (fun v e=>by rw [ha] at e; cases e) (by rw [ha]; intro e; cases e) _ w hv (.inr ⟨te,pe,rfl⟩)
  have hn:numI x.data.toList = -1:=by unfold numI; rw [ha]
  rw [hn]
  clear hn ha hv
  go_enter Tryz.func150,Tryz.ntmps150
  go_wp2_with fail
  refine hC.mono ?_
  rintro e w1 ⟨N,rfl,_,_,hb⟩
  replace hb:=Box.mk hb
  clear hC
  go_wp2_with fail
  go_ret
  exact ⟨rfl,hb.out⟩
def sT:ByteArray:=⟨#[111,115,116,108,101,114,32,99,104,101,99,107,112,111,105,110,116,10]⟩
def sN:ByteArray:=⟨#[10]⟩
def hxT (r:ByteArray):ByteArray:=⟨(hexL r.data.toList).toArray⟩
theorem hxT_size (r:ByteArray):(hxT r).size=2*r.size:=by
 show (hexL r.data.toList).toArray.size=_
 rw [List.size_toArray,hexL_length,data_len]
def ckT (c:Ck):ByteArray:=⟨(ckL c).toArray⟩
theorem ckT_eq (c:Ck):sT++c.o++sN++txN c.n++sN++hxT c.r++sN=ckT c:=by
 refine ba_ext ?_
 simp only [ByteArray.data_append,Array.toList_append]
 show _=ckL c
 unfold ckL sT sN txN hxT lTitle
 simp [jn]
def txtS (c:Ck):ByteArray:=if gC c=true then ckT c else ByteArray.empty
def txtE (c:Ck):Int:=if gC c=true then 0 else 1
def txtV (c:Ck):Value:=.tuple #[.string (txtS c),.int .i64 (txtE c)]
theorem txtV_yes {c:Ck} (h:gC c=true):txtV c=.tuple #[.string (ckT c),.int .i64 0]:=by unfold txtV txtS txtE; rw [if_pos h,if_pos h]
theorem txtV_no {c:Ck} (h:gC c=false):txtV c=.tuple #[.string ⟨#[]⟩,.int .i64 1]:=by unfold txtV txtS txtE; rw [if_neg (by simp [h]),if_neg (by simp [h])]; rfl
theorem gO_size {o:ByteArray} (h:gO o.data.toList=true):o.size<=64:=by
 unfold gO at h
 rw [data_len] at h
 simp only [Bool.and_eq_true,decide_eq_true_eq] at h
 exact h.2.2
theorem text_any (c:Ck) (B:Nat) (w:World) (hL:NL B w) (hB:B<=w.heap.size) (ho:c.o.size<=140737488355328) (hr:c.r.size<=140737488355328) :
  Calls Tryz.prog 75 #[ckV c] w fun e w'=>e=.returned (txtV c)/\Below w.heap.size w w':=by
 obtain ⟨W1,hW1⟩:∃ W1,w.alloc (.cells #[.string c.o,.int .i64 c.n,.string c.r] 109)=W1:=⟨_,rfl⟩
 have hB1:Below w.heap.size w W1:=by rw [<- hW1]; exact bel_alloc _ _
 have hS1:Pk.Blk W1 w.heap.size [.string c.o,.int .i64 c.n,.string c.r] 109:=by rw [<- hW1]; exact Pk.Blk.new w _ _
 have hF:=good_any c W1 ho hr
 have hE:=Box.mk (ckT_eq c)
 have hL1:=hL.here hB hB1
 have s0:W1.cell? ⟨w.heap.size,0,none⟩=some (.string c.o):=hS1.cell 0
 have s1:W1.cell? ⟨w.heap.size,1,none⟩=some (.int .i64 c.n):=hS1.cell 1
 have s2:W1.cell? ⟨w.heap.size,2,none⟩=some (.string c.r):=hS1.cell 2
 have hsz:B<=W1.heap.size:=Nat.le_trans hB hB1.size
 cases hg:gC c with
 | false=>
  rw [hg] at hF
  rw [txtV_no hg]
  obtain ⟨o,n,r⟩:=c
  unfold ckV at hF ⊢
  simp only at hF s0 s1 s2 hW1 ⊢
  replace hB1:=Box.mk hB1
  clear hE hL hL1 hS1 ho hr hg hsz hB
  go_enter Tryz.func75,Tryz.ntmps75
  go_wp2_with fail
  refine hF.mono ?_
  clear hF
  rintro e w1 ⟨rfl,hb1⟩
  replace hb1:=Box.mk hb1
  go_wp2_with fail
  go_ret2
  exact ⟨rfl,mono_bel hB1.out hb1.out (Nat.le_refl _)⟩
 | true=>
  rw [hg] at hF
  obtain ⟨g1,g2,g3,g4⟩:=gC_iff.1 hg
  have gz:=gO_size g1
  rw [txtV_yes hg]
  rw [<- hE.out]
  clear hE
  obtain ⟨o,n,r⟩:=c
  unfold ckV at hF ⊢
  simp only at hF s0 s1 s2 hW1 g1 g2 g3 g4 gz hS1 ⊢
  have hI:=fun w' (hb:Below W1.heap.size W1 w')=>itoa_any n B w' (hL1.here hsz hb) (by omega) (by omega)
  have hsz2:Box ((txN n).size<=21/\(hxT r).size=64/\o.size<=64):=⟨txN_size n (by omega) (by omega),by rw [hxT_size,g4],gz⟩
  have hr2:r.size<=35184372088832:=by omega
  replace hI:=Box.mk hI
  replace hB1:=Box.mk hB1
  replace hS1:=Box.mk hS1
  replace hr2:=Box.mk hr2
  clear hL hL1 ho hr hg hsz hB g1 g2 g3 g4 gz
  go_enter Tryz.func75,Tryz.ntmps75
  go_wp2_with fail
  refine hF.mono ?_
  clear hF
  rintro e w1 ⟨rfl,hb1⟩
  have hk1:=Box.mk (fun w' (h:Below w1.heap.size w1 w')=>(mono_bel hb1 h (Nat.le_refl _)))
  have hlt:w.heap.size<W1.heap.size:=hS1.out.lt
  have hC:=Box.mk (fun w' (h:Below w1.heap.size w1 w')=>((hk1.out w' h).block _ hlt).trans hS1.out)
  replace hb1:=Box.mk hb1
  clear s0 s1 s2 hlt hS1
  go_wp2_with fail
  refine region_quiet (fun w'=>Below w1.heap.size w1 w') (by kernel_rfl) (by kernel_rfl) (dB _) ?_
  repeat (go_big_quiet_step (first | exact fun _=>rfl | rfl))
  refine quiet_val rfl (.string o) (fun w' hw'=>by have h3:=Pk.Blk.cell (hC.out w' hw') 0; simp only [List.getElem?_cons_zero] at h3; go_simp) ?_
  simp only [Act.put,zT9,zS9,zZ9]
  repeat (go_big_quiet_step (first | exact fun _=>rfl | rfl))
  refine quiet_val rfl (.string (sT++o)) (fun w' _=>by unfold sT; go_simp; have:=hsz2.out; omega) ?_
  simp only [Act.put,zT9,zS9,zZ9]
  repeat (go_big_quiet_step (first | exact fun _=>rfl | rfl))
  refine quiet_val rfl (.string (sT++o++sN)) (fun w' _=>by unfold sN; go_simp; have:=hsz2.out; have e1:sT.size=18:=rfl; omega) ?_
  simp only [Act.put,zT9,zS9,zZ9]
  repeat (go_big_quiet_step (first | exact fun _=>rfl | rfl))
  refine quiet_val rfl (.int .i64 n) (fun w' hw'=>by have h3:=Pk.Blk.cell (hC.out w' hw') 1; simp only [List.getElem?_cons_zero,List.getElem?_cons_succ] at h3; go_simp) ?_
  simp only [Act.put,zT9,zS9,zZ9]
  repeat (go_big_quiet_step (first | exact fun _=>rfl | rfl))
  refine quiet_call rfl (.string (txN n)) (fun w' hw'=>bel_call (hI.out w' (mono_bel hb1.out hw' (Nat.le_refl _))) hw') (fun w' _=>by go_simp) ?_
  simp only [Act.put,zT9,zS9,zZ9]
  repeat (go_big_quiet_step (first | exact fun _=>rfl | rfl))
  refine quiet_val rfl (.string (sT++o++sN++txN n)) (fun w' _=>by go_simp; have:=hsz2.out; have e1:sT.size=18:=rfl; have e2:sN.size=1:=rfl; omega) ?_
  simp only [Act.put,zT9,zS9,zZ9]
  repeat (go_big_quiet_step (first | exact fun _=>rfl | rfl))
  refine quiet_val rfl (.string (sT++o++sN++txN n++sN)) (fun w' _=>by unfold sN; go_simp; have:=hsz2.out; have e1:sT.size=18:=rfl; have e2:sN.size=1:=rfl; omega) ?_
  simp only [Act.put,zT9,zS9,zZ9]
  repeat (go_big_quiet_step (first | exact fun _=>rfl | rfl))
  refine quiet_val rfl (.string r) (fun w' hw'=>by have h3:=Pk.Blk.cell (hC.out w' hw') 2; simp only [List.getElem?_cons_zero,List.getElem?_cons_succ] at h3; go_simp) ?_
  simp only [Act.put,zT9,zS9,zZ9]
  repeat (go_big_quiet_step (first | exact fun _=>rfl | rfl))
  refine quiet_call rfl (.string (hxT r)) (fun w' hw'=>bel_call (hex_any r w' hr2.out) hw') (fun w' _=>by go_simp) ?_
  simp only [Act.put,zT9,zS9,zZ9]
  repeat (go_big_quiet_step (first | exact fun _=>rfl | rfl))
  refine quiet_val rfl (.string (sT++o++sN++txN n++sN++hxT r)) (fun w' _=>by go_simp; have:=hsz2.out; have e1:sT.size=18:=rfl; have e2:sN.size=1:=rfl; omega) ?_
  simp only [Act.put,zT9,zS9,zZ9]
  repeat (go_big_quiet_step (first | exact fun _=>rfl | rfl))
  refine quiet_val rfl (.string (sT++o++sN++txN n++sN++hxT r++sN)) (fun w' _=>by unfold sN; go_simp; have:=hsz2.out; have e1:sT.size=18:=rfl; have e2:sN.size=1:=rfl; omega) ?_
  simp only [Act.put,zT9,zS9,zZ9]
  repeat (go_big_quiet_step (first | exact fun _=>rfl | rfl))
  refine wpQuiet_nil ?_
  intro w2 hw2
  have hb2:=Box.mk (mono_bel hB1.out (hk1.out w2 hw2) (Nat.le_refl _))
  clear hI hC hb1 hk1 hB1 hsz2 hr2 hw2
  obtain ⟨P,hP⟩:∃ P,sT++o++sN++txN n++sN++hxT r++sN=P:=⟨_,rfl⟩
  rw [hP]
  replace hP:=Box.mk hP
  go_wp2_with fail
  go_ret2
  exact ⟨by rw [hP.out]; rfl,hb2.out⟩
theorem dtext_any (c:Ck) (B:Nat) (w:World) (hL:NL B w) (hB:B<=w.heap.size) (ho:c.o.size<=140737488355328) (hr:c.r.size<=140737488355328) :
  Calls Tryz.prog 62 #[ckV c] w fun e w'=>e=.returned (txtV c)/\Below w.heap.size w w':=by
 obtain ⟨W1,hW1⟩:∃ W1,w.alloc (.cells #[.string c.o,.int .i64 c.n,.string c.r] 109)=W1:=⟨_,rfl⟩
 have hB1:Below w.heap.size w W1:=by rw [<- hW1]; exact bel_alloc _ _
 have hS1:Pk.Blk W1 w.heap.size [.string c.o,.int .i64 c.n,.string c.r] 109:=by rw [<- hW1]; exact Pk.Blk.new w _ _
 have hF:=fun w'=>dorigin_any c.o w' ho
 have hE:=Box.mk (ckT_eq c)
 have hL1:=hL.here hB hB1
 have s0:W1.cell? ⟨w.heap.size,0,none⟩=some (.string c.o):=hS1.cell 0
 have s1:W1.cell? ⟨w.heap.size,1,none⟩=some (.int .i64 c.n):=hS1.cell 1
 have s2:W1.cell? ⟨w.heap.size,2,none⟩=some (.string c.r):=hS1.cell 2
 have hsz:B<=W1.heap.size:=Nat.le_trans hB hB1.size
 have hgd:gC c=(gO c.o.data.toList && decide (0<=c.n) && decide (c.n<=1024) && decide (c.r.size=32)):=rfl
 cases hg:gC c with
 | false=>
  rw [txtV_no hg]
  rw [hg] at hgd
  obtain ⟨o,n,r⟩:=c
  unfold ckV
  simp only at hF s0 s1 s2 hW1 hgd ho hr ⊢
  replace hB1:=Box.mk hB1
  obtain ⟨G,hG⟩:∃ G,gO o.data.toList=G:=⟨_,rfl⟩
  rw [hG] at hF hgd
  clear hE hL hL1 hS1 ho hg hsz hB hG
  cases G with
  | false=>
   clear hgd
   go_enter Tryz.func62,Tryz.ntmps62
   go_wp2_with fail
   refine (hF _).mono ?_
   clear hF
   rintro e w1 ⟨rfl,rfl⟩
   go_wp2_with fail
   go_ret2
   exact ⟨rfl,hB1.out⟩
  | true=>
   by_cases h1:0<=n
   ·by_cases h2:n<=1024
    ·have h4:((r.size:Int) != 32)=true:=by
      have h3:¬ r.size=32:=fun e=>by rw [decide_eq_true h1,decide_eq_true h2,decide_eq_true e] at hgd; cases hgd
      simpa using (by omega:(r.size:Int) ≠ 32)
     clear hgd
     go_enter Tryz.func62,Tryz.ntmps62
     go_wp2_with fail
     refine (hF _).mono ?_
     clear hF
     rintro e w1 ⟨rfl,rfl⟩
     go_wp2_with fail
     go_ret2
     exact ⟨rfl,hB1.out⟩
    ·clear hgd
     go_enter Tryz.func62,Tryz.ntmps62
     go_wp2_with fail
     refine (hF _).mono ?_
     clear hF
     rintro e w1 ⟨rfl,rfl⟩
     go_wp2_with fail
     go_ret2
     exact ⟨rfl,hB1.out⟩
   ·clear hgd
    go_enter Tryz.func62,Tryz.ntmps62
    go_wp2_with fail
    refine (hF _).mono ?_
    clear hF
    rintro e w1 ⟨rfl,rfl⟩
    go_wp2_with fail
    go_ret2
    exact ⟨rfl,hB1.out⟩
 | true=>
  clear hgd
  obtain ⟨g1,g2,g3,g4⟩:=gC_iff.1 hg
  have gz:=gO_size g1
  rw [txtV_yes hg]
  rw [<- hE.out]
  clear hE
  obtain ⟨o,n,r⟩:=c
  unfold ckV
  simp only at hF s0 s1 s2 hW1 g1 g2 g3 g4 gz hS1 ⊢
  rw [g1] at hF
  have hI:=fun w' (hb:Below W1.heap.size W1 w')=>itoa_any n B w' (hL1.here hsz hb) (by omega) (by omega)
  have hsz2:Box ((txN n).size<=21/\(hxT r).size=64/\o.size<=64):=⟨txN_size n (by omega) (by omega),by rw [hxT_size,g4],gz⟩
  have hr2:Box (r.size<=35184372088832):=⟨by omega⟩
  have h4:((r.size:Int) != 32)=false:=by rw [g4]; rfl
  replace hI:=Box.mk hI
  replace hB1:=Box.mk hB1
  replace hS1:=Box.mk hS1
  clear hL hL1 ho hr hg hsz hB g1 g4 gz
  go_enter Tryz.func62,Tryz.ntmps62
  go_wp2_with fail
  refine (hF _).mono ?_
  clear hF
  rintro e w1 ⟨rfl,rfl⟩
  have hk1:=Box.mk (fun w' (h:Below W1.heap.size W1 w')=>h)
  have hlt:w.heap.size<W1.heap.size:=hS1.out.lt
  have hC:=Box.mk (fun w' (h:Below W1.heap.size W1 w')=>((hk1.out w' h).block _ hlt).trans hS1.out)
  have hb1:Box (Below W1.heap.size W1 W1):=⟨Below.refl _ _⟩
  clear hlt hS1
  go_wp2_with fail
  refine region_quiet (fun w'=>Below W1.heap.size W1 w') (by kernel_rfl) (by kernel_rfl) (dB _) ?_
  repeat (go_big_quiet_step (first | exact fun _=>rfl | rfl))
  refine quiet_val rfl (.string o) (fun w' hw'=>by have h3:=Pk.Blk.cell (hC.out w' hw') 0; simp only [List.getElem?_cons_zero] at h3; go_simp) ?_
  simp only [Act.put,zT9,zS9,zZ9]
  repeat (go_big_quiet_step (first | exact fun _=>rfl | rfl))
  refine quiet_val rfl (.string (sT++o)) (fun w' _=>by unfold sT; go_simp; have:=hsz2.out; omega) ?_
  simp only [Act.put,zT9,zS9,zZ9]
  repeat (go_big_quiet_step (first | exact fun _=>rfl | rfl))
  refine quiet_val rfl (.string (sT++o++sN)) (fun w' _=>by unfold sN; go_simp; have:=hsz2.out; have e1:sT.size=18:=rfl; omega) ?_
  simp only [Act.put,zT9,zS9,zZ9]
  repeat (go_big_quiet_step (first | exact fun _=>rfl | rfl))
  refine quiet_val rfl (.int .i64 n) (fun w' hw'=>by have h3:=Pk.Blk.cell (hC.out w' hw') 1; simp only [List.getElem?_cons_zero,List.getElem?_cons_succ] at h3; go_simp) ?_
  simp only [Act.put,zT9,zS9,zZ9]
  repeat (go_big_quiet_step (first | exact fun _=>rfl | rfl))
  refine quiet_call rfl (.string (txN n)) (fun w' hw'=>bel_call (hI.out w' (mono_bel hb1.out hw' (Nat.le_refl _))) hw') (fun w' _=>by go_simp) ?_
  simp only [Act.put,zT9,zS9,zZ9]
  repeat (go_big_quiet_step (first | exact fun _=>rfl | rfl))
  refine quiet_val rfl (.string (sT++o++sN++txN n)) (fun w' _=>by go_simp; have:=hsz2.out; have e1:sT.size=18:=rfl; have e2:sN.size=1:=rfl; omega) ?_
  simp only [Act.put,zT9,zS9,zZ9]
  repeat (go_big_quiet_step (first | exact fun _=>rfl | rfl))
  refine quiet_val rfl (.string (sT++o++sN++txN n++sN)) (fun w' _=>by unfold sN; go_simp; have:=hsz2.out; have e1:sT.size=18:=rfl; have e2:sN.size=1:=rfl; omega) ?_
  simp only [Act.put,zT9,zS9,zZ9]
  repeat (go_big_quiet_step (first | exact fun _=>rfl | rfl))
  refine quiet_val rfl (.string r) (fun w' hw'=>by have h3:=Pk.Blk.cell (hC.out w' hw') 2; simp only [List.getElem?_cons_zero,List.getElem?_cons_succ] at h3; go_simp) ?_
  simp only [Act.put,zT9,zS9,zZ9]
  repeat (go_big_quiet_step (first | exact fun _=>rfl | rfl))
  refine quiet_call rfl (.string (hxT r)) (fun w' hw'=>bel_call (rhex_any r w' hr2.out) hw') (fun w' _=>by go_simp) ?_
  simp only [Act.put,zT9,zS9,zZ9]
  repeat (go_big_quiet_step (first | exact fun _=>rfl | rfl))
  refine quiet_val rfl (.string (sT++o++sN++txN n++sN++hxT r)) (fun w' _=>by go_simp; have:=hsz2.out; have e1:sT.size=18:=rfl; have e2:sN.size=1:=rfl; omega) ?_
  simp only [Act.put,zT9,zS9,zZ9]
  repeat (go_big_quiet_step (first | exact fun _=>rfl | rfl))
  refine quiet_val rfl (.string (sT++o++sN++txN n++sN++hxT r++sN)) (fun w' _=>by unfold sN; go_simp; have:=hsz2.out; have e1:sT.size=18:=rfl; have e2:sN.size=1:=rfl; omega) ?_
  simp only [Act.put,zT9,zS9,zZ9]
  repeat (go_big_quiet_step (first | exact fun _=>rfl | rfl))
  refine wpQuiet_nil ?_
  intro w2 hw2
  have hb2:=Box.mk (mono_bel hB1.out (hk1.out w2 hw2) (Nat.le_refl _))
  clear hI hC hb1 hk1 hB1 hsz2 hr2 hw2
  obtain ⟨P,hP⟩:∃ P,sT++o++sN++txN n++sN++hxT r++sN=P:=⟨_,rfl⟩
  rw [hP]
  replace hP:=Box.mk hP
  go_wp2_with fail
  go_ret2
  exact ⟨by rw [hP.out]; rfl,hb2.out⟩
def bT (l:List UInt8):ByteArray:=⟨l.toArray⟩
structure LnAt (s:ByteArray) (a i:Nat) (ls:List (List UInt8)):Prop where
 ai:a<=i
 is:i<=s.size
 st:lnL (s.data.toList.take i)=(ls,(s.extract a i).data.toList)
 len:ls.length<=i
theorem LnAt.zero (s:ByteArray):LnAt s 0 0 []:=⟨Nat.le_refl _,Nat.zero_le _,by simp [lnL,lnF],Nat.le_refl _⟩
theorem ext_snoc (s:ByteArray) (a i:Nat) (h1:a<=i) (h2:i<s.size) (x:UInt8) (hx:s[i]=x):(s.extract a (i+1)).data.toList=(s.extract a i).data.toList++[x]:=by
 rw [Lib.extract_data,Lib.extract_data,show i+1-a=(i-a)+1 by omega,List.take_succ_eq_append_getElem (by rw [List.length_drop,data_len]; omega)]
 congr 2
 rw [List.getElem_drop,<- hx]
 have:a+(i-a)=i:=by omega
 simp only [this]
 rfl
theorem LnAt.next {s:ByteArray} {a i:Nat} {ls:List (List UInt8)} (h:LnAt s a i ls) (h2:i<s.size) (x:UInt8) (hx:s[i]=x) (hn:x ≠ 10):LnAt s a (i+1) ls:=
 ⟨by have:=h.ai; omega,h2,by
  rw [get_take s i h2,hx]
  unfold lnL
  rw [lnF_app,show lnF ([],[]) (s.data.toList.take i)=_ from h.st,ext_snoc s a i h.ai h2 x hx]
  show stp _ x=_
  unfold stp
  rw [if_neg hn],by have:=h.len; omega⟩
theorem LnAt.line {s:ByteArray} {a i:Nat} {ls:List (List UInt8)} (h:LnAt s a i ls) (h2:i<s.size) (hx:s[i]=10):LnAt s (i+1) (i+1) (ls++[(s.extract a i).data.toList]):=
 ⟨Nat.le_refl _,h2,by
  rw [get_take s i h2,hx]
  unfold lnL
  rw [lnF_app,show lnF ([],[]) (s.data.toList.take i)=_ from h.st]
  show stp _ 10=_
  unfold stp
  rw [if_pos rfl,show (s.extract (i+1) (i+1)).data.toList=[] by rw [Lib.extract_data,Nat.sub_self,List.take_zero]],by rw [List.length_append]; have:=h.len; simp; omega⟩
def lnT (s:ByteArray):List ByteArray:=(lnL s.data.toList).1.map bT
def lnB (s:ByteArray):Bool:=decide ((lnL s.data.toList).2=[])
def LinS (B:Nat) (s:ByteArray) (e:Ending) (w':World):Prop:=∃ v,e=.returned (.tuple #[v,.bool (lnB s)])/\TxR B w' v (lnT s)
theorem lines_any (s:ByteArray) (w:World) (hs:s.size<=1073741824) :
  Calls Tryz.prog 163 #[.string s] w fun e w'=>LinS w.heap.size s e w'/\Below w.heap.size w w':=by
 have h0:Box (TxR w.heap.size w (.slice none 0 0) (([]:List (List UInt8)).map bT)/\Below w.heap.size w w/\LnAt s 0 0 []):=⟨TxR.nil _ _,Below.refl _ _,LnAt.zero s⟩
 go_enter Tryz.func163,Tryz.ntmps163
 go_wp2_with fail
 go_loopw [4,5,6] (fun v p q wr=>∃ (a i:Nat) (ls:List (List UInt8)),a<=i/\i<=s.size/\p=.int .i64 (a:Int)/\q=.int .i64 (i:Int)/\Box (TxR w.heap.size wr v (ls.map bT)/\Below w.heap.size w wr/\LnAt s a i ls)) (fun _ _ q _=>s.size-(intOf q).toNat)
 case atStart=>exact ⟨0,0,[],by omega,by omega,rfl,rfl,h0⟩
 case round=>
  clear h0
  obtain ⟨a,i,ls,ha,hi,rfl,rfl,hA⟩:=hrel
  by_cases hlt:i<s.size
  ·obtain ⟨x,hx⟩:∃ x,s[i]=x:=⟨_,rfl⟩
   have hxl:=x.toNat_lt
   by_cases h10:x=10
   ·have hN:=Box.mk (hA.out.2.2.line hlt (by rw [hx,h10]))
    have hx10:((x.toNat:Int)==10)=true:=by rw [h10]; rfl
    have hll:=hA.out.2.2.len
    obtain ⟨a7,c7,e7⟩:=hA.out.1.shape
    rw [List.length_map] at e7
    obtain ⟨n7,hn7⟩:∃ n,ls.length=n:=⟨_,rfl⟩
    rw [hn7] at e7 hll
    subst e7
    replace hn7:=Box.mk hn7
    clear h10
    go_wp2_with (at_builtin; refine wpList_pushT rfl (.tmp 17) (.tmp 22) rfl w.heap.size _ (ls.map bT) [s.extract a i] rfl (hA.out.1.here (bel_alloc _ _)) (by have:=hA.out.2.1.size; simp; omega) (some ⟨wr.heap.size,0,none⟩) 1 1 rfl rfl (parts_new wr [s.extract a i] 9) (by rw [List.length_map,hn7.out]; omega) ?_)
    rintro v8 w8 hp8
    have hA8:Box (TxR w.heap.size w8 v8 ((ls++[(s.extract a i).data.toList]).map bT)/\Below w.heap.size w w8/\LnAt s (i+1) (i+1) (ls++[(s.extract a i).data.toList])):=
     ⟨by rw [List.map_append]; exact hp8.row,hp8.bel (mono_bel hA.out.2.1 (bel_alloc _ _) (Nat.le_refl _)) (hA.out.1.here (bel_alloc _ _)),hN.out⟩
    clear hA hp8 hN
    go_wp2_with fail
    exact ⟨⟨i+1,i+1,_,by omega,by omega,by go_num,by go_num,hA8⟩,by simp [intOf]; omega⟩
   ·have hN:Box (TxR w.heap.size wr u4 (ls.map bT)/\Below w.heap.size w wr/\LnAt s a (i+1) ls):=⟨hA.out.1,hA.out.2.1,hA.out.2.2.next hlt x hx h10⟩
    have hx10:((x.toNat:Int)==10)=false:=by
     have:x.toNat ≠ 10:=fun e=>h10 (UInt8.toNat_inj.1 e)
     simpa using (by omega:(x.toNat:Int) ≠ 10)
    clear h10 hA
    go_wp2_with fail
    exact ⟨⟨a,i+1,ls,by omega,by omega,rfl,by go_num,hN⟩,by simp [intOf]; omega⟩
  ·obtain rfl:i=s.size:=by omega
   have hst:=hA.out.2.2.st
   rw [List.take_of_length_le (by rw [data_len]; omega)] at hst
   have h1:lnT s=ls.map bT:=by unfold lnT; rw [hst]
   have h2:lnB s=decide ((a:Int)=(s.size:Int)):=by
    unfold lnB
    rw [hst]
    have hel:(s.extract a s.size).data.toList.length=s.size-a:=by rw [Lib.extract_data]; simp
    by_cases hae:a=s.size
    ·rw [decide_eq_true (by omega:(a:Int)=(s.size:Int)),decide_eq_true]
     exact List.eq_nil_of_length_eq_zero (by rw [hel]; omega)
    ·rw [decide_eq_false (by omega:¬ (a:Int)=(s.size:Int)),decide_eq_false]
     intro h
     simp only at h
     rw [h] at hel
     simp at hel
     omega
   have hL:Box (∀ b,b=decide ((a:Int)=(s.size:Int))->LinS w.heap.size s (.returned (.tuple #[u4,.bool b])) wr/\Below w.heap.size w wr):=⟨fun b hb=>⟨⟨u4,by rw [h2,hb],by rw [h1]; exact hA.out.1⟩,hA.out.2.1⟩⟩
   obtain ⟨a7,c7,e7⟩:=hA.out.1.shape
   obtain ⟨n7,hn7⟩:∃ n,(ls.map bT).length=n:=⟨_,rfl⟩
   rw [hn7] at e7
   clear hA hst h1 h2 hn7
   subst e7
   go_wp2_with fail
   go_ret2
   exact hL.out _ (by first | rfl | simp)
structure SigsAt (w:World) (v:Value) (sg:List (ByteArray × ByteArray)):Prop where
 ex:∃ (a:Option Addr) (cap:Nat),v=.slice a sg.length cap/\(0<sg.length->∃ blk off,a=some ⟨blk,off,none⟩/\blk<w.heap.size/\∀ i,i<sg.length->w.cell? ⟨blk,off+i*2,none⟩=some (.string (sg.getD i default).1)/\w.cell? ⟨blk,off+i*2+1,none⟩=some (.string (sg.getD i default).2))
theorem SigsAt.here {w w':World} {v:Value} {sg:List (ByteArray × ByteArray)} (h:SigsAt w v sg) (hb:Below w.heap.size w w'):SigsAt w' v sg:=by
 obtain ⟨a,cap,rfl,hh⟩:=h.ex
 refine ⟨a,cap,rfl,fun h0=>?_⟩
 obtain ⟨blk,off,e,hl,hc⟩:=hh h0
 exact ⟨blk,off,e,Nat.lt_of_lt_of_le hl hb.size,fun i hi=>⟨(hb.cell (p:=⟨blk,off+i*2,none⟩) hl).trans (hc i hi).1,(hb.cell (p:=⟨blk,off+i*2+1,none⟩) hl).trans (hc i hi).2⟩⟩
theorem SigsAt.at {w:World} {a:Option Addr} {n c:Nat} {sg:List (ByteArray × ByteArray)} (h:SigsAt w (.slice a n c) sg) (i:Nat) (hi:i<sg.length):∃ blk off,a=some ⟨blk,off,none⟩/\w.cell? ⟨blk,off+i*2,none⟩=some (.string (sg.getD i default).1)/\w.cell? ⟨blk,off+i*2+1,none⟩=some (.string (sg.getD i default).2):=by
 obtain ⟨a2,c2,e,hh⟩:=h.ex
 cases e
 obtain ⟨blk,off,rfl,_,hc⟩:=hh (by omega)
 exact ⟨blk,off,rfl,(hc i hi).1,(hc i hi).2⟩
def sigC (x:ByteArray × ByteArray):List Value:=[.string x.1,.string x.2]
theorem row_here {w w':World} {e:TypeId} {size n:Nat} {v:Value} {xs:List Value} (h:Pk.Row w e size v n xs) (hb:Below w.heap.size w w'):Pk.Row w' e size v n xs:=h.kept fun k hk=>hb.block k (h.lt k hk)
def sgC (sg:List (ByteArray × ByteArray)):List Value:=sg.flatMap sigC
theorem sgC_get:∀ (sg:List (ByteArray × ByteArray)) (i:Nat),i<sg.length->(sgC sg)[i*2]?=some (.string (sg.getD i default).1)/\(sgC sg)[i*2+1]?=some (.string (sg.getD i default).2)
 | [],i,h=>by simp at h
 | x::sg,0,_=>⟨rfl,rfl⟩
 | x::sg,i+1,h=>by
  have:=sgC_get sg i (by simpa using h)
  have e:sgC (x::sg)=.string x.1::.string x.2::sgC sg:=rfl
  rw [e,show (i+1)*2=i*2+1+1 by omega]
  simpa using this
structure SgRow (w0 w:World) (v:Value) (sg:List (ByteArray × ByteArray)):Prop where
 row:Pk.Row w 58 2 v sg.length (sgC sg)
 own:∀ k,v.ownBlock=some k->w0.heap.size<=k
 bel:Below w0.heap.size w0 w
theorem SgRow.sigs {w0 w:World} {v:Value} {sg:List (ByteArray × ByteArray)} (h:SgRow w0 w v sg):SigsAt w v sg:=by
 obtain ⟨a,c,rfl⟩:=h.row.shape
 refine ⟨a,c,rfl,fun h0=>?_⟩
 obtain ⟨g,c2,e,hl⟩:=h.row.some h0
 cases e
 refine ⟨g,0,rfl,hl,fun i hi=>?_⟩
 have h1:=sgC_get sg i hi
 rw [Nat.zero_add]
 exact ⟨h.row.cells _ _ h1.1,h.row.cells _ _ h1.2⟩
theorem SgRow.here {w0 w w':World} {v:Value} {sg:List (ByteArray × ByteArray)} (h:SgRow w0 w v sg) (hb:Below w.heap.size w w'):SgRow w0 w' v sg:=⟨row_here h.row hb,h.own,mono_bel h.bel hb (Nat.le_refl _)⟩
theorem info_sig:(Tryz.prog.info? 58).map (fun i=>(i.zero,i.size,i.bytes))=some (some (.agg #[.string ByteArray.empty,.string ByteArray.empty]),2,32):=by kernel_rfl
theorem sgC_length (sg:List (ByteArray × ByteArray)):(sgC sg).length=sg.length*2:=by
 induction sg with
 | nil=>rfl
 | cons x sg ih=>
  have e:sgC (x::sg)=.string x.1::.string x.2::sgC sg:=rfl
  rw [e]
  simp [ih]; omega
theorem sgC_append (a b:List (ByteArray × ByteArray)):sgC (a++b)=sgC a++sgC b:=by simp [sgC]
theorem SigsAt.cells {w:World} {blk off n c:Nat} {zs:List (ByteArray × ByteArray)} (h:SigsAt w (.slice (some ⟨blk,off,none⟩) n c) zs) (j:Nat) (u:Value) (hu:(sgC zs)[j]?=some u):w.cell? ⟨blk,off+j,none⟩=some u:=by
 have hj:j<zs.length*2:=by rw [<- sgC_length]; exact (List.getElem?_eq_some_iff.1 hu).1
 obtain ⟨a,cc,e,hh⟩:=h.ex
 cases e
 obtain ⟨b2,o2,e2,_,hc⟩:=hh (by omega)
 cases e2
 have hi:j / 2<zs.length:=by omega
 have h1:=hc _ hi
 have h2:=sgC_get zs _ hi
 rcases Nat.mod_two_eq_zero_or_one j with h0 | h0
 ·have hj2:j / 2*2=j:=by omega
  rw [hj2] at h1 h2
  rw [h1.1,<- hu,h2.1]
 ·have hj2:j / 2*2+1=j:=by omega
  rw [Nat.add_assoc,hj2] at h1
  rw [hj2] at h2
  rw [h1.2,<- hu,h2.2]
theorem push_sigs (w:World) (ty:TypeId) (v:Value) (n:Nat) (xs:List Value) (h:Pk.Row w 58 2 v n xs) (a:Option Addr) (m c:Nat) (zs:List (ByteArray × ByteArray)) (hm:zs.length=m) (hz:SigsAt w (.slice a m c) zs) (hlen:(n+m)*32<=140737488355328) :
  ∃ v' w',(Builtin.append_ #[118,118] ty #[v,.slice a m c]).run Tryz.prog w=.ok v' w'/\Pk.PushedRow w 58 2 v (n+m) (xs++sgC zs) v' w':=by
 obtain ⟨i0,hi,hz0,hz1,hz2⟩:=info_parts info_sig
 subst hm
 obtain ⟨a2,c2,e2,hh⟩:=hz.ex
 cases e2
 by_cases h0:0<zs.length
 ·obtain ⟨blk,off,rfl,hb,hc⟩:=hh h0
  exact Pk.push_row (P:=Tryz.prog) w 118 ty 58 i0 (.agg #[.string ByteArray.empty,.string ByteArray.empty]) 2 32 Tryz.underlying118 hi hz0 hz1 hz2 rfl (by decide) v n xs h ⟨blk,off,none⟩ zs.length c (sgC zs) (sgC_length zs)
   (fun j u hj=>by
    have hadd:(⟨blk,off,none⟩:Addr).add j=⟨blk,off+j,none⟩:=by
     unfold Addr.add
     split
     ·next h=>subst h; rfl
     ·rfl
    rw [hadd]
    exact hz.cells j u hj)
   (fun u hu=>by
    simp only [sgC,List.mem_flatMap,sigC] at hu
    obtain ⟨y,_,hy⟩:=hu
    rcases List.mem_cons.1 hy with rfl | hy
    ·rfl
    ·rcases List.mem_cons.1 hy with rfl | hy
     ·rfl
     ·cases hy) (by unfold maxLen; omega) hlen
 ·obtain rfl:zs=[]:=List.length_eq_zero_iff.1 (by omega)
  obtain ⟨a3,c3,rfl⟩:=h.shape
  have hle:n<=c3:=by
   obtain ⟨_,⟨h1,h2⟩ | ⟨g,cap,cur,h1,_,_,h3,_⟩⟩:=h
   ·omega
   ·cases h1; exact h3
  have hs:Src Tryz.prog i0.size 118 (.slice a 0 c) 0 [] w:=by
   cases a with
   | none=>exact Src.ofNil w Tryz.underlying118 c
   | some ad=>exact Src.ofSlice w Tryz.underlying118 ad 0 c [] (by simp) (fun j u hu=>by simp at hu) (fun u hu=>by cases hu)
  have hr:=run_append_nothing (P:=Tryz.prog) w 118 118 ty 58 i0 Tryz.underlying118 hi a3 n c3 hle (.slice a 0 c) hs
  exact ⟨_,w,hr,⟨by simpa [sgC] using h,Pk.Chg.refl _ _,fun k hk=>.inl hk⟩⟩
section
variable {w:World} {o:Oper} {a:Act} {Q:Exit->Act->World->Prop}
theorem wp_pushG {K:Act->World->Prop} (s x:Operand) (ho:o.op=.call { callee:=.builtin .append,args:=#[s,x],argTypes:=#[118,118] }) (v:Value) (n:Nat) (xs:List Value) (hs:a.eval s=v)
  (h:Pk.Row w 58 2 v n xs) (ad:Option Addr) (m c:Nat) (zs:List (ByteArray × ByteArray)) (hx:a.eval x=.slice ad m c) (hm:zs.length=m) (hz:SigsAt w (.slice ad m c) zs) (hlen:(n+m)*32<=140737488355328)
  (k:∀ v' w',Pk.PushedRow w 58 2 v (n+m) (xs++sgC zs) v' w'->K (a.put o.dst v') w'):o.wp Tryz.prog a w K Q:=by
 obtain ⟨v',w',hr,hp⟩:=push_sigs w o.type v n xs h ad m c zs hm hz hlen
 unfold Oper.wp execOp
 simp only [ho,resolve,invoke,builtin,Sem.run_bind,Sem.run_pure,Result.andThen_ok,List.map_toArray,List.map_cons,List.map_nil,hs,hx,hr]
 exact k _ _ hp
theorem wpList_pushG {ops:Array Oper} {rest:List Oper} (hgd:o.guard=none) (s x:Operand) (ho:o.op=.call { callee:=.builtin .append,args:=#[s,x],argTypes:=#[118,118] }) (v:Value) (n:Nat) (xs:List Value) (hs:a.eval s=v)
  (h:Pk.Row w 58 2 v n xs) (ad:Option Addr) (m c:Nat) (zs:List (ByteArray × ByteArray)) (hx:a.eval x=.slice ad m c) (hm:zs.length=m) (hz:SigsAt w (.slice ad m c) zs) (hlen:(n+m)*32<=140737488355328)
  (k:∀ v' w',Pk.PushedRow w 58 2 v (n+m) (xs++sgC zs) v' w'->wpList Tryz.prog ops Q rest (a.put o.dst v') w'):wpList Tryz.prog ops Q (o::rest) a w:=
 wpList_plain hgd fun _ hK=>wp_pushG s x ho v n xs hs h ad m c zs hx hm hz hlen fun v' w' hp=>hK _ _ (k v' w' hp)
end
theorem SgRow.pushL {w0 w w2:World} {v v':Value} {sg zs:List (ByteArray × ByteArray)} {m:Nat} (h:SgRow w0 w v sg) (hm:zs.length=m) (hp:Pk.PushedRow w 58 2 v (sg.length+m) (sgC sg++sgC zs) v' w2):SgRow w0 w2 v' (sg++zs):=by
 have hs:=h.bel.size
 refine ⟨by rw [sgC_append,List.length_append,hm]; exact hp.row,fun k hk=>?_,h.bel.trans (hp.chg.below hs fun i hi=>h.own i hi)⟩
 rcases hp.place k hk with h3 | h3
 ·exact h.own k h3
 ·omega
def fst {α:Type} (p:α->Bool):List α->Nat
 | []=>0
 | x::r=>if p x=true then 0 else fst p r+1
theorem fst_le {α:Type} (p:α->Bool):∀ l,fst p l<=l.length
 | []=>Nat.le_refl _
 | x::r=>by rw [fst]; have:=fst_le p r; split <;> simp <;> omega
theorem fst_at {α:Type} [Inhabited α] (p:α->Bool):∀ (l:List α) (i:Nat),i<=fst p l->((i<l.length/\p (l.getD i default)=false) ↔ i<fst p l)
 | [],i,h=>by simp [fst]
 | x::l,i,h=>by
  rw [fst] at h ⊢
  by_cases ha:p x=true
  ·rw [if_pos ha] at h ⊢
   obtain rfl:i=0:=by omega
   simp [ha]
  ·rw [if_neg ha] at h ⊢
   cases i with
   | zero=>simp [ha]
   | succ i=>
    have:=fst_at p l i (by omega)
    simp only [List.length_cons,Nat.succ_lt_succ_iff,List.getD_cons_succ]
    exact this
theorem fst_any {α:Type} (p:α->Bool):∀ l:List α,l.any p=decide (fst p l<l.length)
 | []=>rfl
 | x::l=>by
  rw [List.any_cons,fst,fst_any p l]
  by_cases ha:p x=true
  ·rw [if_pos ha,ha]; simp
  ·rw [if_neg ha,Bool.eq_false_iff.2 ha,Bool.false_or]; simp
def idxI {α:Type} (p:α->Bool) (l:List α):Int:=if fst p l<l.length then (fst p l:Int) else -1
theorem badsig_any (x1 x2:ByteArray) (w:World) (h2:x2.size<=140737488355328) :
  Calls Tryz.prog 214 #[.agg #[.string x1,.string x2]] w fun e w'=>e=.returned (.bool (!gS (x1,x2)))/\Below w.heap.size w w':=by
 have hb:=Box.mk (bel_alloc w (.cells #[.string x1,.string x2] 58))
 have hg:gS (x1,x2)=(decide (x1.size=32) && decide (1<=x2.size) && decide (x2.size<=1024)):=rfl
 by_cases k1:x1.size=32
 ·have d1:((x1.size:Int) != 32)=false:=by rw [k1]; rfl
  by_cases k2:1<=x2.size
  ·by_cases k3:x2.size<=1024
   ·have hv:Box ((!gS (x1,x2))=false):=⟨by rw [hg,decide_eq_true k1,decide_eq_true k2,decide_eq_true k3]; rfl⟩
    clear hg k1
    go_enter Tryz.func214,Tryz.ntmps214
    go_wp2_with fail
    go_ret
    exact ⟨ret_b (by rw [hv.out]; simp <;> omega),hb.out⟩
   ·have hv:Box ((!gS (x1,x2))=true):=⟨by rw [hg,decide_eq_true k1,decide_eq_true k2,decide_eq_false k3]; rfl⟩
    clear hg k1
    go_enter Tryz.func214,Tryz.ntmps214
    go_wp2_with fail
    go_ret
    exact ⟨ret_b (by rw [hv.out]; simp <;> omega),hb.out⟩
  ·have hv:Box ((!gS (x1,x2))=true):=⟨by rw [hg,decide_eq_true k1,decide_eq_false k2]; rfl⟩
   clear hg k1
   go_enter Tryz.func214,Tryz.ntmps214
   go_wp2_with fail
   go_ret
   exact ⟨ret_b hv.out,hb.out⟩
 ·have hv:Box ((!gS (x1,x2))=true):=⟨by rw [hg,decide_eq_false k1]; rfl⟩
  have d1:((x1.size:Int) != 32)=true:=by simpa using (by omega:(x1.size:Int) ≠ 32)
  clear hg k1
  go_enter Tryz.func214,Tryz.ntmps214
  go_wp2_with fail
  go_ret
  exact ⟨ret_b hv.out,hb.out⟩
theorem index_bad0 (P:ByteArray × ByteArray->Bool) (a:Option Addr) (n c:Nat) (sg:List (ByteArray × ByteArray)) (w:World) (hv:SigsAt w (.slice a n c) sg) (hn:sg.length=n) (hm:n<=4611686018427387903)
  (hP:∀ i,i<sg.length->∀ W,Below w.heap.size w W->Calls Tryz.prog 214 #[.agg #[.string (sg.getD i default).1,.string (sg.getD i default).2]] W fun e w'=>e=.returned (.bool (P (sg.getD i default)))/\Below W.heap.size W w') :
  Calls Tryz.prog 264 #[.slice a n c,.func (.func 214) #[] #[]] w fun e w'=>e=.returned (.int .i64 (idxI P sg))/\Below w.heap.size w w':=by
 have hle:=fst_le P sg
 have hat:=fst_at P sg
 have hix:idxI P sg=if fst P sg<sg.length then (fst P sg:Int) else -1:=rfl
 obtain ⟨X,hX⟩:∃ X,idxI P sg=X:=⟨_,rfl⟩
 rw [hX] at hix ⊢
 obtain ⟨k,hk⟩:∃ k,fst P sg=k:=⟨_,rfl⟩
 rw [hk] at hle hat hix
 rw [hn] at hle hat hix
 have hvB:=Box.mk hv
 have hnB:=Box.mk hn
 have hatB:=Box.mk hat
 have hixB:=Box.mk hix
 have hPB:=Box.mk hP
 have hB0:Box (Below w.heap.size w w):=⟨Below.refl _ _⟩
 clear hv hn hP hX hk hat hix
 go_enter Tryz.func264,Tryz.ntmps264
 go_wp2_with fail
 go_loopw [8] (fun q wr=>∃ i:Nat,i<=k/\q=.int .i64 (i:Int)/\Box (Below w.heap.size w wr)) (fun q _=>n-(intOf q).toNat)
 case atStart=>exact ⟨0,by omega,rfl,hB0⟩
 case round=>
  clear hB0
  obtain ⟨i,hi,rfl,hB⟩:=hrel
  by_cases hlt:i<n
  ·have hig:i<sg.length:=by rw [hnB.out]; exact hlt
   obtain ⟨b1,o1,rfl,k0,k1⟩:=(hvB.out.here hB.out).at i hig
   have hF:=hPB.out i hig wr hB.out
   have hka:=hatB.out i hi
   obtain ⟨x,hx⟩:∃ x,sg.getD i default=x:=⟨_,rfl⟩
   rw [hx] at k0 k1 hF hka
   obtain ⟨x1,x2⟩:=x
   simp only at k0 k1 hF
   obtain ⟨r,hr⟩:∃ r,P (x1,x2)=r:=⟨_,rfl⟩
   rw [hr] at hF hka
   have hii:(i:Int)<(n:Int):=by omega
   clear hx hig hr
   cases r with
   | true=>
    have hik:i=k:=by
     rcases Nat.lt_or_ge i k with h | h
     ·have:=(hka.2 h).2; cases this
     ·omega
    have hXe:X=(i:Int):=by rw [hixB.out,if_pos (by omega),hik]
    replace hXe:=Box.mk hXe
    clear hka hik
    go_wp2_with fail
    refine hF.mono ?_
    clear hF
    rintro e w3 ⟨rfl,hb3⟩
    have hB3:=Box.mk (mono_bel hB.out hb3 (Nat.le_refl _))
    clear hb3 hB
    go_wp2_with fail
    go_ret
    exact ⟨ret_i hXe.out,hB3.out⟩
   | false=>
    have hik:i<k:=hka.1 ⟨hlt,rfl⟩
    clear hka
    go_wp2_with fail
    refine hF.mono ?_
    clear hF
    rintro e w3 ⟨rfl,hb3⟩
    have hB3:=Box.mk (mono_bel hB.out hb3 (Nat.le_refl _))
    clear hb3 hB k0 k1
    go_wp2_with fail
    exact ⟨⟨i+1,by omega,by go_num,hB3⟩,by simp [intOf]; omega⟩
  ·have hXe:X = -1:=by rw [hixB.out,if_neg (by omega)]
   obtain rfl:i=n:=by omega
   replace hXe:=Box.mk hXe
   go_wp2_with fail
   go_ret
   exact ⟨ret_i hXe.out,hB.out⟩
theorem mem_getD {sg:List (ByteArray × ByteArray)} {i:Nat} (h:i<sg.length):sg.getD i default ∈ sg:=by
 rw [show sg.getD i default=sg[i] by simp [List.getD,h]]
 exact List.getElem_mem h
theorem index_bad (a:Option Addr) (n c:Nat) (sg:List (ByteArray × ByteArray)) (w:World) (hv:SigsAt w (.slice a n c) sg) (hn:sg.length=n) (hm:n<=4611686018427387903) (hz:∀ x ∈ sg,x.1.size<=140737488355328/\x.2.size<=140737488355328) :
  Calls Tryz.prog 264 #[.slice a n c,.func (.func 214) #[] #[]] w fun e w'=>e=.returned (.int .i64 (idxI (fun x => !gS x) sg))/\Below w.heap.size w w':=
 index_bad0 (fun x => !gS x) a n c sg w hv hn hm fun _ hi W _=>badsig_any _ _ W (hz _ (mem_getD hi)).2
theorem contains_bad (a:Option Addr) (n c:Nat) (sg:List (ByteArray × ByteArray)) (w:World) (hv:SigsAt w (.slice a n c) sg) (hn:sg.length=n) (hm:n<=4611686018427387903) (hz:∀ x ∈ sg,x.1.size<=140737488355328/\x.2.size<=140737488355328) :
  Calls Tryz.prog 213 #[.slice a n c,.func (.func 214) #[] #[]] w fun e w'=>e=.returned (.bool (!sg.all gS))/\Below w.heap.size w w':=by
 have hF:=index_bad a n c sg w hv hn hm hz
 have hr:(!sg.all gS)=decide (0<=idxI (fun x => !gS x) sg):=by
  rw [show (!sg.all gS)=sg.any (fun x => !gS x) by rw [List.not_all_eq_any_not],fst_any]
  unfold idxI
  by_cases h:fst (fun x => !gS x) sg<sg.length
  ·rw [if_pos h,decide_eq_true h,decide_eq_true]; omega
  ·rw [if_neg h,decide_eq_false h]; rfl
 rw [hr]
 obtain ⟨X,hX⟩:∃ X,idxI (fun x => !gS x) sg=X:=⟨_,rfl⟩
 rw [hX] at hF ⊢
 clear hv hn hm hz hr hX
 go_enter Tryz.func213,Tryz.ntmps213
 go_wp2_with fail
 refine hF.mono ?_
 rintro e w2 ⟨rfl,hb2⟩
 replace hb2:=Box.mk hb2
 clear hF
 go_wp2_with fail
 go_ret
 exact ⟨rfl,hb2.out⟩
theorem goodtext_any (t:ByteArray) (B:Nat) (w:World) (hL:NL B w) (hs:t.size<=1073741824) :
  Calls Tryz.prog 212 #[.string t] w fun e w'=>e=.returned (.bool (gT t.data.toList))/\w=w':=by
 obtain ⟨k,hk⟩:=hL.m
 have hS:=Tryz.strings_HasSuffix t ⟨#[10]⟩ w (by omega)
 have hP:=Tryz.strings_HasPrefix t ⟨#[10]⟩ w
 have hC:=Tryz.strings_Contains t ⟨#[10,10]⟩ k w (by omega) hk
 have hg:gT t.data.toList=(Lib.hasSuffix t.data.toList nl && !Lib.hasPrefix t.data.toList nl && !Lib.contains t.data.toList nl2):=rfl
 rw [hg]
 rw [show (⟨#[10]⟩:ByteArray).data.toList=nl from rfl] at hS hP
 rw [show (⟨#[10,10]⟩:ByteArray).data.toList=nl2 from rfl] at hC
 obtain ⟨x,hx⟩:∃ x,Lib.hasSuffix t.data.toList nl=x:=⟨_,rfl⟩
 obtain ⟨y,hy⟩:∃ x,Lib.hasPrefix t.data.toList nl=x:=⟨_,rfl⟩
 obtain ⟨z,hz⟩:∃ x,Lib.contains t.data.toList nl2=x:=⟨_,rfl⟩
 rw [hx] at hS
 rw [hy] at hP
 rw [hz] at hC
 rw [hx,hy,hz]
 clear hg hx hy hz hk hL hs
 cases x with
 | false=>
  clear hP hC
  go_enter Tryz.func212,Tryz.ntmps212
  go_wp2_with fail
  refine hS.mono ?_
  clear hS
  rintro e w1 ⟨rfl,hw⟩
  obtain rfl:w=w1:=hw.symm
  go_wp2_with fail
  go_ret
  exact ⟨rfl,rfl⟩
 | true=>
  cases y with
  | true=>
   clear hC
   go_enter Tryz.func212,Tryz.ntmps212
   go_wp2_with fail
   refine hS.mono ?_
   clear hS
   rintro e w1 ⟨rfl,hw⟩
   obtain rfl:w=w1:=hw.symm
   go_wp2_with fail
   refine hP.mono ?_
   clear hP
   rintro e w1 ⟨rfl,hw⟩
   obtain rfl:w=w1:=hw.symm
   go_wp2_with fail
   go_ret
   exact ⟨rfl,rfl⟩
  | false=>
   go_enter Tryz.func212,Tryz.ntmps212
   go_wp2_with fail
   refine hS.mono ?_
   clear hS
   rintro e w1 ⟨rfl,hw⟩
   obtain rfl:w=w1:=hw.symm
   go_wp2_with fail
   refine hP.mono ?_
   clear hP
   rintro e w1 ⟨rfl,hw⟩
   obtain rfl:w=w1:=hw.symm
   go_wp2_with fail
   refine hC.mono ?_
   clear hC
   rintro e w1 ⟨rfl,hw⟩
   obtain rfl:w=w1:=hw.symm
   go_wp2_with fail
   go_ret
   exact ⟨by simp,rfl⟩
def ZS (sg:List (ByteArray × ByteArray)):Prop:=∀ x ∈ sg,x.1.size<=1073741824/\x.2.size<=1073741824
theorem goodnote_any (t:ByteArray) (a:Option Addr) (n c:Nat) (sg:List (ByteArray × ByteArray)) (B:Nat) (w:World) (hL:NL B w) (hB:B<=w.heap.size) (hs:t.size<=1073741824) (hv:SigsAt w (.slice a n c) sg) (hn:sg.length=n) (hm:n<=1073741824) (hz:ZS sg) :
  Calls Tryz.prog 156 #[.agg #[.string t,.slice a n c]] w fun e w'=>e=.returned (.bool (gN (t,sg)))/\Below w.heap.size w w':=by
 obtain ⟨W1,hW1⟩:∃ W1,w.alloc (.cells #[.string t,.slice a n c] 120)=W1:=⟨_,rfl⟩
 have hB1:Below w.heap.size w W1:=by rw [<- hW1]; exact bel_alloc _ _
 have hS1:Pk.Blk W1 w.heap.size [.string t,.slice a n c] 120:=by rw [<- hW1]; exact Pk.Blk.new w _ _
 have s0:W1.cell? ⟨w.heap.size,0,none⟩=some (.string t):=hS1.cell 0
 have s1:W1.cell? ⟨w.heap.size,1,none⟩=some (.slice a n c):=hS1.cell 1
 have hT:=goodtext_any t B W1 (hL.here hB hB1) hs
 have hC:=contains_bad a n c sg W1 (hv.here hB1) hn (by omega) (fun x hx=>⟨by have:=(hz x hx).1; omega,by have:=(hz x hx).2; omega⟩)
 have hg:gN (t,sg)=(gT t.data.toList && decide (sg.length<=16) && sg.all gS):=rfl
 rw [hg]
 obtain ⟨x,hx⟩:∃ x,gT t.data.toList=x:=⟨_,rfl⟩
 obtain ⟨y,hy⟩:∃ x,sg.all gS=x:=⟨_,rfl⟩
 rw [hx] at hT ⊢
 rw [hy] at hC ⊢
 rw [hn]
 replace hB1:=Box.mk hB1
 clear hg hx hy hL hB hs hv hn hz hS1
 cases x with
 | false=>
  clear hC
  go_enter Tryz.func156,Tryz.ntmps156
  go_wp2_with fail
  refine hT.mono ?_
  clear hT
  rintro e w1 ⟨rfl,rfl⟩
  go_wp2_with fail
  go_ret
  exact ⟨by simp,hB1.out⟩
 | true=>
  by_cases h16:n<=16
  ·rw [decide_eq_true h16]
   go_enter Tryz.func156,Tryz.ntmps156
   go_wp2_with fail
   refine hT.mono ?_
   clear hT
   rintro e w1 ⟨rfl,rfl⟩
   go_wp2_with fail
   refine hC.mono ?_
   clear hC
   rintro e w2 ⟨rfl,hb2⟩
   have hB2:=Box.mk (mono_bel hB1.out hb2 (Nat.le_refl _))
   clear hb2 hB1
   go_wp2_with fail
   go_ret
   exact ⟨by simp,hB2.out⟩
  ·rw [decide_eq_false h16]
   clear hC
   go_enter Tryz.func156,Tryz.ntmps156
   go_wp2_with fail
   refine hT.mono ?_
   clear hT
   rintro e w1 ⟨rfl,rfl⟩
   go_wp2_with fail
   go_ret
   exact ⟨by simp,hB1.out⟩
end Go.Proofs.YthpfpkikmaiddaaGreatDoor.Nt
