/- - -/
import Derived.Test.YthpfpkikmaiddaaGreatDoorZnn
import Derived.Test.YthpfpkikmaiddaaGreatDoorZni
import Derived.Test.YthpfpkikmaiddaaGreatDoorZmq
import Derived.Test.YthpfpkikmaiddaaGreatDoorZwm
import Derived.Test.YthpfpkikmaiddaaGreatDoorZmt
set_option linter.all false
set_option maxHeartbeats 6400000
set_option maxRecDepth 100000
namespace Go.Proofs.YthpfpkikmaiddaaGreatDoor.Nt
open Go Go.RowKit
theorem rd_ZS {s:ByteArray}:ZS (rdG s)/\(rdG s).length<=16/\(rdT s).size<=s.size:=by
 unfold rdG rdT
 cases h:rdN s.data.toList with
 | none=>exact ⟨fun x hx=>(by cases hx),by simp,Nat.zero_le _⟩
 | some n=>
  obtain ⟨t,sg⟩:=n
  obtain ⟨h1,h2⟩:=rdN_some h
  obtain ⟨_,h4,h5⟩:=gN_iff.1 h1
  refine ⟨fun x hx=>⟨by have:=(h5 x hx).1; omega,by have:=(h5 x hx).2.2; omega⟩,h4,?_⟩
  have h6:=congrArg List.length h2
  have h7:(byN (t,sg)).length=t.data.toList.length+(1+(sgL sg).length):=by show (t.data.toList++10::sgL sg).length=_; simp; omega
  rw [h7,data_len,data_len] at h6
  show t.size<=s.size
  omega
def ck00:Ck:=⟨⟨#[]⟩,0,⟨#[]⟩⟩
def sdV (s:ByteArray) (ids:List ByteArray) (need:Int):Ck × Int:=
 if rdE s=0 then match pCk (rdT s).data.toList with
  | none=>(ck00,3)
  | some c=>if chkB ids need=true then (if enB ids need (rdT s) (rdG s)=true then (c,0) else (ck00,9)) else (ck00,1)
 else (ck00,3)
theorem sdV_read {s:ByteArray} {ids:List ByteArray} {need:Int} (h:rdE s=3):sdV s ids need=(ck00,3):=by unfold sdV; rw [if_neg (by omega)]
theorem sdV_parse {s:ByteArray} {ids:List ByteArray} {need:Int} (h:rdE s=0) (h2:pCk (rdT s).data.toList=none):sdV s ids need=(ck00,3):=by unfold sdV; rw [if_pos h,h2]
theorem sdV_check {s:ByteArray} {ids:List ByteArray} {need:Int} {c:Ck} (h:rdE s=0) (h2:pCk (rdT s).data.toList=some c) (h3:chkB ids need=false):sdV s ids need=(ck00,1):=by unfold sdV; rw [if_pos h,h2]; simp [h3]
theorem sdV_few {s:ByteArray} {ids:List ByteArray} {need:Int} {c:Ck} (h:rdE s=0) (h2:pCk (rdT s).data.toList=some c) (h3:chkB ids need=true) (h4:enB ids need (rdT s) (rdG s)=false):sdV s ids need=(ck00,9):=by unfold sdV; rw [if_pos h,h2]; simp [h3,h4]
theorem sdV_yes {s:ByteArray} {ids:List ByteArray} {need:Int} {c:Ck} (h:rdE s=0) (h2:pCk (rdT s).data.toList=some c) (h3:chkB ids need=true) (h4:enB ids need (rdT s) (rdG s)=true):sdV s ids need=(c,0):=by unfold sdV; rw [if_pos h,h2]; simp [h3,h4]
theorem rdE_or (s:ByteArray):rdE s=0∨rdE s=3:=by
 unfold rdE
 cases rdN s.data.toList with
 | none=>exact .inr rfl
 | some _=>exact .inl rfl
theorem SigsAt.up {w:World} {v:Value} {sg:List (ByteArray × ByteArray)} (h:SigsAt w v sg):Go.Proofs.YthpfpkikmaiddaaGreatDoor.SigsAt w v sg:=⟨h.ex⟩
structure Sd (w0:World) (v:Value) (need:Int) (w:World):Prop where
 set:Pk.Blk w w0.heap.size [v,.int .i64 need] 104
 res:Pk.Blk w (w0.heap.size+1) [.string ⟨#[]⟩,.int .i64 0,.string ⟨#[]⟩] 109
 bel:Below w0.heap.size w0 w
theorem Sd.on {w0 w w':World} {v:Value} {need:Int} (h:Sd w0 v need w) (hb:Below w.heap.size w w'):Sd w0 v need w':=
 ⟨(hb.block _ h.set.lt).trans h.set,(hb.block _ h.res.lt).trans h.res,mono_bel h.bel hb (Nat.le_refl _)⟩
theorem Sd.start (w0:World) (v:Value) (need:Int):Sd w0 v need ((w0.alloc (.cells #[v,.int .i64 need] 104)).alloc (.cells #[.string ⟨#[]⟩,.int .i64 0,.string ⟨#[]⟩] 109)):=by
 have h1:Pk.Blk (w0.alloc (.cells #[v,.int .i64 need] 104)) w0.heap.size [v,.int .i64 need] 104:=Pk.Blk.new w0 _ _
 have h2:=Pk.Blk.new (w0.alloc (.cells #[v,.int .i64 need] 104)) [.string ⟨#[]⟩,.int .i64 0,.string ⟨#[]⟩] 109
 have hs:(w0.alloc (.cells #[v,.int .i64 need] 104)).heap.size=w0.heap.size+1:=by simp
 rw [hs] at h2
 have hb:=bel_alloc (w0.alloc (.cells #[v,.int .i64 need] 104)) (.cells #[.string ⟨#[]⟩,.int .i64 0,.string ⟨#[]⟩] 109)
 exact ⟨(hb.block _ h1.lt).trans h1,h2,mono_bel (bel_alloc w0 _) hb (Nat.le_refl _)⟩
theorem Sd.cells {w0 w:World} {v:Value} {need:Int} (h:Sd w0 v need w):w.cell? ⟨w0.heap.size,0,none⟩=some v/\w.cell? ⟨w0.heap.size,1,none⟩=some (.int .i64 need)/\w.cell? ⟨w0.heap.size+1,0,none⟩=some (.string ⟨#[]⟩)/\w.cell? ⟨w0.heap.size+1,1,none⟩=some (.int .i64 0)/\w.cell? ⟨w0.heap.size+1,2,none⟩=some (.string ⟨#[]⟩)
  /\ w.frozen? ⟨w0.heap.size+1,0,none⟩=false/\w.frozen? ⟨w0.heap.size+1,1,none⟩=false/\w.frozen? ⟨w0.heap.size+1,2,none⟩=false:=
 ⟨h.set.cell 0,h.set.cell 1,h.res.cell 0,h.res.cell 1,h.res.cell 2,h.res.free 0,h.res.free 1,h.res.free 2⟩
def sdF (w0 w:World) (c:Ck):World:=((w.setCell ⟨w0.heap.size+1,0,none⟩ (.string c.o)).setCell ⟨w0.heap.size+1,1,none⟩ (.int .i64 c.n)).setCell ⟨w0.heap.size+1,2,none⟩ (.string c.r)
theorem Sd.fin {w0 w:World} {v:Value} {need:Int} (h:Sd w0 v need w) (c:Ck):(sdF w0 w c).cell? ⟨w0.heap.size+1,0,none⟩=some (.string c.o)/\(sdF w0 w c).cell? ⟨w0.heap.size+1,1,none⟩=some (.int .i64 c.n)/\(sdF w0 w c).cell? ⟨w0.heap.size+1,2,none⟩=some (.string c.r)/\Below w0.heap.size w0 (sdF w0 w c):=by
 have k:Pk.Blk (sdF w0 w c) (w0.heap.size+1) [.string c.o,.int .i64 c.n,.string c.r] 109:=((h.res.setCell 0 (.string c.o)).setCell 1 (.int .i64 c.n)).setCell 2 (.string c.r)
 refine ⟨k.cell 0,k.cell 1,k.cell 2,?_⟩
 exact (((h.bel.setCell (p:=⟨w0.heap.size+1,0,none⟩) (by simp) _)).setCell (p:=⟨w0.heap.size+1,1,none⟩) (by simp) _).setCell (p:=⟨w0.heap.size+1,2,none⟩) (by simp) _
theorem signed_any (s:ByteArray) (v:Value) (ids:List ByteArray) (need:Int) (B:Nat) (w:World) (hL:NL B w) (hB:B<=w.heap.size) (hK:KIs w) (hs:s.size<=536870912) (hv:PartsAt w v ids) (hl:ids.length<=maxLen) :
  Calls Tryz.prog 58 #[.string s,.agg #[v,.int .i64 need]] w fun e w'=>e=.returned (.tuple #[.agg #[.string (sdV s ids need).1.o,.int .i64 (sdV s ids need).1.n,.string (sdV s ids need).1.r],.int .i64 (sdV s ids need).2])/\Below w.heap.size w w':=by
 have hS0:=Box.mk (Sd.start w v need)
 obtain ⟨_,h16,hTs⟩:=rd_ZS (s:=s)
 have hR:=Box.mk (fun w' (h:Below w.heap.size w w')=>read_any s B w' (hL.here hB h) (Nat.le_trans hB h.size) (by omega))
 unfold RdI at hR
 have hP:=Box.mk (fun w' (h:Below w.heap.size w w')=>parse_any (rdT s) B w' (hL.here hB h) (Nat.le_trans hB h.size) (by omega))
 have hC:=Box.mk (fun w' (h:Below w.heap.size w w')=>check_any v ids need w' (hv.here h) hl)
 have hE:=Box.mk (fun w' (a:Option Addr) c (h:Below w.heap.size w w') (hg:SigsAt w' (.slice a (rdG s).length c) (rdG s))=>enough_any v ids need (rdT s) (.slice a (rdG s).length c) (rdG s) w' (hv.here h) hl hg.up (by unfold maxLen; omega) (hK.below h hK.lt) (by omega))
 obtain ⟨a0,c0,rfl⟩:∃ a c,v=.slice a ids.length c:=by
  obtain ⟨a,cap,h1,_⟩:=hv.ex
  exact ⟨a,cap,h1⟩
 rw [chkE_of] at hC
 clear hL hB hK hs hv hl hTs
 obtain ⟨sd0,hsd0⟩:∃ x,sdV s ids need=x:=⟨_,rfl⟩
 rw [hsd0]
 obtain ⟨T,hT⟩:∃ T,rdT s=T:=⟨_,rfl⟩
 obtain ⟨sg,hsg⟩:∃ T,rdG s=T:=⟨_,rfl⟩
 rw [hT,hsg] at hR hE
 rw [hT] at hP
 rw [hsg] at h16
 have h01:=fun h=>sdV_read (s:=s) (ids:=ids) (need:=need) h
 have h02:=fun h h2=>sdV_parse (s:=s) (ids:=ids) (need:=need) h h2
 have h03:=fun c h h2 h3=>sdV_check (s:=s) (ids:=ids) (need:=need) (c:=c) h h2 h3
 have h04:=fun c h h2 h3 h4=>sdV_few (s:=s) (ids:=ids) (need:=need) (c:=c) h h2 h3 h4
 have h05:=fun c h h2 h3 h4=>sdV_yes (s:=s) (ids:=ids) (need:=need) (c:=c) h h2 h3 h4
 have h06:=rdE_or s
 rw [hsd0] at h01
 simp only [hsd0,hT,hsg] at h02 h03 h04 h05
 obtain ⟨E,hEe⟩:∃ E,rdE s=E:=⟨_,rfl⟩
 rw [hEe] at h06 hR h01
 simp only [hEe] at h02 h03 h04 h05
 obtain ⟨cb,hcb⟩:∃ b,chkB ids need=b:=⟨_,rfl⟩
 obtain ⟨eb,heb⟩:∃ b,enB ids need T sg=b:=⟨_,rfl⟩
 rw [hcb] at hC
 rw [heb] at hE
 simp only [hcb,heb] at h03 h04 h05
 obtain ⟨L,hLe⟩:∃ L,ids.length=L:=⟨_,rfl⟩
 rw [hLe] at hS0 hC hE ⊢
 clear hLe hcb heb hEe hsd0 hT hsg ids
 rcases h06 with rfl | rfl
 ·cases hp:pCk T.data.toList with
  | none=>
   obtain rfl:=h02 rfl hp
   rw [prV_none hp] at hP
   clear hC hE hp h01 h02 h03 h04 h05
   unfold ck00
   go_enter Tryz.func58,Tryz.ntmps58
   go_wp2_with fail
   refine (hR.out _ hS0.out.bel).mono ?_
   clear hR
   rintro e w3 ⟨v3,rfl,hr3⟩
   obtain ⟨a3,c3,rfl⟩:=hr3.row.shape
   obtain ⟨wn,hwn⟩:∃ wn,w3.alloc (.cells #[.string T,.slice a3 sg.length c3] 120)=wn:=⟨_,rfl⟩
   have hbn:Below w3.heap.size w3 wn:=by rw [<- hwn]; exact bel_alloc _ _
   have hS3:=Box.mk ((hS0.out.on hr3.bel).on hbn)
   have hG3:=Box.mk (hr3.sigs.here hbn)
   have hN3:Box (Pk.Blk wn w3.heap.size [.string T,.slice a3 sg.length c3] 120):=⟨by rw [<- hwn]; exact Pk.Blk.new w3 _ _⟩
   have n0:wn.cell? ⟨w3.heap.size,0,none⟩=some (.string T):=hN3.out.cell 0
   have n1:wn.cell? ⟨w3.heap.size,1,none⟩=some (.slice a3 sg.length c3):=hN3.out.cell 1
   obtain ⟨bn,hbn2⟩:∃ b,w3.heap.size=b:=⟨_,rfl⟩
   rw [hbn2] at hN3 n0 n1
   have hF:=hP.out wn hS3.out.bel
   clear hr3 hbn hS0
   go_wp2_with fail
   refine hF.mono ?_
   clear hF n0 n1
   rintro e w4 ⟨rfl,hb⟩
   have hS4:=Box.mk ((hS3.out.on hb).on (bel_alloc w4 (.cells #[.string ⟨#[]⟩,.int .i64 0,.string ⟨#[]⟩] 109)))
   clear hb hS3 hN3 hP
   obtain ⟨_,_,r0,r1,r2,f0,f1,f2⟩:=hS4.out.cells
   have hfin:=Box.mk (hS4.out.fin ck00)
   go_wp2_with fail
   obtain ⟨d0,d1,d2,hBz⟩:=hfin.out
   unfold sdF ck00 at d0 d1 d2 hBz
   refine bodyPost_ret (v:=.tuple #[.agg #[.string ⟨#[]⟩,.int .i64 0,.string ⟨#[]⟩],.int .i64 3]) (by simp [results,Tryz.results58,go_sem,d0,d1,d2]; try rfl) rfl ⟨rfl,hBz⟩
  | some c=>
   rw [prV_some hp] at hP
   obtain ⟨c1,c2,c3'⟩:=c
   cases cb with
   | false=>
    obtain rfl:=h03 _ rfl hp rfl
    clear hE hp h01 h02 h03 h04 h05
    unfold ck00
    go_enter Tryz.func58,Tryz.ntmps58
    go_wp2_with fail
    refine (hR.out _ hS0.out.bel).mono ?_
    clear hR
    rintro e w3 ⟨v3,rfl,hr3⟩
    obtain ⟨a3,c3,rfl⟩:=hr3.row.shape
    obtain ⟨wn,hwn⟩:∃ wn,w3.alloc (.cells #[.string T,.slice a3 sg.length c3] 120)=wn:=⟨_,rfl⟩
    have hbn:Below w3.heap.size w3 wn:=by rw [<- hwn]; exact bel_alloc _ _
    have hS3:=Box.mk ((hS0.out.on hr3.bel).on hbn)
    have hG3:=Box.mk (hr3.sigs.here hbn)
    have hN3:Box (Pk.Blk wn w3.heap.size [.string T,.slice a3 sg.length c3] 120):=⟨by rw [<- hwn]; exact Pk.Blk.new w3 _ _⟩
    have n0:wn.cell? ⟨w3.heap.size,0,none⟩=some (.string T):=hN3.out.cell 0
    have n1:wn.cell? ⟨w3.heap.size,1,none⟩=some (.slice a3 sg.length c3):=hN3.out.cell 1
    obtain ⟨bn,hbn2⟩:∃ b,w3.heap.size=b:=⟨_,rfl⟩
    rw [hbn2] at hN3 n0 n1
    have hF:=hP.out wn hS3.out.bel
    clear hr3 hbn hS0
    go_wp2_with fail
    refine hF.mono ?_
    clear hF n0 n1 hP
    rintro e w4 ⟨rfl,hb⟩
    obtain ⟨wc,hwc⟩:∃ wc,w4.alloc (.cells #[.string c1,.int .i64 c2,.string c3'] 109)=wc:=⟨_,rfl⟩
    have hbc:Below w4.heap.size w4 wc:=by rw [<- hwc]; exact bel_alloc _ _
    have hS4:=Box.mk ((hS3.out.on hb).on hbc)
    have hG4:=Box.mk ((hG3.out.here hb).here hbc)
    have hN4a:Pk.Blk w4 bn [.string T,.slice a3 sg.length c3] 120:=(hb.block _ hN3.out.lt).trans hN3.out
    have hN4:Box (Pk.Blk wc bn [.string T,.slice a3 sg.length c3] 120):=⟨(hbc.block _ hN4a.lt).trans hN4a⟩
    have hC4:Box (Pk.Blk wc w4.heap.size [.string c1,.int .i64 c2,.string c3'] 109):=⟨by rw [<- hwc]; exact Pk.Blk.new w4 _ _⟩
    obtain ⟨b8,hb8⟩:∃ b,w4.heap.size=b:=⟨_,rfl⟩
    rw [hb8] at hC4
    have hF:=hC.out wc hS4.out.bel
    clear hb hbc hN4a hN3 hC
    obtain ⟨s0,s1,r0,r1,r2,f0,f1,f2⟩:=hS4.out.cells
    rw [if_neg (by decide)] at hF
    clear hG3 hG4 hN4 hC4 hS3
    go_wp2_with fail
    refine hF.mono ?_
    clear hF s0 s1 r0 r1 r2 f0 f1 f2
    rintro e w5 ⟨rfl,hb⟩
    have hS5:=Box.mk (hS4.out.on hb)
    clear hb hS4
    obtain ⟨_,_,r0,r1,r2,f0,f1,f2⟩:=hS5.out.cells
    have hfin:=Box.mk (hS5.out.fin ck00)
    go_wp2_with fail
    obtain ⟨d0,d1,d2,hBz⟩:=hfin.out
    unfold sdF ck00 at d0 d1 d2 hBz
    refine bodyPost_ret (v:=.tuple #[.agg #[.string ⟨#[]⟩,.int .i64 0,.string ⟨#[]⟩],.int .i64 1]) (by simp [results,Tryz.results58,go_sem,d0,d1,d2]; try rfl) rfl ⟨rfl,hBz⟩
   | true=>
    cases eb with
    | false=>
     obtain rfl:=h04 _ rfl hp rfl rfl
     clear hp h01 h02 h03 h04 h05
     unfold ck00
     go_enter Tryz.func58,Tryz.ntmps58
     go_wp2_with fail
     refine (hR.out _ hS0.out.bel).mono ?_
     clear hR
     rintro e w3 ⟨v3,rfl,hr3⟩
     obtain ⟨a3,c3,rfl⟩:=hr3.row.shape
     obtain ⟨wn,hwn⟩:∃ wn,w3.alloc (.cells #[.string T,.slice a3 sg.length c3] 120)=wn:=⟨_,rfl⟩
     have hbn:Below w3.heap.size w3 wn:=by rw [<- hwn]; exact bel_alloc _ _
     have hS3:=Box.mk ((hS0.out.on hr3.bel).on hbn)
     have hG3:=Box.mk (hr3.sigs.here hbn)
     have hN3:Box (Pk.Blk wn w3.heap.size [.string T,.slice a3 sg.length c3] 120):=⟨by rw [<- hwn]; exact Pk.Blk.new w3 _ _⟩
     have n0:wn.cell? ⟨w3.heap.size,0,none⟩=some (.string T):=hN3.out.cell 0
     have n1:wn.cell? ⟨w3.heap.size,1,none⟩=some (.slice a3 sg.length c3):=hN3.out.cell 1
     obtain ⟨bn,hbn2⟩:∃ b,w3.heap.size=b:=⟨_,rfl⟩
     rw [hbn2] at hN3 n0 n1
     have hF:=hP.out wn hS3.out.bel
     clear hr3 hbn hS0
     go_wp2_with fail
     refine hF.mono ?_
     clear hF n0 n1 hP
     rintro e w4 ⟨rfl,hb⟩
     obtain ⟨wc,hwc⟩:∃ wc,w4.alloc (.cells #[.string c1,.int .i64 c2,.string c3'] 109)=wc:=⟨_,rfl⟩
     have hbc:Below w4.heap.size w4 wc:=by rw [<- hwc]; exact bel_alloc _ _
     have hS4:=Box.mk ((hS3.out.on hb).on hbc)
     have hG4:=Box.mk ((hG3.out.here hb).here hbc)
     have hN4a:Pk.Blk w4 bn [.string T,.slice a3 sg.length c3] 120:=(hb.block _ hN3.out.lt).trans hN3.out
     have hN4:Box (Pk.Blk wc bn [.string T,.slice a3 sg.length c3] 120):=⟨(hbc.block _ hN4a.lt).trans hN4a⟩
     have hC4:Box (Pk.Blk wc w4.heap.size [.string c1,.int .i64 c2,.string c3'] 109):=⟨by rw [<- hwc]; exact Pk.Blk.new w4 _ _⟩
     obtain ⟨b8,hb8⟩:∃ b,w4.heap.size=b:=⟨_,rfl⟩
     rw [hb8] at hC4
     have hF:=hC.out wc hS4.out.bel
     clear hb hbc hN4a hN3 hC
     obtain ⟨s0,s1,r0,r1,r2,f0,f1,f2⟩:=hS4.out.cells
     rw [if_pos trivial] at hF
     clear hS3 hG3
     go_wp2_with fail
     refine hF.mono ?_
     clear hF r0 r1 r2 f0 f1 f2 s0 s1
     rintro e w5 ⟨rfl,hb⟩
     have hS5:=Box.mk (hS4.out.on hb)
     have hG5:=Box.mk (hG4.out.here hb)
     have hN5:Box (Pk.Blk w5 bn [.string T,.slice a3 sg.length c3] 120):=⟨(hb.block _ hN4.out.lt).trans hN4.out⟩
     have hC5:Box (Pk.Blk w5 b8 [.string c1,.int .i64 c2,.string c3'] 109):=⟨(hb.block _ hC4.out.lt).trans hC4.out⟩
     have m0:w5.cell? ⟨bn,0,none⟩=some (.string T):=hN5.out.cell 0
     have m1:w5.cell? ⟨bn,1,none⟩=some (.slice a3 sg.length c3):=hN5.out.cell 1
     obtain ⟨s0,s1,r0,r1,r2,f0,f1,f2⟩:=hS5.out.cells
     have hF:=hE.out w5 a3 c3 hS5.out.bel hG5.out
     clear hb hS4 hG4 hN4 hC4 hE hG5 hN5 hwc hwn
     go_wp2_with fail
     refine hF.mono ?_
     clear hF r0 r1 r2 f0 f1 f2 m0 m1 s0 s1
     rintro e w6 ⟨rfl,hb⟩
     have hS6:=Box.mk (hS5.out.on hb)
     clear hb hS5 hC5
     obtain ⟨_,_,r0,r1,r2,f0,f1,f2⟩:=hS6.out.cells
     have hfin:=Box.mk (hS6.out.fin ck00)
     go_wp2_with fail
     obtain ⟨d0,d1,d2,hBz⟩:=hfin.out
     unfold sdF ck00 at d0 d1 d2 hBz
     refine bodyPost_ret (v:=.tuple #[.agg #[.string ⟨#[]⟩,.int .i64 0,.string ⟨#[]⟩],.int .i64 9]) (by simp [results,Tryz.results58,go_sem,d0,d1,d2]; try rfl) rfl ⟨rfl,hBz⟩
    | true=>
     obtain rfl:=h05 _ rfl hp rfl rfl
     clear hp h01 h02 h03 h04 h05
     go_enter Tryz.func58,Tryz.ntmps58
     go_wp2_with fail
     refine (hR.out _ hS0.out.bel).mono ?_
     clear hR
     rintro e w3 ⟨v3,rfl,hr3⟩
     obtain ⟨a3,c3,rfl⟩:=hr3.row.shape
     obtain ⟨wn,hwn⟩:∃ wn,w3.alloc (.cells #[.string T,.slice a3 sg.length c3] 120)=wn:=⟨_,rfl⟩
     have hbn:Below w3.heap.size w3 wn:=by rw [<- hwn]; exact bel_alloc _ _
     have hS3:=Box.mk ((hS0.out.on hr3.bel).on hbn)
     have hG3:=Box.mk (hr3.sigs.here hbn)
     have hN3:Box (Pk.Blk wn w3.heap.size [.string T,.slice a3 sg.length c3] 120):=⟨by rw [<- hwn]; exact Pk.Blk.new w3 _ _⟩
     have n0:wn.cell? ⟨w3.heap.size,0,none⟩=some (.string T):=hN3.out.cell 0
     have n1:wn.cell? ⟨w3.heap.size,1,none⟩=some (.slice a3 sg.length c3):=hN3.out.cell 1
     obtain ⟨bn,hbn2⟩:∃ b,w3.heap.size=b:=⟨_,rfl⟩
     rw [hbn2] at hN3 n0 n1
     have hF:=hP.out wn hS3.out.bel
     clear hr3 hbn hS0
     go_wp2_with fail
     refine hF.mono ?_
     clear hF n0 n1 hP
     rintro e w4 ⟨rfl,hb⟩
     obtain ⟨wc,hwc⟩:∃ wc,w4.alloc (.cells #[.string c1,.int .i64 c2,.string c3'] 109)=wc:=⟨_,rfl⟩
     have hbc:Below w4.heap.size w4 wc:=by rw [<- hwc]; exact bel_alloc _ _
     have hS4:=Box.mk ((hS3.out.on hb).on hbc)
     have hG4:=Box.mk ((hG3.out.here hb).here hbc)
     have hN4a:Pk.Blk w4 bn [.string T,.slice a3 sg.length c3] 120:=(hb.block _ hN3.out.lt).trans hN3.out
     have hN4:Box (Pk.Blk wc bn [.string T,.slice a3 sg.length c3] 120):=⟨(hbc.block _ hN4a.lt).trans hN4a⟩
     have hC4:Box (Pk.Blk wc w4.heap.size [.string c1,.int .i64 c2,.string c3'] 109):=⟨by rw [<- hwc]; exact Pk.Blk.new w4 _ _⟩
     obtain ⟨b8,hb8⟩:∃ b,w4.heap.size=b:=⟨_,rfl⟩
     rw [hb8] at hC4
     have hF:=hC.out wc hS4.out.bel
     clear hb hbc hN4a hN3 hC
     obtain ⟨s0,s1,r0,r1,r2,f0,f1,f2⟩:=hS4.out.cells
     rw [if_pos trivial] at hF
     clear hS3 hG3
     go_wp2_with fail
     refine hF.mono ?_
     clear hF r0 r1 r2 f0 f1 f2 s0 s1
     rintro e w5 ⟨rfl,hb⟩
     have hS5:=Box.mk (hS4.out.on hb)
     have hG5:=Box.mk (hG4.out.here hb)
     have hN5:Box (Pk.Blk w5 bn [.string T,.slice a3 sg.length c3] 120):=⟨(hb.block _ hN4.out.lt).trans hN4.out⟩
     have hC5:Box (Pk.Blk w5 b8 [.string c1,.int .i64 c2,.string c3'] 109):=⟨(hb.block _ hC4.out.lt).trans hC4.out⟩
     have m0:w5.cell? ⟨bn,0,none⟩=some (.string T):=hN5.out.cell 0
     have m1:w5.cell? ⟨bn,1,none⟩=some (.slice a3 sg.length c3):=hN5.out.cell 1
     obtain ⟨s0,s1,r0,r1,r2,f0,f1,f2⟩:=hS5.out.cells
     have hF:=hE.out w5 a3 c3 hS5.out.bel hG5.out
     clear hb hS4 hG4 hN4 hC4 hE hG5 hN5 hwc hwn
     go_wp2_with fail
     refine hF.mono ?_
     clear hF r0 r1 r2 f0 f1 f2 m0 m1 s0 s1
     rintro e w6 ⟨rfl,hb⟩
     have hS6:=Box.mk (hS5.out.on hb)
     have hC6:Box (Pk.Blk w6 b8 [.string c1,.int .i64 c2,.string c3'] 109):=⟨(hb.block _ hC5.out.lt).trans hC5.out⟩
     have k0:w6.cell? ⟨b8,0,none⟩=some (.string c1):=hC6.out.cell 0
     have k1:w6.cell? ⟨b8,1,none⟩=some (.int .i64 c2):=hC6.out.cell 1
     have k2:w6.cell? ⟨b8,2,none⟩=some (.string c3'):=hC6.out.cell 2
     clear hb hS5 hC5
     obtain ⟨_,_,r0,r1,r2,f0,f1,f2⟩:=hS6.out.cells
     have hfin:=Box.mk (hS6.out.fin ⟨c1,c2,c3'⟩)
     go_wp2_with fail
     obtain ⟨d0,d1,d2,hBz⟩:=hfin.out
     unfold sdF at d0 d1 d2 hBz
     refine bodyPost_ret (v:=.tuple #[.agg #[.string c1,.int .i64 c2,.string c3'],.int .i64 0]) (by simp [results,Tryz.results58,go_sem,d0,d1,d2]; try rfl) rfl ⟨rfl,hBz⟩
 ·obtain rfl:=h01 rfl
  clear hC hE hP h01 h02 h03 h04 h05
  unfold ck00
  go_enter Tryz.func58,Tryz.ntmps58
  go_wp2_with fail
  refine (hR.out _ hS0.out.bel).mono ?_
  clear hR
  rintro e w3 ⟨v3,rfl,hr3⟩
  obtain ⟨a3,c3,rfl⟩:=hr3.row.shape
  have hS3:=Box.mk ((hS0.out.on hr3.bel).on (bel_alloc w3 (.cells #[.string T,.slice a3 sg.length c3] 120)))
  clear hr3
  obtain ⟨_,_,r0,r1,r2,f0,f1,f2⟩:=hS3.out.cells
  have hfin:=Box.mk (hS3.out.fin ck00)
  go_wp2_with fail
  obtain ⟨d0,d1,d2,hBz⟩:=hfin.out
  unfold sdF ck00 at d0 d1 d2 hBz
  refine bodyPost_ret (v:=.tuple #[.agg #[.string ⟨#[]⟩,.int .i64 0,.string ⟨#[]⟩],.int .i64 3]) (by simp [results,Tryz.results58,go_sem,d0,d1,d2]; try rfl) rfl ⟨rfl,hBz⟩
end Go.Proofs.YthpfpkikmaiddaaGreatDoor.Nt
namespace Go.Proofs.YthpfpkikmaiddaaGreatDoor.Wt
open Go Go.RowKit Go.Proofs.YthpfpkikmaiddaaGreatDoor.Pk Go.Proofs.YthpfpkikmaiddaaGreatDoor.Nt Go.Proofs.YthpfpkikmaiddaaGreatDoor.Tg
def rfE (c:WCfg) (W:WitM) (k:Ck) (ps:List ByteArray):Int:=
 if k.o ≠ c.o then 1 else if k.n<W.n then 12 else if k.n=W.n/\k.r ≠ W.r then 13
 else if W.n<k.n/\cosE W.n k.n ps W.r k.r ≠ 0 then 11 else if W.u=2 ^ c.h then 8 else 0
def asE0 (c:WCfg) (W:WitM) (s:ByteArray) (ps:List ByteArray):Int:=if (sdV s [c.l] 1).2 ≠ 0 then (sdV s [c.l] 1).2 else rfE c W (sdV s [c.l] 1).1 ps
section
variable (b h:Nat) (c:WCfg) (D:Dev) (W:WitM) (s:ByteArray) (ps:List ByteArray)
def asE:Int:=if asE0 c W s ps ≠ 0 then asE0 c W s ps else cmE b h D W.C (nxC W (sdV s [c.l] 1).1)
def asD:Dev:=if asE0 c W s ps ≠ 0 then D else cmD b h D W.C (nxC W (sdV s [c.l] 1).1)
def rmM (W:WitM) (k:Ck):WitM:=if cmE b h D W.C (nxC W k)=0 then { W with C:=cmC b h D W.C (nxC W k),n:=k.n,r:=k.r } else { W with C:=cmC b h D W.C (nxC W k) }
def asM:WitM:=if asE0 c W s ps ≠ 0 then W else if cmE b h D W.C (nxC W (sdV s [c.l] 1).1)=0 then { rmM b h D W (sdV s [c.l] 1).1 with u:=W.u+1 } else rmM b h D W (sdV s [c.l] 1).1
def asI:ByteArray:=if asE b h c D W s ps=0 then keyID c.s c.h else ⟨#[]⟩
def asT:ByteArray:=if asE b h c D W s ps=0 then keyS c.s c.h W.u (ckT (sdV s [c.l] 1).1) else ⟨#[]⟩
end
theorem sdV_some {s:ByteArray} {ids:List ByteArray} {need:Int} (h:(sdV s ids need).2=0):rdE s=0/\pCk (rdT s).data.toList=some (sdV s ids need).1/\gC (sdV s ids need).1=true/\ckT (sdV s ids need).1=rdT s:=by
 have key:∀ k,pCk (rdT s).data.toList=some k->gC k=true/\ckT k=rdT s:=fun k hk=>by
  obtain ⟨h1,h2⟩:=pCk_some hk
  exact ⟨h1,by unfold ckT; rw [h2]⟩
 unfold sdV at h ⊢
 split at h
 ·next he=>
  rw [if_pos he]
  split at h
  ·simp at h
  ·next k hk=>
   rw [hk]
   split at h
   ·next h1=>
    split at h
    ·next h2=>rw [if_pos h1,if_pos h2]; exact ⟨he,rfl,key k hk⟩
    ·simp at h
   ·simp at h
 ·simp at h
theorem rfE_zero {c:WCfg} {W:WitM} {k:Ck} {ps:List ByteArray} (h:rfE c W k ps=0):k.o=c.o/\W.n<=k.n/\(k.n=W.n->k.r=W.r)/\(W.n<k.n->cosE W.n k.n ps W.r k.r=0)/\W.u ≠ 2 ^ c.h:=by
 unfold rfE at h
 split at h
 ·cases h
 ·next h1=>
  split at h
  ·cases h
  ·next h2=>
   split at h
   ·cases h
   ·next h3=>
    split at h
    ·cases h
    ·next h4=>
     split at h
     ·cases h
     ·next h5=>
      exact ⟨Classical.not_not.1 h1,by omega,fun e=>Classical.byContradiction fun hn=>h3 ⟨e,hn⟩,fun e=>Classical.byContradiction fun hn=>h4 ⟨e,hn⟩,h5⟩
theorem asE0_zero {c:WCfg} {W:WitM} {s:ByteArray} {ps:List ByteArray} (h:asE0 c W s ps=0):(sdV s [c.l] 1).2=0/\rfE c W (sdV s [c.l] 1).1 ps=0:=by
 unfold asE0 at h
 split at h
 ·next h1=>exact absurd h h1
 ·next h1=>exact ⟨Classical.not_not.1 h1,h⟩
end Go.Proofs.YthpfpkikmaiddaaGreatDoor.Wt
