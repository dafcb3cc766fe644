/- - -/
import Derived.Defers
import Derived.RegionCalls
import Derived.Test.YthpfpkikmaiddaaGreatDoorZka
set_option linter.all false
set_option maxHeartbeats 1600000
set_option maxRecDepth 100000
namespace Go.Proofs.YthpfpkikmaiddaaGreatDoor
open Go Go.RowKit Go.MuLone
def lcells (s:ByteArray) (h u:Nat) (d:Int) (v:Value):List Value:=[.string s,.int .i64 (h:Int),.int .i64 (u:Int),.int .u32 d,.int .i32 1,.int .u32 0,v]
theorem grow_any (b:Nat) (pl:Addr) (s:ByteArray) (h u:Nat) (w:World) (hK:KIs w) (hs:s.size<=1125899906842624) (hh:h<=4)
  (hb:Blk w b (lcells s h u 0 (.slice none 0 0)) 145) (hp:w.cell? pl=some (.pointer (some ⟨b,0,none⟩))) (hpb:pl.block ≠ b) :
  Calls Tryz.prog 175 #[.pointer (some pl)] w fun e w'=>e=.returned (.tuple #[])/\Blk w' w.heap.size (tcells s h) 9/\Blk w' b (lcells s h u 0 (treeV h (some w.heap.size))) 145/\Pk.Chg (fun i=>i=b) w w':=by
 have hF:=plant_any s h w.drew hK hs hh
 have hsz:w.drew.heap.size=w.heap.size:=rfl
 rw [hsz] at hF
 have c0:w.drew.cell? ⟨b,0,none⟩=some (.string s):=hb.cell 0
 have c1:w.drew.cell? ⟨b,1,none⟩=some (.int .i64 (h:Int)):=hb.cell 1
 have cp:w.drew.cell? pl=some (.pointer (some ⟨b,0,none⟩)):=hp
 have hlt:=hb.lt
 have hplt:pl.block<w.heap.size:=block_lt_of_cell hp
 obtain ⟨N,hN⟩:∃ N,2*2 ^ h=N:=⟨_,rfl⟩
 have hv:treeV h (some w.heap.size)=.slice (some ⟨w.heap.size,0,none⟩) N N:=by rw [treeV,hN]
 rw [hv] at hF ⊢
 clear hN hv
 have hbB:=Box.mk hb
 clear hb hK hs hh
 go_enter Tryz.func175,Tryz.ntmps175
 go_wp2_with fail
 refine region_go (C:=fun w'=>w'.cell? ⟨b,0,none⟩=some (.string s)/\w'.cell? ⟨b,1,none⟩=some (.int .i64 (h:Int))/\w'.cell? pl=some (.pointer (some ⟨b,0,none⟩))) rfl ?_
 refine go_calms [0,1,2,3,4,5,6,7,8] 4 rfl (by kernel_rfl) (by kernel_rfl) (by kernel_rfl) ⟨c0,c1,cp⟩ ?_
 simp [nth]
 try simp only [Act.put]
 refine quiet_any rfl (.pointer (some ⟨b,0,none⟩)) (fun w' hw'=>by have h:=hw'.2.2; go_simp) ?_
 simp only [Act.put,zT9,zS9,zZ9]
 refine quiet_any rfl (.pointer (some ⟨b,0,none⟩)) (fun w' hw'=>by have h:=hw'.2.2; go_simp) ?_
 simp only [Act.put,zT9,zS9,zZ9]
 refine quiet_any rfl (.pointer (some ⟨b,0,none⟩)) (fun w' hw'=>by have h:=hw'.1; go_simp) ?_
 simp only [Act.put,zT9,zS9,zZ9]
 refine quiet_any rfl (.pointer (some ⟨b,0,none⟩)) (fun w' hw'=>by have h:=hw'.1; go_simp) ?_
 simp only [Act.put,zT9,zS9,zZ9]
 refine quiet_any rfl (.string s) (fun w' hw'=>by have h:=hw'.1; go_simp) ?_
 simp only [Act.put,zT9,zS9,zZ9]
 refine quiet_any rfl (.pointer (some ⟨b,0,none⟩)) (fun w' hw'=>by have h:=hw'.2.2; go_simp) ?_
 simp only [Act.put,zT9,zS9,zZ9]
 refine quiet_any rfl (.pointer (some ⟨b,0,none⟩)) (fun w' hw'=>by have h:=hw'.1; go_simp) ?_
 simp only [Act.put,zT9,zS9,zZ9]
 refine quiet_any rfl (.pointer (some ⟨b,1,none⟩)) (fun w' hw'=>by have h:=hw'.2.1; go_simp) ?_
 simp only [Act.put,zT9,zS9,zZ9]
 refine quiet_any rfl (.int .i64 (h:Int)) (fun w' hw'=>by have h:=hw'.2.1; go_simp) ?_
 simp only [Act.put,zT9,zS9,zZ9]
 refine wpQuiet_nil ?_
 refine go_forced 9 (by kernel_rfl) (goOp_wp 9 rfl rfl (fun K hK=>?_))
 go_simp
 refine hF.mono ?_
 rintro e w2 ⟨rfl,hT2,hb2⟩
 have hb3:Blk w2 b (lcells s h u 0 (.slice none 0 0)) 145:=(show Blk w.drew b _ _ from hbB.out).below hb2 hlt
 have C2:w2.cell? ⟨b,0,none⟩=some (.string s)/\w2.cell? ⟨b,1,none⟩=some (.int .i64 (h:Int))/\w2.cell? pl=some (.pointer (some ⟨b,0,none⟩)):=⟨hb3.cell 0,hb3.cell 1,(hb2.cell hplt).trans cp⟩
 refine hK _ _ C2 ?_
 clear hF hK K
 refine go_calms [10,11] 1 rfl (by kernel_rfl) (by kernel_rfl) (by kernel_rfl) C2 ?_
 simp [nth]
 try simp only [Act.put,zT9,zS9,zZ9]
 refine quiet_any rfl (.pointer (some ⟨b,0,none⟩)) (fun w' hw'=>by have h:=hw'.1; go_simp) ?_
 simp only [Act.put,zT9,zS9,zZ9]
 refine quiet_any rfl (.pointer (some ⟨b,6,none⟩)) (fun w' hw'=>by have h:=hw'.1; go_simp) ?_
 simp only [Act.put,zT9,zS9,zZ9]
 refine wpQuiet_nil ?_
 have hc:w2.cell? ⟨b,6,none⟩=some (.slice none 0 0):=hb3.cell 6
 have hfz:=hb3.free 6
 have hb4:Box (Blk (w2.setCell ⟨b,6,none⟩ (.slice (some ⟨w.heap.size,0,none⟩) N N)) b (lcells s h u 0 (.slice (some ⟨w.heap.size,0,none⟩) N N)) 145):=⟨hb3.setCell 6 (.slice (some ⟨w.heap.size,0,none⟩) N N)⟩
 have hT4:Box (Blk (w2.setCell ⟨b,6,none⟩ (.slice (some ⟨w.heap.size,0,none⟩) N N)) w.heap.size (tcells s h) 9):=⟨by
  unfold Blk at hT2 ⊢
  rw [<- hT2]; exact Below.heap_setCell _ _ _ _ (by simp; omega)⟩
 have hC4:Box (Pk.Chg (fun i=>i=b) w (w2.setCell ⟨b,6,none⟩ (.slice (some ⟨w.heap.size,0,none⟩) N N))):=⟨((Pk.Chg.of_below ((dB w).trans hb2)).mono (T:=fun i=>i=b) fun i hi hb=>absurd hi (by omega)).setCell (p:=⟨b,6,none⟩) rfl _⟩
 have C3:(w2.setCell ⟨b,6,none⟩ (.slice (some ⟨w.heap.size,0,none⟩) N N)).cell? ⟨b,0,none⟩=some (.string s)/\(w2.setCell ⟨b,6,none⟩ (.slice (some ⟨w.heap.size,0,none⟩) N N)).cell? ⟨b,1,none⟩=some (.int .i64 (h:Int))/\(w2.setCell ⟨b,6,none⟩ (.slice (some ⟨w.heap.size,0,none⟩) N N)).cell? pl=some (.pointer (some ⟨b,0,none⟩)):=
  ⟨hb4.out.cell 0,hb4.out.cell 1,(World.cell?_setCell_other _ ⟨b,6,none⟩ pl _ (fun e=>hpb (by rw [<- e]))).trans C2.2.2⟩
 clear hb2 hT2 hb3
 refine go_forced 12 (by kernel_rfl) (goOp_wp 12 rfl rfl (fun K hK=>?_))
 go_simp
 refine hK _ _ C3 ?_
 clear hK K
 refine go_done (by kernel_rfl) ?_
 go_simp
 go_end0
 exact ⟨rfl,hT4.out,hb4.out,hC4.out⟩
theorem store_deferred (a:Addr) (x:Value) (u:FrameMode) (w:World) (hc:w.cell? a=some x) (hz:w.frozen? a=false) :
  CallsD Tryz.prog 275 #[.pointer (some a),.bool true] u w fun e u' w'=>u'=u/\(e=.returned (.tuple #[])/\w'=w.drew.setCell a (.int .u32 1)):=by
 have hc':w.drew.cell? a=some x:=by go_simp
 have hz':w.drew.frozen? a=false:=by go_simp
 have hst:=run_call_store (P:=Tryz.prog) Tryz.func309 (by kernel_rfl) (by kernel_rfl) (by kernel_rfl) (by kernel_rfl) (k:=.u32) (y:=1) hc' hz'
 go_enter_d Tryz.func275,Tryz.ntmps275
 go_wp2
 go_region_calls
 all_goals (go_end0; exact ⟨rfl,rfl⟩)
theorem slow_any (b:Nat) (pl:Addr) (s:ByteArray) (h u:Nat) (w:World) (hK:KIs w) (hs:s.size<=1125899906842624) (hh:h<=4)
  (hb:Blk w b (kcells s h u 0 (.slice none 0 0)) 145) (hp:w.cell? pl=some (.pointer (some ⟨b,0,none⟩))) (hpb:pl.block ≠ b) :
  Calls Tryz.prog 223 #[.pointer (some ⟨b,3,none⟩),.func (.func 175) #[] #[.pointer (some pl)]] w fun e w'=>e=.returned (.tuple #[])/\Blk w' w.heap.size (tcells s h) 9/\Blk w' b (kcells s h u 1 (treeV h (some w.heap.size))) 145/\Pk.Chg (fun i=>i=b) w w':=by
 have l0:w.cell? ⟨b,4,none⟩=some (.int .i32 0):=hb.cell 4
 have lz:w.frozen? ⟨b,4,none⟩=false:=hb.free 4
 obtain ⟨w1,hw1⟩:∃ w1,w.setCell ⟨b,4,none⟩ (.int .i32 1)=w1:=⟨_,rfl⟩
 have hb1:Blk w1 b (lcells s h u 0 (.slice none 0 0)) 145:=by rw [<- hw1]; exact hb.setCell 4 (.int .i32 1)
 have hC1:Pk.Chg (fun i=>i=b) w w1:=by rw [<- hw1]; exact (Pk.Chg.refl (fun i=>i=b) w).setCell (p:=⟨b,4,none⟩) rfl _
 have hz1:w1.heap.size=w.heap.size:=by rw [<- hw1]; simp
 have hp1:w1.cell? pl=some (.pointer (some ⟨b,0,none⟩)):=by rw [<- hw1]; exact (World.cell?_setCell_other _ ⟨b,4,none⟩ pl _ (fun e=>hpb (by rw [<- e]))).trans hp
 have hlk:=lock_free Tryz.muLib ⟨b,4,none⟩ w l0 lz
 rw [hw1] at hlk
 have hl:=run_call_load (P:=Tryz.prog) Tryz.func272 (by kernel_rfl) (by kernel_rfl) (by kernel_rfl) .u32 (by kernel_rfl) (show w1.cell? ⟨b,3,none⟩=some (.int .u32 0) from hb1.cell 3)
 have hG:=grow_any b pl s h u w1 (hK.chg hC1 (fun e=>hK.blk_ne hb e.symm)) hs hh hb1 hp1 hpb
 rw [hz1] at hG
 have hnot:∀ (x:Bool) (w:World),(Op.unary .not (.bool x)).run Tryz.prog w=.ok (.bool (!x)) w:=fun _ _=>rfl
 have hblt:=hb.lt
 replace hC1:=Box.mk hC1
 replace hw1:=Box.mk hw1
 clear hb1 hp1 hK hp hb hs
 go_enter_defers Tryz.func223,Tryz.ntmps223
 go_wp2_with (first | (go_at_call 273; refine hlk.mono ?_; rintro e w' ⟨rfl,rfl⟩) | (go_at_call 175; refine hG.mono ?_; rintro e w2 ⟨rfl,hT,hb2,hC2⟩) | (go_at_call 222; go_in))
 have hT1:Box (Blk w2 w.heap.size (tcells s h) 9):=⟨hT⟩
 have hCC:Pk.Chg (fun i=>i=b) w w2:=hC1.out.trans hC2 (fun i _ e=>e)
 obtain ⟨v,hv⟩:∃ v,treeV h (some w.heap.size)=v:=⟨_,rfl⟩
 rw [hv] at hb2 ⊢
 have hb3:Blk w2.drew b (lcells s h u 0 v) 145:=hb2
 have hb4:Blk (w2.drew.setCell ⟨b,3,none⟩ (.int .u32 1)) b (lcells s h u 1 v) 145:=hb3.setCell 3 (.int .u32 1)
 have hb5:Blk ((w2.drew.setCell ⟨b,3,none⟩ (.int .u32 1)).setCell ⟨b,4,none⟩ (.int .i32 0)) b (kcells s h u 1 v) 145:=hb4.setCell 4 (.int .i32 0)
 refine leaves_cons (f:=275) (args:=#[.pointer (some ⟨b,3,none⟩),.bool true]) (by simp) (by simp [go_sem]) ?_
 refine (store_deferred ⟨b,3,none⟩ (.int .u32 0) _ w2 (hb2.cell 3) (hb2.free 3)).mono ?_
 rintro e u' w'' ⟨rfl,rfl,rfl⟩
 refine leaves_cons (f:=274) (args:=#[.pointer (some ⟨b,4,none⟩)]) (by simp [settle]) (by simp [go_sem]) ?_
 refine (unlock_deferred Tryz.muLib ⟨b,4,none⟩ _ _ (hb4.cell 4) (hb4.free 4)).mono ?_
 rintro e u' w'' ⟨rfl,rfl,rfl⟩
 have hfin:Blk ((w2.drew.setCell ⟨b,3,none⟩ (.int .u32 1)).setCell ⟨b,4,none⟩ (.int .i32 0)) w.heap.size (tcells s h) 9/\Pk.Chg (fun i=>i=b) w ((w2.drew.setCell ⟨b,3,none⟩ (.int .u32 1)).setCell ⟨b,4,none⟩ (.int .i32 0)):=by
  refine ⟨?_,((hCC.drew).setCell (p:=⟨b,3,none⟩) rfl _).setCell (p:=⟨b,4,none⟩) rfl _⟩
  have h1:=hT1.out
  unfold Blk at h1 ⊢
  rw [<- h1]
  refine (Below.heap_setCell _ _ _ _ ?_).trans ((Below.heap_setCell _ _ _ _ ?_).trans rfl) <;> (simp; omega)
 simp [Leaves,settle,results,Tryz.results223]
 exact ⟨hfin.1,hb5,hfin.2⟩
theorem do_first (b:Nat) (pl:Addr) (s:ByteArray) (h u:Nat) (w:World) (hK:KIs w) (hs:s.size<=1125899906842624) (hh:h<=4)
  (hb:Blk w b (kcells s h u 0 (.slice none 0 0)) 145) (hp:w.cell? pl=some (.pointer (some ⟨b,0,none⟩))) (hpb:pl.block ≠ b) :
  Calls Tryz.prog 174 #[.pointer (some ⟨b,3,none⟩),.func (.func 175) #[] #[.pointer (some pl)]] w fun e w'=>e=.returned (.tuple #[])/\Blk w' w.heap.size (tcells s h) 9/\Blk w' b (kcells s h u 1 (treeV h (some w.heap.size))) 145/\Pk.Chg (fun i=>i=b) w w':=by
 have hl:=run_call_load (P:=Tryz.prog) Tryz.func272 (by kernel_rfl) (by kernel_rfl) (by kernel_rfl) .u32 (by kernel_rfl) (show w.cell? ⟨b,3,none⟩=some (.int .u32 0) from hb.cell 3)
 have hF:=slow_any b pl s h u w hK hs hh hb hp hpb
 have hnot:∀ (x:Bool) (w:World),(Op.unary .not (.bool x)).run Tryz.prog w=.ok (.bool (!x)) w:=fun _ _=>rfl
 clear hb hp hK hs
 go_enter Tryz.func174,Tryz.ntmps174
 go_wp2_with (first | (go_at_call 223; refine hF.mono ?_; rintro e w2 ⟨rfl,hT,hb2,hC2⟩) | (go_at_call 222; go_in))
 go_end0
 exact ⟨rfl,hT,hb2,hC2⟩
theorem do_done (a:Addr) (fv:Value) (w:World) (h0:w.cell? a=some (.int .u32 1)) :
  Calls Tryz.prog 174 #[.pointer (some a),fv] w fun e w'=>e=.returned (.tuple #[])/\w'=w:=by
 have hl:=run_call_load (P:=Tryz.prog) Tryz.func272 (by kernel_rfl) (by kernel_rfl) (by kernel_rfl) .u32 (by kernel_rfl) h0
 have hnot:∀ (x:Bool) (w:World),(Op.unary .not (.bool x)).run Tryz.prog w=.ok (.bool (!x)) w:=fun _ _=>rfl
 go_enter Tryz.func174,Tryz.ntmps174
 go_wp2
 go_end0
 exact ⟨rfl,rfl⟩
theorem nodes_first (b:Nat) (s:ByteArray) (h u:Nat) (w:World) (k:KeyAt w b none s h u) (hK:KIs w) (hs:s.size<=1125899906842624) :
  Calls Tryz.prog 117 #[.pointer (some ⟨b,0,none⟩)] w fun e w'=>e=.returned (treeV h (some (w.heap.size+1)))/\KeyAt w' b (some (w.heap.size+1)) s h u/\Pk.Chg (fun i=>i=b) w w':=by
 have hmf:∀ (fn:Fn) (first cap:Array Value) (w:World),(Instr.makeFunc fn first cap).run Tryz.prog w=.ok (.func fn first cap) w:=fun _ _ _ _=>rfl
 have hlt:=k.lt
 obtain ⟨w1,hw1⟩:∃ w1,w.alloc (.cells #[.pointer (some ⟨b,0,none⟩)] 76)=w1:=⟨_,rfl⟩
 have hB1:Below w.heap.size w w1:=by rw [<- hw1]; exact (Below.refl _ _).alloc (Nat.le_refl _) _
 have hz1:w1.heap.size=w.heap.size+1:=by rw [<- hw1]; simp
 have hb1:Blk w1 b (kcells s h u 0 (.slice none 0 0)) 145:=k.blk.below hB1 hlt
 have hp1:w1.cell? ⟨w.heap.size,0,none⟩=some (.pointer (some ⟨b,0,none⟩)):=by rw [<- hw1]; exact World.cell?_alloc_at _ _ _ _ rfl
 have hF:=do_first b ⟨w.heap.size,0,none⟩ s h u w1 (hK.below hB1 hK.lt) hs k.low hb1 hp1 (by simp; omega)
 rw [hz1] at hF
 have hlow:=k.low
 obtain ⟨N,hN⟩:∃ N,2*2 ^ h=N:=⟨_,rfl⟩
 have hv:treeV h (some (w.heap.size+1))=.slice (some ⟨w.heap.size+1,0,none⟩) N N:=by rw [treeV,hN]
 have hkk:∀ w',Blk w' (w.heap.size+1) (tcells s h) 9->Blk w' b (kcells s h u 1 (.slice (some ⟨w.heap.size+1,0,none⟩) N N)) 145->KeyAt w' b (some (w.heap.size+1)) s h u:=fun w' h1 h2=>
  ⟨by rw [hv]; exact h2,fun t e=>(by cases e; exact ⟨by omega,h1⟩),hlow⟩
 rw [hv] at hF ⊢
 replace hkk:=Box.mk hkk
 replace hB1:=Box.mk hB1
 clear k hK hs hb1 hN hv hlow
 go_enter Tryz.func117,Tryz.ntmps117
 go_wp2_with fail
 refine hF.mono ?_
 rintro e w2 ⟨rfl,hT,hb2,hC2⟩
 clear hF
 have c6:w2.cell? ⟨b,6,none⟩=some (.slice (some ⟨w.heap.size+1,0,none⟩) N N):=hb2.cell 6
 have hp2:w2.cell? ⟨w.heap.size,0,none⟩=some (.pointer (some ⟨b,0,none⟩)):=by
  rw [<- hp1]
  unfold World.cell?
  rw [hC2.block w.heap.size (by omega) (by omega)]
 have hfin:=Box.mk (hkk.out w2 hT hb2)
 have hC:Box (Pk.Chg (fun i=>i=b) w w2):=⟨(chg0 hB1.out).trans hC2 (fun i _ e=>e)⟩
 clear hT hb2 hC2 hkk
 go_wp2_with fail
 go_ret
 exact ⟨rfl,hfin.out,hC.out⟩
theorem nodes_again (b t:Nat) (s:ByteArray) (h u:Nat) (w:World) (k:KeyAt w b (some t) s h u) :
  Calls Tryz.prog 117 #[.pointer (some ⟨b,0,none⟩)] w fun e w'=>e=.returned (treeV h (some t))/\Below w.heap.size w w':=by
 have hmf:∀ (fn:Fn) (first cap:Array Value) (w:World),(Instr.makeFunc fn first cap).run Tryz.prog w=.ok (.func fn first cap) w:=fun _ _ _ _=>rfl
 have hlt:=k.lt
 obtain ⟨w1,hw1⟩:∃ w1,w.alloc (.cells #[.pointer (some ⟨b,0,none⟩)] 76)=w1:=⟨_,rfl⟩
 have hB1:Below w.heap.size w w1:=by rw [<- hw1]; exact (Below.refl _ _).alloc (Nat.le_refl _) _
 have hb1:Blk w1 b (kcells s h u 1 (treeV h (some t))) 145:=k.blk.below hB1 hlt
 obtain ⟨N,hN⟩:∃ N,2*2 ^ h=N:=⟨_,rfl⟩
 have hv:treeV h (some t)=.slice (some ⟨t,0,none⟩) N N:=by rw [treeV,hN]
 rw [hv] at hb1 ⊢
 have hp1:w1.cell? ⟨w.heap.size,0,none⟩=some (.pointer (some ⟨b,0,none⟩)):=by rw [<- hw1]; exact World.cell?_alloc_at _ _ _ _ rfl
 have hF:=do_done ⟨b,3,none⟩ (.func (.func 175) #[] #[.pointer (some ⟨w.heap.size,0,none⟩)]) w1 (hb1.cell 3)
 have c6:w1.cell? ⟨b,6,none⟩=some (.slice (some ⟨t,0,none⟩) N N):=hb1.cell 6
 replace hB1:=Box.mk hB1
 clear k hb1 hN hv
 go_enter Tryz.func117,Tryz.ntmps117
 go_wp2_with fail
 refine hF.mono ?_
 rintro e w2 ⟨rfl,rfl⟩
 clear hF
 go_wp2_with fail
 go_ret
 exact ⟨rfl,hB1.out⟩
structure Grown (w:World) (b:Nat) (O:Option Nat) (s:ByteArray) (h u t:Nat) (w':World):Prop where
 at_:KeyAt w' b (some t) s h u
 from_:O=some t∨O=none/\w.heap.size<=t
 chg:Pk.Chg (fun i=>i=b) w w'
theorem nodes_any (b:Nat) (O:Option Nat) (s:ByteArray) (h u:Nat) (w:World) (k:KeyAt w b O s h u) (hK:KIs w) (hs:s.size<=1125899906842624) :
  Calls Tryz.prog 117 #[.pointer (some ⟨b,0,none⟩)] w fun e w'=>∃ t,e=.returned (treeV h (some t))/\Grown w b O s h u t w':=by
 cases O with
 | none=>exact (nodes_first b s h u w k hK hs).mono fun e w' ⟨h1,h2,h3⟩=>⟨_,h1,h2,.inr ⟨rfl,by omega⟩,h3⟩
 | some t=>exact (nodes_again b t s h u w k).mono fun e w' ⟨h1,h2⟩=>⟨t,h1,k.here h2,.inl rfl,chg0 h2⟩
end Go.Proofs.YthpfpkikmaiddaaGreatDoor
namespace Go.Proofs.YthpfpkikmaiddaaGreatDoor
open Go Go.RowKit
theorem top_any (t N:Nat) (x:ByteArray) (w:World) (hN:2<=N) (hc:w.cell? ⟨t,1,none⟩=some (.string x)) :
  Calls Tryz.prog 118 #[.slice (some ⟨t,0,none⟩) N N] w fun e w'=>e=.returned (.string x)/\w'=w:=by
 go_enter Tryz.func118,Tryz.ntmps118
 go_wp2_with fail
 go_ret
 exact ⟨rfl,rfl⟩
theorem beside_any (t N n h:Nat) (s:ByteArray) (w:World) (hN:2*2 ^ h=N) (hn:n<2 ^ h) (hh:h<=4) (ht:Blk w t (tcells s h) 9) :
  Calls Tryz.prog 210 #[.slice (some ⟨t,0,none⟩) N N,.int .i64 (n:Int)] w fun e w'=>e=.returned (.string (accT (besV s n) h))/\Below w.heap.size w w':=by
 have hI0:Box (Lib.IsBuilder 226 5 w.heap.size w.heap.size (Lib.byteCells (accL (besV s n) 0)) (w.alloc (.cells #[.pointer none,.slice none 0 0] 226))):=⟨Lib.fresh_isBuilder _ _ w⟩
 have hB0:Box (Below w.heap.size w (w.alloc (.cells #[.pointer none,.slice none 0 0] 226))):=⟨(Below.refl _ _).alloc (Nat.le_refl _) _⟩
 have hp:=pow_le h hh
 have hstep:∀ j,j<h->(2 ^ (h-j)+n / 2 ^ j) / 2=2 ^ (h-(j+1))+n / 2 ^ (j+1)/\2<=2 ^ (h-j)+n / 2 ^ j:=fun j hj=>by
  have e1:2 ^ (h-j)=2 ^ (h-(j+1))*2:=by rw [show h-j=h-(j+1)+1 by omega,Nat.pow_succ]
  have e2:n / 2 ^ (j+1)=n / 2 ^ j / 2:=by rw [Nat.pow_succ,Nat.div_div_eq_div_mul]
  have:=Nat.two_pow_pos (h-(j+1))
  rw [e1,e2]
  obtain ⟨a,ha⟩:∃ a,n / 2 ^ j=a:=⟨_,rfl⟩
  rw [ha]; omega
 have hbound:∀ j,j<=h->2 ^ (h-j)+n / 2 ^ j<2*2 ^ h:=fun j hj=>by
  have e1:2 ^ (h-j)<=2 ^ h:=Nat.pow_le_pow_right (by omega) (by omega)
  have e2:n / 2 ^ j<=n:=Nat.div_le_self _ _
  omega
 have hcell:∀ j,j<h->∀ w',Blk w' t (tcells s h) 9->w'.cell? ⟨t,nb (2 ^ (h-j)+n / 2 ^ j),none⟩=some (.string (besV s n j))/\nb (2 ^ (h-j)+n / 2 ^ j)<N:=fun j hj w' hb=>by
  have h1:=hbound j (by omega)
  have h2:=(hstep j hj).2
  have h3:nb (2 ^ (h-j)+n / 2 ^ j)<2*2 ^ h:=by unfold nb; split <;> omega
  rw [hb.cell,tcells_get _ _ _ h3,plc_beside s h n j hn hj]
  exact ⟨rfl,by omega⟩
 have hend:2 ^ (h-h)+n / 2 ^ h=1:=by rw [Nat.sub_self,Nat.div_eq_of_lt hn]
 replace ht:=Box.mk ht
 have hstart:((N:Int) / 2+(n:Int))=((2 ^ (h-0)+n / 2 ^ 0:Nat):Int):=by
  rw [Nat.sub_zero,Nat.pow_zero,Nat.div_one]; omega
 have hN64:N<=32:=by omega
 have hn16:n<16:=by omega
 replace hcell:=Box.mk hcell
 replace hstep:=Box.mk hstep
 replace hbound:=Box.mk hbound
 replace hend:=Box.mk hend
 replace hstart:=Box.mk hstart
 have hNB:=Box.mk hN
 clear hN hn hp
 go_enter Tryz.func210,Tryz.ntmps210
 go_wp2_with fail
 go_loopw [6] (fun q wr=>∃ i j:Nat,j<=h/\q=.int .i64 (i:Int)/\Box (2 ^ (h-j)+n / 2 ^ j=i)/\Box (Lib.IsBuilder 226 5 w.heap.size w.heap.size (Lib.byteCells (accL (besV s n) j)) wr)/\Box (Below w.heap.size w wr)) (fun q _=>(intOf q).toNat)
 case atStart=>exact ⟨_,0,by omega,u_eq hstart.out,⟨rfl⟩,hI0,hB0⟩
 case round=>
  clear hI0 hB0 hstart
  obtain ⟨i,j,hj,rfl,hij,hI,hB⟩:=hrel
  by_cases hlt:j<h
  ·obtain ⟨hc,hnN⟩:=hcell.out j hlt wr (ht.out.below hB.out ht.out.lt)
   obtain ⟨hs1,hs2⟩:=hstep.out j hlt
   have hil:=hbound.out j hj
   rw [hij.out] at hc hnN hs1 hs2 hil
   have hi32:i<32:=by have:=hNB.out; omega
   have hx:=xor_nb i hi32
   obtain ⟨q,hq⟩:∃ q,nb i=q:=⟨_,rfl⟩
   rw [hq] at hc hnN hx
   have hal:=accL32 (besV s n) (besV_size s n) j
   have hgi:=besV_size s n j
   have hnext:Box (Lib.byteCells (accL (besV s n) j)++Lib.strCells (besV s n j)=Lib.byteCells (accL (besV s n) (j+1))):=⟨by rw [accL,Lib.byteCells_append]; rfl⟩
   obtain ⟨y,hy⟩:∃ y,besV s n j=y:=⟨_,rfl⟩
   rw [hy] at hc hnext hgi
   have hs3:(i:Int) / 2=((2 ^ (h-(j+1))+n / 2 ^ (j+1):Nat):Int):=by rw [<- hs1]; omega
   have hW:=Tryz.Builder_WriteString w.heap.size w.heap.size _ y wr hI.out (by rw [Lib.byteCells_length,hal,hgi]; omega) hB.out.size
   rw [hnext.out] at hW
   replace hs1:=Box.mk hs1
   replace hs3:=Box.mk hs3
   replace hy:=Box.mk hy
   replace hq:=Box.mk hq
   clear hI hal hil
   go_wp2_with fail
   refine hW.mono ?_
   clear hW
   rintro e w2 ⟨rfl,hA,hb2⟩
   have hI2:Box (Lib.IsBuilder 226 5 w.heap.size w.heap.size (Lib.byteCells (accL (besV s n) (j+1))) w2):=⟨.inr hA⟩
   have hB2:Box (Below w.heap.size w w2):=⟨hB.out.trans hb2⟩
   clear hA hb2 hB hnext
   go_wp2_with fail
   exact ⟨⟨_,j+1,by omega,u_eq hs3.out,⟨rfl⟩,hI2,hB2⟩,by simp [intOf]; omega⟩
  ·obtain rfl:j=h:=by omega
   have hi1:=hend.out
   rw [hij.out] at hi1
   subst hi1
   have hSt:=Tryz.Builder_String_any w.heap.size w.heap.size (accL (besV s n) j) wr hI.out hB.out.size
   rw [show (⟨(accL (besV s n) j).toArray⟩:ByteArray)=accT (besV s n) j from rfl] at hSt
   clear hI hcell hstep hbound hend
   go_wp2_with fail
   refine hSt.mono ?_
   clear hSt
   rintro e w2 ⟨rfl,hb2⟩
   have hB2:Box (Below w.heap.size w w2):=⟨hB.out.trans hb2⟩
   clear hB hb2
   go_wp2_with fail
   go_ret
   exact ⟨rfl,hB2.out⟩
theorem head_list (h n:Nat) (hh:h<=255) (hn:n<65536):Pk.beN h 1++Pk.beN n 2=headB h n:=by
 have e1:UInt8.ofNat (h % 256)=UInt8.ofNat h:=by congr 1; omega
 have e2:UInt8.ofNat (n / 256 % 256)=UInt8.ofNat (n / 256):=by congr 1; omega
 have e3:UInt8.ofNat (n % 256)=UInt8.ofNat n:=by
  apply UInt8.toNat_inj.1
  rw [UInt8.toNat_ofNat',UInt8.toNat_ofNat']; omega
 simp [Pk.beN,headB,e1,e2,e3]
theorem bytes_sig (h n:Nat) (o q:ByteArray) (w:World) (hh:h<=255) (hn:n<65536) (ho:o.size<=1000000) (hq:q.size<=1000000) :
  Calls Tryz.prog 211 #[.agg #[.int .i64 (h:Int),.int .i64 (n:Int),.string o,.string q]] w fun e w'=>e=.returned (.string (⟨(headB h n).toArray⟩++o++q))/\Below w.heap.size w w':=by
 obtain ⟨w1,hw1⟩:∃ w1,w.alloc (.cells #[.int .i64 (h:Int),.int .i64 (n:Int),.string o,.string q] 271)=w1:=⟨_,rfl⟩
 have hz1:w1.heap.size=w.heap.size+1:=by rw [<- hw1]; simp
 have hS1:Blk w1 w.heap.size [.int .i64 (h:Int),.int .i64 (n:Int),.string o,.string q] 271:=by rw [<- hw1]; exact Blk.new w _ _
 have hB1:Below w.heap.size w w1:=by rw [<- hw1]; exact (Below.refl _ _).alloc (Nat.le_refl _) _
 obtain ⟨w2,hw2⟩:∃ w2,w1.alloc (.cells #[.slice none 0 0,.bool false] 164)=w2:=⟨_,rfl⟩
 have hW2:Pk.WAt w2 (w.heap.size+1) 164 (.slice none 0 0) [] false:=⟨by rw [<- hw2,<- hz1]; exact Blk.new w1 _ _,Pk.Own.nil _⟩
 have hB2:Below w.heap.size w w2:=by rw [<- hw2]; exact hB1.alloc (by omega) _
 have hz2:w2.heap.size=w.heap.size+2:=by rw [<- hw2]; simp; omega
 have hS2:Blk w2 w.heap.size [.int .i64 (h:Int),.int .i64 (n:Int),.string o,.string q] 271:=by rw [<- hw2]; exact hS1.alloc _
 have f1:Pk.fits (h:Int) 1=true:=by simp [Pk.fits]; omega
 have f2:Pk.fits (n:Int) 2=true:=by simp [Pk.fits]; omega
 have hY:=Pk.byte_any (w.heap.size+1) (.slice none 0 0) [] false (h:Int) w2 hW2 (by simp)
 rw [f1] at hY
 have hnp:=head_list h n hh hn
 replace hS2:=Box.mk hS2
 replace hB2:=Box.mk hB2
 replace hB1:=Box.mk hB1
 replace hz2:=Box.mk hz2
 rw [show (Int.toNat (h:Int))=h from rfl] at hY
 have hnn:Int.toNat (n:Int)=n:=rfl
 have d0:w2.cell? ⟨w.heap.size,0,none⟩=some (.int .i64 (h:Int)):=hS2.out.cell 0
 obtain ⟨hd,hhd⟩:∃ hd:ByteArray,(⟨(headB h n).toArray⟩:ByteArray)=hd:=⟨_,rfl⟩
 have hds:hd.size=3:=by rw [<- hhd]; rfl
 rw [hhd]
 replace hhd:=Box.mk hhd
 clear hW2 hS1 f1
 go_enter Tryz.func211,Tryz.ntmps211
 go_wp2_with fail
 refine hY.mono ?_
 clear hY
 rintro e w3 ⟨rfl,hX⟩
 obtain ⟨v3,hA3,c3,p3⟩:=hX.out
 simp only [Pk.lays,Bool.not_true,Bool.or_self,Bool.false_eq_true,if_false,List.nil_append] at hA3
 have hB3:Below w.heap.size w w3:=hB2.out.trans (c3.below (by have:=hz2.out; omega) (fun i hi=>by rcases hi with hi | hi; omega; simp [Value.ownBlock] at hi))
 have hS3:Blk w3 w.heap.size [.int .i64 (h:Int),.int .i64 (n:Int),.string o,.string q] 271:=c3.blk hS2.out (by rintro (hi | hi); omega; simp [Value.ownBlock] at hi)
 have hv3:∀ k,v3.ownBlock=some k->w.heap.size+2<=k:=fun k hk=>by
  rcases p3 k hk with hi | hi
  ·simp [Value.ownBlock] at hi
  ·have:=hz2.out; omega
 have hY2:=Pk.two_any (w.heap.size+1) v3 _ false (n:Int) w3 hA3 (by rw [Pk.beN_length]; omega)
 rw [f2,hnn] at hY2
 have d1:w3.cell? ⟨w.heap.size,1,none⟩=some (.int .i64 (n:Int)):=hS3.cell 1
 have hz3:w.heap.size+2<=w3.heap.size:=by have:=c3.size; have:=hz2.out; omega
 replace hS3:=Box.mk hS3
 replace hB3:=Box.mk hB3
 replace hv3:=Box.mk hv3
 replace hz3:=Box.mk hz3
 clear hX c3 p3 hA3 hB2 hS2 d0 f2 hnn
 go_wp2_with fail
 refine hY2.mono ?_
 clear hY2
 rintro e w4 ⟨rfl,hX⟩
 obtain ⟨v4,hA4,c4,p4⟩:=hX.out
 simp only [Pk.lays,Bool.not_true,Bool.or_self,Bool.false_eq_true,if_false] at hA4
 rw [hnp] at hA4
 have hB4:Below w.heap.size w w4:=hB3.out.trans (c4.below (by have:=hz3.out; omega) (fun i hi=>by
  rcases hi with hi | hi
  ·omega
  ·have:=hv3.out i hi; omega))
 have hS4:Blk w4 w.heap.size [.int .i64 (h:Int),.int .i64 (n:Int),.string o,.string q] 271:=c4.blk hS3.out (by
  rintro (hi | hi)
  ·omega
  ·have:=hv3.out _ hi; omega)
 have hY3:=Pk.bytes_any (w.heap.size+1) v4 _ false w4 hA4
 rw [show Pk.bytesR (headB h n) false=.tuple #[.string ⟨(headB h n).toArray⟩,.int .i64 0] from rfl] at hY3
 have d2:w4.cell? ⟨w.heap.size,2,none⟩=some (.string o):=hS4.cell 2
 have d3:w4.cell? ⟨w.heap.size,3,none⟩=some (.string q):=hS4.cell 3
 replace hB4:=Box.mk hB4
 rw [hhd.out] at hY3
 clear hX c4 p4 hA4 hS4 hB3 hS3 hv3 hnp hhd d1
 go_wp2_with fail
 refine hY3.mono ?_
 clear hY3
 rintro e w5 ⟨rfl,rfl⟩
 go_wp2_with fail
 go_ret
 exact ⟨rfl,hB4.out⟩
theorem Grown.before {w w1 w2:World} {b u t:Nat} {O:Option Nat} {s:ByteArray} {h:Nat} (hb:Below w.heap.size w w1) (g:Grown w1 b O s h u t w2):Grown w b O s h u t w2:=
 ⟨g.at_,g.from_.imp_right fun ⟨e,hl⟩=>⟨e,Nat.le_trans hb.size hl⟩,(chg0 hb).trans g.chg (fun _ _ e=>e)⟩
theorem Grown.after {w w1 w2:World} {b u t:Nat} {O:Option Nat} {s:ByteArray} {h:Nat} (g:Grown w b O s h u t w1) (hb:Below w1.heap.size w1 w2):Grown w b O s h u t w2:=
 ⟨g.at_.here hb,g.from_,g.chg.trans (chg0 (S:=fun i=>i=b) hb) (fun _ _ e=>e)⟩
theorem with_any (b:Nat) (O:Option Nat) (s t:ByteArray) (h u n:Nat) (w:World) (k:KeyAt w b O s h u) (hK:KIs w) (hs:s.size<=1125899906842624) (ht:t.size<=1125899906842624) (hn:n<2 ^ h) :
  Calls Tryz.prog 155 #[.pointer (some ⟨b,0,none⟩),.int .i64 (n:Int),.string t] w fun e w'=>∃ tr,e=.returned (.string (keyS s h n t))/\Grown w b O s h u tr w':=by
 have c0:w.cell? ⟨b,0,none⟩=some (.string s):=k.blk.cell 0
 have hp:=pow_le h k.low
 have hS:=sign_ok s t n w hK (by omega) hs ht
 have hN:=fun w1 (hb:Below w.heap.size w w1)=>nodes_any b O s h u w1 (k.here hb) (hK.below hb hK.lt) hs
 have hlow:=k.low
 have hBes:=fun tr w1 (k1:KeyAt w1 b (some tr) s h u)=>beside_any tr (2*2 ^ h) n h s w1 rfl hn hlow (k1.tree tr rfl).2
 have hKs:(⟨(headB h n).toArray⟩:ByteArray)++sigT s n t++accT (besV s n) h=keyS s h n t:=rfl
 have hsg:=sigT_size s n t
 have hbs:=accT32 (besV s n) (besV_size s n) h
 have hBy:=fun w1=>bytes_sig h n (sigT s n t) (accT (besV s n) h) w1 (by omega) (by omega) (by omega) (by omega)
 rw [hKs] at hBy
 obtain ⟨x,hx⟩:∃ x,sigT s n t=x:=⟨_,rfl⟩
 obtain ⟨y,hy⟩:∃ y,accT (besV s n) h=y:=⟨_,rfl⟩
 obtain ⟨z,hz⟩:∃ z,keyS s h n t=z:=⟨_,rfl⟩
 rw [hx] at hS hBy
 rw [hy] at hBes hBy
 rw [hz] at hBy ⊢
 obtain ⟨N,hNN⟩:∃ N,2*2 ^ h=N:=⟨_,rfl⟩
 have htv:∀ tr,treeV h (some tr)=.slice (some ⟨tr,0,none⟩) N N:=fun tr=>by rw [treeV,hNN]
 rw [hNN] at hBes
 simp only [htv] at hN
 have hkB:=Box.mk k
 replace hN:=Box.mk hN
 replace hBes:=Box.mk hBes
 clear hx hy hz hKs hsg hbs k hK hs ht hn hp htv hNN
 go_enter Tryz.func155,Tryz.ntmps155
 go_wp2_with fail
 refine hS.mono ?_
 clear hS
 rintro e w1 ⟨rfl,hb1⟩
 have k1:=hkB.out.here hb1
 have d1:w1.drew.cell? ⟨b,1,none⟩=some (.int .i64 (h:Int)):=k1.blk.cell 1
 have hF:=hN.out w1.drew (hb1.trans ((dB w1).mono hb1.size))
 have k1B:=Box.mk k1
 have hb1B:=Box.mk hb1
 clear hN k1 hb1
 go_wp2_with fail
 refine region_go (C:=fun w'=>w'.cell? ⟨b,1,none⟩=some (.int .i64 (h:Int))) rfl ?_
 refine go_calms [0,1,2,3,4,5,6,8] 5 rfl (by kernel_rfl) (by kernel_rfl) (by kernel_rfl) d1 ?_
 simp [nth]
 try simp only [Act.put]
 repeat (go_big_quiet_step (first | exact fun _=>rfl | rfl))
 refine quiet_any rfl (.int .i64 (h:Int)) (fun w' hw'=>by go_simp) ?_
 simp only [Act.put,zT9,zS9,zZ9]
 repeat (go_big_quiet_step (first | exact fun _=>rfl | rfl))
 refine wpQuiet_nil ?_
 refine go_forced 7 (by kernel_rfl) (goOp_wp 7 rfl rfl (fun K hK=>?_))
 go_simp
 refine hF.mono ?_
 clear hF
 rintro e w2 ⟨tr,rfl,hG⟩
 have hG2:=Grown.before hb1B.out (Grown.before (dB w1) hG)
 have hF:=hBes.out tr w2 hG2.at_
 refine hK _ _ (hG2.at_.blk.cell 1) ?_
 replace hG2:=Box.mk hG2
 clear hK K hG hb1B k1B hBes
 refine go_forced 9 (by kernel_rfl) (goOp_wp 9 rfl rfl (fun K hK=>?_))
 go_simp
 refine hF.mono ?_
 clear hF
 rintro e w3 ⟨rfl,hb3⟩
 have hG3:=Grown.after hG2.out hb3
 refine hK _ _ (hG3.at_.blk.cell 1) ?_
 have d3:w3.cell? ⟨b,1,none⟩=some (.int .i64 (h:Int)):=hG3.at_.blk.cell 1
 replace hG3:=Box.mk hG3
 clear hK K hb3 hG2
 refine go_calm 10 (by kernel_rfl) rfl (by kernel_rfl) (by kernel_rfl) d3 (yields (v:=.agg #[.int .i64 (h:Int),.int .i64 (n:Int),.string x,.string y]) rfl (fun w' hw'=>by go_simp)) ?_
 simp only [Act.put,List.setIfInBounds_toArray]
 have hF:=hBy w3
 refine go_forced 11 (by kernel_rfl) (goOp_wp 11 rfl rfl (fun K hK=>?_))
 go_simp
 refine hF.mono ?_
 clear hF
 rintro e w4 ⟨rfl,hb4⟩
 have hG4:=Grown.after hG3.out hb4
 refine hK _ _ (hG4.at_.blk.cell 1) ?_
 have d4:w4.cell? ⟨b,1,none⟩=some (.int .i64 (h:Int)):=hG4.at_.blk.cell 1
 replace hG4:=Box.mk hG4
 clear hK K hb4 hG3 hBy
 refine go_calms [12] 0 rfl (by kernel_rfl) (by kernel_rfl) (by kernel_rfl) d4 ?_
 simp [nth]
 try simp only [Act.put,zT9,zS9,zZ9]
 repeat (go_big_quiet_step (first | exact fun _=>rfl | rfl))
 refine wpQuiet_nil ?_
 refine go_done (by kernel_rfl) ?_
 go_simp
 go_wp2_with fail
 go_ret
 exact ⟨tr,rfl,hG4.out⟩
theorem Grown.to {w w':World} {b u t:Nat} {O:Option Nat} {s:ByteArray} {h:Nat} (g:Grown w b O s h u t w'):KeyTo w b O s h u w':=
 ⟨⟨_,g.at_,g.from_.imp (fun e=>e.symm) (fun ⟨_,hl⟩ t' e=>by cases e; exact hl)⟩,g.chg⟩
theorem sign_key (b:Nat) (O:Option Nat) (s t:ByteArray) (h u:Nat) (w:World) (k:KeyAt w b O s h u) (hK:KIs w) (hs:s.size<=1125899906842624) (ht:t.size<=1125899906842624) (hu:u<2 ^ h) :
  Calls Tryz.prog 96 #[.pointer (some ⟨b,0,none⟩),.string t] w fun e w'=>e=.returned (.tuple #[.string (keyS s h u t),.int .i64 0])/\KeyTo w b O s h (u+1) w':=by
 have hT:=take_ok b O s h u 1 w k (by omega)
 have k1:=k.use (u+1)
 have hC1:Pk.Chg (fun i=>i=b) w (w.setCell ⟨b,2,none⟩ (.int .i64 ((u+1:Nat):Int))):=(Pk.Chg.refl (fun i=>i=b) w).setCell (p:=⟨b,2,none⟩) rfl _
 obtain ⟨w1,hw1⟩:∃ w1,w.setCell ⟨b,2,none⟩ (.int .i64 ((u+1:Nat):Int))=w1:=⟨_,rfl⟩
 rw [hw1] at hT k1 hC1
 have hF:=with_any b O s t h (u+1) u w1 k1 (k.kis hK hC1) hs ht hu
 have hnot:∀ (x:Bool) (w:World),(Op.unary .not (.bool x)).run Tryz.prog w=.ok (.bool (!x)) w:=fun _ _=>rfl
 obtain ⟨z,hz⟩:∃ z,keyS s h u t=z:=⟨_,rfl⟩
 rw [hz] at hF ⊢
 replace hC1:=Box.mk hC1
 clear k1 k hK hs ht hz hw1
 go_enter Tryz.func96,Tryz.ntmps96
 go_wp2_with fail
 refine hT.mono ?_
 rintro e w' ⟨rfl,rfl⟩
 go_wp2_with fail
 refine hF.mono ?_
 rintro e w2 ⟨tr,rfl,hG⟩
 have hfin:Box (KeyTo w b O s h (u+1) w2):=⟨by
  obtain ⟨⟨O',k2,ho⟩,hc⟩:=hG.to
  exact ⟨⟨O',k2,ho.imp_right fun hh t e=>Nat.le_trans hC1.out.size (hh t e)⟩,hC1.out.trans hc (fun _ _ e=>e)⟩⟩
 clear hG hF hC1
 go_wp2_with fail
 go_returns
 exact ⟨rfl,hfin.out⟩
theorem id_key (b:Nat) (O:Option Nat) (s:ByteArray) (h u:Nat) (w:World) (k:KeyAt w b O s h u) (hK:KIs w) (hs:s.size<=1125899906842624) :
  Calls Tryz.prog 69 #[.pointer (some ⟨b,0,none⟩)] w fun e w'=>e=.returned (.string (keyID s h))/\KeyTo w b O s h u w':=by
 have d1:w.drew.cell? ⟨b,1,none⟩=some (.int .i64 (h:Int)):=k.blk.cell 1
 have hF:=nodes_any b O s h u w.drew (k.here (dB w)) hK hs
 have hlow:=k.low
 obtain ⟨N,hNN⟩:∃ N,2*2 ^ h=N:=⟨_,rfl⟩
 have hN2:2<=N:=by rw [<- hNN]; have:=Nat.two_pow_pos h; omega
 have htv:∀ tr,treeV h (some tr)=.slice (some ⟨tr,0,none⟩) N N:=fun tr=>by rw [treeV,hNN]
 simp only [htv] at hF
 have hTop:∀ tr w1,KeyAt w1 b (some tr) s h u->w1.cell? ⟨tr,1,none⟩=some (.string (topV s h)):=fun tr w1 k1=>by
  rw [(k1.tree tr rfl).2.cell,tcells_get _ _ _ (by have:=Nat.two_pow_pos h; omega),plc_top]
 have hId:=fun w1 (hK1:KIs w1)=>id_any h (topV s h) w1 hK1 (by omega) (lvl_size _ _ _)
 rw [show idV h (topV s h)=keyID s h from rfl] at hId
 obtain ⟨x,hx⟩:∃ x,topV s h=x:=⟨_,rfl⟩
 obtain ⟨y,hy⟩:∃ y,keyID s h=y:=⟨_,rfl⟩
 rw [hx] at hTop hId
 rw [hy] at hId ⊢
 have hKc:=fun w' (hc:Pk.Chg (fun i=>i=b) w w')=>k.kis hK hc
 replace hTop:=Box.mk hTop
 replace hKc:=Box.mk hKc
 clear hx hy k hK hs htv hNN hlow
 go_enter Tryz.func69,Tryz.ntmps69
 go_wp2_with fail
 refine region_go (C:=fun w'=>w'.cell? ⟨b,1,none⟩=some (.int .i64 (h:Int))) rfl ?_
 refine go_calms [0,1,2,3,4] 4 rfl (by kernel_rfl) (by kernel_rfl) (by kernel_rfl) d1 ?_
 simp [nth]
 try simp only [Act.put]
 repeat (go_big_quiet_step (first | exact fun _=>rfl | rfl))
 refine quiet_any rfl (.int .i64 (h:Int)) (fun w' hw'=>by go_simp) ?_
 simp only [Act.put,zT9,zS9,zZ9]
 repeat (go_big_quiet_step (first | exact fun _=>rfl | rfl))
 refine wpQuiet_nil ?_
 refine go_forced 5 (by kernel_rfl) (goOp_wp 5 rfl rfl (fun K hK=>?_))
 go_simp
 refine hF.mono ?_
 clear hF
 rintro e w2 ⟨tr,rfl,hG⟩
 have hG2:=Grown.before (dB w) hG
 have hc2:=hTop.out tr w2 hG2.at_
 have hF:=top_any tr N x w2 hN2 hc2
 refine hK _ _ (hG2.at_.blk.cell 1) ?_
 have d2:w2.cell? ⟨b,1,none⟩=some (.int .i64 (h:Int)):=hG2.at_.blk.cell 1
 replace hG2:=Box.mk hG2
 clear hK K hG hTop hc2
 refine go_forced 6 (by kernel_rfl) (goOp_wp 6 rfl rfl (fun K hK=>?_))
 go_simp
 refine hF.mono ?_
 clear hF
 rintro e w3 ⟨rfl,rfl⟩
 refine hK _ _ d2 ?_
 clear hK K
 have hF:=hId w3 (hKc.out w3 hG2.out.chg)
 refine go_forced 7 (by kernel_rfl) (goOp_wp 7 rfl rfl (fun K hK=>?_))
 go_simp
 refine hF.mono ?_
 clear hF
 rintro e w4 ⟨rfl,hb4⟩
 have hG4:=Grown.after hG2.out hb4
 refine hK _ _ (hG4.at_.blk.cell 1) ?_
 have d4:w4.cell? ⟨b,1,none⟩=some (.int .i64 (h:Int)):=hG4.at_.blk.cell 1
 replace hG4:=Box.mk hG4
 clear hK K hb4 hG2 hId hKc
 refine go_calms [8] 0 rfl (by kernel_rfl) (by kernel_rfl) (by kernel_rfl) d4 ?_
 simp [nth]
 try simp only [Act.put,zT9,zS9,zZ9]
 repeat (go_big_quiet_step (first | exact fun _=>rfl | rfl))
 refine wpQuiet_nil ?_
 refine go_done (by kernel_rfl) ?_
 go_simp
 go_wp2_with fail
 go_ret
 exact ⟨rfl,hG4.out.to⟩
end Go.Proofs.YthpfpkikmaiddaaGreatDoor
