/- - -/
import Derived.Test.YthpfpkikmaiddaaGreatDoorZos
import Derived.Test.YthpfpkikmaiddaaGreatDoorZkv
set_option linter.all false
set_option maxHeartbeats 3200000
set_option maxRecDepth 100000
namespace Go.Proofs.YthpfpkikmaiddaaGreatDoor
open Go Go.RowKit
theorem Blk.twoA {w:World} {b i q:Nat} {l:List UInt8} (h:Blk w b (dcell (digP l i)) 228) (hi:i<8) :
  Blk (w.setCell ⟨b,2*i,none⟩ (.int .i64 (q:Int))) b (dcell (digP l i++[q])) 228:=by
 have h1:=h.setCell (2*i) (.int .i64 (q:Int))
 rwa [dcell_push _ q (2*i) (digP_length l i) (by omega)] at h1
theorem rdigits_any (t:ByteArray) (w:World) (ht:t.size<=140737488351232) :
  Calls Tryz.prog 160 #[.string t] w fun e w'=>e=.returned (.agg (dcell (digs (headL t))).toArray)/\Below w.heap.size w w':=by
 have hW1:Below w.heap.size w (w.alloc (.cells zeros18 228)):=(Below.refl _ _).alloc (Nat.le_refl _) _
 have hR1:Box (Blk (w.alloc (.cells zeros18 228)) w.heap.size (dcell []) 228):=⟨zeros18_blk w⟩
 have hs1:(w.alloc (.cells zeros18 228)).heap.size=w.heap.size+1:=by simp
 have hsz:(tagL 34 [t]).length<=140737488354000:=by
  simp only [tagL,tagP,List.flatMap_cons,List.flatMap_nil,List.length_cons,List.length_append,data_len,be4_length,List.length_nil]
  omega
 have hF:=rtag_parts 34 (.slice (some ⟨w.heap.size+1,0,none⟩) 1 1) [t] ((w.alloc (.cells zeros18 228)).alloc (.cells #[.string t] 9)) (by have:=parts_new (w.alloc (.cells zeros18 228)) [t] 9; rw [hs1] at this; exact this) hsz (by simp)
 obtain ⟨ts,hTS⟩:∃ ts,tagS 34 [t]=ts:=⟨_,rfl⟩
 rw [show hashOf (tagL 34 [t])=ts from hTS] at hF
 have hts:ts.size=32:=by rw [<- hTS]; exact tagS_size _ _
 have hhl:headL t=ts.data.toList:=by rw [<- hTS]; rfl
 rw [hhl]
 have hW2:=Box.mk (hW1.alloc (by simp) (.cells #[.string t] 9))
 replace hTS:=Box.mk hTS
 clear hW1 hsz hhl
 go_enter Tryz.func160,Tryz.ntmps160
 go_wp2_with fail
 refine hF.mono ?_
 rintro e w3 ⟨rfl,hb3⟩
 clear hF
 have hB3:Box (Below w.heap.size w w3):=⟨hW2.out.trans (hb3.mono (by simp; omega))⟩
 have hR3:Box (Blk w3 w.heap.size (dcell []) 228):=⟨(hR1.out.alloc _).below hb3 (by simp; omega)⟩
 have hlt3:=hR3.out.lt
 obtain ⟨bd,hbd⟩:∃ bd,w3.heap.size=bd:=⟨_,rfl⟩
 have hbd2:w.heap.size<bd:=by omega
 have hD4:Box (Blk (w3.alloc (.cells zeros18 228)) bd (dcell (digP ts.data.toList 0)) 228):=⟨by rw [<- hbd]; exact zeros18_blk w3⟩
 have hR4:Box (Blk (w3.alloc (.cells zeros18 228)) w.heap.size (dcell []) 228):=⟨hR3.out.alloc _⟩
 have hB4:Box (Below w.heap.size w (w3.alloc (.cells zeros18 228))):=⟨hB3.out.alloc hB3.out.size _⟩
 clear hb3 hR1 hW2 hR3 hB3 hlt3
 go_wp2_with fail
 replace hbd:=Box.mk hbd
 go_loopw [5,6] (fun c q wr=>∃ i:Nat,i<=8/\c=.int .i64 (lackN ts.data.toList i:Int)/\q=.int .i64 (i:Int)/\Box (Blk wr w.heap.size (dcell []) 228)/\Box (Blk wr bd (dcell (digP ts.data.toList i)) 228)/\Box (Below w.heap.size w wr)) (fun _ q _=>8-(intOf q).toNat)
 case atStart=>exact ⟨0,by omega,rfl,rfl,hR4,hD4,hB4⟩
 case round=>
  clear hR4 hD4 hB4
  obtain ⟨i,hi8,rfl,rfl,hR,hD,hB⟩:=hrel
  have hck:=lackN_le ts.data.toList i
  by_cases hlt:i<8
  ·have hix:i<ts.size:=by omega
   obtain ⟨b,hb⟩:∃ b:Nat,lo ts.data.toList i=b:=⟨_,rfl⟩
   have hbl:=lo_lt ts.data.toList i
   rw [hb] at hbl
   have hge:((ts[i]'hix).toNat:Int)=(b:Int):=by rw [<- hb,lo]; simp [List.getD,hix,ByteArray.getElem_eq_getElem_data]
   obtain ⟨q,hq⟩:∃ q,b / 16=q:=⟨_,rfl⟩
   obtain ⟨r,hr⟩:∃ r,b % 16=r:=⟨_,rfl⟩
   have hqr:q<=15/\r<=15:=by omega
   obtain ⟨cc,hcc⟩:∃ cc,lackN ts.data.toList i=cc:=⟨_,rfl⟩
   have hnext:lackN ts.data.toList (i+1)=cc+(15-q+(15-r)):=by rw [lackN,hcc,hb,hq,hr]
   have hbq:lo ts.data.toList i / 16=q:=by rw [hb]; exact hq
   have hbr:lo ts.data.toList i % 16=r:=by rw [hb]; exact hr
   have e3:(b:Int) / 16=(q:Int):=by omega
   have e4:(b:Int) % 16=(r:Int):=by omega
   have hfz:=hD.out.free (2*i)
   have hst:=hD.out.cell (2*i)
   rw [dcell_zero _ _ (by rw [digP_length]; omega) (by omega)] at hst
   have hD6:=hD.out.twoA (q:=q) hlt
   have hfz1:=hD6.free (2*i+1)
   have hst1:=hD6.cell (2*i+1)
   rw [dcell_zero _ _ (by rw [List.length_append,digP_length]; simp) (by omega)] at hst1
   have hD2:=hD.out.two (q:=q) (r:=r) hlt hbq hbr
   have hg0:=hD2.cell (2*i)
   have hg1:=hD2.cell (2*i+1)
   have hdl:=digP_length ts.data.toList i
   have hx0:(dcell (digP ts.data.toList (i+1)))[2*i]?=some (.int .i64 (q:Int)):=by
    rw [digP,hbq,hbr,dcell,List.getElem?_map,List.append_assoc,List.getElem?_append_right (by omega),hdl]; simp
   have hx1:(dcell (digP ts.data.toList (i+1)))[2*i+1]?=some (.int .i64 (r:Int)):=by
    rw [digP,hbq,hbr,dcell,List.getElem?_map,List.append_assoc,List.getElem?_append_right (by omega),hdl,show 2*i+1-2*i=1 by omega]; simp
   rw [hx0] at hg0
   rw [hx1] at hg1
   obtain ⟨w5,hw5⟩:∃ w5,(wr.setCell ⟨bd,2*i,none⟩ (.int .i64 (q:Int))).setCell ⟨bd,2*i+1,none⟩ (.int .i64 (r:Int))=w5:=⟨_,rfl⟩
   have hR5:Box (Blk w5 w.heap.size (dcell []) 228):=⟨by rw [<- hw5]; exact (hR.out.setCell_other _ _ (by simp; omega)).setCell_other _ _ (by simp; omega)⟩
   have hB5:Box (Below w.heap.size w w5):=⟨by rw [<- hw5]; exact Below.setCell (B:=w.heap.size) (Below.setCell (B:=w.heap.size) hB.out (by simp; omega) _) (by simp; omega) _⟩
   rw [hw5] at hD2 hg0 hg1
   replace hD2:=Box.mk hD2
   replace hbq:=Box.mk hbq
   replace hbr:=Box.mk hbr
   replace hb:=Box.mk hb
   replace hcc:=Box.mk hcc
   replace hnext:=Box.mk hnext
   rw [hcc.out] at hck ⊢
   clear hR hD hB hx0 hx1 hD6 hdl hq hr
   go_wp2_with fail
   go_quiet (fail)
   go_wp2_with fail
   have hm:8-(intOf (Value.int IntKind.i64 (↑i+1))).toNat<8-(intOf (Value.int IntKind.i64 ↑i)).toNat:=by simp [intOf]; omega
   exact ⟨⟨i+1,by omega,by rw [hnext.out]; exact u_eq (by omega),by go_num,⟨hR5.out.drewN nq⟩,⟨hD2.out.drewN nq⟩,⟨hB5.out.trans (Drawn.below ⟨nq,rfl⟩)⟩⟩,hm⟩
  ·obtain rfl:i=8:=by omega
   obtain ⟨cc,hcc⟩:∃ cc,lackN ts.data.toList 8=cc:=⟨_,rfl⟩
   obtain ⟨q,hq⟩:∃ q,cc / 16=q:=⟨_,rfl⟩
   obtain ⟨r,hr⟩:∃ r,cc % 16=r:=⟨_,rfl⟩
   rw [hcc] at hck ⊢
   have e3:(cc:Int) / 16=(q:Int):=by omega
   have e4:(cc:Int) % 16=(r:Int):=by omega
   have hfz:=hD.out.free 16
   have hst:=hD.out.cell 16
   rw [dcell_zero _ _ (by rw [digP_length]; omega) (by omega)] at hst
   have hD6:=(hD.out.setCell 16 (.int .i64 (q:Int)))
   rw [dcell_push _ q 16 (digP_length _ 8) (by omega)] at hD6
   have hfz1:=hD6.free 17
   have hst1:=hD6.cell 17
   rw [dcell_zero _ _ (by rw [List.length_append,digP_length]; simp) (by omega)] at hst1
   have hD2:=Box.mk (hD.out.last (q:=q) (r:=r) (by rw [hcc]; exact hq) (by rw [hcc]; exact hr))
   obtain ⟨w5,hw5⟩:∃ w5,(wr.setCell ⟨bd,16,none⟩ (.int .i64 (q:Int))).setCell ⟨bd,17,none⟩ (.int .i64 (r:Int))=w5:=⟨_,rfl⟩
   have hR5:Box (Blk w5 w.heap.size (dcell []) 228):=⟨by rw [<- hw5]; exact (hR.out.setCell_other _ _ (by simp; omega)).setCell_other _ _ (by simp; omega)⟩
   have hB5:Box (Below w.heap.size w w5):=⟨by rw [<- hw5]; exact Below.setCell (B:=w.heap.size) (Below.setCell (B:=w.heap.size) hB.out (by simp; omega) _) (by simp; omega) _⟩
   rw [hw5] at hD2
   have hE:Box (Blk (w5.setRow w.heap.size (dcell (digs ts.data.toList)).toArray) w.heap.size (dcell (digs ts.data.toList)) 228):=⟨setRow_blk hR5.out _⟩
   have hBe:Box (Below w.heap.size w (w5.setRow w.heap.size (dcell (digs ts.data.toList)).toArray)):=⟨hB5.out.trans ((setRow_save _ _ _ _).below (Nat.le_refl _))⟩
   clear hD hR hB hq hr hD6 hcc
   go_wp2_with (first | (refine wpList_load_row rfl 228 (.tmp 4) rfl bd rfl 228 (dcell (digs ts.data.toList)).toArray (0,0) _ hD2.out Tryz.underlying228 rfl info_d ?_) | (refine wpList_store_row rfl 228 (.tmp 2) (.tmp 50) rfl w.heap.size (dcell (digs ts.data.toList)).toArray rfl rfl 228 (dcell []).toArray hR5.out info_d rfl (dcell_one _) ?_))
   refine bodyPost_ret (v:=.agg (dcell (digs ts.data.toList)).toArray) (results_cell_row (p:=2) rfl _ _ w.heap.size 228 (dcell (digs ts.data.toList)).toArray (0,0) _ rfl hE.out Tryz.underlying228 rfl info_d) rfl ⟨rfl,hBe.out⟩
theorem tag288 (q:ByteArray) (h:q.size=288):(tagL 35 [q]).length<=140737488354000:=by
 simp only [tagL,tagP,List.flatMap_cons,List.flatMap_nil,List.length_cons,List.length_append,data_len,be4_length,List.length_nil,h]
 omega
theorem rpublic_no (s:ByteArray) (n:Int) (w:World) (hn:n<0∨65535<n) :
  Calls Tryz.prog 114 #[.string s,.int .i64 n] w fun e w'=>e=.returned (.tuple #[.string ⟨#[]⟩,.int .i64 1])/\Below w.heap.size w w':=by
 have hB:Box (Below w.heap.size w w):=⟨Below.refl _ _⟩
 rcases hn with hn | hn
 ·go_enter Tryz.func114,Tryz.ntmps114
  go_wp2_with fail
  go_returns
  exact ⟨rfl,hB.out⟩
 ·have hn0:¬ n<0:=by omega
  go_enter Tryz.func114,Tryz.ntmps114
  go_wp2_with fail
  go_returns
  exact ⟨rfl,hB.out⟩
theorem rpublic_ok (s:ByteArray) (n:Nat) (w:World) (hn:n<65536) (hs:s.size<=140737488351232) :
  Calls Tryz.prog 114 #[.string s,.int .i64 (n:Int)] w fun e w'=>e=.returned (.tuple #[.string (pubT s n),.int .i64 0])/\Below w.heap.size w w':=by
 have hB0:Box (Below w.heap.size w w):=⟨Below.refl _ _⟩
 have hS:=fun i w1 (hi:i<256)=>rsec_any s n i w1 hs hn hi
 have hL:=fun i w1 (hi:i<256)=>rlinks_any (secV s n i) n i 0 15 w1 (secV_size s n i) hn hi (by omega)
 have hn0:¬ (n:Int)<0:=by omega
 have hn1:¬ 65535<(n:Int):=by omega
 replace hS:=Box.mk hS
 replace hL:=Box.mk hL
 go_enter Tryz.func114,Tryz.ntmps114
 go_wp2_with fail
 go_loopw [6,7] (fun v q wr=>∃ k:Nat,k<=18/\v=.string (accT (endV s n) k)/\q=.int .i64 (k:Int)/\Box (Below w.heap.size w wr)) (fun _ q _=>18-(intOf q).toNat)
 case atStart=>exact ⟨0,by omega,rfl,rfl,hB0⟩
 case round=>
  clear hB0
  obtain ⟨k,hk,rfl,rfl,hB⟩:=hrel
  by_cases hlt:k<18
  ·have hF:=hS.out k wr (by omega)
   have hG:=fun w1=>hL.out k w1 (by omega)
   have hnext:=accT_succ (endV s n) k
   have hsz:=accT_size (endV s n) (endV_size s n) k
   have hez:=endV_size s n k
   obtain ⟨x,hx⟩:∃ x,secV s n k=x:=⟨_,rfl⟩
   rw [show linksV n k 0 15 (secV s n k)=endV s n k from rfl] at hG
   obtain ⟨y,hy⟩:∃ y,endV s n k=y:=⟨_,rfl⟩
   obtain ⟨u,hu⟩:∃ u,accT (endV s n) k=u:=⟨_,rfl⟩
   obtain ⟨v,hv⟩:∃ v,accT (endV s n) (k+1)=v:=⟨_,rfl⟩
   rw [hx] at hF hG
   rw [hy] at hG hnext hez
   rw [hu,hv] at hnext
   rw [hu] at hsz
   rw [hu]
   replace hx:=Box.mk hx
   replace hy:=Box.mk hy
   replace hu:=Box.mk hu
   replace hv:=Box.mk hv
   go_wp2_with fail
   refine hF.mono ?_
   clear hF
   rintro e w1 ⟨rfl,hb1⟩
   have hB1:Box (Below w.heap.size w w1):=⟨hB.out.trans (hb1.mono hB.out.size)⟩
   clear hb1 hB
   go_wp2_with fail
   refine (hG w1).mono ?_
   clear hG
   rintro e w2 ⟨rfl,hb2⟩
   have hB2:Box (Below w.heap.size w w2):=⟨hB1.out.trans (hb2.mono hB1.out.size)⟩
   clear hb2 hB1
   go_wp2_with fail
   have hm:18-(intOf (Value.int IntKind.i64 (↑k+1))).toNat<18-(intOf (Value.int IntKind.i64 ↑k)).toNat:=by simp [intOf]; omega
   exact ⟨⟨k+1,by omega,by rw [hv.out],by go_num,hB2⟩,hm⟩
  ·obtain rfl:k=18:=by omega
   have hsz:=accT_size (endV s n) (endV_size s n) 18
   obtain ⟨u,hu⟩:∃ u,accT (endV s n) 18=u:=⟨_,rfl⟩
   rw [hu] at hsz
   have hF:=rtag_parts 35 (.slice (some ⟨wr.heap.size,0,none⟩) 1 1) [u] (wr.alloc (.cells #[.string u] 9)) (parts_new wr [u] 9) (tag288 u hsz) (by simp)
   rw [show hashOf (tagL 35 [u])=pubT s n by rw [<- hu]; rfl] at hF
   have hB1:Box (Below w.heap.size w (wr.alloc (.cells #[.string u] 9))):=⟨hB.out.alloc hB.out.size _⟩
   rw [hu]
   replace hu:=Box.mk hu
   clear hS hL hB
   go_wp2_with fail
   refine hF.mono ?_
   clear hF
   rintro e w2 ⟨rfl,hb2⟩
   have hB2:Box (Below w.heap.size w w2):=⟨hB1.out.trans (hb2.mono hB1.out.size)⟩
   clear hb2 hB1
   go_wp2_with fail
   go_returns
   exact ⟨rfl,hB2.out⟩
theorem rsign_ok (s t:ByteArray) (n:Nat) (w:World) (hn:n<65536) (hs:s.size<=140737488351232) (ht:t.size<=140737488351232) :
  Calls Tryz.prog 112 #[.string s,.int .i64 (n:Int),.string t] w fun e w'=>e=.returned (.tuple #[.string (sigT s n t),.int .i64 0])/\Below w.heap.size w w':=by
 have hD:=rdigits_any t w ht
 have hS:=fun i w1 (hi:i<256)=>rsec_any s n i w1 hs hn hi
 have hL:=fun i w1 (hi:i<256)=>rlinks_any (secV s n i) n i 0 (dig (headL t) i) w1 (secV_size s n i) hn hi (by have:=dig_le (headL t) i; omega)
 have hn0:¬ (n:Int)<0:=by omega
 have hn1:¬ 65535<(n:Int):=by omega
 have hV:=fun w=>digits_var w t
 have hdi:=dig_info t
 have hds:=dig_size t
 have hdc:∀ i,i<18->(dcell (digs (headL t)))[i]?=some (.int .i64 (dig (headL t) i:Int)):=fun i hi=>dcell_get _ (digs_length _) i hi
 obtain ⟨dg,hdd⟩:∃ dg,digs (headL t)=dg:=⟨_,rfl⟩
 rw [hdd] at hD hV hdi hds hdc
 replace hdd:=Box.mk hdd
 replace hV:=Box.mk hV
 replace hS:=Box.mk hS
 replace hL:=Box.mk hL
 replace hdc:=Box.mk hdc
 go_enter Tryz.func112,Tryz.ntmps112
 go_wp2_with fail
 refine hD.mono ?_
 clear hD
 rintro e w2 ⟨rfl,hb2⟩
 obtain ⟨q1,q2⟩:=hV.out w2
 have hZ:Box (Blk (w2.alloc (.cells zeros18 228)) w2.heap.size (dcell []) 228):=⟨zeros18_blk w2⟩
 have hb3:Below w.heap.size w ((w2.alloc (.cells zeros18 228)).setRow w2.heap.size (dcell dg).toArray):=hb2.trans (q1.mono hb2.size)
 have hB3:Box (Below w.heap.size w ((w2.alloc (.cells zeros18 228)).setRow w2.heap.size (dcell dg).toArray)):=⟨hb3⟩
 have hQ3:=Box.mk q2
 obtain ⟨bd,hbd⟩:∃ bd,w2.heap.size=bd:=⟨_,rfl⟩
 rw [hbd] at hZ hB3 hQ3
 have hbw:Box (w.heap.size<=bd):=⟨by have:=hb2.size; omega⟩
 clear hV q1 q2 hb2 hb3
 go_wp2_with (refine wpList_store_row rfl 228 (.tmp 8) (.tmp 18) rfl bd (dcell dg).toArray rfl rfl 228 zeros18 hZ.out hdi hds (dcell_one _) ?_)
 replace hbd:=Box.mk hbd
 clear hZ
 go_loopw [9,10] (fun v q wr=>∃ k:Nat,k<=18/\v=.string (accT (sigV s n t) k)/\q=.int .i64 (k:Int)/\Box (Blk wr bd (dcell dg) 228)/\Box (Below w.heap.size w wr)) (fun _ q _=>18-(intOf q).toNat)
 case atStart=>exact ⟨0,by omega,rfl,rfl,hQ3,hB3⟩
 case round=>
  clear hQ3 hB3
  obtain ⟨k,hk,rfl,rfl,hQ,hB⟩:=hrel
  by_cases hlt:k<18
  ·have hF:=hS.out k wr.drew (by omega)
   have hG:=fun w1=>hL.out k w1 (by omega)
   have hnext:=accT_succ (sigV s n t) k
   have hsz:=accT_size (sigV s n t) (sigV_size s n t) k
   have hez:=sigV_size s n t k
   have c3:=hQ.out.cell k
   rw [hdc.out k hlt] at c3
   have hdl:=dig_le (headL t) k
   obtain ⟨x,hx⟩:∃ x,secV s n k=x:=⟨_,rfl⟩
   rw [show linksV n k 0 (dig (headL t) k) (secV s n k)=sigV s n t k from rfl,Nat.zero_add] at hG
   obtain ⟨y,hy⟩:∃ y,sigV s n t k=y:=⟨_,rfl⟩
   obtain ⟨u,hu⟩:∃ u,accT (sigV s n t) k=u:=⟨_,rfl⟩
   obtain ⟨v,hv⟩:∃ v,accT (sigV s n t) (k+1)=v:=⟨_,rfl⟩
   obtain ⟨d,hd⟩:∃ d,dig (headL t) k=d:=⟨_,rfl⟩
   rw [hx] at hF hG
   rw [hy] at hG hnext hez
   rw [hd] at hG c3 hdl
   rw [hu,hv] at hnext
   rw [hu] at hsz
   rw [hu]
   replace hx:=Box.mk hx
   replace hy:=Box.mk hy
   replace hu:=Box.mk hu
   replace hv:=Box.mk hv
   replace hd:=Box.mk hd
   have hl3:=hQ.out.lt
   have d3:wr.drew.cell? ⟨bd,k,none⟩=some (.int .i64 (d:Int)):=c3
   go_wp2_with fail
   refine region_go (C:=fun w'=>w'.cell? ⟨bd,k,none⟩=some (.int .i64 (d:Int))) rfl ?_
   refine go_calms [0,1,2,3,4,5,6,7,8] 4 rfl (by kernel_rfl) (by kernel_rfl) (by kernel_rfl) d3 ?_
   simp [nth]
   try simp only [Act.put]
   repeat (go_big_quiet_step (first | exact fun _=>rfl | rfl))
   refine quiet_any rfl (.int .i64 (d:Int)) (fun w' hw'=>by go_simp) ?_
   simp only [Act.put,zT9,zS9,zZ9]
   repeat (go_big_quiet_step (first | exact fun _=>rfl | rfl))
   refine wpQuiet_nil ?_
   have hBd:Box (Below w.heap.size w wr.drew):=⟨hB.out.trans (Drawn.below ⟨1,rfl⟩)⟩
   have hQd:Box (Blk wr.drew bd (dcell dg) 228):=⟨hQ.out.drewN 1⟩
   refine go_forced 9 (by kernel_rfl) (goOp_wp 9 rfl rfl (fun K hK=>?_))
   go_simp
   refine hF.mono ?_
   rintro e w1 ⟨rfl,hb1⟩
   have hB1:Box (Below w.heap.size w w1):=⟨hBd.out.trans (hb1.mono hBd.out.size)⟩
   have hQ1:Box (Blk w1 bd (dcell dg) 228):=⟨hQd.out.below hb1 hQd.out.lt⟩
   have d1:w1.cell? ⟨bd,k,none⟩=some (.int .i64 (d:Int)):=(hb1.cell (p:=⟨bd,k,none⟩) hQd.out.lt).trans d3
   refine hK _ _ d1 ?_
   clear hK K hF
   have hH:=hG w1
   clear hG
   refine go_forced 10 (by kernel_rfl) (goOp_wp 10 rfl rfl (fun K hK=>?_))
   go_simp
   refine hH.mono ?_
   rintro e w2 ⟨rfl,hb2⟩
   have hB2:Box (Below w.heap.size w w2):=⟨hB1.out.trans (hb2.mono hB1.out.size)⟩
   have hQ2:Box (Blk w2 bd (dcell dg) 228):=⟨hQ1.out.below hb2 hQ1.out.lt⟩
   have d2:w2.cell? ⟨bd,k,none⟩=some (.int .i64 (d:Int)):=(hb2.cell (p:=⟨bd,k,none⟩) hQ1.out.lt).trans d1
   refine hK _ _ d2 ?_
   clear hK K hH hb1 hb2 hB hBd hB1 hQd hQ1 c3 d3 d1
   refine go_calms [11,12] 0 rfl (by kernel_rfl) (by kernel_rfl) (by kernel_rfl) d2 ?_
   simp [nth]
   try simp only [Act.put]
   repeat (go_big_quiet_step (first | exact fun _=>rfl | rfl))
   refine wpQuiet_nil ?_
   refine go_done (by kernel_rfl) ?_
   go_simp
   go_wp2_with fail
   have hm:18-(intOf (Value.int IntKind.i64 (↑k+1))).toNat<18-(intOf (Value.int IntKind.i64 ↑k)).toNat:=by simp [intOf]; omega
   exact ⟨⟨k+1,by omega,by rw [hv.out],by go_num,hQ2,hB2⟩,hm⟩
  ·obtain rfl:k=18:=by omega
   go_wp2_with fail
   go_returns
   exact ⟨rfl,hB.out⟩
theorem rrecover_ok (t q:ByteArray) (n:Nat) (w:World) (hn:n<65536) (hq:q.size=288) (ht:t.size<=140737488351232) :
  Calls Tryz.prog 100 #[.int .i64 (n:Int),.string t,.string q] w fun e w'=>e=.returned (.tuple #[.string (recT n t q),.int .i64 0])/\Below w.heap.size w w':=by
 have hD:=rdigits_any t w ht
 have hL:=fun i w1 (hi:i<18)=>rlinks_any (q.extract (16*i) (16*i+16)) n i (dig (headL t) i) (15-dig (headL t) i) w1 (cut_size q i hq hi) hn (by omega) (by have:=dig_le (headL t) i; omega)
 have hrz:∀ i,i<18->(recV n t q i).size=16:=fun i hi=>linksV_size _ _ _ _ (cut_size q i hq hi) _
 have hac:∀ k,k<=18->(accT (recV n t q) k).size=16*k:=fun k hk=>by
  rw [show accT (recV n t q) k=accT (fun i=>if i<18 then recV n t q i else secV t n i) k from accT_congr k fun i hi=>(if_pos (by omega)).symm]
  refine accT_size _ (fun i=>?_) k
  show (if i<18 then recV n t q i else secV t n i).size=16
  split
  ·exact hrz i (by assumption)
  ·exact secV_size _ _ _
 have hn0:¬ (n:Int)<0:=by omega
 have hn1:¬ 65535<(n:Int):=by omega
 have hV:=fun w=>digits_var w t
 have hdi:=dig_info t
 have hds:=dig_size t
 have hdc:∀ i,i<18->(dcell (digs (headL t)))[i]?=some (.int .i64 (dig (headL t) i:Int)):=fun i hi=>dcell_get _ (digs_length _) i hi
 obtain ⟨dg,hdd⟩:∃ dg,digs (headL t)=dg:=⟨_,rfl⟩
 rw [hdd] at hD hV hdi hds hdc
 replace hdd:=Box.mk hdd
 replace hV:=Box.mk hV
 replace hL:=Box.mk hL
 replace hdc:=Box.mk hdc
 replace hrz:=Box.mk hrz
 replace hac:=Box.mk hac
 go_enter Tryz.func100,Tryz.ntmps100
 go_wp2_with fail
 refine hD.mono ?_
 clear hD
 rintro e w2 ⟨rfl,hb2⟩
 obtain ⟨q1,q2⟩:=hV.out w2
 have hZ:Box (Blk (w2.alloc (.cells zeros18 228)) w2.heap.size (dcell []) 228):=⟨zeros18_blk w2⟩
 have hb3:Below w.heap.size w ((w2.alloc (.cells zeros18 228)).setRow w2.heap.size (dcell dg).toArray):=hb2.trans (q1.mono hb2.size)
 have hB3:Box (Below w.heap.size w ((w2.alloc (.cells zeros18 228)).setRow w2.heap.size (dcell dg).toArray)):=⟨hb3⟩
 have hQ3:=Box.mk q2
 obtain ⟨bd,hbd⟩:∃ bd,w2.heap.size=bd:=⟨_,rfl⟩
 rw [hbd] at hZ hB3 hQ3
 clear hV q1 q2 hb2 hb3
 go_wp2_with (refine wpList_store_row rfl 228 (.tmp 8) (.tmp 21) rfl bd (dcell dg).toArray rfl rfl 228 zeros18 hZ.out hdi hds (dcell_one _) ?_)
 replace hbd:=Box.mk hbd
 clear hZ
 go_loopw [9,10] (fun v q' wr=>∃ k:Nat,k<=18/\v=.string (accT (recV n t q) k)/\q'=.int .i64 (k:Int)/\Box (Blk wr bd (dcell dg) 228)/\Box (Below w.heap.size w wr)) (fun _ q' _=>18-(intOf q').toNat)
 case atStart=>exact ⟨0,by omega,rfl,rfl,hQ3,hB3⟩
 case round=>
  clear hQ3 hB3
  obtain ⟨k,hk,rfl,rfl,hQ,hB⟩:=hrel
  by_cases hlt:k<18
  ·have hG:=hL.out k wr.drew hlt
   have hnext:=accT_succ (recV n t q) k
   have hsz:=hac.out k hk
   have hez:=hrz.out k hlt
   have c3:=hQ.out.cell k
   rw [hdc.out k hlt] at c3
   have hdl:=dig_le (headL t) k
   have hcz:=cut_size q k hq hlt
   rw [show linksV n k (dig (headL t) k) (15-dig (headL t) k) (q.extract (16*k) (16*k+16))=recV n t q k from rfl,show dig (headL t) k+(15-dig (headL t) k)=15 by omega] at hG
   obtain ⟨x,hx⟩:∃ x,q.extract (16*k) (16*k+16)=x:=⟨_,rfl⟩
   obtain ⟨y,hy⟩:∃ y,recV n t q k=y:=⟨_,rfl⟩
   obtain ⟨u,hu⟩:∃ u,accT (recV n t q) k=u:=⟨_,rfl⟩
   obtain ⟨v,hv⟩:∃ v,accT (recV n t q) (k+1)=v:=⟨_,rfl⟩
   obtain ⟨d,hd⟩:∃ d,dig (headL t) k=d:=⟨_,rfl⟩
   rw [hx] at hG hcz
   rw [hy] at hG hnext hez
   rw [hd] at hG c3 hdl
   rw [hu,hv] at hnext
   rw [hu] at hsz
   rw [hu]
   have e1:((16:Int)*(k:Int)).toNat=16*k:=by omega
   have e2:((16:Int)*(k:Int)+16).toNat=16*k+16:=by omega
   replace hy:=Box.mk hy
   replace hu:=Box.mk hu
   replace hv:=Box.mk hv
   replace hd:=Box.mk hd
   have hl3:=hQ.out.lt
   have d3:wr.drew.cell? ⟨bd,k,none⟩=some (.int .i64 (d:Int)):=c3
   go_wp2_with fail
   refine region_go (C:=fun w'=>w'.cell? ⟨bd,k,none⟩=some (.int .i64 (d:Int))) rfl ?_
   refine go_calms [0,1,2,3,4,5,6,7,8,9,10,11,12] 3 rfl (by kernel_rfl) (by kernel_rfl) (by kernel_rfl) d3 ?_
   simp [nth]
   try simp only [Act.put]
   repeat (go_big_quiet_step (first | exact fun _=>rfl | rfl))
   refine quiet_any rfl (.int .i64 (d:Int)) (fun w' hw'=>by go_simp) ?_
   simp only [Act.put,zT9,zS9,zZ9]
   repeat (go_big_quiet_step (first | exact fun _=>rfl | rfl))
   refine wpQuiet_nil ?_
   have hBd:Box (Below w.heap.size w wr.drew):=⟨hB.out.trans (Drawn.below ⟨1,rfl⟩)⟩
   have hQd:Box (Blk wr.drew bd (dcell dg) 228):=⟨hQ.out.drewN 1⟩
   refine go_forced 13 (by kernel_rfl) (goOp_wp 13 rfl rfl (fun K hK=>?_))
   go_simp
   refine hG.mono ?_
   rintro e w2 ⟨rfl,hb2⟩
   have hB2:Box (Below w.heap.size w w2):=⟨hBd.out.trans (hb2.mono hBd.out.size)⟩
   have hQ2:Box (Blk w2 bd (dcell dg) 228):=⟨hQd.out.below hb2 hQd.out.lt⟩
   have d2:w2.cell? ⟨bd,k,none⟩=some (.int .i64 (d:Int)):=(hb2.cell (p:=⟨bd,k,none⟩) hQd.out.lt).trans d3
   refine hK _ _ d2 ?_
   clear hK K hG hb2 hB hBd hQd c3 d3
   refine go_calms [14,15] 0 rfl (by kernel_rfl) (by kernel_rfl) (by kernel_rfl) d2 ?_
   simp [nth]
   try simp only [Act.put]
   repeat (go_big_quiet_step (first | exact fun _=>rfl | rfl))
   refine wpQuiet_nil ?_
   refine go_done (by kernel_rfl) ?_
   go_simp
   go_wp2_with fail
   have hm:18-(intOf (Value.int IntKind.i64 (↑k+1))).toNat<18-(intOf (Value.int IntKind.i64 ↑k)).toNat:=by simp [intOf]; omega
   exact ⟨⟨k+1,by omega,by rw [hv.out],by go_num,hQ2,hB2⟩,hm⟩
  ·obtain rfl:k=18:=by omega
   have hsz:=hac.out 18 hk
   obtain ⟨u,hu⟩:∃ u,accT (recV n t q) 18=u:=⟨_,rfl⟩
   rw [hu] at hsz
   have hF:=rtag_parts 35 (.slice (some ⟨wr.heap.size,0,none⟩) 1 1) [u] (wr.alloc (.cells #[.string u] 9)) (parts_new wr [u] 9) (tag288 u hsz) (by simp)
   rw [show hashOf (tagL 35 [u])=recT n t q by rw [<- hu]; rfl] at hF
   have hB1:Box (Below w.heap.size w (wr.alloc (.cells #[.string u] 9))):=⟨hB.out.alloc hB.out.size _⟩
   rw [hu]
   replace hu:=Box.mk hu
   clear hL hB hQ
   go_wp2_with fail
   refine hF.mono ?_
   clear hF
   rintro e w2 ⟨rfl,hb2⟩
   have hB2:Box (Below w.heap.size w w2):=⟨hB1.out.trans (hb2.mono hB1.out.size)⟩
   clear hb2 hB1
   go_wp2_with fail
   go_returns
   exact ⟨rfl,hB2.out⟩
theorem getN (q:ByteArray) (i:Nat) (hi:i<q.size):(((q[i]'hi).toNat:Nat):Int)=(((q.data.toList.getD i 0).toNat:Nat):Int):=by
 simp [List.getD,hi,ByteArray.getElem_eq_getElem_data]
theorem r6number_any (q:ByteArray) (w:World) :
  Calls Tryz.prog 99 #[.string q] w fun e w'=>e=.returned (.tuple #[.int .i64 ((numE q).1:Int),.int .i64 (numE q).2])/\Below w.heap.size w w':=by
 have hB:Box (Below w.heap.size w w):=⟨Below.refl _ _⟩
 have hBd:Box (Below w.heap.size w w.drew):=⟨Drawn.below ⟨1,rfl⟩⟩
 have hiff:=sgOk_iff q
 by_cases c1:q.size<291
 ·have hq:sgOk q=false:=by
   cases h:sgOk q with
   | false=>rfl
   | true=>obtain ⟨h1,h2,h3⟩:=hiff.1 h; omega
  rw [numE,hq,if_neg (by simp)]
  have i1:(q.size:Int)<291:=by omega
  clear hiff hq c1
  go_enter Tryz.func99,Tryz.ntmps99
  go_wp2_with fail
  go_returns
  exact ⟨rfl,hB.out⟩
 have i1:¬ (q.size:Int)<291:=by omega
 have x0:0<q.size:=by omega
 have x1:1<q.size:=by omega
 have x2:2<q.size:=by omega
 have g0:(((q[0]'x0).toNat:Nat):Int)=((sgH q:Nat):Int):=getN q 0 x0
 have hHl:=sgH_lt q
 by_cases c2:4<sgH q
 ·have hq:sgOk q=false:=by
   cases h:sgOk q with
   | false=>rfl
   | true=>obtain ⟨h1,h2,h3⟩:=hiff.1 h; omega
  rw [numE,hq,if_neg (by simp)]
  have i2:4<(sgH q:Int):=by omega
  clear hiff hq c1
  go_enter Tryz.func99,Tryz.ntmps99
  go_wp2_with fail
  go_returns
  exact ⟨rfl,hB.out⟩
 have i2:¬ 4<(sgH q:Int):=by omega
 by_cases c3:¬ q.size=291+32*sgH q
 ·have hq:sgOk q=false:=by
   cases h:sgOk q with
   | false=>rfl
   | true=>obtain ⟨h1,h2,h3⟩:=hiff.1 h; omega
  rw [numE,hq,if_neg (by simp)]
  have i3:¬ ((q.size:Int)=291+32*(sgH q:Int)):=by omega
  have i4:((q.size:Int) != 291+32*(sgH q:Int))=true:=by simp; omega
  clear hiff hq c1
  go_enter Tryz.func99,Tryz.ntmps99
  go_wp2_with fail
  go_returns
  exact ⟨rfl,hB.out⟩
 have i3:(q.size:Int)=291+32*(sgH q:Int):=by omega
 have i4:((q.size:Int) != 291+32*(sgH q:Int))=false:=by simp; omega
 have g1:=getN q 1 x1
 have g2:=getN q 2 x2
 have hNl:=sgN_lt q
 have hN:(((q.data.toList.getD 1 0).toNat:Nat):Int)*256+(((q.data.toList.getD 2 0).toNat:Nat):Int)=(sgN q:Int):=by unfold sgN; omega
 have b1:=(q.data.toList.getD 1 0).toNat_lt
 have b2:=(q.data.toList.getD 2 0).toNat_lt
 generalize (q.data.toList.getD 1 0).toNat=u1 at g1 hN b1
 generalize (q.data.toList.getD 2 0).toNat=u2 at g2 hN b2
 obtain ⟨H,hH⟩:∃ H,sgH q=H:=⟨_,rfl⟩
 obtain ⟨N,hNe⟩:∃ N,sgN q=N:=⟨_,rfl⟩
 have hP:=pow2_lt H (by omega)
 obtain ⟨P,hPe⟩:∃ P,2 ^ H=P:=⟨_,rfl⟩
 have hp:(2:Int) ^ H=(P:Int):=by rw [<- hPe]; simp
 rw [hPe] at hP
 rw [hH] at g0 i2 i3 i4
 rw [hNe] at hN hNl
 have hE:numE q=if N<P then (N,0) else (0,3):=by
  unfold numE
  by_cases h:N<P
  ·rw [if_pos h,hiff.2 ⟨by omega,by omega,by rw [hNe,hH,hPe]; exact h⟩,if_pos rfl,hNe]
  ·rw [if_neg h,if_neg (fun h1=>by
    obtain ⟨h2,h3,h4⟩:=hiff.1 h1
    rw [hNe,hH,hPe] at h4
    exact h h4)]
 rw [hE]
 have w1:IntKind.i64.wrap ((u1:Int)*256)=(u1:Int)*256:=by rw [IntKind.wrap_i64]; omega
 have w2:IntKind.i64.wrap ((u1:Int)*256+(u2:Int))=(N:Int):=by rw [IntKind.wrap_i64]; omega
 have w3:IntKind.i64.wrap (P:Int)=(P:Int):=by rw [IntKind.wrap_i64]; omega
 have hnot:∀ (x:Bool) (w:World),(Op.unary .not (.bool x)).run Tryz.prog w=.ok (.bool (!x)) w:=fun _ _=>rfl
 clear hiff hE c1 c3 hH hNe hPe i3 hN
 go_enter Tryz.func99,Tryz.ntmps99
 go_wp2_with fail
 refine region_go (C:=fun _=>True) rfl ?_
 refine go_calms [0,1,2,3,4,5,6,7,8] 0 rfl (by kernel_rfl) (by kernel_rfl) (by kernel_rfl) trivial ?_
 simp [nth]
 try simp only [Act.put]
 repeat (go_big_quiet_step (first | exact fun _=>rfl | rfl))
 refine wpQuiet_nil ?_
 refine go_done (by kernel_rfl) ?_
 go_simp
 by_cases hNP:N<P
 ·have hge:¬ (P:Int)<=(N:Int):=by omega
  go_wp2_with fail
  go_returns
  exact ⟨by simp,hBd.out⟩
 ·have hge:(P:Int)<=(N:Int):=by omega
  go_wp2_with fail
  go_returns
  exact ⟨by simp,hBd.out⟩
theorem r6id_any (h:Nat) (t:ByteArray) (w:World) (hh:h<=255) (ht:t.size=32) :
  Calls Tryz.prog 102 #[.int .i64 (h:Int),.string t] w fun e w'=>e=.returned (.string (idV h t))/\Below w.heap.size w w':=by
 have h1:(by1 h).size=1:=rfl
 have hsz:=tag2_len 38 (by1 h) t (by omega) (by omega)
 have hN:((UInt8.ofNat h).toNat:Int)=(h:Int):=by rw [UInt8.toNat_ofNat']; omega
 have hcv:=one_text w (UInt8.ofNat h)
 have hF:=rtag_parts 38 (.slice (some ⟨w.heap.size+1,0,none⟩) 2 2) [by1 h,t] ((w.alloc (.cells #[Value.int .u8 ((UInt8.ofNat h).toNat:Int)] 5)).alloc (.cells #[.string (by1 h),.string t] 9))
  (by have:=parts_new (w.alloc (.cells #[Value.int .u8 ((UInt8.ofNat h).toNat:Int)] 5)) [by1 h,t] 9; rwa [show (w.alloc (.cells #[Value.int .u8 ((UInt8.ofNat h).toNat:Int)] 5)).heap.size=w.heap.size+1 by simp] at this)
  (by omega) (by simp)
 rw [show hashOf (tagL 38 [by1 h,t])=idV h t from rfl] at hF
 have hB:Box (Below w.heap.size w ((w.alloc (.cells #[Value.int .u8 ((UInt8.ofNat h).toNat:Int)] 5)).alloc (.cells #[.string (by1 h),.string t] 9))):=⟨((Below.refl _ _).alloc (Nat.le_refl _) _).alloc (by simp) _⟩
 obtain ⟨y,hy⟩:∃ y,idV h t=y:=⟨_,rfl⟩
 rw [hy] at hF ⊢
 rw [show one (UInt8.ofNat h)=by1 h from rfl] at hcv
 obtain ⟨x,hx⟩:∃ x,by1 h=x:=⟨_,rfl⟩
 rw [hx] at hF hcv hB
 rw [hN] at hF hcv hB
 clear hsz hy hx h1 hN
 go_enter Tryz.func102,Tryz.ntmps102
 go_wp2_with fail
 refine hF.mono ?_
 rintro e w3 ⟨rfl,hb3⟩
 clear hF
 have hB3:Box (Below w.heap.size w w3):=⟨hB.out.trans (hb3.mono (by simp; omega))⟩
 clear hb3
 go_wp2_with fail
 go_ret
 exact ⟨rfl,hB3.out⟩
theorem r6verify_no (i t q:ByteArray) (w:World) (hq:sgOk q=false) :
  Calls Tryz.prog 51 #[.string i,.string t,.string q] w fun e w'=>e=.returned (.int .i64 3)/\Below w.heap.size w w':=by
 have hF:=r6number_any q w
 rw [numE,hq,if_neg (by simp)] at hF
 clear hq
 go_enter Tryz.func51,Tryz.ntmps51
 go_wp2_with fail
 refine hF.mono ?_
 clear hF
 rintro e w1 ⟨rfl,hb1⟩
 replace hb1:=Box.mk hb1
 go_wp2_with fail
 go_returns
 exact ⟨rfl,hb1.out⟩
theorem r6verify_ok (i t q:ByteArray) (w:World) (hq:sgOk q=true) (ht:t.size<=140737488351232) :
  Calls Tryz.prog 51 #[.string i,.string t,.string q] w fun e w'=>e=.returned (.int .i64 (if idV (sgH q) (upV (recT (sgN q) t (sgO q)) (sgN q) (sgB q) (sgH q))=i then 0 else 9))/\Below w.heap.size w w':=by
 have hF:=r6number_any q w
 rw [numE,if_pos hq] at hF
 obtain ⟨q1,q2,q3⟩:=(sgOk_iff q).1 hq
 have hp:=pow2_lt (sgH q) q1
 have hR:=fun w1=>rrecover_ok t (sgO q) (sgN q) w1 (by omega) (sgO_size q hq) ht
 have hO:q.extract 3 291=sgO q:=rfl
 have x0:0<q.size:=by omega
 have x1:291<=q.size:=by omega
 have x2:(291:Int)<=(q.size:Int):=by omega
 have g0:(((q[0]'x0).toNat:Nat):Int)=((sgH q:Nat):Int):=getN q 0 x0
 have hcut:∀ j,j<sgH q->(sgB q).extract (32*j) (32*j+32)=q.extract (291+32*j) (291+32*j+32):=fun j hj=>by
  rw [sgB,ext_ext _ _ _ _ _ (by omega),Nat.add_assoc]
 have hus:∀ j,(upV (recT (sgN q) t (sgO q)) (sgN q) (sgB q) j).size=32:=fun j=>upV_size _ _ _ (tagS_size _ _) j
 have hu0:upV (recT (sgN q) t (sgO q)) (sgN q) (sgB q) 0=recT (sgN q) t (sgO q):=rfl
 have hup:∀ j,j<sgH q->upV (recT (sgN q) t (sgO q)) (sgN q) (sgB q) (j+1)=if (sgN q / 2 ^ j) % 2=0 then nodeV (upV (recT (sgN q) t (sgO q)) (sgN q) (sgB q) j) (q.extract (291+32*j) (291+32*j+32)) else nodeV (q.extract (291+32*j) (291+32*j+32)) (upV (recT (sgN q) t (sgO q)) (sgN q) (sgB q) j):=fun j hj=>by
  rw [upV,hcut j hj]
 obtain ⟨U,hU⟩:∃ U,upV (recT (sgN q) t (sgO q)) (sgN q) (sgB q)=U:=⟨_,rfl⟩
 have hI:=fun w1=>r6id_any (sgH q) (U (sgH q)) w1 (by omega) (by rw [<- hU]; exact hus _)
 rw [hU] at hup hus hu0 ⊢
 rw [<- hu0] at hR
 rw [hO.symm] at hR
 generalize hHe:sgH q=H at *
 generalize hNe:sgN q=N at *
 have q2':(q.size:Int)=291+32*(H:Int):=by omega
 replace hR:=Box.mk hR
 replace hI:=Box.mk hI
 replace hup:=Box.mk hup
 replace hus:=Box.mk hus
 replace q2:=Box.mk q2
 replace q2':=Box.mk q2'
 have hB0:Box (Below w.heap.size w w):=⟨Below.refl _ _⟩
 obtain ⟨E,hE⟩:∃ E,(if idV H (U H)=i then (0:Int) else 9)=E:=⟨_,rfl⟩
 rw [hE]
 replace hE:=Box.mk hE
 clear hq ht hcut hu0 hU hO hHe hNe q3
 go_enter Tryz.func51,Tryz.ntmps51
 go_wp2_with fail
 refine hF.mono ?_
 clear hF
 rintro e w1 ⟨rfl,hb1⟩
 have hF:=hR.out w1
 replace hb1:=Box.mk hb1
 go_wp2_with fail
 refine hF.mono ?_
 clear hF hR
 rintro e w2 ⟨rfl,hb2⟩
 have hB2:Box (Below w.heap.size w w2):=⟨mono_bel hb1.out hb2 (Nat.le_refl _)⟩
 clear hb1 hb2 hB0
 go_wp2_with fail
 go_loopw [9,11] (fun v9 v11 wr=>∃ j:Nat,j<=H/\v9=.string (U j)/\v11=.int .i64 (j:Int)/\Box (Below w.heap.size w wr)) (fun _ v11 _=>H-(intOf v11).toNat)
 case atStart=>exact ⟨0,by omega,rfl,rfl,hB2⟩
 case round=>
  clear hB2
  obtain ⟨j,hj,rfl,rfl,hB⟩:=hrel
  by_cases hlt:j<H
  ·have e1:(291+32*(j:Int)).toNat=291+32*j:=by omega
   have e2:(323+32*(j:Int)).toNat=291+32*j+32:=by omega
   have e3:323+32*(j:Int)<=(q.size:Int):=by rw [q2'.out]; omega
   have hus1:=hus.out j
   have hup1:=hup.out j hlt
   have hxs:(q.extract (291+32*j) (291+32*j+32)).size=32:=by rw [ByteArray.size_extract]; have:=q2.out; omega
   obtain ⟨x,hx⟩:∃ x,q.extract (291+32*j) (291+32*j+32)=x:=⟨_,rfl⟩
   rw [hx] at hup1 hxs
   obtain ⟨u,hu⟩:∃ u,U j=u:=⟨_,rfl⟩
   rw [hu] at hup1 hus1 ⊢
   obtain ⟨m,hm⟩:∃ m,N / 2 ^ j=m:=⟨_,rfl⟩
   rw [hm] at hup1
   have hT1:=fun w1:World=>rtag_parts 37 (.slice (some ⟨w1.heap.size,0,none⟩) 2 2) [u,x] (w1.alloc (.cells #[.string u,.string x] 9)) (parts_new w1 [u,x] 9) (by have:=tag2_len 37 u x (by omega) (by omega); omega) (by simp)
   have hT2:=fun w1:World=>rtag_parts 37 (.slice (some ⟨w1.heap.size,0,none⟩) 2 2) [x,u] (w1.alloc (.cells #[.string x,.string u] 9)) (parts_new w1 [x,u] 9) (by have:=tag2_len 37 x u (by omega) (by omega); omega) (by simp)
   have hdv:(N:Int) / 2 ^ j=(m:Int):=by rw [<- hm]; simp
   by_cases h2:m % 2=0
   ·have hrm:(m:Int).tmod 2=0:=by rw [Int.tmod_eq_emod_of_nonneg (by omega)]; omega
    rw [if_pos h2] at hup1
    replace hup1:=Box.mk hup1
    go_wp2_with fail
    refine (hT1 wr).mono ?_
    rintro e w3 ⟨rfl,hb3⟩
    have hB3:Box (Below w.heap.size w w3):=⟨(hB.out.alloc hB.out.size _).trans (hb3.mono (by have:=hB.out.size; simp; omega))⟩
    clear hT1 hT2 hb3 hB
    go_wp2_with fail
    exact ⟨⟨j+1,by omega,by rw [hup1.out]; rfl,by go_num,hB3⟩,by simp [intOf]; omega⟩
   ·have hrm:(m:Int).tmod 2=1:=by rw [Int.tmod_eq_emod_of_nonneg (by omega)]; omega
    rw [if_neg h2] at hup1
    replace hup1:=Box.mk hup1
    go_wp2_with fail
    refine (hT2 wr).mono ?_
    rintro e w3 ⟨rfl,hb3⟩
    have hB3:Box (Below w.heap.size w w3):=⟨(hB.out.alloc hB.out.size _).trans (hb3.mono (by have:=hB.out.size; simp; omega))⟩
    clear hT1 hT2 hb3 hB
    go_wp2_with fail
    exact ⟨⟨j+1,by omega,by rw [hup1.out]; rfl,by go_num,hB3⟩,by simp [intOf]; omega⟩
  ·obtain rfl:j=H:=by omega
   have hF:=hI.out wr
   obtain ⟨y,hy⟩:∃ y,idV j (U j)=y:=⟨_,rfl⟩
   rw [hy] at hF
   replace hy:=Box.mk hy
   go_wp2_with fail
   refine hF.mono ?_
   rintro e w3 ⟨rfl,hb3⟩
   have hB3:Box (Below w.heap.size w w3):=⟨mono_bel hB.out hb3 (Nat.le_refl _)⟩
   clear hF hb3 hB
   by_cases he:y=i
   ·subst he
    go_wp2_with fail
    go_returns
    exact ⟨by rw [<- hE.out,hy.out]; simp,hB3.out⟩
   ·have he2:=txt_ne he
    have he3:(y.toList==i.toList)=false:=by simp [he2]
    go_wp2_with fail
    go_returns
    exact ⟨by rw [<- hE.out,hy.out]; simp [he],hB3.out⟩
theorem r6verify_any (i t q:ByteArray) (w:World) (ht:t.size<=140737488351232) :
  Calls Tryz.prog 51 #[.string i,.string t,.string q] w fun e w'=>e=.returned (.int .i64 (verE i t q))/\Below w.heap.size w w':=by
 unfold verE
 cases hq:sgOk q with
 | true=>simpa using r6verify_ok i t q w hq ht
 | false=>simpa using r6verify_no i t q w hq
end Go.Proofs.YthpfpkikmaiddaaGreatDoor
