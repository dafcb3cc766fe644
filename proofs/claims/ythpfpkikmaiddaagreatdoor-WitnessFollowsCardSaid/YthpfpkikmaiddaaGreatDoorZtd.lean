/- - -/
import Derived.Test.YthpfpkikmaiddaaGreatDoorZtc
import Derived.Test.YthpfpkikmaiddaaGreatDoorZtx
set_option linter.all false
set_option maxHeartbeats 3200000
set_option maxRecDepth 100000
namespace Go.Proofs.YthpfpkikmaiddaaGreatDoor
open Go Go.RowKit
theorem half_le {n d:Nat} (h2:2<=n) (hd:n<=2 ^ (d+1)):cutN n<=2 ^ d/\n-cutN n<=2 ^ d:=by
 have h1:=cutN_lt h2
 have h3:=cutN_ge n
 have:cutN n<=2 ^ d:=by
  unfold cutN at h1 ⊢
  have:(n-1).log2<d+1:=(Nat.pow_lt_pow_iff_right (a:=2) (by decide)).1 (Nat.lt_of_lt_of_le h1 hd)
  exact Nat.pow_le_pow_right (by decide) (by omega)
 omega
def Rows_ (w:World) (ps:List ByteArray) (e:Ending) (w':World):Prop:=∃ v,e=.returned v/\TxR w.heap.size w' v ps/\Below w.heap.size w w'
end Go.Proofs.YthpfpkikmaiddaaGreatDoor
namespace Go.Proofs.YthpfpkikmaiddaaGreatDoor
open Go Go.RowKit
def RowsE (w:World) (ps:List ByteArray) (er:Int) (e:Ending) (w':World):Prop:=∃ v,e=.returned (.tuple #[v,.int .i64 er])/\TxR w.heap.size w' v ps/\Below w.heap.size w w'
theorem partL_len:∀ (d:Nat) (l:List ByteArray) (m:Nat) (whole:Bool),l.length<=2 ^ d->(partL m l whole).length<=d+1
 | 0,l,m,whole,h=>by
  rw [partL]
  have:l.length<=1:=by simpa using h
  split
  ·cases whole <;> simp
  ·simp
 | d+1,l,m,whole,h=>by
  by_cases hm:m=l.length
  ·rw [partL_all m l whole hm]
   cases whole <;> simp
  ·by_cases h2:2<=l.length
   ·obtain ⟨h3,h4⟩:=half_le h2 h
    by_cases hi:m<=cutN l.length
    ·rw [partL_left m l whole h2 hm hi,List.length_append,List.length_singleton]
     have:=partL_len d (l.take (cutN l.length)) m whole (by simp; omega)
     omega
    ·rw [partL_right m l whole h2 hm (by omega),List.length_append,List.length_singleton]
     have:=partL_len d (l.drop (cutN l.length)) (m-cutN l.length) false (by simp; omega)
     omega
   ·rw [partL,if_neg hm,dif_pos (by omega)]; exact Nat.zero_le _
theorem partL_64 {l:List ByteArray} (h:l.length<=9223372036854775807) (m:Nat) (whole:Bool):(partL m l whole).length<=64:=partL_len 63 l m whole (by omega)
theorem txr_new (w:World) (x:ByteArray):TxR w.heap.size (w.alloc (.cells #[.string x] 9)) (.slice (some ⟨w.heap.size,0,none⟩) 1 1) [x]:=
 ⟨rfl,.inr ⟨w.heap.size,1,#[.string x],rfl,Nat.le_refl _,heap_alloc_new w _,Nat.le_refl _,by unfold maxLen; omega,rfl,rfl⟩⟩
theorem rpart_any:∀ (n:Nat) (l:List ByteArray) (m:Nat) (whole:Bool) (a:Option Addr) (c:Nat) (w:World),PA w a n c l->Fit l->0<m->m<=n ->
  Calls Tryz.prog 57 #[.int .i64 (m:Int),.slice a n c,.bool whole] w (Rows_ w (partL m l whole)):=by
 intro n
 induction n using Nat.strongRecOn with
 | ind n ih=>
  intro l m whole a c w hP hF hm0 hm
  have hlen:=hP.len
  by_cases hmn:m=n
  ·subst hmn
   rw [partL_all m l whole hlen.symm]
   cases whole with
   | true=>
    clear ih hP hF hlen hm hm0
    rw [if_pos rfl]
    go_enter Tryz.func57,Tryz.ntmps57
    go_wp2_with fail
    go_ret
    exact ⟨_,rfl,TxR.nil _ _,Below.refl _ _⟩
   | false=>
    have hR:=rroot_any m l a c w hP hF
    obtain ⟨x,hx⟩:∃ x,rootL l=x:=⟨_,rfl⟩
    rw [hx] at hR ⊢
    clear ih hP hF hlen hm hm0 hx
    rw [if_neg (by simp)]
    go_enter Tryz.func57,Tryz.ntmps57
    go_wp2_with fail
    refine hR.mono ?_
    rintro e w3 ⟨rfl,hb3⟩
    clear hR
    have hT:=Box.mk ((txr_new w3 x).base hb3.size)
    have hB:=Box.mk (mono_bel hb3 (bel_alloc w3 (.cells #[.string x] 9)) (Nat.le_refl _))
    clear hb3
    go_wp2_with fail
    go_ret
    exact ⟨_,rfl,hT.out,hB.out⟩
  ·have hn:2<=n:=by omega
   have hmn2:((m:Int)==(n:Int))=false:=by simp; omega
   have hk:=cutN_lt hn
   have hk0:=cutN_pos n
   have hcap:=hP.cap
   have htop:=hP.top
   obtain ⟨hz1,hz2⟩:=fit_node hF (cutN n)
   obtain ⟨blk,off,rfl,_⟩:=hP.at_ (by omega)
   have hC:=power_any n w hn (by omega)
   have hPl:=partL_64 (l:=l) (by omega) m whole
   have hT:=fun w' (hb:Below w.heap.size w w')=>rroot_any (cutN n) (l.take (cutN n)) _ c w' ((hP.here hb).take (by omega)) (hF.take _)
   have hD:=fun w' (hb:Below w.heap.size w w')=>rroot_any (n-cutN n) (l.drop (cutN n)) _ (c-cutN n) w' ((hP.here hb).drop (by omega)) (hF.drop _)
   have hL:=fun (hik:m<=cutN n) w' (hb:Below w.heap.size w w')=>ih (cutN n) hk (l.take (cutN n)) m whole _ c w' ((hP.here hb).take (by omega)) (hF.take _) hm0 hik
   have hR:=fun (hik:cutN n<m) w' (hb:Below w.heap.size w w')=>ih (n-cutN n) (by omega) (l.drop (cutN n)) (m-cutN n) false _ (c-cutN n) w' ((hP.here hb).drop (by omega)) (hF.drop _) (by omega) (by omega)
   have hl1:=partL_left m l whole (by omega) (by omega)
   have hl2:=partL_right m l whole (by omega) (by omega)
   rw [hlen] at hl1 hl2
   obtain ⟨x,hx⟩:∃ x,rootL (l.take (cutN n))=x:=⟨_,rfl⟩
   obtain ⟨y,hy⟩:∃ y,rootL (l.drop (cutN n))=y:=⟨_,rfl⟩
   rw [hx] at hT hl2 hz1
   rw [hy] at hD hl1 hz2
   obtain ⟨k,hkk⟩:∃ k,cutN n=k:=⟨_,rfl⟩
   rw [hkk] at hk hk0 hC hL hR hl1 hl2 hT hD
   clear hx hy hz1 hz2 hkk ih hF hP hlen
   by_cases hik:m<=k
   ·have hik2:(m:Int)<=(k:Int):=by omega
    replace hL:=hL hik
    replace hl1:=hl1 hik
    obtain ⟨O,hO⟩:∃ O,partL m (l.take k) whole=O:=⟨_,rfl⟩
    rw [hO] at hL hl1
    rw [hl1] at hPl ⊢
    clear hT hR hl2 hO hl1
    replace hPl:=Box.mk hPl
    go_enter Tryz.func57,Tryz.ntmps57
    go_wp2_with fail
    refine hC.mono ?_
    rintro e w3 ⟨rfl,rfl⟩
    clear hC
    go_wp2_with fail
    have hd:=dB w3
    refine region_go (C:=fun _=>True) rfl ?_
    generalize w3.drew=wd at *
    refine go_calms [0,1,2,3,4,6,7,8] 5 rfl (by kernel_rfl) (by kernel_rfl) (by kernel_rfl) trivial ?_
    simp [nth]
    try simp only [Act.put,zT9,zS9,zZ9]
    repeat (go_big_quiet_step (first | exact fun _=>rfl | rfl))
    refine wpQuiet_nil ?_
    replace hL:=hL wd hd
    refine go_forced 5 (by kernel_rfl) (goOp_wp 5 rfl rfl (fun K hK=>?_))
    go_simp
    refine hL.mono ?_
    rintro e w8 ⟨v8,rfl,hT8,hB8⟩
    replace hB8:=Box.mk (mono_bel hd hB8 (Nat.le_refl _))
    replace hT8:=Box.mk (hT8.base hd.size)
    replace hD:=hD w8 hB8.out
    refine hK _ _ trivial ?_
    clear hK K hL hd
    try simp only [Act.put,zT9,zS9,zZ9]
    refine go_forced 9 (by kernel_rfl) (goOp_wp 9 rfl rfl (fun K hK=>?_))
    go_simp
    refine hD.mono ?_
    rintro e w9 ⟨rfl,hb9⟩
    replace hT8:=Box.mk (hT8.out.here hb9)
    replace hB8:=Box.mk (mono_bel hB8.out hb9 (Nat.le_refl _))
    refine hK _ _ trivial ?_
    clear hK K hD hb9
    try simp only [Act.put,zT9,zS9,zZ9]
    refine go_forced 10 (by kernel_rfl) (goOp_wp 10 rfl rfl (fun K hK=>?_))
    go_simp
    refine hK _ _ trivial ?_
    clear hK K
    try simp only [Act.put,zT9,zS9,zZ9]
    refine go_forced 11 (by kernel_rfl) (goOp_wp 11 rfl rfl (fun K hK=>?_))
    refine wp_pushT (.tmp 27) (.tmp 32) rfl w3.heap.size v8 O [y] rfl (hT8.out.here (bel_alloc _ _)) (by have:=hB8.out.size; simp; omega) (some ⟨w9.heap.size,0,none⟩) 1 1 rfl rfl (parts_new w9 [y] 9) (by have:=hPl.out; simp at this; omega) ?_
    rintro v10 w10 hp
    have hB10:=Box.mk (hp.bel (mono_bel hB8.out (bel_alloc _ _) (Nat.le_refl _)) (hT8.out.here (bel_alloc _ _)))
    have hT10:=Box.mk hp.row
    refine hK _ _ trivial ?_
    clear hK K hp hB8 hT8
    try simp only [Act.put,List.setIfInBounds_toArray]
    refine go_calms [12] 0 rfl (by kernel_rfl) (by kernel_rfl) (by kernel_rfl) trivial ?_
    simp [nth]
    try simp only [Act.put,zT9,zS9,zZ9]
    repeat (go_big_quiet_step (first | exact fun _=>rfl | rfl))
    refine wpQuiet_nil ?_
    refine go_done (by kernel_rfl) ?_
    go_simp
    go_wp2_with fail
    go_ret
    exact ⟨_,rfl,hT10.out,hB10.out⟩
   ·have hik2:¬ (m:Int)<=(k:Int):=by omega
    have hki:k<m:=by omega
    have hsub:(m:Int)-(k:Int)=((m-k:Nat):Int):=by omega
    replace hR:=hR hki
    replace hl2:=hl2 hki
    obtain ⟨O,hO⟩:∃ O,partL (m-k) (l.drop k) false=O:=⟨_,rfl⟩
    rw [hO] at hR hl2
    rw [hl2] at hPl ⊢
    rw [<- hsub] at hR
    clear hD hL hl1 hO hl2 hki hik hsub
    replace hPl:=Box.mk hPl
    go_enter Tryz.func57,Tryz.ntmps57
    go_wp2_with fail
    refine hC.mono ?_
    rintro e w3 ⟨rfl,rfl⟩
    clear hC
    go_wp2_with fail
    have hd:=dB w3
    refine region_go (C:=fun _=>True) rfl ?_
    generalize w3.drew=wd at *
    refine go_calms [0,1,2,3,4,5,7,8,9] 5 rfl (by kernel_rfl) (by kernel_rfl) (by kernel_rfl) trivial ?_
    simp [nth]
    try simp only [Act.put,zT9,zS9,zZ9]
    repeat (go_big_quiet_step (first | exact fun _=>rfl | rfl))
    refine wpQuiet_nil ?_
    replace hR:=hR wd hd
    refine go_forced 6 (by kernel_rfl) (goOp_wp 6 rfl rfl (fun K hK=>?_))
    go_simp
    refine hR.mono ?_
    rintro e w8 ⟨v8,rfl,hT8,hB8⟩
    replace hB8:=Box.mk (mono_bel hd hB8 (Nat.le_refl _))
    replace hT8:=Box.mk (hT8.base hd.size)
    replace hT:=hT w8 hB8.out
    refine hK _ _ trivial ?_
    clear hK K hR hd
    try simp only [Act.put,zT9,zS9,zZ9]
    refine go_forced 10 (by kernel_rfl) (goOp_wp 10 rfl rfl (fun K hK=>?_))
    go_simp
    refine hT.mono ?_
    rintro e w9 ⟨rfl,hb9⟩
    replace hT8:=Box.mk (hT8.out.here hb9)
    replace hB8:=Box.mk (mono_bel hB8.out hb9 (Nat.le_refl _))
    refine hK _ _ trivial ?_
    clear hK K hT hb9
    try simp only [Act.put,zT9,zS9,zZ9]
    refine go_forced 11 (by kernel_rfl) (goOp_wp 11 rfl rfl (fun K hK=>?_))
    go_simp
    refine hK _ _ trivial ?_
    clear hK K
    try simp only [Act.put,zT9,zS9,zZ9]
    refine go_forced 12 (by kernel_rfl) (goOp_wp 12 rfl rfl (fun K hK=>?_))
    refine wp_pushT (.tmp 40) (.tmp 45) rfl w3.heap.size v8 O [x] rfl (hT8.out.here (bel_alloc _ _)) (by have:=hB8.out.size; simp; omega) (some ⟨w9.heap.size,0,none⟩) 1 1 rfl rfl (parts_new w9 [x] 9) (by have:=hPl.out; simp at this; omega) ?_
    rintro v10 w10 hp
    have hB10:=Box.mk (hp.bel (mono_bel hB8.out (bel_alloc _ _) (Nat.le_refl _)) (hT8.out.here (bel_alloc _ _)))
    have hT10:=Box.mk hp.row
    refine hK _ _ trivial ?_
    clear hK K hp hB8 hT8
    try simp only [Act.put,List.setIfInBounds_toArray]
    refine go_calms [13] 0 rfl (by kernel_rfl) (by kernel_rfl) (by kernel_rfl) trivial ?_
    simp [nth]
    try simp only [Act.put,zT9,zS9,zZ9]
    repeat (go_big_quiet_step (first | exact fun _=>rfl | rfl))
    refine wpQuiet_nil ?_
    refine go_done (by kernel_rfl) ?_
    go_simp
    go_wp2_with fail
    go_ret
    exact ⟨_,rfl,hT10.out,hB10.out⟩
def conL (l:List ByteArray) (z:Int):List ByteArray:=if 0<z/\z<=(l.length:Int) then partL z.toNat l true else []
def conE (l:List ByteArray) (z:Int):Int:=if 0<=z/\z<=(l.length:Int) then 0 else 1
theorem rconsistency_any (n:Nat) (l:List ByteArray) (z:Int) (a:Option Addr) (c:Nat) (w:World) (hP:PA w a n c l) (hF:Fit l) :
  Calls Tryz.prog 23 #[.slice a n c,.int .i64 z] w (RowsE w (conL l z) (conE l z)):=by
 have hlen:=hP.len
 unfold conL conE
 rw [hlen]
 by_cases h:0<z/\z<=(n:Int)
 ·rw [if_pos h,if_pos ⟨by omega,h.2⟩]
  obtain ⟨i,rfl⟩:∃ i:Nat,z=i:=⟨z.toNat,by omega⟩
  have hC:=rpart_any n l i true a c w hP hF (by omega) (by omega)
  rw [Int.toNat_natCast]
  obtain ⟨O,hO⟩:∃ O,partL i l true=O:=⟨_,rfl⟩
  rw [hO] at hC ⊢
  clear hP hF hO hlen
  have h1:¬ ((i:Int)<0):=by omega
  have h2:¬ ((i:Int)>(n:Int)):=by omega
  have h3:((i:Int)==0)=false:=by simp; omega
  go_enter Tryz.func23,Tryz.ntmps23
  go_wp2_with fail
  refine hC.mono ?_
  rintro e w8 ⟨v8,rfl,hT8,hB8⟩
  clear hC
  obtain ⟨a8,c8,e8⟩:=hT8.shape
  subst e8
  go_wp2_with fail
  go_returns
  exact ⟨_,rfl,hT8,hB8⟩
 ·rw [if_neg h]
  clear hP hF hlen
  by_cases h0:z<0
  ·rw [if_neg (by omega)]
   go_enter Tryz.func23,Tryz.ntmps23
   go_wp2_with fail
   go_returns
   exact ⟨_,rfl,TxR.nil _ _,Below.refl _ _⟩
  ·by_cases h1:z>(n:Int)
   ·rw [if_neg (by omega)]
    go_enter Tryz.func23,Tryz.ntmps23
    go_wp2_with fail
    go_returns
    exact ⟨_,rfl,TxR.nil _ _,Below.refl _ _⟩
   ·obtain rfl:z=0:=by omega
    rw [if_pos (by omega)]
    have h2:¬ ((0:Int)>(n:Int)):=by omega
    go_enter Tryz.func23,Tryz.ntmps23
    go_wp2_with fail
    go_returns
    exact ⟨_,rfl,TxR.nil _ _,Below.refl _ _⟩
end Go.Proofs.YthpfpkikmaiddaaGreatDoor
