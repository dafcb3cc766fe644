/- - -/
import Derived.Test.YthpfpkikmaiddaaGreatDoorZwm
set_option linter.all false
set_option maxHeartbeats 6400000
set_option maxRecDepth 100000
namespace Go.Proofs.YthpfpkikmaiddaaGreatDoor.Wt
open Go Go.RowKit Go.Proofs.YthpfpkikmaiddaaGreatDoor.Pk Go.Proofs.YthpfpkikmaiddaaGreatDoor.Nt Go.Proofs.YthpfpkikmaiddaaGreatDoor.Tg
def wcfV (s:ByteArray) (h:Int) (l o:ByteArray):Value:=.agg #[.string s,.int .i64 h,.string l,.string o]
def wcfC (s:ByteArray) (h:Int) (l o:ByteArray):List Value:=[.string s,.int .i64 h,.string l,.string o]
theorem row1 (w:World) (l:ByteArray):TxR 0 (w.alloc (.cells #[.string l] 9)) (.slice (some ⟨w.heap.size,0,none⟩) 1 1) [l]:=
 TxR.of_row ⟨rfl,.inr ⟨w.heap.size,1,#[.string l],rfl,Nat.zero_le _,Pk.Blk.new w [.string l] _,Nat.le_refl _,by decide,rfl,by simp⟩⟩ fun _ _=>Nat.zero_le _
section
variable {w0 w:World} {bd b h:Nat} {c:WCfg} {D:Dev} {M:CellM} {X Z:Pk.Obj}
theorem opn_wit {bk bc u:Nat} (n:Int) (r:ByteArray) (gZ:Pk.Good Z) (hk:Kept w0 (Pair2 (KeyO bk c.s c.h u) (Pair2 (CelO bd bc b h M) (Pair2 (DevO bd D) Z))) w) :
  Kept w0 (Pair2 (WtX ⟨bd,w.heap.size+1+1,bc,bk⟩ b h c D ⟨M,n,r,u⟩) Z)
   (((w.alloc (.cells #[.string c.l] 9)).alloc (.cells #[.slice (some ⟨w.heap.size,0,none⟩) 1 1,.int .i64 1] 104)).alloc (.cells #[.slice (some ⟨w.heap.size,0,none⟩) 1 1,.int .i64 1,.string c.o,.pointer (some ⟨bk,0,none⟩),.pointer (some ⟨bc,0,none⟩),.int .i64 n,.string r] 106)):=by
 have gB:Pk.Good (Pair2 (KeyO bk c.s c.h u) (Pair2 (CelO bd bc b h M) (Pair2 (DevO bd D) Z))):=Pair2.good (KeyO.good _ _ _ _) (Pair2.good (CelO.good _ _ _ _ _) (Pair2.good (DevO.good _ _) gZ))
 have h1:=kept_new hk gB (RowO.good (.slice (some ⟨w.heap.size,0,none⟩) 1 1) [c.l]) (bel_alloc w (.cells #[.string c.l] 9))
  ⟨row1 w c.l,fun k e=>by cases e; exact ⟨Nat.le_refl _,(Pk.Blk.new w [.string c.l] 9).lt⟩,fun _ hk=>hk.2⟩
 have h1b:=h1.below (Pair2.good (RowO.good _ _) gB) (bel_alloc _ (.cells #[.slice (some ⟨w.heap.size,0,none⟩) 1 1,.int .i64 1] 104))
 have hsz:((w.alloc (.cells #[.string c.l] 9)).alloc (.cells #[.slice (some ⟨w.heap.size,0,none⟩) 1 1,.int .i64 1] 104)).heap.size=w.heap.size+1+1:=by simp
 obtain ⟨w1,hw1⟩:∃ x,(w.alloc (.cells #[.string c.l] 9)).alloc (.cells #[.slice (some ⟨w.heap.size,0,none⟩) 1 1,.int .i64 1] 104)=x:=⟨_,rfl⟩
 rw [hw1] at h1b hsz ⊢
 rw [<- hsz]
 have h2:=kept_new h1b (Pair2.good (RowO.good _ _) gB) (BlO.good w1.heap.size (wtV c ⟨bd,w1.heap.size,bc,bk⟩ (.slice (some ⟨w.heap.size,0,none⟩) 1 1) n r) 106) (bel_alloc w1 (.cells (wtV c ⟨bd,w1.heap.size,bc,bk⟩ (.slice (some ⟨w.heap.size,0,none⟩) 1 1) n r).toArray 106))
  ⟨Pk.Blk.new w1 _ _,⟨Nat.le_refl _,(Pk.Blk.new w1 (wtV c ⟨bd,w1.heap.size,bc,bk⟩ (.slice (some ⟨w.heap.size,0,none⟩) 1 1) n r) 106).lt⟩,fun _ hk=>hk.2⟩
 refine wtx_close (vi:=.slice (some ⟨w.heap.size,0,none⟩) 1 1) (kept_cv h2 (Conv.trans (cvRight (cvRight (cvRight (cvAssoc'.trans (cvLeft cvSwap))))) (cvWb' (p:=⟨bd,w1.heap.size,bc,bk⟩) (c:=c) (W:=⟨M,n,r,u⟩))))
theorem wopen_height (gX:Pk.Good X) (hk:Kept w0 X w) (dv:Value) (base half:Int) (s l o:ByteArray) (n:Int) (hn:n<0∨4<n) :
  Calls Tryz.prog 21 #[dv,.int .i64 base,.int .i64 half,wcfV s n l o] w fun e w'=>e=.returned (.tuple #[.pointer none,.int .i64 1])/\Box (Kept w0 X w'):=by
 have hF:=Box.mk (fun w1=>new_no s n w1 hn)
 have hk1:=Box.mk (hk.below gX (bel_alloc w (.cells #[.string s,.int .i64 n,.string l,.string o] 49)))
 clear hk
 unfold wcfV
 go_enter Tryz.func21,Tryz.ntmps21
 go_wp2_with fail
 refine (hF.out _).mono ?_
 clear hF
 rintro e w2 ⟨rfl,rfl⟩
 go_wp2_with fail
 go_returns
 exact ⟨rfl,hk1⟩
theorem cfg_key {s:ByteArray} {hh:Nat} {w1 w2:World} {O:Pk.Obj} (hk1:Kept w0 O w1) (g:Pk.Good O) (hA:KeyAt w2 w1.heap.size none s hh 0) (hb:Below w1.heap.size w1 w2):Kept w0 (Pair2 (KeyO w1.heap.size s hh 0) O) w2:=
 kept_new hk1 g (KeyO.good _ _ _ _) hb ⟨⟨none,hA,⟨Nat.le_refl _,hA.blk.lt⟩,fun t e=>by cases e⟩,fun _ hk=>hk.2⟩
theorem cfg_new {s l o:ByteArray} {n:Int} (gX:Pk.Good X) (hk:Kept w0 X w):Kept w0 (Pair2 (BlO w.heap.size (wcfC s n l o) 49) X) (w.alloc (.cells #[.string s,.int .i64 n,.string l,.string o] 49)):=
 kept_new hk gX (BlO.good w.heap.size (wcfC s n l o) 49) (bel_alloc w (.cells #[.string s,.int .i64 n,.string l,.string o] 49))
  ⟨Pk.Blk.new w (wcfC s n l o) _,⟨Nat.le_refl _,(Pk.Blk.new w (wcfC s n l o) 49).lt⟩,fun _ hk=>hk.2⟩
theorem wopen_arg (hE:Env w0) (gX:Pk.Good X) (hk:Kept w0 X w) (dv:Value) (base half:Int) (s l o:ByteArray) (n:Nat) (hn:n<=4) (ho:o.size<=140737488355328) (hno:¬ (l.size=32/\gO o.data.toList=true)) :
  Calls Tryz.prog 21 #[dv,.int .i64 base,.int .i64 half,wcfV s (n:Int) l o] w fun e w'=>e=.returned (.tuple #[.pointer none,.int .i64 1])/\Box (Kept w0 X w'):=by
 have hk1:=cfg_new (s:=s) (l:=l) (o:=o) (n:=(n:Int)) gX hk
 obtain ⟨bx,hbx⟩:∃ x,w.heap.size=x:=⟨_,rfl⟩
 rw [hbx] at hk1
 obtain ⟨FB,hB1,_⟩:=kept_look hk1
 have cs0:(w.alloc (.cells #[.string s,.int .i64 (n:Int),.string l,.string o] 49)).cell? ⟨bx,0,none⟩=some (.string s):=hB1.1.cell 0
 have cs1:(w.alloc (.cells #[.string s,.int .i64 (n:Int),.string l,.string o] 49)).cell? ⟨bx,1,none⟩=some (.int .i64 (n:Int)):=hB1.1.cell 1
 have hN:=Box.mk (fun w1=>new_ok s n w1 hn)
 have hG:=Box.mk (fun w1 (hb:Below w0.heap.size w0 w1)=>wgood_any o w0.heap.size w1 (hE.nlAt hb) hb.size (hE.kisAt hb) ho)
 obtain ⟨g,hg⟩:∃ x,gO o.data.toList=x:=⟨_,rfl⟩
 rw [hg] at hG hno
 have gB:Box (Pk.Good (Pair2 (BlO bx (wcfC s (n:Int) l o) 49) X)):=⟨Pair2.good (BlO.good _ _ _) gX⟩
 replace hk1:=Box.mk hk1
 have hgX:=Box.mk gX
 clear hk hB1 hg hE ho hn gX
 unfold wcfV
 go_enter Tryz.func21,Tryz.ntmps21
 go_wp2_with fail
 refine (hN.out _).mono ?_
 clear hN
 rintro e w2 ⟨rfl,hA2,hb2⟩
 have hk2:=cfg_key hk1.out gB.out hA2 hb2
 obtain ⟨bk,hbk⟩:∃ x,(w.alloc (.cells #[.string s,.int .i64 (n:Int),.string l,.string o] 49)).heap.size=x:=⟨_,rfl⟩
 rw [hbk] at hk2 ⊢
 obtain ⟨FB,hB1,_⟩:=kept_look (kept_cv hk2 cvFlip)
 have cs2:w2.cell? ⟨bx,2,none⟩=some (.string l):=hB1.1.cell 2
 have cs3:w2.cell? ⟨bx,3,none⟩=some (.string o):=hB1.1.cell 3
 have hF:=hG.out w2 hk2.k
 have hkf:Box (∀ w3,Below w2.heap.size w2 w3->Kept w0 X w3):=⟨fun w3 hb3=>kept_cv (hk2.below (Pair2.good (KeyO.good _ _ _ _) gB.out) hb3) ((cvDropL gB.out).trans (cvDropL hgX.out))⟩
 replace hk2:=Box.mk hk2
 clear hA2 hb2 hk1 hG hB1 hbk cs0 cs1
 by_cases hl:l.size=32
 ·have hg2:g=false:=by
   cases g with
   | false=>rfl
   | true=>exact absurd ⟨hl,rfl⟩ hno
  subst hg2
  have hl2:(l.size:Int)=32:=by omega
  go_wp2_with fail
  refine hF.mono ?_
  clear hF
  rintro e w3 ⟨rfl,hb3⟩
  have hkz:=Box.mk (hkf.out w3 hb3)
  clear hb3
  go_wp2_with fail
  go_returns
  exact ⟨rfl,hkz⟩
 ·have hl2:¬ (l.size:Int)=32:=by omega
  have hkz:=Box.mk (hkf.out w2 (Below.refl _ _))
  clear hF
  go_wp2_with fail
  go_returns
  exact ⟨rfl,hkz⟩
theorem wopen_any (hE:Env w0) (gX:Pk.Good X) (hk:Kept w0 (Pair2 (DevO bd D) X) w) (hc:c.ok) (hoff:D.off=false) (h2:2<=h) (hin:b+2*h<=D.safe.length) (hM:openN D.seen b h=(M.num,M.was,M.last)) (hMn:M.now=M.was) (hMo:M.off=false) (hok:M.ok b h) :
  Calls Tryz.prog 21 #[.pointer (some ⟨bd,0,none⟩),.int .i64 (b:Int),.int .i64 (h:Int),wcfV c.s (c.h:Int) c.l c.o] w fun e w'=>
   (rdK M.now=true/\∃ bl bc bk,e=.returned (.tuple #[.pointer (some ⟨bl,0,none⟩),.int .i64 0])/\Box (Kept w0 (Pair2 (WtX ⟨bd,bl,bc,bk⟩ b h c D ⟨M,(rdR M.now).n,(rdR M.now).r,skipN 0 (rdR M.now).u c.h⟩) X) w')) ∨
   (rdK M.now=false/\e=.returned (.tuple #[.pointer none,.int .i64 3])/\Box (Kept w0 (Pair2 (DevO bd D) X) w')):=by
 have g1:Pk.Good (Pair2 (DevO bd D) X):=Pair2.good (DevO.good _ _) gX
 have hk1:=cfg_new (s:=c.s) (l:=c.l) (o:=c.o) (n:=(c.h:Int)) g1 hk
 obtain ⟨bx,hbx⟩:∃ x,w.heap.size=x:=⟨_,rfl⟩
 rw [hbx] at hk1
 obtain ⟨FB,hB1,_⟩:=kept_look hk1
 have cs0:(w.alloc (.cells #[.string c.s,.int .i64 (c.h:Int),.string c.l,.string c.o] 49)).cell? ⟨bx,0,none⟩=some (.string c.s):=hB1.1.cell 0
 have cs1:(w.alloc (.cells #[.string c.s,.int .i64 (c.h:Int),.string c.l,.string c.o] 49)).cell? ⟨bx,1,none⟩=some (.int .i64 (c.h:Int)):=hB1.1.cell 1
 have hN:=Box.mk (fun w1=>new_ok c.s c.h w1 hc.h)
 have hG:=Box.mk (fun w1 (hb:Below w0.heap.size w0 w1)=>wgood_any c.o w0.heap.size w1 (hE.nlAt hb) hb.size (hE.kisAt hb) (by have:=gO_size hc.o; omega))
 rw [hc.o] at hG
 have hO:=Box.mk (fun (O:Pk.Obj) w1 (g:Pk.Good O) (hk1:Kept w0 (Pair2 (DevO bd D) O) w1)=>Kept.opens hk1 g M hoff h2 hin hM hMn hMo hok)
 have hR:=Box.mk (fun (Y:Pk.Obj) bc w1 (g:Pk.Good Y) (hk1:Kept w0 (Pair2 (CelO bd bc b h M) Y) w1)=>wread_any hE g hk1)
 obtain ⟨rd,hrd⟩:∃ x,rdR M.now=x:=⟨_,rfl⟩
 obtain ⟨rk,hrk⟩:∃ x,rdK M.now=x:=⟨_,rfl⟩
 rw [hrd,hrk] at hR ⊢
 obtain ⟨rn,rr,ru⟩:=rd
 have gB:Box (Pk.Good (Pair2 (BlO bx (wcfC c.s (c.h:Int) c.l c.o) 49) (Pair2 (DevO bd D) X))):=⟨Pair2.good (BlO.good _ _ _) g1⟩
 have gZ:Box (Pk.Good (Pair2 (BlO bx (wcfC c.s (c.h:Int) c.l c.o) 49) X)):=⟨Pair2.good (BlO.good _ _ _) gX⟩
 have hl2:(c.l.size:Int)=32:=by have:=hc.l; omega
 replace hk1:=Box.mk hk1
 have hgX:=Box.mk gX
 clear hk hB1 hrd hrk hE hc gX g1 hoff h2 hin hM hMn hMo hok
 unfold wcfV
 go_enter Tryz.func21,Tryz.ntmps21
 go_wp2_with fail
 refine (hN.out _).mono ?_
 clear hN
 rintro e w2 ⟨rfl,hA2,hb2⟩
 have hk2:=cfg_key hk1.out gB.out hA2 hb2
 obtain ⟨bk,hbk⟩:∃ x,(w.alloc (.cells #[.string c.s,.int .i64 (c.h:Int),.string c.l,.string c.o] 49)).heap.size=x:=⟨_,rfl⟩
 rw [hbk] at hk2 ⊢
 obtain ⟨FB,hB1,_⟩:=kept_look (kept_cv hk2 cvFlip)
 have cs2:w2.cell? ⟨bx,2,none⟩=some (.string c.l):=hB1.1.cell 2
 have cs3:w2.cell? ⟨bx,3,none⟩=some (.string c.o):=hB1.1.cell 3
 have hF:=hG.out w2 hk2.k
 replace hk2:=Box.mk hk2
 clear hA2 hb2 hk1 hG hB1 hbk cs0 cs1
 go_wp2_with fail
 refine hF.mono ?_
 clear hF
 rintro e w3 ⟨rfl,hb3⟩
 have gk:Pk.Good (Pair2 (KeyO bk c.s c.h 0) (Pair2 (BlO bx (wcfC c.s (c.h:Int) c.l c.o) 49) (Pair2 (DevO bd D) X))):=Pair2.good (KeyO.good _ _ _ _) gB.out
 have hk3:=kept_cv (hk2.out.below gk hb3) ((cvRight cvFlip).trans cvFlip)
 have hG:=hO.out _ w3 (Pair2.good (KeyO.good bk c.s c.h 0) gZ.out) hk3
 clear hO hk2 hb3 hk3 cs2 cs3
 go_wp2_with fail
 refine hG.mono ?_
 clear hG
 rintro e w4 ⟨bc,rfl,hk4⟩
 have hk5:=kept_cv hk4.out ((cvLeft cvSwap).trans cvAssoc)
 have hG:=hR.out _ bc w4 (Pair2.good (DevO.good _ _) (Pair2.good (KeyO.good bk c.s c.h 0) gZ.out)) hk5
 unfold rcV at hG
 clear hR hk4 hk5
 go_wp2_with fail
 refine hG.mono ?_
 clear hG
 rintro e w5 ⟨rfl,hk6⟩
 have gD:Pk.Good (Pair2 (DevO bd D) (Pair2 (KeyO bk c.s c.h 0) (Pair2 (BlO bx (wcfC c.s (c.h:Int) c.l c.o) 49) X))):=Pair2.good (DevO.good _ _) (Pair2.good (KeyO.good bk c.s c.h 0) gZ.out)
 have hk6b:=rc_new gD hk6.out [.int .i64 rn,.string rr,.int .i64 ru] 100
 obtain ⟨b9,hb9⟩:∃ x,w5.heap.size=x:=⟨_,rfl⟩
 rw [hb9] at hk6b
 have g9:Box (Pk.Good (Pair2 (BlO b9 [.int .i64 rn,.string rr,.int .i64 ru] 100) (Pair2 (BlO bx (wcfC c.s (c.h:Int) c.l c.o) 49) X))):=⟨Pair2.good (BlO.good _ _ _) gZ.out⟩
 cases rk with
 | false=>
  have hkf:=Box.mk (kept_cv hk6b ((cvDropL (Pair2.good (BlO.good _ _ _) gD)).trans ((cvDropL gD).trans (cvRight ((cvDropL gZ.out).trans (cvDropL hgX.out))))))
  clear hk6 hk6b gD
  go_wp2_with fail
  go_returns
  exact ⟨rfl,hkf⟩
 | true=>
  have hk7:=kept_cv hk6b ((cvRight cvFlip).trans ((cvRight (cvRight cvFlip)).trans ((cvRight cvFlip).trans cvFlip)))
  have hG:=kept_step hk7 ((kskip_does (w0:=w0) (bk:=bk) (s:=c.s) (h:=c.h) (u:=0) ru).ret (Pair2.good (CelO.good bd bc b h M) (Pair2.good (DevO.good bd D) g9.out)))
  clear hk6 hk6b hk7 gD
  go_wp2_with fail
  refine hG.mono ?_
  clear hG
  rintro e w6 ⟨rfl,hk8⟩
  obtain ⟨FB,hB1,_⟩:=kept_look (kept_cv hk8.out ((cvRight (cvRight (cvRight cvFlip))).trans ((cvRight (cvRight cvFlip)).trans ((cvRight cvFlip).trans cvFlip))))
  obtain ⟨FB9,hB9,_⟩:=kept_look (kept_cv hk8.out ((cvRight (cvRight cvFlip)).trans ((cvRight cvFlip).trans cvFlip)))
  have cs2:w6.cell? ⟨bx,2,none⟩=some (.string c.l):=hB1.1.cell 2
  have cs3:w6.cell? ⟨bx,3,none⟩=some (.string c.o):=hB1.1.cell 3
  have q0:=hB9.1.cell 0
  have q1:=hB9.1.cell 1
  have hk9:=opn_wit rn rr g9.out hk8.out
  have hkf:=Box.mk (kept_cv hk9 (cvRight ((cvDropL gZ.out).trans (cvDropL hgX.out))))
  have hbx:bx<w6.heap.size:=hB1.1.lt
  have hb9l:b9<w6.heap.size:=hB9.1.lt
  clear hB1 hB9 hk8 hk9
  go_wp2_with fail
  go_returns
  exact ⟨_,rfl,_,_,hkf⟩
theorem wopen_err (hE:Env w0) (gX:Pk.Good X) (hk:Kept w0 X w) (hc:c.ok) (dv:Value) (base half:Int) (E:Int) (hE0:E ≠ 0)
  (hO:∀ (Y:Pk.Obj) w1,Pk.Good Y->Kept w0 (Pair2 X Y) w1->Calls Tryz.prog 36 #[dv,.int .i64 base,.int .i64 half] w1 fun e w'=>e=.returned (.tuple #[.pointer none,.int .i64 E])/\w1=w') :
  Calls Tryz.prog 21 #[dv,.int .i64 base,.int .i64 half,wcfV c.s (c.h:Int) c.l c.o] w fun e w'=>e=.returned (.tuple #[.pointer none,.int .i64 E])/\Box (Kept w0 X w'):=by
 have hk1:=cfg_new (s:=c.s) (l:=c.l) (o:=c.o) (n:=(c.h:Int)) gX hk
 obtain ⟨bx,hbx⟩:∃ x,w.heap.size=x:=⟨_,rfl⟩
 rw [hbx] at hk1
 obtain ⟨FB,hB1,_⟩:=kept_look hk1
 have cs0:(w.alloc (.cells #[.string c.s,.int .i64 (c.h:Int),.string c.l,.string c.o] 49)).cell? ⟨bx,0,none⟩=some (.string c.s):=hB1.1.cell 0
 have cs1:(w.alloc (.cells #[.string c.s,.int .i64 (c.h:Int),.string c.l,.string c.o] 49)).cell? ⟨bx,1,none⟩=some (.int .i64 (c.h:Int)):=hB1.1.cell 1
 have hN:=Box.mk (fun w1=>new_ok c.s c.h w1 hc.h)
 have hG:=Box.mk (fun w1 (hb:Below w0.heap.size w0 w1)=>wgood_any c.o w0.heap.size w1 (hE.nlAt hb) hb.size (hE.kisAt hb) (by have:=gO_size hc.o; omega))
 rw [hc.o] at hG
 have gB:Box (Pk.Good (Pair2 (BlO bx (wcfC c.s (c.h:Int) c.l c.o) 49) X)):=⟨Pair2.good (BlO.good _ _ _) gX⟩
 have hl2:(c.l.size:Int)=32:=by have:=hc.l; omega
 replace hk1:=Box.mk hk1
 replace hO:=Box.mk hO
 have hgX:=Box.mk gX
 have hE1:(E != 0)=true:=by simpa using hE0
 clear hk hB1 hE hc gX hE0
 unfold wcfV
 go_enter Tryz.func21,Tryz.ntmps21
 go_wp2_with fail
 refine (hN.out _).mono ?_
 clear hN
 rintro e w2 ⟨rfl,hA2,hb2⟩
 have hk2:=cfg_key hk1.out gB.out hA2 hb2
 obtain ⟨bk,hbk⟩:∃ x,(w.alloc (.cells #[.string c.s,.int .i64 (c.h:Int),.string c.l,.string c.o] 49)).heap.size=x:=⟨_,rfl⟩
 rw [hbk] at hk2 ⊢
 obtain ⟨FB,hB1,_⟩:=kept_look (kept_cv hk2 cvFlip)
 have cs2:w2.cell? ⟨bx,2,none⟩=some (.string c.l):=hB1.1.cell 2
 have cs3:w2.cell? ⟨bx,3,none⟩=some (.string c.o):=hB1.1.cell 3
 have hF:=hG.out w2 hk2.k
 replace hk2:=Box.mk hk2
 clear hA2 hb2 hk1 hG hB1 hbk cs0 cs1
 go_wp2_with fail
 refine hF.mono ?_
 clear hF
 rintro e w3 ⟨rfl,hb3⟩
 have gk:Pk.Good (Pair2 (KeyO bk c.s c.h 0) (Pair2 (BlO bx (wcfC c.s (c.h:Int) c.l c.o) 49) X)):=Pair2.good (KeyO.good _ _ _ _) gB.out
 have hk3:=kept_cv (hk2.out.below gk hb3) (((cvRight cvSwap).trans cvFlip))
 have hG:=hO.out _ w3 (Pair2.good (KeyO.good bk c.s c.h 0) (BlO.good bx (wcfC c.s (c.h:Int) c.l c.o) 49)) hk3
 have hkf:=Box.mk (kept_cv hk3 (cvDropR hgX.out))
 clear hO hk2 hb3 hk3 cs2 cs3
 go_wp2_with fail
 refine hG.mono ?_
 clear hG
 rintro e w4 ⟨rfl,rfl⟩
 go_wp2_with fail
 go_returns
 exact ⟨rfl,hkf⟩
end
end Go.Proofs.YthpfpkikmaiddaaGreatDoor.Wt
