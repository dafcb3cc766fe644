/- - -/
import Derived.Test.YthpfpkikmaiddaaGreatDoorZwn
set_option linter.all false
set_option maxHeartbeats 6400000
set_option maxRecDepth 100000
namespace Go.Proofs.YthpfpkikmaiddaaGreatDoor.Wt
open Go Go.RowKit Go.Proofs.YthpfpkikmaiddaaGreatDoor.Pk Go.Proofs.YthpfpkikmaiddaaGreatDoor.Nt Go.Proofs.YthpfpkikmaiddaaGreatDoor.Tg
def goodC (n:Int) (l o:ByteArray):Prop:=0<=n/\n<=4/\l.size=32/\gO o.data.toList=true
theorem wopen_gen {w0 w:World} {bd:Nat} (hE:Env w0) (hk:Kept w0 (Pair2 (DevO bd (Dev.new 12)) NoO) w) (n:Int) (l o:ByteArray) (ho:o.size<=140737488355328) :
  Calls Tryz.prog 21 #[.pointer (some ⟨bd,0,none⟩),.int .i64 0,.int .i64 6,wcfV sW1 n l o] w fun e w'=>((goodC n l o/\∃ bl:Nat,e=.returned (.tuple #[.pointer (some ⟨bl,0,none⟩),.int .i64 0]))∨(¬ goodC n l o/\e=.returned (.tuple #[.pointer none,.int .i64 1])))/\Box (Below w0.heap.size w0 w'):=by
 have gD:Pk.Good (Pair2 (DevO bd (Dev.new 12)) NoO):=Pair2.good (DevO.good _ _) NoO.good
 by_cases hn:0<=n/\n<=4
 ·obtain ⟨N,rfl⟩:∃ N:Nat,n=(N:Int):=⟨n.toNat,by omega⟩
  by_cases hlo:l.size=32/\gO o.data.toList=true
  ·have hc:WCfg.ok ⟨l,o,sW1,N⟩:=⟨hlo.1,hlo.2,by show N<=4; omega,by show sW1.size<=_; decide⟩
   exact (wopen_new hE NoO.good ⟨l,o,sW1,N⟩ hc 12 0 6 (by decide) (by decide) (by decide) hk).mono fun e w' ⟨bl,bc,bk,he,hk2⟩=>⟨.inl ⟨⟨hn.1,hn.2,hlo.1,hlo.2⟩,bl,he⟩,⟨hk2.out.k⟩⟩
  ·exact (wopen_arg hE gD hk _ 0 6 sW1 l o N (by omega) ho hlo).mono fun e w' ⟨he,hk2⟩=>⟨.inr ⟨fun h=>hlo h.2.2,he⟩,⟨hk2.out.k⟩⟩
 ·exact (wopen_height gD hk _ 0 6 sW1 l o n (by omega)).mono fun e w' ⟨he,hk2⟩=>⟨.inr ⟨fun h=>hn ⟨h.1,h.2.1⟩,he⟩,⟨hk2.out.k⟩⟩
theorem wopen_nil {w0 w:World} (hE:Env w0) (hb:Below w0.heap.size w0 w) :
  Calls Tryz.prog 21 #[.pointer none,.int .i64 0,.int .i64 6,wcfV sW1 1 (keyID sLg 2) sO1] w fun e w'=>e=.returned (.tuple #[.pointer none,.int .i64 1])/\Below w0.heap.size w0 w':=by
 have hk:Kept w0 NoO w:=⟨fun _=>False,fun _ h=>h.elim,fun _ h=>h.elim,hb⟩
 exact (wopen_err (c:=cW 1) hE NoO.good hk (cW_ok (by decide)) (.pointer none) 0 6 1 (by decide) fun Y w1 _ _=>open_nil 0 6 w1).mono fun e w' ⟨he,hk2⟩=>⟨he,hk2.out.k⟩
theorem law_none (n:Int) (l o:ByteArray) (w:World) (hE:Env w) (ho:o.size<=140737488355328) :
  Calls Tryz.prog 5 #[.int .i64 n,.string l,.string o] w fun e w'=>e=.returned (.bool true)/\Below w.heap.size w w':=by
 have hL:=Box.mk (looks_any w hE)
 have hO:=Box.mk (fun bd w1 (hk:Kept w (Pair2 (DevO bd (Dev.new 12)) NoO) w1)=>wopen_gen hE hk n l o ho)
 have hNil:=Box.mk (fun w1 (hb:Below w.heap.size w w1)=>wopen_nil hE hb)
 have hOr:=Box.mk (fun w1=>dorigin_any o w1 ho)
 have hC:=Box.mk (fun w1=>config_any 1 w1)
 rw [show cfgN 1=1 from by unfold cfgN; decide] at hC
 unfold wcfV sW1 at hO
 clear ho
 go_enter Tryz.func5,Tryz.ntmps5
 go_wp2_with fail
 refine hL.out.mono ?_
 clear hL
 rintro e wa ⟨rfl,hba⟩
 have hN:=newdev_kept hba.out 12 (by decide) (by decide)
 clear hba
 go_wp2_with fail
 refine hN.mono ?_
 clear hN
 rintro e w1 ⟨bd,rfl,hk1⟩
 have hk2:=hk1.out
 have hG:=hO.out bd _ (kept_no (DevO.good _ _) (hk2.below (DevO.good _ _) (bel_alloc w1 (.cells #[.string ⟨#[119]⟩,.int .i64 n,.string l,.string o] 49))))
 clear hO hk1 hk2
 go_wp2_with fail
 refine hG.mono ?_
 clear hG
 rintro e w3 ⟨hg,hb3⟩
 by_cases hn0:0<=n
 ·by_cases hn4:n<=4
  ·by_cases hl:l.size=32
   ·have hlz:(l.size:Int)=32:=by omega
    cases ho:gO o.data.toList with
    | true=>
     rw [ho] at hOr
     obtain ⟨_,bl,rfl⟩:goodC n l o/\∃ bl:Nat,e=.returned (.tuple #[.pointer (some ⟨bl,0,none⟩),.int .i64 0]):=by
      rcases hg with h | h
      ·exact h
      ·exact absurd ⟨hn0,hn4,hl,ho⟩ h.1
     clear hg ho
     go_wp2_with fail
     refine (hOr.out w3).mono ?_
     clear hOr
     rintro e w3b ⟨rfl,rfl⟩
     have hbb:=hb3
     clear hb3
     go_wp2_with fail
     refine (hC.out _).mono ?_
     clear hC
     rintro e w4 ⟨rfl,hb4⟩
     have hG:=hNil.out w4 (mono_bel hbb.out hb4 (Nat.le_refl _))
     unfold wcfV sW1 sO1 at hG
     clear hNil hb4 hbb
     go_wp2_with fail
     refine hG.mono ?_
     clear hG
     rintro e w5 ⟨rfl,hb5⟩
     go_wp2_with fail
     refine (wlast_nil w5).mono ?_
     rintro e w6 ⟨rfl,rfl⟩
     go_wp2_with fail
     refine (wask_nil w5 o (.slice none 0 0)).mono ?_
     rintro e w6 ⟨rfl,hb6⟩
     have hb7:=mono_bel (mono_bel hb5 hb6 (Nat.le_refl _)) (bel_alloc w6 (.cells #[.string ⟨#[]⟩,.string ⟨#[]⟩] 58)) (Nat.le_refl _)
     replace hb7:=Box.mk hb7
     clear hb5 hb6
     go_wp2_with fail
     refine (wid_nil _).mono ?_
     rintro e w8 ⟨rfl,rfl⟩
     go_wp2_with fail
     refine (wleft_nil _).mono ?_
     rintro e w8 ⟨rfl,rfl⟩
     go_wp2_with fail
     go_ret
     exact ⟨rfl,hb7.out⟩
    | false=>
     rw [ho] at hOr
     obtain rfl:e=.returned (.tuple #[.pointer none,.int .i64 1]):=by
      rcases hg with h | h
      ·exact absurd (ho.symm.trans h.1.2.2.2) (by decide)
      ·exact h.2
     clear hg ho
     go_wp2_with fail
     refine (hOr.out w3).mono ?_
     clear hOr
     rintro e w3b ⟨rfl,rfl⟩
     have hbb:=hb3
     clear hb3
     go_wp2_with fail
     refine (hC.out _).mono ?_
     clear hC
     rintro e w4 ⟨rfl,hb4⟩
     have hG:=hNil.out w4 (mono_bel hbb.out hb4 (Nat.le_refl _))
     unfold wcfV sW1 sO1 at hG
     clear hNil hb4 hbb
     go_wp2_with fail
     refine hG.mono ?_
     clear hG
     rintro e w5 ⟨rfl,hb5⟩
     go_wp2_with fail
     refine (wlast_nil w5).mono ?_
     rintro e w6 ⟨rfl,rfl⟩
     go_wp2_with fail
     refine (wask_nil w5 o (.slice none 0 0)).mono ?_
     rintro e w6 ⟨rfl,hb6⟩
     have hb7:=mono_bel (mono_bel hb5 hb6 (Nat.le_refl _)) (bel_alloc w6 (.cells #[.string ⟨#[]⟩,.string ⟨#[]⟩] 58)) (Nat.le_refl _)
     replace hb7:=Box.mk hb7
     clear hb5 hb6
     go_wp2_with fail
     refine (wid_nil _).mono ?_
     rintro e w8 ⟨rfl,rfl⟩
     go_wp2_with fail
     refine (wleft_nil _).mono ?_
     rintro e w8 ⟨rfl,rfl⟩
     go_wp2_with fail
     go_ret
     exact ⟨rfl,hb7.out⟩
   ·have hlz:¬ (l.size:Int)=32:=by omega
    obtain rfl:e=.returned (.tuple #[.pointer none,.int .i64 1]):=by
     rcases hg with h | h
     ·exact absurd h.1.2.2.1 hl
     ·exact h.2
    have hbb:=hb3
    clear hg hOr hb3
    go_wp2_with fail
    refine (hC.out _).mono ?_
    clear hC
    rintro e w4 ⟨rfl,hb4⟩
    have hG:=hNil.out w4 (mono_bel hbb.out hb4 (Nat.le_refl _))
    unfold wcfV sW1 sO1 at hG
    clear hNil hb4 hbb
    go_wp2_with fail
    refine hG.mono ?_
    clear hG
    rintro e w5 ⟨rfl,hb5⟩
    go_wp2_with fail
    refine (wlast_nil w5).mono ?_
    rintro e w6 ⟨rfl,rfl⟩
    go_wp2_with fail
    refine (wask_nil w5 o (.slice none 0 0)).mono ?_
    rintro e w6 ⟨rfl,hb6⟩
    have hb7:=mono_bel (mono_bel hb5 hb6 (Nat.le_refl _)) (bel_alloc w6 (.cells #[.string ⟨#[]⟩,.string ⟨#[]⟩] 58)) (Nat.le_refl _)
    replace hb7:=Box.mk hb7
    clear hb5 hb6
    go_wp2_with fail
    refine (wid_nil _).mono ?_
    rintro e w8 ⟨rfl,rfl⟩
    go_wp2_with fail
    refine (wleft_nil _).mono ?_
    rintro e w8 ⟨rfl,rfl⟩
    go_wp2_with fail
    go_ret
    exact ⟨rfl,hb7.out⟩
  ·obtain rfl:e=.returned (.tuple #[.pointer none,.int .i64 1]):=by
    rcases hg with h | h
    ·exact absurd h.1.2.1 hn4
    ·exact h.2
   have hbb:=hb3
   clear hg hOr hb3
   go_wp2_with fail
   refine (hC.out _).mono ?_
   clear hC
   rintro e w4 ⟨rfl,hb4⟩
   have hG:=hNil.out w4 (mono_bel hbb.out hb4 (Nat.le_refl _))
   unfold wcfV sW1 sO1 at hG
   clear hNil hb4 hbb
   go_wp2_with fail
   refine hG.mono ?_
   clear hG
   rintro e w5 ⟨rfl,hb5⟩
   go_wp2_with fail
   refine (wlast_nil w5).mono ?_
   rintro e w6 ⟨rfl,rfl⟩
   go_wp2_with fail
   refine (wask_nil w5 o (.slice none 0 0)).mono ?_
   rintro e w6 ⟨rfl,hb6⟩
   have hb7:=mono_bel (mono_bel hb5 hb6 (Nat.le_refl _)) (bel_alloc w6 (.cells #[.string ⟨#[]⟩,.string ⟨#[]⟩] 58)) (Nat.le_refl _)
   replace hb7:=Box.mk hb7
   clear hb5 hb6
   go_wp2_with fail
   refine (wid_nil _).mono ?_
   rintro e w8 ⟨rfl,rfl⟩
   go_wp2_with fail
   refine (wleft_nil _).mono ?_
   rintro e w8 ⟨rfl,rfl⟩
   go_wp2_with fail
   go_ret
   exact ⟨rfl,hb7.out⟩
 ·obtain rfl:e=.returned (.tuple #[.pointer none,.int .i64 1]):=by
   rcases hg with h | h
   ·exact absurd h.1.1 hn0
   ·exact h.2
  have hbb:=hb3
  clear hg hOr hb3
  go_wp2_with fail
  refine (hC.out _).mono ?_
  clear hC
  rintro e w4 ⟨rfl,hb4⟩
  have hG:=hNil.out w4 (mono_bel hbb.out hb4 (Nat.le_refl _))
  unfold wcfV sW1 sO1 at hG
  clear hNil hb4 hbb
  go_wp2_with fail
  refine hG.mono ?_
  clear hG
  rintro e w5 ⟨rfl,hb5⟩
  go_wp2_with fail
  refine (wlast_nil w5).mono ?_
  rintro e w6 ⟨rfl,rfl⟩
  go_wp2_with fail
  refine (wask_nil w5 o (.slice none 0 0)).mono ?_
  rintro e w6 ⟨rfl,hb6⟩
  have hb7:=mono_bel (mono_bel hb5 hb6 (Nat.le_refl _)) (bel_alloc w6 (.cells #[.string ⟨#[]⟩,.string ⟨#[]⟩] 58)) (Nat.le_refl _)
  replace hb7:=Box.mk hb7
  clear hb5 hb6
  go_wp2_with fail
  refine (wid_nil _).mono ?_
  rintro e w8 ⟨rfl,rfl⟩
  go_wp2_with fail
  refine (wleft_nil _).mono ?_
  rintro e w8 ⟨rfl,rfl⟩
  go_wp2_with fail
  go_ret
  exact ⟨rfl,hb7.out⟩
end Go.Proofs.YthpfpkikmaiddaaGreatDoor.Wt
