/- - -/
import Derived.Test.YthpfpkikmaiddaaGreatDoorZto
set_option linter.all false
namespace Go.Proofs.YthpfpkikmaiddaaGreatDoor.Tg
open Go Go.RowKit Go.Proofs.YthpfpkikmaiddaaGreatDoor.Pk Go.Proofs.YthpfpkikmaiddaaGreatDoor.Nt
structure WrN (w0 w:World) (b:Nat) (l:Bs):Prop where
 at_:∃ v,WAt w b 164 v l false/\∀ k,v.ownBlock=some k->w0.heap.size<=k
 bb:w0.heap.size<=b
 bel:Below w0.heap.size w0 w
theorem WrN.start (w:World):WrN w (w.alloc (.cells #[.slice none 0 0,.bool false] 164)) w.heap.size []:=
 ⟨⟨.slice none 0 0,⟨Pk.Blk.new w [.slice none 0 0,.bool false] _,Pk.Own.nil _⟩,fun k hk=>by cases hk⟩,Nat.le_refl _,bel_alloc w _⟩
theorem WrN.next {w0 w w':World} {b:Nat} {l l':Bs} {v:Value} (h:WrN w0 w b l) (hv:WAt w b 164 v l false/\∀ k,v.ownBlock=some k->w0.heap.size<=k) (hN:WNext w b 164 v l' false w'):WrN w0 w' b l':=by
 obtain ⟨v',h1,h2,h3⟩:=hN.out
 have hb:=h.bb
 refine ⟨⟨v',h1,fun k hk=>?_⟩,hb,h.bel.trans (h2.below h.bel.size fun k hk=>?_)⟩
 ·rcases h3 k hk with h4 | h4
  ·exact hv.2 k h4
  ·exact Nat.le_trans h.bel.size h4
 ·rcases hk with hk | hk
  ·omega
  ·exact hv.2 k hk
theorem wr_four {w0 w:World} {b:Nat} {l:Bs} (h:WrN w0 w b l) (n:Nat) (hn:n<4294967296) (hlen:l.length<=35184372088000) :
  Calls Tryz.prog 94 #[.pointer (some ⟨b,0,none⟩),.int .i64 (n:Int)] w fun e w'=>e=.returned (.tuple #[])/\WrN w0 w' b (l++Pk.beN n 4):=by
 obtain ⟨v,hv⟩:=h.at_
 refine (Pk.four_any b v l false n w hv.1 (by omega)).mono ?_
 rintro e w' ⟨rfl,hN⟩
 have hf:Pk.fits (n:Int) 4=true:=by
  unfold Pk.fits
  have:(2:Nat) ^ (8*4)=4294967296:=by decide
  simp; omega
 have e1:Pk.lays (Pk.fits (n:Int) 4) (Pk.beN (n:Int).toNat 4) l false=l++Pk.beN n 4:=by unfold Pk.lays; rw [hf]; rfl
 have e2:(false || !Pk.fits (n:Int) 4)=false:=by rw [hf]; rfl
 rw [e1,e2] at hN
 exact ⟨rfl,h.next hv hN⟩
theorem wr_bytes {w0 w:World} {b:Nat} {l:Bs} (h:WrN w0 w b l) :
  Calls Tryz.prog 91 #[.pointer (some ⟨b,0,none⟩)] w fun e w'=>e=.returned (.tuple #[.string (btx l),.int .i64 0])/\Below w0.heap.size w0 w':=by
 obtain ⟨v,hv⟩:=h.at_
 refine (Pk.bytes_any b v l false w hv.1).mono ?_
 rintro e w' ⟨rfl,rfl⟩
 exact ⟨rfl,h.bel⟩
theorem rd_bel {w0 w w':World} {b:Nat} {l:Bs} {e:Int} (hb:Below w0.heap.size w0 w) (hbb:w0.heap.size<=b) (hN:RNext w b 261 l e w'):Below w0.heap.size w0 w':=
 hb.trans (hN.chg.below hb.size fun k hk=>hk ▸ hbb)
end Go.Proofs.YthpfpkikmaiddaaGreatDoor.Tg
