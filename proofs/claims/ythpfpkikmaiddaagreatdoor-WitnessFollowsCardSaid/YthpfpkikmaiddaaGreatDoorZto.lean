/- - -/
import Derived.Test.YthpfpkikmaiddaaGreatDoorZtm
import Derived.Test.YthpfpkikmaiddaaGreatDoorZtx
import Derived.Test.YthpfpkikmaiddaaGreatDoorZkc
set_option linter.all false
namespace Go.Proofs.YthpfpkikmaiddaaGreatDoor.Tg
open Go Go.RowKit Go.Proofs.YthpfpkikmaiddaaGreatDoor.Pk Go.Proofs.YthpfpkikmaiddaaGreatDoor.Nt
def Conv (A B:Pk.Obj):Prop:=∀ w F,A w F->B w F
section
variable {A A' B B' C E:Pk.Obj}
theorem Conv.trans (h:Conv A B) (k:Conv B C):Conv A C:=fun w F x=>k w F (h w F x)
theorem cvSwap:Conv (Pair2 A B) (Pair2 B A):=fun _ _ h=>h.swap
theorem cvAssoc:Conv (Pair2 (Pair2 A B) C) (Pair2 A (Pair2 B C)):=fun _ _ h=>Pair2.assoc h
theorem cvAssoc':Conv (Pair2 A (Pair2 B C)) (Pair2 (Pair2 A B) C):=fun _ _ h=>Pair2.assoc' h
theorem cvRight (h:Conv B B'):Conv (Pair2 A B) (Pair2 A B'):=fun w _ ⟨F1,F2,h1,h2,hd,e1,e2,hl⟩=>⟨F1,F2,h1,h w F2 h2,hd,e1,e2,hl⟩
theorem cvLeft (h:Conv A A'):Conv (Pair2 A B) (Pair2 A' B):=(cvSwap.trans (cvRight h)).trans cvSwap
theorem cvFlip:Conv (Pair2 A (Pair2 B C)) (Pair2 B (Pair2 A C)):=(cvAssoc'.trans (cvLeft cvSwap)).trans cvAssoc
end
theorem kept_cv {w0 w:World} {A B:Pk.Obj} (h:Kept w0 A w) (c:Conv A B):Kept w0 B w:=h.conv fun F x=>c w F x
theorem kept_look {w0 w:World} {A B:Pk.Obj} (h:Kept w0 (Pair2 A B) w):∃ F,A w F/\(∀ k,F k->w0.heap.size<=k)/\∀ k,F k->k<w.heap.size:=by
 obtain ⟨F,⟨F1,F2,h1,_,_,e1,_,hl⟩,h3,_⟩:=h
 exact ⟨F1,h1,fun k hk=>h3 k (e1 k hk),fun k hk=>hl k (e1 k hk)⟩
theorem kept_move {w0 w w':World} {A A' B:Pk.Obj} (h:Kept w0 (Pair2 A B) w) (g:Pk.Good B) (hm:∀ F,A w F->A' w' (Ext F w w')/\Chg F w w'):Kept w0 (Pair2 A' B) w':=by
 obtain ⟨F,⟨F1,F2,h1,h2,hd,e1,e2,hl⟩,h3,h4⟩:=h
 obtain ⟨k1,k2⟩:=hm F1 h1
 refine ⟨Ext F w w',⟨Ext F1 w w',F2,k1,g.chg h2 k2 fun k hk hk2=>hd k hk2 hk,fun k hk hk2=>?_,fun k hk=>?_,fun k hk=>.inl (e2 k hk),fun k hk=>?_⟩,fun k hk=>?_,h4.trans (k2.below h4.size fun k hk=>h3 k (e1 k hk))⟩
 ·rcases hk with hk | hk
  ·exact hd k hk hk2
  ·have:=g.lt h2 k hk2; omega
 ·rcases hk with hk | hk
  ·exact .inl (e1 k hk)
  ·exact .inr hk
 ·rcases hk with hk | hk
  ·exact Nat.lt_of_lt_of_le (hl k hk) k2.size
  ·exact hk.2
 ·rcases hk with hk | hk
  ·exact h3 k hk
  ·exact Nat.le_trans h4.size hk.1
theorem kept_new {w0 w w':World} {O O2:Pk.Obj} (h:Kept w0 O w) (g:Pk.Good O) (g2:Pk.Good O2) (hb:Below w.heap.size w w') (h2:O2 w' fun k=>w.heap.size<=k/\k<w'.heap.size):Kept w0 (Pair2 O2 O) w':=
 kept_cv (h.add g hb h2 g2 fun _ hk=>hk.1) cvSwap
theorem kept_step {w0 w:World} {O O':Pk.Obj} {f:FuncId} {args:Array Value} {v:Value} (h:Kept w0 O w) (hd:DoesIn w0 f args O (RetE v O')):Calls Tryz.prog f args w fun e w'=>e=.returned v/\Box (Kept w0 O' w'):=
 (h.step hd).mono fun _ _ ⟨he,hk⟩=>⟨he,⟨hk.out⟩⟩
def BlO (b:Nat) (cs:List Value) (t:TypeId):Pk.Obj:=fun w F=>Pk.Blk w b cs t/\F b/\∀ k,F k->k<w.heap.size
theorem BlO.good (b:Nat) (cs:List Value) (t:TypeId):Pk.Good (BlO b cs t) where
 lt:=fun h=>h.2.2
 chg:=fun h hc hn=>⟨hc.blk h.1 (hn _ h.2.1),h.2.1,fun k hk=>Nat.lt_of_lt_of_le (h.2.2 k hk) hc.size⟩
 wide:=fun h hG hl=>⟨h.1,hG _ h.2.1,hl⟩
def RowO (v:Value) (P:List ByteArray):Pk.Obj:=fun w F=>TxR 0 w v P/\(∀ k,v.ownBlock=some k->F k)/\∀ k,F k->k<w.heap.size
theorem RowO.good (v:Value) (P:List ByteArray):Pk.Good (RowO v P) where
 lt:=fun h=>h.2.2
 chg:=fun h hc hn=>⟨h.1.chg hc fun k hk=>hn k (h.2.1 k hk),h.2.1,fun k hk=>Nat.lt_of_lt_of_le (h.2.2 k hk) hc.size⟩
 wide:=fun h hG hl=>⟨h.1,fun k hk=>hG k (h.2.1 k hk),hl⟩
def KeyO (bk:Nat) (s:ByteArray) (h u:Nat):Pk.Obj:=fun w F=>(∃ O,KeyAt w bk O s h u/\F bk/\∀ t,O=some t->F t)/\∀ k,F k->k<w.heap.size
theorem KeyO.good (bk:Nat) (s:ByteArray) (h u:Nat):Pk.Good (KeyO bk s h u) where
 lt:=fun h=>h.2
 chg:=fun h hc hn=>by
  obtain ⟨⟨O,k,h1,h2⟩,h3⟩:=h
  exact ⟨⟨O,k.chg hc (hn _ h1) fun t e=>hn _ (h2 t e),h1,h2⟩,fun i hi=>Nat.lt_of_lt_of_le (h3 i hi) hc.size⟩
 wide:=fun h hG hl=>by
  obtain ⟨⟨O,k,h1,h2⟩,h3⟩:=h
  exact ⟨⟨O,k,hG _ h1,fun t e=>hG _ (h2 t e)⟩,hl⟩
structure Env (w0:World):Prop where
 nl:NL w0.heap.size w0
 kis:KIs w0
theorem Env.nlAt {w0 w:World} (h:Env w0) (hb:Below w0.heap.size w0 w):NL w0.heap.size w:=h.nl.below hb
theorem Env.kisAt {w0 w:World} (h:Env w0) (hb:Below w0.heap.size w0 w):KIs w:=h.kis.below hb h.kis.lt
section
variable {w0:World} {bk:Nat} {s:ByteArray} {h u:Nat}
theorem key_to {w w':World} {O:Option Nat} {F:Nat->Prop} {u':Nat} (k:KeyAt w bk O s h u) (h1:F bk) (h2:∀ t,O=some t->F t) (h3:∀ k,F k->k<w.heap.size) (g:KeyTo w bk O s h u' w'):KeyO bk s h u' w' (Ext F w w')/\Chg F w w':=by
 obtain ⟨⟨O',k',hO⟩,hc⟩:=g
 refine ⟨⟨⟨O',k',.inl h1,fun t e=>?_⟩,fun i hi=>?_⟩,hc.mono fun i _ hi=>hi ▸ h1⟩
 ·rcases hO with rfl | hO
  ·exact .inl (h2 t e)
  ·exact .inr ⟨hO t e,(k'.tree t e).2.lt⟩
 ·rcases hi with hi | hi
  ·exact Nat.lt_of_lt_of_le (h3 i hi) hc.size
  ·exact hi.2
theorem ksign_does (hE:Env w0) (t:ByteArray) (hs:s.size<=140737488351232) (ht:t.size<=140737488351232) (hu:u<2 ^ h) :
  DoesIn w0 96 #[.pointer (some ⟨bk,0,none⟩),.string t] (KeyO bk s h u) (RetE (.tuple #[.string (keyS s h u t),.int .i64 0]) (KeyO bk s h (u+1))):=by
 rintro w F ⟨⟨O,k,h1,h2⟩,h3⟩ _ hb
 refine (sign_key bk O s t h u w k (hE.kisAt hb) (by omega) (by omega) hu).mono ?_
 rintro e w' ⟨rfl,g⟩
 exact ⟨⟨rfl,(key_to k h1 h2 h3 g).1⟩,(key_to k h1 h2 h3 g).2⟩
theorem kid_does (hE:Env w0) (hs:s.size<=140737488351232) :
  DoesIn w0 69 #[.pointer (some ⟨bk,0,none⟩)] (KeyO bk s h u) (RetE (.string (keyID s h)) (KeyO bk s h u)):=by
 rintro w F ⟨⟨O,k,h1,h2⟩,h3⟩ _ hb
 refine (id_key bk O s h u w k (hE.kisAt hb) (by omega)).mono ?_
 rintro e w' ⟨rfl,g⟩
 exact ⟨⟨rfl,(key_to k h1 h2 h3 g).1⟩,(key_to k h1 h2 h3 g).2⟩
theorem kleft_does (hu:u<=2 ^ h):DoesIn w0 70 #[.pointer (some ⟨bk,0,none⟩)] (KeyO bk s h u) (RetE (.int .i64 ((2 ^ h-u:Nat):Int)) (KeyO bk s h u)):=by
 rintro w F ⟨⟨O,k,h1,h2⟩,h3⟩ _ hb
 refine (left_any bk O s h u w k hu).mono ?_
 rintro e w' ⟨rfl,rfl⟩
 exact ⟨⟨rfl,(Ext.same (KeyO.good bk s h u) ⟨⟨O,k,h1,h2⟩,h3⟩).1⟩,(Ext.same (KeyO.good bk s h u) ⟨⟨O,k,h1,h2⟩,h3⟩).2⟩
theorem kskip_does (n:Int):DoesIn w0 38 #[.pointer (some ⟨bk,0,none⟩),.int .i64 n] (KeyO bk s h u) (RetE (.tuple #[]) (KeyO bk s h (skipN u n h))):=by
 rintro w F ⟨⟨O,k,h1,h2⟩,h3⟩ _ hb
 refine (skip_any bk O s h u n w k).mono ?_
 rintro e w' ⟨rfl,k',hc⟩
 refine ⟨⟨rfl,⟨⟨O,k',.inl h1,fun t e=>.inl (h2 t e)⟩,fun i hi=>?_⟩⟩,hc.mono fun i _ hi=>hi ▸ h1⟩
 rcases hi with hi | hi
 ·exact Nat.lt_of_lt_of_le (h3 i hi) hc.size
 ·exact hi.2
end
theorem txr_pa {w:World} {v:Value} {P:List ByteArray} (h:TxR 0 w v P):∃ a c,v=.slice a P.length c/\PA w a P.length c P:=by
 have hp:=h.parts
 have h':=h
 unfold TxR World.ownsRow at h'
 obtain ⟨_,⟨rfl,h0⟩ | ⟨g,cap,cur,rfl,_,_,h1,h2,_⟩⟩:=h'
 ·rw [h0]
  exact ⟨none,0,rfl,⟨h0,Nat.le_refl _,by decide,fun h=>absurd h (Nat.lt_irrefl 0)⟩⟩
 ·refine ⟨_,cap,rfl,⟨rfl,h1,by unfold maxLen at h2; omega,fun h0=>?_⟩⟩
  obtain ⟨a',c',e,hp⟩:=hp.ex
  cases e
  exact hp h0
end Go.Proofs.YthpfpkikmaiddaaGreatDoor.Tg
namespace Go.Proofs.YthpfpkikmaiddaaGreatDoor.Tg
open Go Go.RowKit Go.Proofs.YthpfpkikmaiddaaGreatDoor.Pk
theorem st_eq {B C:World->Prop} (h:∀ w,C w->B w):St B (fun w w'=>w=w') C:=⟨h,fun _ _ hC e=>e ▸ hC⟩
theorem region_steadyC {P:Program} (B C:World->Prop) (R:World->World->Prop) {id:Nat} {Q:Exit->Act->World->Prop} {a:Act} {w:World} {l:List Oper} (hm:P.follows .mixedOrders=true) (hC:C w.drew)
  (h:anyS P .any l.toArray B R (Q .normal) l.length (Array.replicate l.length false) a C):(Code.region id l.toArray true).wp P Q a w:=by
 refine wp_region_any hm ?_
 have h2:=any_of_S (fun _ _ h=>h) _ _ _ _ _ hC h
 simpa using h2
end Go.Proofs.YthpfpkikmaiddaaGreatDoor.Tg
