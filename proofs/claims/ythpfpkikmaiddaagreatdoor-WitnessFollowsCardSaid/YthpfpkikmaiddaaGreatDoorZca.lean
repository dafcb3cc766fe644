/- - -/
import Derived.Maps.OwnSet
import Derived.Maps.OwnOps
import Derived.Maps.Ext
import Derived.Sort.KeysCollected
import Derived.Maps.RangeWalk
import Derived.Laws.IdiomRangeMap
import Derived.Shelf.AbstractIn
import Derived.Test.YthpfpkikmaiddaaGreatDoorZfm
import Derived.Test.YthpfpkikmaiddaaGreatDoorZkr
import Derived.Test.YthpfpkikmaiddaaGreatDoorZl1
set_option linter.all false
set_option maxHeartbeats 6400000
set_option maxRecDepth 100000
namespace Go.Proofs.YthpfpkikmaiddaaGreatDoor.Pk
open Go.RowKit Go.Maps
open Go.WideMaps (keyOf_string_mk)
theorem bytes_lt:∀ a b:List UInt8,bytesBefore a b=decide (a<b)
 | [],[]=>by simp [bytesBefore]
 | [],y::s=>by simp [bytesBefore]
 | x::r,[]=>by simp [bytesBefore]
 | x::r,y::s=>by
  simp only [bytesBefore,bytes_lt r s,List.cons_lt_cons_iff]
  by_cases h1:x<y
  ·simp [h1]
  ·by_cases h2:x=y
   ·subst h2; simp
   ·simp [h1,h2]
def entS (cs:List Value):Option (DataW Unit × List MemPlace):=
 match cs with
 | [.string s]=>if s.size<=maxLen then some (.lit (.string s.data.toList),[]) else none
 | _=>none
def entR (v:Value):Option (DataW Unit × List MemPlace):=
 match v with
 | .agg cs=>entS cs.toList
 | _=>none
theorem entR_mk {s:ByteArray} (h:s.size<=maxLen):entR (.agg #[.string s])=some (.lit (.string s.data.toList),[]):=by
 show (if s.size<=maxLen then _ else none)=_
 rw [if_pos h]
theorem entR_inv {v:Value} {z:DataW Unit × List MemPlace} (h:entR v=some z):∃ s,v=.agg #[.string s]/\z=(.lit (.string s.data.toList),[]):=by
 cases v <;> try (simp [entR] at h; done)
 rename_i cs
 have h1:entS cs.toList=some z:=h
 unfold entS at h1
 split at h1
 ·next s hs=>
  split at h1
  ·cases h1
   refine ⟨s,?_,rfl⟩
   congr 1
   apply Array.ext'
   rw [hs]
  ·cases h1
 ·cases h1
def pairD (p:Bs × Bs):Lit × DataW Unit:=(.string p.1,.lit (.string p.2))
def contD (c:Ct):DataW Unit:=.map (c.map pairD)
theorem sameKey_str (a b:Bs):(Lit.string a).sameKey (.string b)=decide (a=b):=by
 simp only [Lit.sameKey]
 by_cases h:a=b
 ·simp [h]
 ·simp [h]
theorem filter_str (c:Ct) (n:Bs):(c.map pairD).filter (ChangeMaps.notKey (.string n))=(dropC c n).map pairD:=by
 induction c with
 | nil=>rfl
 | cons p r ih=>
  rw [List.map_cons,List.filter_cons]
  have e:ChangeMaps.notKey (.string n) (pairD p)=decide (p.1 ≠ n):=by
   unfold ChangeMaps.notKey pairD
   rw [sameKey_str]; simp
  rw [e,ih]
  unfold dropC
  rw [List.filter_cons]
  split <;> simp
theorem insert_str {c:Ct} {n t:Bs} (h:c.Pairwise (fun p q=>p.1<q.1)):DataW.insert (pairD (n,t)) ((dropC c n).map pairD)=(putC c n t).map pairD:=by
 induction c with
 | nil=>rfl
 | cons p r ih=>
  obtain ⟨h1,h2⟩:=List.pairwise_cons.1 h
  have hb:∀ q:Bs × Bs,(pairD (n,t)).1.before (pairD q).1=decide (n<q.1):=fun q=>bytes_lt n q.1
  by_cases hlt:p.1<n
  ·have hne:p.1 ≠ n:=fun e=>lt_irrefl_bs n (by rw [e] at hlt; exact hlt)
   have hnl:¬ n<p.1:=fun e=>lt_irrefl_bs n (lt_trans_bs e hlt)
   have e1:dropC (p::r) n=p::dropC r n:=by unfold dropC; rw [List.filter_cons,if_pos (by simpa using hne)]
   rw [e1,List.map_cons,DataW.insert,hb p,if_neg (by simpa using hnl),ih h2,putC,if_pos hlt,List.map_cons]
  ·have hr:∀ q ∈ r,n<q.1/\q.1 ≠ n:=fun q hq=>by
    have h3:=h1 q hq
    have h4:n<q.1:=by
     by_cases e:p.1=n
     ·rw [<- e]; exact h3
     ·exact lt_trans_bs (lt_total_bs hlt e) h3
    exact ⟨h4,fun e=>lt_irrefl_bs n (by rw [e] at h4; exact h4)⟩
   have e2:dropC r n=r:=List.filter_eq_self.2 fun q hq=>by simpa using (hr q hq).2
   by_cases he:p.1=n
   ·have e1:dropC (p::r) n=r:=by
     have:dropC (p::r) n=dropC r n:=by unfold dropC; rw [List.filter_cons,if_neg (by simpa using he)]
     rw [this,e2]
    rw [e1,putC,if_neg hlt,if_pos he,List.map_cons]
    cases r with
    | nil=>rfl
    | cons q r'=>rw [List.map_cons,DataW.insert,hb q,if_pos (by simpa using (hr q (by simp)).1)]
   ·have e1:dropC (p::r) n=p::r:=by
     have:dropC (p::r) n=p::dropC r n:=by unfold dropC; rw [List.filter_cons,if_pos (by simpa using he)]
     rw [this,e2]
    rw [e1,putC,if_neg hlt,if_neg he,List.map_cons,DataW.insert,hb p,if_pos (by simpa using lt_total_bs hlt he),List.map_cons,List.map_cons]
theorem contD_put {c:Ct} (n t:Bs) (h:c.Pairwise (fun p q=>p.1<q.1)):(contD c).put (.string n) (.lit (.string t))=contD (putC c n t):=by
 unfold contD
 rw [DataW.put_eq]
 unfold ChangeMaps.putKey
 rw [filter_str]
 exact congrArg DataW.map (insert_str (n:=n) (t:=t) h)
theorem find_str (c:Ct) (n:Bs):(c.map pairD).find? (fun p=>p.1.sameKey (.string n))=(c.find? fun p=>decide (p.1=n)).map pairD:=by
 rw [List.find?_map]
 congr 1
 congr 1
 funext p
 exact sameKey_str p.1 n
theorem contD_at (c:Ct) (n:Bs):(contD c).atKey (.string n) (.lit (.string []))=.lit (.string ((getC c n).getD [])):=by
 unfold contD DataW.atKey getC
 simp only [find_str]
 cases c.find? fun p=>decide (p.1=n) <;> rfl
theorem contD_has (c:Ct) (n:Bs):Maps.has (contD c) (.string n)=(getC c n).isSome:=by
 unfold contD
 rw [Maps.has_eq]
 unfold getC
 rw [Option.isSome_map,Bool.eq_iff_iff,List.any_eq_true,List.find?_isSome]
 simp only [List.mem_map,decide_eq_true_eq]
 constructor
 ·rintro ⟨x,⟨p,hp,rfl⟩,hx⟩
  exact ⟨p,hp,by have:=(sameKey_str p.1 n).symm.trans hx; simpa using this⟩
 ·rintro ⟨p,hp,he⟩
  exact ⟨pairD p,⟨p,hp,rfl⟩,(sameKey_str p.1 n).trans (by simpa using he)⟩
theorem contD_size (c:Ct):Maps.size (contD c)=c.length:=by simp [contD,Maps.size]
theorem contD_keys (c:Ct):strKeys (contD c)=c.map Prod.fst:=by
 show ((c.map pairD).map fun p=>strOf p.1)=_
 rw [List.map_map]; rfl
theorem sorted_names {c:Ct} (h:c.Pairwise (fun p q=>p.1<q.1)) {ss:List (List UInt8)} (hp:ss.Perm (strKeys (contD c))):ss.mergeSort (fun x y=>decide (x<=y))=c.map Prod.fst:=by
 rw [contD_keys] at hp
 have e:=mergeSort_of_perm hp
 have e2:(c.map Prod.fst).mergeSort leB=c.map Prod.fst:=List.mergeSort_of_pairwise (List.pairwise_map.2 (h.imp fun {p q} h1=>by
  simp only [leB,decide_eq_true_eq]; exact List.le_of_lt h1))
 exact e.trans e2
def MapAt (w:World) (b:Nat) (c:Ct):Prop:=w.ownsMap Tryz.prog 9 entR b c.length (contD c)
theorem MapAt.of {w:World} {b n:Nat} {c:Ct} (h:w.ownsMap Tryz.prog 9 entR b n (contD c)):MapAt w b c:=by
 obtain ⟨es,clock,hb,F,hs,hD⟩:=h
 refine ⟨es,clock,hb,F,?_,hD⟩
 have e:=congrArg Maps.size hD
 rw [contD_size] at e
 rw [e]; simp [Maps.size,length_sorted]
theorem MapAt.lt {w:World} {b:Nat} {c:Ct} (h:MapAt w b c):b<w.heap.size:=World.ownsMap.lt h
theorem MapAt.chg {S:Nat->Prop} {w w':World} {b:Nat} {c:Ct} (h:MapAt w b c) (hc:Chg S w w') (hn:¬ S b):MapAt w' b c:=by
 have hl:=h.lt
 obtain ⟨es,clock,hb,r⟩:=h
 exact ⟨es,clock,(hc.block b hl hn).trans hb,r⟩
theorem MapAt.below {w w':World} {b B:Nat} {c:Ct} (h:MapAt w b c) (hb:Below B w w') (hB:b<B):MapAt w' b c:=h.chg (Chg.of_below hb) (by omega)
theorem MapAt.new (w:World):MapAt (w.alloc (.map #[] 0)) w.heap.size []:=World.ownsMap_made w Tryz.prog 9 entR
theorem chg_of_map {w w':World} {b:Nat} (h:w.grownBy w' (some b)):Chg (fun k=>k=b) w w':=⟨h.os,h.tape,h.output,h.size,fun k hk hn=>h.block k hk fun e=>hn (by cases e; rfl)⟩
theorem keyed:Keyed Tryz.prog 9:=string_keyed Tryz.underlying9
theorem ent_zero (w:World):(zeroValue 207).run Tryz.prog w=.ok (.agg #[.string ByteArray.empty]) w:=by kernel_rfl
section
variable {w:World} {ops:Array Oper} {rest:List Oper} {o:Oper} {a:Act} {Q:Exit->Act->World->Prop}
theorem ent_at {c:Ct} {n:Bs} {v:Value} {ps:List MemPlace} (h:entR v=some ((contD c).atKey (.string n) (.lit (.string [])),ps)):v=.agg #[.string (btx ((getC c n).getD []))]:=by
 obtain ⟨s,rfl,e⟩:=entR_inv h
 rw [contD_at] at e
 have e1:=congrArg Prod.fst e
 simp only [DataW.lit.injEq,Lit.string.injEq] at e1
 rw [e1]; rfl
theorem wpList_look_ok (hg:o.guard=none) (m x:Operand) (hop:o.op=Op.lookup 150 m x true) (b:Nat) (c:Ct) (hm:a.eval m=.map (some b)) (hM:MapAt w b c) (s:ByteArray) (hx:a.eval x=.string s) (hs:s.size<=maxLen)
  (hK:wpList Tryz.prog ops Q rest (a.put o.dst (.tuple #[.agg #[.string (btx ((getC c s.data.toList).getD []))],.bool (getC c s.data.toList).isSome])) w):wpList Tryz.prog ops Q (o::rest) a w:=
 wpList_lookup_own_ok w hg m x 150 hop 9 207 keyed Tryz.underlying150 entR (ent_zero w) (.lit (.string [])) [] (entR_mk (by decide)) b c.length (contD c) hm hM (.string s) (.string s.data.toList) hx (keyOf_string_mk Tryz.underlying9 hs) (fun v ps hv=>by
  rw [ent_at hv,contD_has]; exact hK)
theorem wpList_look (hg:o.guard=none) (m x:Operand) (hop:o.op=Op.lookup 150 m x false) (b:Nat) (c:Ct) (hm:a.eval m=.map (some b)) (hM:MapAt w b c) (s:ByteArray) (hx:a.eval x=.string s) (hs:s.size<=maxLen)
  (hK:wpList Tryz.prog ops Q rest (a.put o.dst (.agg #[.string (btx ((getC c s.data.toList).getD []))])) w):wpList Tryz.prog ops Q (o::rest) a w:=by
 refine wpList_plain hg fun K' hK'=>?_
 obtain ⟨v,ps,hrun,hv⟩:=World.ownsMap.lookup hM keyed Tryz.underlying150 (ent_zero w) (zd:=.lit (.string [])) (zp:=[]) (entR_mk (by decide)) (keyOf_string_mk Tryz.underlying9 hs)
 rw [ent_at hv] at hrun
 unfold Oper.wp
 simp [execOp,hop,hm,hx,hrun,Result.andThen]
 exact hK' _ _ hK
theorem wpList_store (hg:o.guard=none) (m x v:Operand) (hop:o.op=Op.mapUpdate 150 m x v) (b:Nat) (c:Ct) (hm:a.eval m=.map (some b)) (hM:MapAt w b c) (hc:c.Pairwise (fun p q=>p.1<q.1)) (hl:c.length<1000000)
  (s t:ByteArray) (hx:a.eval x=.string s) (hv:a.eval v=.agg #[.string t]) (hs:s.size<=maxLen) (ht:t.size<=maxLen)
  (hK:∀ w',MapAt w' b (putC c s.data.toList t.data.toList)->Chg (fun k=>k=b) w w'->wpList Tryz.prog ops Q rest (a.put o.dst undef) w'):wpList Tryz.prog ops Q (o::rest) a w:=
 wpList_mapUpdate_own w hg m x v 150 hop 9 207 keyed Tryz.underlying150 entR b c.length (contD c) hm hM (by unfold maxLen; omega) (.string s) (.agg #[.string t]) (.string s.data.toList) hx hv (keyOf_string_mk Tryz.underlying9 hs) (.lit (.string t.data.toList)) [] (entR_mk ht) (fun w' h1 h2=>by
  rw [contD_put _ _ hc] at h1
  exact hK w' (MapAt.of h1) (chg_of_map h2))
theorem wpList_mlen (hg:o.guard=none) (m:Operand) (hop:o.op=Op.call { callee:=Callee.builtin Builtin.len,args:=#[m],argTypes:=#[150] }) (b:Nat) (c:Ct) (hm:a.eval m=.map (some b)) (hM:MapAt w b c)
  (hK:wpList Tryz.prog ops Q rest (a.put o.dst (.int .i64 (c.length:Int))) w):wpList Tryz.prog ops Q (o::rest) a w:=
 wpList_len_own w hg m 150 hop 9 207 Tryz.underlying150 entR b c.length (contD c) hm hM (by rw [contD_size]; exact hK)
end
end Go.Proofs.YthpfpkikmaiddaaGreatDoor.Pk
namespace Go.Proofs.YthpfpkikmaiddaaGreatDoor.Pk
open Go.RowKit Go.Maps Go.Sort Go.Shelf
theorem entV {v:Value} {y:DataW Unit × List MemPlace} (h:entR v=some y):∃ s:ByteArray,v=.agg #[.string s]:=by
 obtain ⟨s,rfl,_⟩:=entR_inv h; exact ⟨s,rfl⟩
theorem contD_canon {c:Ct} (h:c.Pairwise (fun p q=>p.1<q.1)):Canon (contD c):=
 ⟨_,rfl,List.pairwise_map.2 (h.imp fun {p q} h1=>by show bytesBefore p.1 q.1=true; rw [bytes_lt]; simpa using h1),fun p hp=>by
  obtain ⟨q,_,rfl⟩:=List.mem_map.1 hp
  trivial⟩
theorem mcopy_any (bd bs:Nat) (c:Ct) (w:World) (hd:MapAt w bd []) (hs:MapAt w bs c) (hne:bd ≠ bs) (hc:c.Pairwise (fun p q=>p.1<q.1)) (hl:c.length<=1000000) :
  Calls Tryz.prog 134 #[.map (some bd),.map (some bs)] w fun e w'=>e=.returned (.tuple #[])/\MapAt w' bd c/\Chg (fun k=>k=bd) w w':=by
 have hbd:=hd.lt
 have hbs:=hs.lt
 go_enter Tryz.func134,Tryz.ntmps134
 go_wp2_with (first
  | (at_range; refine wpList_range_own _ rfl _ 150 rfl 9 207 keyed Tryz.underlying150 entR bs c.length _ rfl hs ?_; intro w0 hrg0 hg0 hs0)
  | go_in)
 go_frame
 go_loopw [8] (fun _ wr=>∃ (left:Lit->Bool) (cnt:Nat) (Dout:DataW Unit),wr.ranges Tryz.prog 9 entR bs w.heap.size c.length (contD c) left cnt/\cnt<=c.length /\
   wr.ownsMap Tryz.prog 9 entR bd (c.length-cnt) Dout/\Agree Dout (contD c) left/\w.grownBy wr (some bd))
  (fun _ wr=>wr.rangeLeft bs w.heap.size)
 case atStart=>
  have h0:Maps.size (contD c)=c.length:=contD_size c
  exact ⟨_,_,.map [],hrg0,Nat.le_of_eq h0,by rw [h0,Nat.sub_self]; exact World.ownsMap.kept hd hg0 (by simp),agree_start _,hg0.but _⟩
 case round=>
  obtain ⟨left,cnt,Dout,hrg,hcs,hout,hM,hgw⟩:=hrel
  go_wp2_with (first
   | (at_next; refine wpList_next_ranges _ rfl _ rfl 9 keyed entR id (fun s:ByteArray=>Value.agg #[.string s]) (fun key _ _=>⟨key,rfl⟩) (fun v _ hv=>entV hv) bs w.heap.size c.length _ _ _ rfl hrg ?_ ?_)
   | go_in)
  ·intro hc0 hl0
   go_wp2
   go_end0
   have e:=agree_end hM hl0 (hout.canon keyed) (contD_canon hc)
   subst e
   exact ⟨rfl,MapAt.of hout,chg_of_map hgw⟩
  ·intro x s kl yd yp w1 cnt1 hkey hlx hv hat hrg1 hlt hg1 hs1 hen
   have hout1:=hout.kept hg1 (fun e=>by have:=Option.some.inj e; omega)
   clear hs1
   go_wp2_with (first
    | (at_mapUpdate; refine wpList_mapUpdate_own _ rfl _ _ _ 150 rfl 9 207 keyed Tryz.underlying150 entR bd _ _ rfl (hout1.alloc _) (by unfold maxLen; omega) _ _ _ rfl rfl hkey yd yp hv ?_; intro w2 hout2 hg2; go_frame)
    | go_in)
   have hrg2:=(hrg1.alloc (.cells #[.string s] 207)).kept hg2 (fun e=>hne (Option.some.inj e).symm) (fun e=>by have:=Option.some.inj e; omega)
   go_roundw
   case rel=>
    exact ⟨_,cnt1,_,hrg2,by omega,hout2.mono (by omega),agree_step hM hout.isMap (keyed.key hkey) hat,((hgw.andThen hg1 (fun j hj=>.inl (by cases hj; exact Nat.le_refl _))).andThen (World.grownBy_alloc w1 _ none) (fun j hj=>by cases hj)).andThen hg2 (fun j hj=>.inr hj)⟩
   case measure=>rw [hrg2.left_eq,hrg.left_eq]; exact hlt
theorem mcopy_nil (bd:Nat) (w:World) (hd:MapAt w bd []) :
  Calls Tryz.prog 134 #[.map (some bd),.map none] w fun e w'=>e=.returned (.tuple #[])/\MapAt w' bd []/\Chg (fun k=>k=bd) w w':=by
 have hrg:=run_range_nilMap (P:=Tryz.prog) w 150 _ _ Tryz.underlying150
 have hnx:∀ ty,(Instr.next (.pointer (some ⟨w.heap.size,0,none⟩)) false ty).run Tryz.prog (w.alloc (.mapIter none 0 #[] 0))=_:=fun ty=>run_next_nilMap _ ty 0 0 #[]
 have hR:Box (MapAt (w.alloc (.mapIter none 0 #[] 0)) bd []/\Chg (fun k=>k=bd) w (w.alloc (.mapIter none 0 #[] 0))):=⟨⟨hd.chg ((Chg.refl (fun _=>False) _).alloc _) (fun h=>h),(Chg.refl _ _).alloc _⟩⟩
 clear hd
 go_enter Tryz.func134,Tryz.ntmps134
 go_wp2
 refine wp_loop_rounds 1 ?_
 rw [rounds_succ]
 go_wp2
 go_end0
 exact ⟨rfl,hR.out⟩
def WasAt (w:World) (p:Option Nat) (c:Ct):Prop:=(p=none/\c=[])∨∃ b,p=some b/\MapAt w b c
theorem WasAt.chg {S:Nat->Prop} {w w':World} {p:Option Nat} {c:Ct} (h:WasAt w p c) (hc:Chg S w w') (hn:∀ b,p=some b->¬ S b):WasAt w' p c:=by
 rcases h with h | ⟨b,rfl,h⟩
 ·exact .inl h
 ·exact .inr ⟨b,rfl,h.chg hc (hn b rfl)⟩
theorem WasAt.lt {w:World} {p:Option Nat} {c:Ct} (h:WasAt w p c) (b:Nat) (hb:p=some b):b<w.heap.size:=by
 rcases h with ⟨rfl,_⟩ | ⟨b',rfl,h⟩
 ·cases hb
 ·cases hb; exact h.lt
theorem mcopy_opt (bd:Nat) (p:Option Nat) (c:Ct) (w:World) (hd:MapAt w bd []) (hs:WasAt w p c) (hne:p ≠ some bd) (hc:c.Pairwise (fun p q=>p.1<q.1)) (hl:c.length<=1000000) :
  Calls Tryz.prog 134 #[.map (some bd),.map p] w fun e w'=>e=.returned (.tuple #[])/\MapAt w' bd c/\Chg (fun k=>k=bd) w w':=by
 rcases hs with ⟨rfl,rfl⟩ | ⟨b,rfl,h⟩
 ·exact mcopy_nil bd w hd
 ·exact mcopy_any bd b c w hd h (fun e=>hne (by rw [e])) hc hl
theorem mclone_any (b:Nat) (c:Ct) (w:World) (h:MapAt w b c) :
  Calls Tryz.prog 144 #[.map (some b)] w fun e w'=>e=.returned (.map (some w.heap.size))/\MapAt w' w.heap.size c/\Below w.heap.size w w':=by
 have hcon:=AnyW.maps_Clone_owns Tryz.cloneL 9 entR b c.length (contD c) w h
 change Calls Tryz.prog 144 _ _ _ at hcon
 exact hcon.mono fun e w' ⟨he,h1,_,h3⟩=>⟨he,h1,h3⟩
theorem sortsL (m:Nat):AnyZ.SortsIn Tryz.prog Tryz.sortedL_ren Fence.wide m:=
 ⟨fun blk off cap ss W hH hblk hsz=>callsIn_wide.2 (AnyM.slices_Sort_string Tryz.sortL blk off cap ss W hH hblk hsz),
  fun p cap W=>callsIn_wide.2 (AnyM.slices_Sort_string_none Tryz.sortL p cap W)⟩
theorem keys_call (mb:Option Nat) (W:World):CallsIn Fence.wide 5 Tryz.prog 242 #[.map mb] W fun e w'=>e=.returned (.func (.func 286) #[] #[.pointer (some ⟨W.heap.size,0,none⟩)])/\w'=W.alloc (.cells #[.map mb] 150):=
 AnyZ.keys_in Tryz.keysL Fence.wide 5 trivial rfl mb W
theorem sorted_call (b nn:Nat) (D0:DataW Unit) (R:Value->Option (DataW Unit × List MemPlace)) (w:World) (hown:w.ownsMap Tryz.prog 9 R b nn D0) (hmax:Maps.size D0<=maxLen) (hbytes:Maps.size D0*16<=140737488355328) :
  CallsIn Fence.wide 5 Tryz.prog 241 #[.func (.func 286) #[] #[.pointer (some ⟨w.heap.size,0,none⟩)]] (w.alloc (.cells #[.map (some b)] 150)) fun e w'=>∃ (v:Value) (ss:List (List UInt8)),e=.returned v/\ss.Perm (strKeys D0) /\
   w'.ownsRow (w.alloc (.cells #[.map (some b)] 150)).heap.size 9 1 v ss.length ((ss.mergeSort (fun x y=>decide (x<=y))).map encStr)/\(v=.slice none 0 0 ↔ ss=[])/\Below (w.alloc (.cells #[.map (some b)] 150)).heap.size (w.alloc (.cells #[.map (some b)] 150)) w':=by
 have hbl:=hown.lt
 have hseq:SeqGives Fence.wide 2 Tryz.prog 286 #[.pointer (some ⟨w.heap.size,0,none⟩)] encStr (fun ss=>ss.Perm (strKeys D0)) (Maps.size D0) (w.alloc (.cells #[.map (some b)] 150)):=
  AnyZ.keys_gives (ρ:=Tryz.keysL_ren) { Tryz.keysL with } Fence.wide _ trivial rfl (by omega) w.heap.size b nn D0 _ (by simp) (by simp) (by
   obtain ⟨es,clock,hb,Ft,hs,hD⟩:=hown
   exact ⟨es,clock,(Below.heap_alloc _ _ b hbl).trans hb,Ft,hs,hD⟩)
 exact AnyZ.sorted_in Tryz.sortedL Fence.wide 5 trivial trivial trivial trivial rfl (by omega) (sortsL _) (enters_of Tryz.func285 (by kernel_rfl) rfl) 286 #[.pointer (some ⟨w.heap.size,0,none⟩)] trivial (enters_of Tryz.func286 (by kernel_rfl) rfl) _ _ hmax hbytes _ hseq
def nameV (p:Bs × Bs):Value:=.string (btx p.1)
def NamesIs (c:Ct) (w:World) (e:Ending) (w':World):Prop:=
 ∃ v,e=.returned v/\Row w' 9 1 v c.length (c.map nameV)/\(∀ k,v.ownBlock=some k->w.heap.size<=k)/\Below w.heap.size w w'
theorem names_walk (b nn:Nat) (D0:DataW Unit) (R:Value->Option (DataW Unit × List MemPlace)) (w:World) (hown:w.ownsMap Tryz.prog 9 R b nn D0) (hmax:Maps.size D0<=maxLen) (hbytes:Maps.size D0*16<=140737488355328) :
  Calls Tryz.prog 200 #[.map (some b)] w fun e w'=>∃ (v:Value) (ss:List (List UInt8)),e=.returned v/\ss.Perm (strKeys D0) /\
   w'.ownsRow w.heap.size 9 1 v ss.length ((ss.mergeSort (fun x y=>decide (x<=y))).map encStr)/\(v=.slice none 0 0 ↔ ss=[])/\Below w.heap.size w w':=by
 refine (callsIn_wide (n:=6)).1 ?_
 have hfK:Fence.wide.fn 242:=trivial
 have hfS:Fence.wide.fn 241:=trivial
 refine callsIn_of_wp Tryz.func200 rfl trivial ?_ rfl
 simp only [Tryz.ntmps200,List.size_toArray,List.length_cons,List.length_nil,Nat.reduceAdd,Nat.reduceSub,Array.replicate_succ,Array.replicate_zero,List.push_toArray,List.append_toArray,List.nil_append,List.cons_append]
 gi_wp2_with (first
  | (gi_at_call 242; refine (keys_call _ _).mono ?_; rintro e w' ⟨rfl,rfl⟩)
  | (gi_at_call 241; refine (sorted_call b nn D0 R w hown hmax hbytes).mono ?_; rintro e w' ⟨v,ss,rfl,hS,hrow,hnil,hb⟩))
 go_ret
 exact ⟨v,ss,rfl,hS,ownsRow_base_a hrow (by simp),hnil,((Below.refl _ w).alloc (Nat.le_refl _) _).trans (hb.mono (by simp))⟩
theorem names_any (b:Nat) (c:Ct) (w:World) (h:MapAt w b c) (hc:c.Pairwise (fun p q=>p.1<q.1)) (hl:c.length<=1000000) :
  Calls Tryz.prog 200 #[.map (some b)] w (NamesIs c w):=by
 refine (names_walk b c.length (contD c) entR w h (by rw [contD_size]; unfold maxLen; omega) (by rw [contD_size]; omega)).mono ?_
 rintro e w' ⟨v,ss,rfl,hp,hrow,_,hb⟩
 have hlen:ss.length=c.length:=by rw [hp.length_eq,contD_keys,List.length_map]
 rw [sorted_names hc hp,hlen,List.map_map] at hrow
 exact ⟨v,rfl,ownsRow_base_a hrow (Nat.zero_le _),fun k hk=>(World.ownsRow.lt hrow k hk).1,hb⟩
end Go.Proofs.YthpfpkikmaiddaaGreatDoor.Pk
namespace Go.Proofs.YthpfpkikmaiddaaGreatDoor.Pk
open Go.RowKit Go.Maps
theorem p256_2:(256:Nat) ^ 2=65536:=by decide
theorem p256_4:(256:Nat) ^ 4=4294967296:=by decide
theorem p256_8:(256:Nat) ^ 8=18446744073709551616:=by decide
theorem txL_eq (s:ByteArray):textL s=txL s.data.toList:=by unfold textL txL; rw [data_len]
structure WH (w0:World) (b:Nat) (l:Bs) (w:World):Prop where
 out:∃ v,WAt w b 164 v l false/\∀ k,v.ownBlock=some k->w0.heap.size<=k
 k:Below w0.heap.size w0 w
 b:w0.heap.size<=b
theorem WH.next {w0 w w':World} {b:Nat} {l l':Bs} {v:Value} (h:WH w0 b l w) (hv:WAt w b 164 v l false) (hb:∀ k,v.ownBlock=some k->w0.heap.size<=k) (hN:WNext w b 164 v l' false w'):WH w0 b l' w':=by
 obtain ⟨v',h1,h2,h3⟩:=hN.out
 refine ⟨⟨v',h1,fun k hk=>?_⟩,h.k.trans (h2.below h.k.size ?_),h.b⟩
 ·rcases h3 k hk with h4 | h4
  ·exact hb k h4
  ·exact Nat.le_trans h.k.size h4
 ·rintro i (rfl | hi)
  ·exact h.b
  ·exact hb i hi
structure WR (w0:World) (b:Nat) (l:Bs) (vn:Value) (n:Nat) (xs:List Value) (w:World):Prop where
 wh:WH w0 b l w
 row:Row w 9 1 vn n xs
theorem WR.next {w0 w w':World} {b n:Nat} {l l':Bs} {v vn:Value} {xs:List Value} (h:WR w0 b l vn n xs w) (hv:WAt w b 164 v l false) (hb:∀ k,v.ownBlock=some k->w0.heap.size<=k) (hN:WNext w b 164 v l' false w'):WR w0 b l' vn n xs w':=by
 refine ⟨h.wh.next hv hb hN,?_⟩
 obtain ⟨v',_,h2,_⟩:=hN.out
 refine h.row.chg h2 fun k hk=>?_
 rintro (rfl | hi)
 ·exact h.row.apart hv.blk (by decide) hk
 ·exact h.row.unlike (e:=9) (f:=5) hv.own (by decide) k hk hi
theorem WH.row {w0 w:World} {b:Nat} {l:Bs} (h:WH w0 b l w):WR w0 b l (.slice none 0 0) 0 [] w:=⟨h,Row.nil _ _ _⟩
theorem fits_nat (n k:Nat) (h:n<256 ^ k):fits (n:Int) k=true:=by
 unfold fits
 have hp:(2:Nat) ^ (8*k)=256 ^ k:=by rw [Nat.pow_mul]
 have h1:n / 2 ^ (8*k)=0:=Nat.div_eq_of_lt (by rw [hp]; exact h)
 have h2:(n:Int) / 2 ^ (8*k)=((n / 2 ^ (8*k):Nat):Int):=by rw [Int.natCast_ediv]; simp
 rw [h2,h1]; simp
theorem WR.two {w0 w:World} {b n:Nat} {l:Bs} {vn:Value} {xs:List Value} (h:WR w0 b l vn n xs w) (m:Nat) (hm:m<65536) (hl:l.length<=35184372088832) :
  Calls Tryz.prog 146 #[.pointer (some ⟨b,0,none⟩),.int .i64 (m:Int)] w fun e w'=>e=.returned (.tuple #[])/\Box (WR w0 b (l++beN m 2) vn n xs w'):=by
 obtain ⟨v,hv,hb⟩:=h.wh.out
 have hf:fits (m:Int) 2=true:=fits_nat m 2 (by rw [p256_2]; omega)
 have h1:=two_any b v l false m w hv hl
 rw [hf] at h1
 exact h1.mono fun e w' ⟨a,c⟩=>⟨a,⟨h.next hv hb (by simpa [lays] using c)⟩⟩
theorem WR.four {w0 w:World} {b n:Nat} {l:Bs} {vn:Value} {xs:List Value} (h:WR w0 b l vn n xs w) (m:Nat) (hm:m<4294967296) (hl:l.length<=35184372088832) :
  Calls Tryz.prog 94 #[.pointer (some ⟨b,0,none⟩),.int .i64 (m:Int)] w fun e w'=>e=.returned (.tuple #[])/\Box (WR w0 b (l++beN m 4) vn n xs w'):=by
 obtain ⟨v,hv,hb⟩:=h.wh.out
 have hf:fits (m:Int) 4=true:=fits_nat m 4 (by rw [p256_4]; omega)
 have h1:=four_any b v l false m w hv hl
 rw [hf] at h1
 exact h1.mono fun e w' ⟨a,c⟩=>⟨a,⟨h.next hv hb (by simpa [lays] using c)⟩⟩
theorem WR.eight {w0 w:World} {b n:Nat} {l:Bs} {vn:Value} {xs:List Value} (h:WR w0 b l vn n xs w) (m:Nat) (hm:m<9223372036854775808) (hl:l.length<=35184372088832) :
  Calls Tryz.prog 201 #[.pointer (some ⟨b,0,none⟩),.int .i64 (m:Int)] w fun e w'=>e=.returned (.tuple #[])/\Box (WR w0 b (l++beN m 8) vn n xs w'):=by
 obtain ⟨v,hv,hb⟩:=h.wh.out
 have hf:fits (m:Int) 8=true:=fits_nat m 8 (by rw [p256_8]; omega)
 have h1:=eight_any b v l false m w hv hl
 rw [hf] at h1
 exact h1.mono fun e w' ⟨a,c⟩=>⟨a,⟨h.next hv hb (by simpa [lays] using c)⟩⟩
theorem WR.text {w0 w:World} {b n:Nat} {l:Bs} {vn:Value} {xs:List Value} (h:WR w0 b l vn n xs w) (s:ByteArray) (hs:s.size<=65535) (hl:l.length<=35184372088000) :
  Calls Tryz.prog 90 #[.pointer (some ⟨b,0,none⟩),.string s] w fun e w'=>e=.returned (.tuple #[])/\Box (WR w0 b (l++txL s.data.toList) vn n xs w'):=by
 obtain ⟨v,hv,hb⟩:=h.wh.out
 have h1:=text_any b v l false s w hv hl
 have hd:decide (s.size<=65535)=true:=by simpa using hs
 rw [hd,txL_eq] at h1
 exact h1.mono fun e w' ⟨a,c⟩=>⟨a,⟨h.next hv hb (by simpa [lays] using c)⟩⟩
theorem WR.bytes {w0 w:World} {b n:Nat} {l:Bs} {vn:Value} {xs:List Value} (h:WR w0 b l vn n xs w) :
  Calls Tryz.prog 91 #[.pointer (some ⟨b,0,none⟩)] w fun e w'=>e=.returned (.tuple #[.string (btx l),.int .i64 0])/\w=w':=by
 obtain ⟨v,hv,hb⟩:=h.wh.out
 exact bytes_any b v l false w hv
theorem WH.new (w:World):WH w w.heap.size [] (w.alloc (.cells #[.slice none 0 0,.bool false] 164)):=
 ⟨⟨.slice none 0 0,⟨Blk.new w _ _,Own.nil _⟩,fun k hk=>by cases hk⟩,(Below.refl _ _).alloc (Nat.le_refl _) _,Nat.le_refl _⟩
theorem headerBytes_any (n len:Nat) (w:World) (hn:n<9223372036854775808) (hl:len<4294967296) :
  Calls Tryz.prog 142 #[.int .i64 (n:Int),.int .i64 (len:Int)] w fun e w'=>e=.returned (.tuple #[.string (btx (hdr n len)),.int .i64 0])/\Box (Below w.heap.size w w'):=by
 have h0:=Box.mk (WH.new w).row
 obtain ⟨w1,hw1⟩:∃ w1,w.alloc (.cells #[.slice none 0 0,.bool false] 164)=w1:=⟨_,rfl⟩
 obtain ⟨b,hb⟩:∃ b,w.heap.size=b:=⟨_,rfl⟩
 rw [hw1,hb] at h0
 have h1:=Box.mk (h0.out.eight n hn (by simp))
 replace hn:=Box.mk hn
 replace hl:=Box.mk hl
 go_enter Tryz.func142,Tryz.ntmps142
 go_wp2_with fail
 refine h1.out.mono ?_
 rintro e w2 ⟨rfl,h2⟩
 have h3:=Box.mk (h2.out.four len hl.out (by simp [beN_length]))
 clear h0 h1
 go_wp2_with fail
 refine h3.out.mono ?_
 rintro e w3 ⟨rfl,h4⟩
 have h5:=Box.mk (h4.out.eight n hn.out (by simp [beN_length]))
 clear h2 h3
 go_wp2_with fail
 refine h5.out.mono ?_
 rintro e w4 ⟨rfl,h6⟩
 have h7:=Box.mk h6.out.bytes
 have hB:Box (Below w.heap.size w w4):=⟨h6.out.wh.k⟩
 have e1:[]++beN n 8++beN len 4++beN n 8=hdr n len:=by unfold hdr; simp
 rw [e1] at h7
 clear h4 h5 h6 e1 hw1 hb
 go_wp2_with fail
 refine h7.out.mono ?_
 rintro e w' ⟨rfl,rfl⟩
 clear h7
 go_wp2_with fail
 go_returns
 exact ⟨rfl,hB⟩
theorem ent_field (s:ByteArray) (w:World):(Instr.field 207 (.agg #[.string s]) 0).run Tryz.prog w=.ok (.string s) w:=by kernel_rfl
theorem pairL_len (c:Ct) (h:c.ok) (i:Nat):((c.take i).flatMap pairL).length<=4200000:=by
 have h1:=(bytesC_le h).2
 rw [bytesC,List.length_append,beN_length] at h1
 have h2:c.flatMap pairL=(c.take i).flatMap pairL++(c.drop i).flatMap pairL:=by rw [<- List.flatMap_append,List.take_append_drop]
 rw [h2,List.length_append] at h1
 omega
theorem flat_snoc (c:Ct) (i:Nat) (hi:i<c.length):(c.take (i+1)).flatMap pairL=(c.take i).flatMap pairL++txL (c[i]).1++txL (c[i]).2:=by
 rw [List.take_succ_eq_append_getElem hi,List.flatMap_append]
 simp [pairL]
theorem cbytes_any (bm:Nat) (c:Ct) (w:World) (h:MapAt w bm c) (hc:c.ok) :
  Calls Tryz.prog 141 #[.map (some bm)] w fun e w'=>e=.returned (.string (btx (bytesC c)))/\Box (Below w.heap.size w w'):=by
 have hbm:=h.lt
 have hcn:=hc.n
 have h0:=Box.mk (WH.new w).row
 have hM1:Box (MapAt (w.alloc (.cells #[.slice none 0 0,.bool false] 164)) bm c):=⟨h.chg ((Chg.refl (fun _=>False) _).alloc _) (fun h=>h)⟩
 obtain ⟨w1,hw1⟩:∃ w1,w.alloc (.cells #[.slice none 0 0,.bool false] 164)=w1:=⟨_,rfl⟩
 obtain ⟨b,hb⟩:∃ b,w.heap.size=b:=⟨_,rfl⟩
 rw [hw1,hb] at h0
 rw [hw1] at hM1
 have h1:=Box.mk (h0.out.two c.length (by omega) (by simp))
 replace h:=Box.mk h
 replace hc:=Box.mk hc
 go_enter Tryz.func141,Tryz.ntmps141
 go_wp2_with (at_len; refine wpList_mlen rfl _ rfl bm c rfl hM1.out ?_)
 refine h1.out.mono ?_
 rintro e w2 ⟨rfl,h2⟩
 have hM2:Box (MapAt w2 bm c):=⟨h.out.below h2.out.wh.k hbm⟩
 have h3:=Box.mk (names_any bm c w2 hM2.out hc.out.rise (by omega))
 clear h0 h1 hM1
 go_wp2_with fail
 refine h3.out.mono ?_
 rintro e w3 ⟨vn,rfl,hrow,hfr,hb3⟩
 have h4:Box (WR w b ([]++beN c.length 2) vn c.length (c.map nameV) w3):=⟨⟨⟨by
   obtain ⟨v,hv,hk⟩:=h2.out.wh.out
   exact ⟨v,hv.chg (Chg.of_below hb3) (by have:=hv.blk.lt; omega) (fun k hk2=>by have:=hv.own.lt k hk2; omega),hk⟩,h2.out.wh.k.trans (hb3.mono h2.out.wh.k.size),h2.out.wh.b⟩,hrow⟩⟩
 obtain ⟨va,vc,rfl⟩:=hrow.shape
 clear hfr hb3 h2 h3 hM2 hrow hw1
 go_wp2_with fail
 go_loopw [14] (fun s14 wr=>∃ i:Nat,i<=c.length/\s14=.int .i64 i/\Box (WR w b (beN c.length 2++(c.take i).flatMap pairL) (.slice va c.length vc) c.length (c.map nameV) wr)) (fun s14 _=>c.length-(intOf s14).toNat)
 case atStart=>exact ⟨0,by omega,rfl,⟨by simpa using h4.out⟩⟩
 case round=>
  clear h4
  obtain ⟨i,hi,rfl,h5⟩:=hrel
  by_cases hlt:i<c.length
  ·obtain ⟨g,vc2,heq,hg⟩:=h5.out.row.some (by omega)
   simp only [Value.slice.injEq] at heq
   obtain ⟨rfl,_,rfl⟩:=heq
   obtain ⟨p,hp⟩:∃ p,c[i]=p:=⟨_,rfl⟩
   have hpm:p ∈ c:=hp ▸ List.getElem_mem hlt
   have c0:wr.cell? ⟨g,i,none⟩=some (.string (btx p.1)):=h5.out.row.cells i _ (by rw [List.getElem?_map,List.getElem?_eq_getElem hlt,hp]; rfl)
   have hpe:=hc.out.each p hpm
   have hll:=pairL_len c hc.out i
   have h6:=Box.mk (h5.out.text (btx p.1) (by rw [mk_size]; omega) (by rw [List.length_append,beN_length]; omega))
   replace hp:=Box.mk hp
   clear hg
   go_wp2_with fail
   refine h6.out.mono ?_
   rintro e w6 ⟨rfl,h7⟩
   have hM6:Box (MapAt w6 bm c):=⟨h.out.below h7.out.wh.k hbm⟩
   have hget:Box (btx ((getC c (btx p.1).data.toList).getD [])=btx p.2):=⟨by
    show btx ((getC c p.1).getD [])=_
    rw [getC_of_mem hc.out.rise hpm]; rfl⟩
   have h8:=Box.mk (h7.out.text (btx p.2) (by rw [mk_size]; omega) (by rw [List.length_append,List.length_append,beN_length]; show _+(txL p.1).length<=_; rw [txL_length]; omega))
   have hps:(btx p.1).size<=maxLen:=by rw [mk_size]; unfold maxLen; omega
   replace hps:=Box.mk hps
   have hfd:=ent_field (btx p.2)
   clear h6 h5 c0
   go_wp2_with (at_lookup; refine wpList_look rfl _ _ rfl bm c rfl hM6.out (btx p.1) rfl hps.out ?_; rw [hget.out])
   refine h8.out.mono ?_
   rintro e w8 ⟨rfl,h9⟩
   have h10:Box (WR w b (beN c.length 2++(c.take (i+1)).flatMap pairL) (.slice (some ⟨g,0,none⟩) c.length vc) c.length (c.map nameV) w8):=⟨by
    rw [flat_snoc c i hlt,hp.out,<- List.append_assoc,<- List.append_assoc]; exact h9.out⟩
   clear h7 h8 h9 hget hps hM6 hpe hll hp hpm hfd
   go_wp2_with fail
   exact ⟨⟨i+1,by omega,by go_num,h10⟩,by simp [intOf]; omega⟩
  ·obtain rfl:i=c.length:=by omega
   rw [List.take_of_length_le (Nat.le_refl _)] at h5
   have h6:=Box.mk h5.out.bytes
   have hB:Box (Below w.heap.size w wr):=⟨h5.out.wh.k⟩
   clear h5
   go_wp2_with fail
   refine h6.out.mono ?_
   rintro e w' ⟨rfl,rfl⟩
   clear h6
   go_wp2_with fail
   go_returns
   exact ⟨rfl,hB⟩
end Go.Proofs.YthpfpkikmaiddaaGreatDoor.Pk
namespace Go.Proofs.YthpfpkikmaiddaaGreatDoor.Pk
open Go.RowKit Go.Maps
theorem bless:∀ (x y:List UInt8),Op.bytesLess x y=decide (x<y)
 | [],[]=>by simp [Op.bytesLess]
 | _::_,[]=>by simp [Op.bytesLess]
 | [],_::_=>by simp [Op.bytesLess]
 | a::x,b::y=>by
  rw [Op.bytesLess,bless x y]
  simp only [List.cons_lt_cons_iff]
  by_cases h1:a<b <;> by_cases h2:a=b <;> by_cases h3:x<y <;> simp [h1,h2,h3]
theorem btx_toList (l:Bs):(btx l).toList=l:=by rw [ByteArray.toList_eq]; rfl
theorem read_one (s:ByteArray) (w:World) :
  Calls Tryz.prog 128 #[.string s] w fun e w'=>e=.returned (.pointer (some ⟨w.heap.size,0,none⟩))/\RAt w' w.heap.size 261 s.data.toList 0/\Below w.heap.size w w':=by
 go_enter Tryz.func128,Tryz.ntmps128
 go_wp2
 go_returns
 exact ⟨rfl,Blk.new w [.string s,.int .i64 0] _,(Below.refl _ _).alloc (Nat.le_refl _) _⟩
theorem textR_len (most:Int) (l:Bs) (e:Int):(textR most l e).1.length<=65535:=by
 unfold textR
 generalize (if most<0 then (0:Int) else most)=M
 split
 ·simp
 ·split
  ·simp
  ·next h1 h2=>
   split
   ·simp
   ·split
    ·simp
    ·have:=numL_lt 2 (l.take 2) (by rw [List.length_take]; omega)
     rw [p256_2] at this
     simp only [List.length_drop,List.length_take]; omega
structure ParseYes (l:Bs) (w:World) (c:Ct) (b:Nat) (w':World):Prop where
 is:parseC l=some c
 rise:c.Pairwise (fun p q=>p.1<q.1)
 len:c.length<=64
 at_:MapAt w' b c
 new:w.heap.size<=b
def ParseIs (l:Bs) (w:World) (e:Ending) (w':World):Prop:=
 Below w.heap.size w w'/\((∃ c b,e=.returned (.tuple #[.map (some b),.bool true])/\ParseYes l w c b w')∨(parseC l=none/\∃ p,e=.returned (.tuple #[p,.bool false])))
structure PMid (L:Bs) (w:World) (br bm N i:Nat) (l:Bs) (e:Int) (last:Bs) (acc:Ct) (wr:World):Prop where
 rd:RAt wr br 261 l e
 mp:MapAt wr bm acc
 k:Below w.heap.size w wr
 go:parseL (N-i) l e last acc=parseC L
 rise:acc.Pairwise (fun p q=>p.1<q.1)
 last:∀ p ∈ acc,¬ last<p.1
 len:acc.length=i
 br1:w.heap.size<=br
 bm1:w.heap.size<=bm
 ne:br ≠ bm
theorem PMid.text {L:Bs} {w wr wr':World} {br bm N i0:Nat} {l l':Bs} {e e':Int} {last:Bs} {acc:Ct} (h:PMid L w br bm N i0 l e last acc wr) (hN:RNext wr br 261 l' e' wr'):MapAt wr' bm acc/\Below w.heap.size w wr'/\RAt wr' br 261 l' e':=
 ⟨h.mp.chg hN.chg (fun e=>h.ne e.symm),h.k.trans (hN.chg.below h.k.size (fun _ hi=>by rw [hi]; exact h.br1)),hN.at_⟩
theorem parse_any (L:Bs) (w:World) :
  Calls Tryz.prog 133 #[.string (btx L)] w (ParseIs L w):=by
 have h0:=Box.mk (read_one (btx L) w)
 have hmm:=@run_makeMap Tryz.prog
 go_enter Tryz.func133,Tryz.ntmps133
 go_wp2_with fail
 refine h0.out.mono ?_
 rintro e w1 ⟨rfl,hr1,hb1⟩
 obtain ⟨br,hbr⟩:∃ br,w.heap.size=br:=⟨_,rfl⟩
 rw [hbr] at hr1
 have h2:=Box.mk (rtwo_any br L 0 w1 hr1)
 replace hb1:=Box.mk hb1
 have hbrl:Box (br<w1.heap.size):=⟨hr1.lt⟩
 clear h0 hr1
 go_wp2_with fail
 refine h2.out.mono ?_
 rintro e w2 ⟨rfl,hN2⟩
 obtain ⟨n,hn⟩:∃ n,(numR 2 L 0).1=n:=⟨_,rfl⟩
 have hn0:=(numR_le 2 L 0).1
 have hnm:=(numR_le 2 L 0).2
 rw [hn] at hn0 hnm ⊢
 have hb2:Box (Below w.heap.size w w2):=⟨hb1.out.trans (hN2.chg.below hb1.out.size (fun i hi=>by rw [hi]; omega))⟩
 have hr2:Box (RAt w2 br 261 (numR 2 L 0).2.1 (numR 2 L 0).2.2):=⟨hN2.at_⟩
 have hrl2:Box (br<w2.heap.size):=⟨Nat.lt_of_lt_of_le hbrl.out hN2.chg.size⟩
 replace hn:=Box.mk hn
 clear h2 hN2 hb1 hbrl
 by_cases h64:64<n
 ·have hnone:Box (parseC L=none):=⟨by unfold parseC; rw [hn.out,if_pos h64]⟩
  clear hr2 hrl2 hn
  go_wp2_with fail
  go_returns
  exact ⟨hb2.out,.inr ⟨hnone.out,_,rfl⟩⟩
 ·obtain ⟨N,rfl⟩:∃ N:Nat,n=N:=⟨n.toNat,by omega⟩
  have hstart:Box (parseL (N-0) (numR 2 L 0).2.1 (numR 2 L 0).2.2 [] []=parseC L):=⟨by unfold parseC; rw [hn.out,if_neg h64]; simp⟩
  have hN64:N<=64:=by omega
  have hP0:Box (PMid L w br w2.heap.size N 0 (numR 2 L 0).2.1 (numR 2 L 0).2.2 [] [] (w2.alloc (.map #[] 0))):=⟨⟨(Below.heap_alloc _ _ _ hrl2.out).trans hr2.out,MapAt.new w2,hb2.out.alloc hb2.out.size _,hstart.out,List.Pairwise.nil,by simp,rfl,by omega,hb2.out.size,by have:=hrl2.out; omega⟩⟩
  clear hr2 hrl2 hn hstart h64 hn0 hnm
  obtain ⟨w3,hw3⟩:∃ w3,w2.alloc (.map #[] 0)=w3:=⟨_,rfl⟩
  obtain ⟨bm,hbm⟩:∃ bm,w2.heap.size=bm:=⟨_,rfl⟩
  rw [hw3,hbm] at hP0
  go_wp2_with fail
  go_loopw [7,18] (fun s7 s18 wr=>∃ (i:Nat) (l:Bs) (e:Int) (last:Bs) (acc:Ct),i<=N/\s18=.int .i64 i/\s7=.string (btx last)/\Box (PMid L w br bm N i l e last acc wr)) (fun _ s18 _=>N-(intOf s18).toNat)
  case atStart=>exact ⟨0,_,_,[],_,by omega,rfl,rfl,hP0⟩
  case round=>
   clear hP0 hw3 hbm hb2
   obtain ⟨i,l,e,last,acc,hi,rfl,rfl,hP⟩:=hrel
   by_cases hlt:i<N
   ·have h1:=Box.mk (rtext_any br l e 32 wr hP.out.rd)
    have hgo:=Box.mk hP.out.go
    have hnl:=textR_len 32 l e
    obtain ⟨nm,hnm⟩:∃ nm,(textR 32 l e).1=nm:=⟨_,rfl⟩
    obtain ⟨l1,hl1⟩:∃ l1,(textR 32 l e).2.1=l1:=⟨_,rfl⟩
    obtain ⟨e1,he1⟩:∃ e1,(textR 32 l e).2.2=e1:=⟨_,rfl⟩
    rw [hnm,hl1,he1] at h1
    rw [hnm] at hnl
    go_wp2_with fail
    refine h1.out.mono ?_
    rintro r w4 ⟨rfl,hN1⟩
    obtain ⟨m1,k1,r1⟩:=hP.out.text hN1
    have h2:=Box.mk (rtext_any br l1 e1 65535 w4 r1)
    have htl:=textR_len 65535 l1 e1
    obtain ⟨tx,htx⟩:∃ tx,(textR 65535 l1 e1).1=tx:=⟨_,rfl⟩
    obtain ⟨l2,hl2⟩:∃ l2,(textR 65535 l1 e1).2.1=l2:=⟨_,rfl⟩
    obtain ⟨e2,he2⟩:∃ e2,(textR 65535 l1 e1).2.2=e2:=⟨_,rfl⟩
    rw [htx,hl2,he2] at h2
    rw [htx] at htl
    have hstep:Box (if last<nm then parseL (N-(i+1)) l2 e2 nm (acc++[(nm,tx)])=parseC L else parseC L=none):=⟨by
     have h9:=hgo.out
     rw [show N-i=(N-(i+1))+1 by omega,parseL,hnm,hl1,he1,htx,hl2,he2] at h9
     split
     ·next hh=>rw [if_neg (by simpa using hh)] at h9; exact h9
     ·next hh=>rw [if_pos hh] at h9; exact h9.symm⟩
    have hkeep:Box (MapAt w4 bm acc/\Below w.heap.size w w4):=⟨m1,k1⟩
    clear h1 hN1 m1 k1 r1 hgo hnm hl1 he1 htx hl2 he2
    go_wp2_with fail
    refine h2.out.mono ?_
    rintro r w5 ⟨rfl,hN2⟩
    have hM5:Box (MapAt w5 bm acc):=⟨hkeep.out.1.chg hN2.chg (fun e=>hP.out.ne e.symm)⟩
    have hb5:Box (Below w.heap.size w w5):=⟨hkeep.out.2.trans (hN2.chg.below hkeep.out.2.size (fun i hi=>hi ▸ hP.out.br1))⟩
    have hr5:Box (RAt w5 br 261 l2 e2):=⟨hN2.at_⟩
    clear h2 hN2 hkeep
    by_cases hlast:last<nm
    ·have q1:Op.bytesLess (btx nm).toList (btx last).toList=false:=by rw [btx_toList,btx_toList,bless]; simpa using fun h=>lt_irrefl_bs _ (lt_trans_bs hlast h)
     have q2:((btx nm).toList==(btx last).toList)=false:=by rw [btx_toList,btx_toList]; simpa using fun h:nm=last=>lt_irrefl_bs last (by rw [h] at hlast; exact hlast)
     have hs1:Box ((btx nm).size<=maxLen):=⟨by rw [mk_size]; unfold maxLen; omega⟩
     have hs2:Box ((btx tx).size<=maxLen):=⟨by rw [mk_size]; unfold maxLen; omega⟩
     have hlen:Box (acc.length<1000000):=⟨by rw [hP.out.len]; omega⟩
     have hgo2:Box (parseL (N-(i+1)) l2 e2 nm (acc++[(nm,tx)])=parseC L):=⟨by have:=hstep.out; rwa [if_pos hlast] at this⟩
     clear hstep
     have hbelow:Box (∀ p ∈ acc,p.1<nm):=⟨fun p hp=>by
      have h3:=hP.out.last p hp
      by_cases h4:p.1=last
      ·rw [h4]; exact hlast
      ·rcases Decidable.em (p.1<last) with h5 | h5
       ·exact lt_trans_bs h5 hlast
       ·exact absurd (lt_total_bs h5 h4) h3⟩
     replace hlast:=Box.mk hlast
     clear hnl htl
     go_wp2_with (at_mapUpdate; refine wpList_store rfl _ _ _ rfl bm acc rfl hM5.out hP.out.rise hlen.out (btx nm) (btx tx) rfl rfl hs1.out hs2.out ?_; intro w6 hM6 hC6)
     refine ⟨⟨i+1,l2,e2,nm,acc++[(nm,tx)],by omega,by go_num,rfl,⟨⟨?_,?_,?_,hgo2.out,?_,?_,?_,hP.out.br1,hP.out.bm1,hP.out.ne⟩⟩⟩,by simp [intOf]; omega⟩
     ·exact hC6.blk hr5.out hP.out.ne
     ·have h3:putC acc (btx nm).data.toList (btx tx).data.toList=acc++[(nm,tx)]:=putC_last hbelow.out
      rw [<- h3]; exact hM6
     ·exact hb5.out.trans (hC6.below hb5.out.size (fun j hj=>hj ▸ hP.out.bm1))
     ·exact List.pairwise_append.2 ⟨hP.out.rise,by simp,fun p hp q hq=>by
       obtain rfl:q=(nm,tx):=by simpa using hq
       exact hbelow.out p hp⟩
     ·intro p hp
      rcases List.mem_append.1 hp with h3 | h3
      ·exact fun h4=>lt_irrefl_bs _ (lt_trans_bs h4 (hbelow.out p h3))
      ·obtain rfl:p=(nm,tx):=by simpa using h3
       exact lt_irrefl_bs _
     ·rw [List.length_append,hP.out.len]; rfl
    ·have q1:(Op.bytesLess (btx nm).toList (btx last).toList || (btx nm).toList==(btx last).toList)=true:=by
      rw [btx_toList,btx_toList,bless]
      by_cases he:nm=last
      ·simp [he]
      ·have:nm<last:=lt_total_bs hlast (fun e=>he e.symm)
       simp [this]
     have hnone:Box (parseC L=none):=⟨by have:=hstep.out; rwa [if_neg hlast] at this⟩
     clear hstep hM5 hr5 hP
     go_wp2_with fail
     go_returns
     exact ⟨hb5.out,.inr ⟨hnone.out,_,rfl⟩⟩
   ·obtain rfl:i=N:=by omega
    have h1:=Box.mk (end_any br l e wr hP.out.rd)
    have hgo:=hP.out.go
    rw [Nat.sub_self,parseL] at hgo
    by_cases hE:endE l e=0
    ·rw [if_pos hE] at hgo
     rw [hE] at h1
     replace hgo:=Box.mk hgo
     replace hE:=Box.mk hE
     go_wp2_with fail
     refine h1.out.mono ?_
     rintro r w4 ⟨rfl,hN1⟩
     obtain ⟨m1,k1,_⟩:=hP.out.text hN1
     have hY:Box (Below w.heap.size w w4/\ParseYes L w acc bm w4):=⟨k1,hgo.out.symm,hP.out.rise,by rw [hP.out.len]; exact hN64,m1,hP.out.bm1⟩
     clear h1 hN1 m1 k1 hgo hP hE
     go_wp2_with fail
     go_returns
     exact ⟨hY.out.1,.inl ⟨acc,bm,rfl,hY.out.2⟩⟩
    ·rw [if_neg hE] at hgo
     obtain ⟨x,hx⟩:∃ x,endE l e=x:=⟨_,rfl⟩
     rw [hx] at h1 hE
     have hE2:(x==0)=false:=by simpa using hE
     replace hgo:=Box.mk hgo
     replace hx:=Box.mk hx
     go_wp2_with fail
     refine h1.out.mono ?_
     rintro r w4 ⟨rfl,hN1⟩
     obtain ⟨_,k1,_⟩:=hP.out.text hN1
     replace k1:=Box.mk k1
     clear h1 hN1 hP hx
     go_wp2_with fail
     go_returns
     exact ⟨k1.out,.inr ⟨hgo.out.symm,_,rfl⟩⟩
end Go.Proofs.YthpfpkikmaiddaaGreatDoor.Pk
