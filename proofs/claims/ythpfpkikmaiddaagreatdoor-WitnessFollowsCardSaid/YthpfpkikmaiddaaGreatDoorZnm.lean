/- - -/
import Derived.Lib.AtoiAllCases
import Derived.Lib.IndexMore
import Derived.Lib.Split
import Derived.Lib.ItoaNum
import Derived.Test.YthpfpkikmaiddaaGreatDoorZa6
set_option linter.all false
namespace Go.Proofs.YthpfpkikmaiddaaGreatDoor.Nt
open Go Go.RowKit
theorem ba_ext {a b:ByteArray} (h:a.data.toList=b.data.toList):a=b:=by
 cases a with | mk a=>cases b with | mk b=>exact congrArg ByteArray.mk (Array.toList_inj.1 h)
def chkC {β:Type} (good:β->Bool) (by_:β->List UInt8) (s:List UInt8) (o:Option β):Option β:=match o with
 | none=>none
 | some n=>if good n=true/\by_ n=s then some n else none
theorem chkC_same {β:Type} (good:β->Bool) (by_:β->List UInt8) (f g:List UInt8->Option β) (hf:∀ n,good n=true->f (by_ n)=some n) (hg:∀ n,good n=true->g (by_ n)=some n) (s:List UInt8):chkC good by_ s (f s)=chkC good by_ s (g s):=by
 have one:∀ (f g:List UInt8->Option β),(∀ n,good n=true->f (by_ n)=some n)->(∀ n,good n=true->g (by_ n)=some n)->∀ m,chkC good by_ s (f s)=some m->chkC good by_ s (g s)=some m:=by
  intro f g hf hg m h
  cases hfs:f s with
  | none=>rw [hfs] at h; cases h
  | some n=>
   rw [hfs] at h
   unfold chkC at h
   by_cases hc:good n=true/\by_ n=s
   ·simp only [if_pos hc] at h
    have e:=Option.some.inj h
    subst e
    have:=hg n hc.1
    rw [hc.2] at this
    unfold chkC
    rw [this]
    simp only [if_pos hc]
   ·simp only [if_neg hc] at h
    cases h
 cases h1:chkC good by_ s (f s) with
 | some m=>rw [one f g hf hg m h1]
 | none=>
  cases h2:chkC good by_ s (g s) with
  | none=>rfl
  | some m=>rw [one g f hg hf m h2] at h1; cases h1
theorem chkC_some {β:Type} {good:β->Bool} {by_:β->List UInt8} {s:List UInt8} {o:Option β} {n:β} (h:chkC good by_ s o=some n):good n=true/\by_ n=s:=by
 unfold chkC at h
 cases o with
 | none=>cases h
 | some m=>
  by_cases hc:good m=true/\by_ m=s
  ·simp only [if_pos hc] at h; cases h; exact hc
  ·simp only [if_neg hc] at h; cases h
theorem chkC_good {β:Type} {good:β->Bool} {by_:β->List UInt8} {f:List UInt8->Option β} {n:β} (hf:f (by_ n)=some n) (h:good n=true):chkC good by_ (by_ n) (f (by_ n))=some n:=by
 unfold chkC; rw [hf]; simp only [h,and_self,if_true]
def isD (c:UInt8):Bool:=decide (48<=c) && decide (c<=57)
def valD (l:List UInt8):Nat:=l.foldl (fun n c=>10*n+(c.toNat-48)) 0
theorem valD_snoc (l:List UInt8) (c:UInt8):valD (l++[c])=10*valD l+(c.toNat-48):=by unfold valD; rw [List.foldl_append]; rfl
def valA (acc:Nat) (l:List UInt8):Nat:=l.foldl (fun n c=>10*n+(c.toNat-48)) acc
theorem valA_ge:∀ (l:List UInt8) (acc:Nat),acc<=valA acc l
 | [],_=>Nat.le_refl _
 | c::r,acc=>by
  have:=valA_ge r (10*acc+(c.toNat-48))
  show acc<=valA (10*acc+(c.toNat-48)) r
  omega
theorem isD_nat {c:UInt8} (h:isD c=true):48<=c.toNat/\c.toNat<=57:=by
 unfold isD at h
 simpa [UInt8.le_iff_toNat_le] using h
theorem dig_of (u:Nat) (h:u<10):isD (UInt8.ofNat (48+u))=true/\(UInt8.ofNat (48+u)).toNat=48+u:=by
 have:∀ u:Fin 10,isD (UInt8.ofNat (48+u.val))=true/\(UInt8.ofNat (48+u.val)).toNat=48+u.val:=by decide
 exact this ⟨u,h⟩
theorem dec_dig (u:Nat):(∀ c ∈ Lib.decDigits u,isD c=true)/\valD (Lib.decDigits u)=u/\Lib.decDigits u ≠ []:=by
 induction u using Nat.strongRecOn with
 | ind u ih=>
  by_cases h:u<10
  ·obtain ⟨h1,h2⟩:=dig_of u h
   rw [Lib.decDigits,dif_pos h]
   exact ⟨fun c hc=>by rw [List.mem_singleton.1 hc]; exact h1,by show 10*0+((UInt8.ofNat (48+u)).toNat-48)=u; rw [h2]; omega,by simp⟩
  ·obtain ⟨i1,i2,i4⟩:=ih (u / 10) (by omega)
   obtain ⟨h1,h2⟩:=dig_of (u % 10) (by omega)
   rw [Lib.decDigits,dif_neg h]
   refine ⟨fun c hc=>?_,by rw [valD_snoc,i2,h2]; omega,by simp⟩
   rcases List.mem_append.1 hc with hc | hc
   ·exact i1 c hc
   ·rw [List.mem_singleton.1 hc]; exact h1
theorem pu_dig:∀ (l:List UInt8) (acc:Nat),(∀ c ∈ l,isD c=true)->valA acc l<1844674407370955162->Lib.parseUint10 acc l=.ok (valA acc l)
 | [],_,_,_=>rfl
 | c::r,acc,hd,hv=>by
  have hc:=isD_nat (hd c (by simp))
  have hv':valA (10*acc+(c.toNat-48)) r<1844674407370955162:=hv
  have hg:=valA_ge r (10*acc+(c.toNat-48))
  rw [Lib.parseUint10,if_pos hc,if_neg (by omega),if_neg (by omega),show acc*10+(c.toNat-48)=10*acc+(c.toNat-48) by omega,pu_dig r _ (fun x hx=>hd x (by simp [hx])) hv']
  rfl
theorem atoi_dec (u:Nat) (hu:u<=1099511627776):Lib.atoiAll (Lib.decDigits u)=.ok (u:Int):=by
 obtain ⟨h1,h2,h4⟩:=dec_dig u
 have hp:Lib.parseMag (Lib.decDigits u)=.ok u:=by
  unfold Lib.parseMag
  rw [if_neg h4,pu_dig _ 0 h1 (by show valD _<_; rw [h2]; omega)]
  show Lib.NumEnd.ok (valD _)=_
  rw [h2]
 cases hd:Lib.decDigits u with
 | nil=>exact absurd hd h4
 | cons c r=>
  have hc:=isD_nat (h1 c (by rw [hd]; simp))
  rw [Lib.atoiAll_plain c r (by omega) (by omega),<- hd,hp]
  show (if 9223372036854775808<=u then Lib.NumEnd.range else Lib.NumEnd.ok (u:Int))=_
  rw [if_neg (by omega)]
def numI (l:List UInt8):Int:=match Lib.atoiAll l with
 | .ok v=>v
 | _ => -1
theorem numI_dec (u:Nat) (hu:u<=1024):numI (Lib.decDigits u)=(u:Int):=by unfold numI; rw [atoi_dec u (by omega)]
def stp (st:List (List UInt8) × List UInt8) (c:UInt8):List (List UInt8) × List UInt8:=if c=10 then (st.1++[st.2],[]) else (st.1,st.2++[c])
def lnF (st:List (List UInt8) × List UInt8) (l:List UInt8):List (List UInt8) × List UInt8:=l.foldl stp st
def lnL (l:List UInt8):List (List UInt8) × List UInt8:=lnF ([],[]) l
def no10 (l:List UInt8):Prop:=∀ x ∈ l,x ≠ 10
def jn (ls:List (List UInt8)):List UInt8:=ls.flatMap (·++[10])
theorem jn_cons (a:List UInt8) (ls:List (List UInt8)):jn (a::ls)=a++10::jn ls:=by simp [jn]
theorem jn_app (a b:List (List UInt8)):jn (a++b)=jn a++jn b:=by simp [jn]
theorem lnF_app (st:List (List UInt8) × List UInt8) (a b:List UInt8):lnF st (a++b)=lnF (lnF st a) b:=List.foldl_append
theorem lnF_no:∀ (a:List UInt8) (st:List (List UInt8) × List UInt8),no10 a->lnF st a=(st.1,st.2++a)
 | [],st,_=>by simp [lnF]
 | x::a,st,h=>by
  have hx:x ≠ 10:=h x (by simp)
  show lnF (stp st x) a=_
  rw [lnF_no a _ fun y hy=>h y (by simp [hy])]
  unfold stp
  rw [if_neg hx]
  simp
theorem lnF_line (ls:List (List UInt8)) (a r:List UInt8) (h:no10 a):lnF (ls,[]) (a++10::r)=lnF (ls++[a],[]) r:=by
 rw [lnF_app,lnF_no a _ h]
 show lnF (stp (ls,[]++a) 10) r=_
 unfold stp
 rw [if_pos rfl]
 simp
theorem lnF_lines:∀ (ls l0:List (List UInt8)) (r:List UInt8),(∀ a ∈ ls,no10 a)->lnF (l0,[]) (jn ls++r)=lnF (l0++ls,[]) r
 | [],l0,r,_=>by simp [jn]
 | a::ls,l0,r,h=>by
  rw [jn_cons,List.append_assoc,List.cons_append,lnF_line l0 a _ (h a (by simp)),lnF_lines ls _ r fun b hb=>h b (by simp [hb])]
  simp
theorem lnL_jn (ls:List (List UInt8)) (h:∀ a ∈ ls,no10 a):lnL (jn ls)=(ls,[]):=by
 have:=lnF_lines ls [] [] h
 rw [List.append_nil] at this
 unfold lnL; rw [this]; simp [lnF]
theorem lnF_join:∀ (l:List UInt8) (st:List (List UInt8) × List UInt8),jn (lnF st l).1++(lnF st l).2=jn st.1++st.2++l
 | [],st=>by simp [lnF]
 | x::l,st=>by
  show jn (lnF (stp st x) l).1++(lnF (stp st x) l).2=_
  rw [lnF_join l]
  unfold stp
  by_cases hx:x=10
  ·rw [if_pos hx,hx]; simp [jn]
  ·rw [if_neg hx]; simp
theorem lnF_clean:∀ (l:List UInt8) (st:List (List UInt8) × List UInt8),(∀ a ∈ st.1,no10 a)->no10 st.2->(∀ a ∈ (lnF st l).1,no10 a)/\no10 (lnF st l).2
 | [],st,h1,h2=>⟨h1,h2⟩
 | x::l,st,h1,h2=>by
  refine lnF_clean l (stp st x) ?_ ?_
  ·unfold stp
   by_cases hx:x=10
   ·rw [if_pos hx]
    intro a ha
    rcases List.mem_append.1 ha with h | h
    ·exact h1 a h
    ·rw [List.mem_singleton.1 h]; exact h2
   ·rw [if_neg hx]; exact h1
  ·unfold stp
   by_cases hx:x=10
   ·rw [if_pos hx]; intro y hy; cases hy
   ·rw [if_neg hx]
    intro y hy
    rcases List.mem_append.1 hy with h | h
    ·exact h2 y h
    ·rw [List.mem_singleton.1 h]; exact hx
theorem lnL_clean (l:List UInt8):(∀ a ∈ (lnL l).1,no10 a)/\no10 (lnL l).2:=lnF_clean l _ (fun a h=>by cases h) fun a h=>by cases h
theorem lnL_join (l:List UInt8):jn (lnL l).1++(lnL l).2=l:=by unfold lnL; rw [lnF_join]; simp [jn]
theorem lnF_stays:∀ (l:List UInt8) (st:List (List UInt8) × List UInt8) (a:List UInt8),a ∈ st.1->a ∈ (lnF st l).1
 | [],_,_,h=>h
 | x::l,st,a,h=>by
  refine lnF_stays l (stp st x) a ?_
  unfold stp
  by_cases hx:x=10
  ·rw [if_pos hx]; exact List.mem_append.2 (.inl h)
  ·rw [if_neg hx]; exact h
def nl:List UInt8:=[10]
def nl2:List UInt8:=[10,10]
def gT (t:List UInt8):Bool:=Lib.hasSuffix t nl && !Lib.hasPrefix t nl && !Lib.contains t nl2
def gTd (t:List UInt8):Bool:=(lnL t).2.isEmpty && (lnL t).1.all (fun a => !a.isEmpty) && !(lnL t).1.isEmpty
theorem gTd_iff (t:List UInt8):gTd t=true ↔ ∃ ls,ls ≠ []/\(∀ a ∈ ls,a ≠ []/\no10 a)/\t=jn ls:=by
 constructor
 ·intro h
  unfold gTd at h
  simp only [Bool.and_eq_true,List.isEmpty_iff,List.all_eq_true,Bool.not_eq_true',List.isEmpty_eq_false_iff] at h
  obtain ⟨⟨h1,h2⟩,h3⟩:=h
  have hj:=lnL_join t
  rw [h1,List.append_nil] at hj
  exact ⟨_,h3,fun a ha=>⟨h2 a ha,(lnL_clean t).1 a ha⟩,hj.symm⟩
 ·rintro ⟨ls,h1,h2,rfl⟩
  unfold gTd
  rw [lnL_jn ls fun a ha=>(h2 a ha).2]
  simp only [Bool.and_eq_true,List.isEmpty_iff,List.all_eq_true,Bool.not_eq_true',List.isEmpty_eq_false_iff,true_and]
  exact ⟨fun a ha=>(h2 a ha).1,h1⟩
theorem contains_iff (s sub:List UInt8):Lib.contains s sub=true ↔ ∃ a b,s=a++sub++b:=by
 unfold Lib.contains
 rw [decide_eq_true_eq]
 rcases Lib.index_spec s sub with ⟨h1,h2⟩ | ⟨i,h1,h2,h3,_⟩
 ·rw [h1]
  refine ⟨fun h=>by omega,fun ⟨a,b,e⟩=>?_⟩
  have:=h2 a.length (by rw [e]; simp)
  unfold Lib.occAt at this
  rw [e,List.append_assoc,List.drop_left' rfl] at this
  have hp:sub.isPrefixOf (sub++b)=true:=by simp [List.isPrefixOf_iff_prefix]
  rw [hp] at this; cases this
 ·rw [h1]
  refine ⟨fun _=>?_,fun _=>by omega⟩
  unfold Lib.occAt at h3
  rw [List.isPrefixOf_iff_prefix] at h3
  obtain ⟨b,hb⟩:=h3
  exact ⟨s.take i,b,by rw [List.append_assoc,hb,List.take_append_drop]⟩
theorem no_empty (ls:List (List UInt8)) (h:∀ a ∈ ls,a ≠ []/\no10 a):Lib.contains (jn ls) nl2=false/\Lib.hasPrefix (jn ls) nl=false:=by
 have hL:=lnL_jn ls fun a ha=>(h a ha).2
 constructor
 ·rw [<- Bool.not_eq_true,contains_iff]
  rintro ⟨a,b,e⟩
  have hin:([]:List UInt8) ∈ (lnL (jn ls)).1:=by
   unfold lnL
   rw [e,show nl2=10::10::[] from rfl,List.append_assoc,lnF_app]
   refine lnF_stays b _ [] ?_
   unfold stp
   simp
  rw [hL] at hin
  exact (h [] hin).1 rfl
 ·rw [<- Bool.not_eq_true]
  unfold Lib.hasPrefix nl
  rw [List.isPrefixOf_iff_prefix]
  rintro ⟨b,e⟩
  have hin:([]:List UInt8) ∈ (lnL (jn ls)).1:=by
   unfold lnL
   rw [<- e]
   refine lnF_stays b _ [] ?_
   unfold stp
   simp
  rw [hL] at hin
  exact (h [] hin).1 rfl
theorem gT_iff (t:List UInt8):gT t=true ↔ ∃ ls,ls ≠ []/\(∀ a ∈ ls,a ≠ []/\no10 a)/\t=jn ls:=by
 constructor
 ·intro h
  unfold gT at h
  simp only [Bool.and_eq_true,Bool.not_eq_true'] at h
  obtain ⟨⟨h1,h2⟩,h3⟩:=h
  unfold Lib.hasSuffix at h1
  rw [List.isSuffixOf_iff_suffix] at h1
  obtain ⟨p,hp⟩:=h1
  have hj:=lnL_join t
  have hc:=lnL_clean t
  have h0:(lnL t).2=[]:=by
   rcases List.eq_nil_or_concat (lnL t).2 with h | ⟨q,x,h⟩
   ·exact h
   ·rw [h,<- hp] at hj
    have e2:(jn (lnL t).1++q)++[x]=p++[10]:=by
     have:=hj
     rw [<- hp]
     simpa [nl] using this
    have:=List.append_inj_right' e2 rfl
    simp at this
    exact absurd this (hc.2 x (by rw [h]; simp))
  rw [h0,List.append_nil] at hj
  refine ⟨(lnL t).1,fun e=>?_,fun a ha=>⟨fun e=>?_,hc.1 a ha⟩,hj.symm⟩
  ·rw [e] at hj
   rw [<- hj] at hp
   simp [jn,nl] at hp
  ·subst e
   obtain ⟨u,v,huv⟩:=List.append_of_mem ha
   rw [huv] at hj
   rcases List.eq_nil_or_concat u with h | ⟨u',x,h⟩
   ·rw [h] at hj
    have:Lib.hasPrefix t nl=true:=by
     unfold Lib.hasPrefix nl
     rw [List.isPrefixOf_iff_prefix,<- hj]
     exact ⟨jn v,by simp [jn]⟩
    rw [this] at h2; cases h2
   ·have:Lib.contains t nl2=true:=(contains_iff _ _).2 ⟨jn u'++x,jn v,by rw [<- hj,h]; simp [jn,nl2]⟩
    rw [this] at h3; cases h3
 ·rintro ⟨ls,h1,h2,rfl⟩
  obtain ⟨n1,n2⟩:=no_empty ls h2
  unfold gT
  rw [n1,n2]
  simp only [Bool.not_false,Bool.and_true]
  unfold Lib.hasSuffix nl
  rw [List.isSuffixOf_iff_suffix]
  rcases List.eq_nil_or_concat ls with h | ⟨u,x,h⟩
  ·exact absurd h h1
  ·exact ⟨jn u++x,by rw [h]; simp [jn]⟩
theorem gT_eq (t:List UInt8):gT t=gTd t:=by rw [Bool.eq_iff_iff,gT_iff,gTd_iff]
theorem hex_chars (l:List UInt8):∀ x ∈ hexL l,x ≠ 10/\x ≠ 32:=by
 intro x hx
 have hd:∀ n:Fin 16,digit n.val ≠ 10/\digit n.val ≠ 32:=by decide +kernel
 unfold hexL at hx
 obtain ⟨y,_,hy⟩:=List.mem_flatMap.1 hx
 have:=y.toNat_lt
 unfold hexB at hy
 rcases List.mem_cons.1 hy with h | h
 ·rw [h]; exact hd ⟨y.toNat / 16,by omega⟩
 ·rw [List.mem_singleton.1 h]; exact hd ⟨y.toNat % 16,by omega⟩
def lSig:List UInt8:=[115,105,103,32]
def sLn (x:ByteArray × ByteArray):List UInt8:=lSig++(hexL x.1.data.toList++32::hexL x.2.data.toList)
theorem sLn_no10 (x:ByteArray × ByteArray):no10 (sLn x):=by
 intro y hy
 unfold sLn at hy
 rcases List.mem_append.1 hy with h | h
 ·unfold lSig at h
  simp at h
  rcases h with h | h | h | h <;> rw [h] <;> decide
 ·rcases List.mem_append.1 h with h | h
  ·exact (hex_chars _ y h).1
  ·rcases List.mem_cons.1 h with h | h
   ·rw [h]; decide
   ·exact (hex_chars _ y h).1
def sgL (sg:List (ByteArray × ByteArray)):List UInt8:=jn (sg.map sLn)
def byN (n:ByteArray × List (ByteArray × ByteArray)):List UInt8:=n.1.data.toList++10::sgL n.2
def gS (x:ByteArray × ByteArray):Bool:=decide (x.1.size=32) && decide (1<=x.2.size) && decide (x.2.size<=1024)
def gN (n:ByteArray × List (ByteArray × ByteArray)):Bool:=gT n.1.data.toList && decide (n.2.length<=16) && n.2.all gS
theorem index_at:∀ (a:List UInt8) (c:UInt8) (p r:List UInt8),(∀ x ∈ a,x ≠ c)->Lib.index (a++(c::p++r)) (c::p)=(a.length:Int)
 | [],c,p,r,_=>by
  show Lib.index (c::(p++r)) (c::p)=0
  have:(c::p).isPrefixOf (c::(p++r))=true:=by simp [List.isPrefixOf_iff_prefix]
  unfold Lib.index
  rw [if_pos this]
 | x::a,c,p,r,h=>by
  have hx:=h x (by simp)
  have ih:=index_at a c p r fun y hy=>h y (by simp [hy])
  have:(c::p).isPrefixOf (x::(a++(c::p++r)))=false:=by simp [List.isPrefixOf,Ne.symm hx]
  rw [List.cons_append]
  unfold Lib.index
  rw [this,ih]
  have h1:((a.length:Int) == -1)=false:=by
   cases h:((a.length:Int) == -1)
   ·rfl
   ·have:=eq_of_beq h; omega
  rw [h1]
  simp
theorem cut_at (a:List UInt8) (c:UInt8) (r:List UInt8) (h:∀ x ∈ a,x ≠ c):Lib.cut (a++c::r) [c]=(a,r,true):=by
 unfold Lib.cut
 have hi:=index_at a c [] r h
 simp only [List.cons_append,List.nil_append] at hi
 rw [hi,if_pos (by omega),Int.toNat_natCast]
 simp [List.drop_append]
def rdS (line:List UInt8):ByteArray × ByteArray:=(unT (Lib.cut (Lib.trimPrefix line lSig) [32]).1,unT (Lib.cut (Lib.trimPrefix line lSig) [32]).2.1)
theorem rdS_ln (x:ByteArray × ByteArray):rdS (sLn x)=x:=by
 have h1:Lib.trimPrefix (sLn x) lSig=hexL x.1.data.toList++32::hexL x.2.data.toList:=by
  unfold Lib.trimPrefix Lib.hasPrefix sLn
  rw [if_pos (by simp [List.isPrefixOf_iff_prefix]),List.drop_left' rfl]
 unfold rdS
 rw [h1,cut_at _ 32 _ fun y hy=>(hex_chars _ y hy).2,unT_hex,unT_hex]
def rdsL:Nat->List UInt8->List (ByteArray × ByteArray)
 | 0,_=>[]
 | n+1,rest=>if rest=[] then [] else rdS (Lib.cut rest nl).1::rdsL n (Lib.cut rest nl).2.1
theorem rdsL_back:∀ (sg:List (ByteArray × ByteArray)) (n:Nat),sg.length<=n->rdsL n (sgL sg)=sg
 | [],0,_=>rfl
 | [],n+1,_=>rfl
 | x::sg,0,h=>by simp at h
 | x::sg,n+1,h=>by
  have e:sgL (x::sg)=sLn x++10::sgL sg:=by unfold sgL; rw [List.map_cons,jn_cons]
  rw [e,rdsL,if_neg (by simp),show nl=[10] from rfl,cut_at _ 10 _ (sLn_no10 x),rdS_ln,rdsL_back sg n (by simpa using h)]
def candP (s:List UInt8):Option (ByteArray × List (ByteArray × ByteArray)):=
 if Lib.index s nl2<0 then none else some (⟨(s.take ((Lib.index s nl2).toNat+1)).toArray⟩,rdsL 17 (s.drop ((Lib.index s nl2).toNat+2)))
theorem index_note (t r:List UInt8) (h:gT t=true):Lib.index (t++10::r) nl2=((t.length-1:Nat):Int)/\1<=t.length:=by
 obtain ⟨ls,h1,h2,e⟩:=(gT_iff t).1 h
 have hn:=(no_empty ls h2).1
 rw [<- e] at hn
 rcases List.eq_nil_or_concat ls with h3 | ⟨u,x,h3⟩
 ·exact absurd h3 h1
 have e2:t=(jn u++x)++[10]:=by rw [e,h3]; simp [jn]
 have hl:t.length=(jn u++x).length+1:=by rw [e2]; simp; omega
 refine ⟨?_,by omega⟩
 refine Lib.index_first (by simp; omega) ?_ fun j hj=>?_
 ·unfold Lib.occAt
  rw [List.isPrefixOf_iff_prefix,show t.length-1=(jn u++x).length by omega,e2,List.append_assoc,List.append_assoc,<- List.append_assoc,List.drop_left' rfl]
  exact ⟨r,by simp [nl2]⟩
 ·rw [<- Bool.not_eq_true]
  unfold Lib.occAt
  rw [List.isPrefixOf_iff_prefix]
  rintro ⟨b,hb⟩
  rw [List.drop_append_of_le_length (by omega)] at hb
  have hc:Lib.contains t nl2=true:=by
   refine (contains_iff _ _).2 ?_
   have hd:2<=(t.drop j).length:=by rw [List.length_drop]; omega
   match hq:t.drop j,hd with
   | p::q::z,_=>
    rw [hq] at hb
    simp only [nl2,List.cons_append,List.nil_append,List.cons.injEq] at hb
    exact ⟨t.take j,z,by rw [show t.take j++nl2++z=t.take j++(p::q::z) by rw [<- hb.1,<- hb.2.1]; simp [nl2],<- hq,List.take_append_drop]⟩
  rw [hc] at hn; cases hn
theorem candP_by (n:ByteArray × List (ByteArray × ByteArray)) (h:gN n=true):candP (byN n)=some n:=by
 unfold gN at h
 simp only [Bool.and_eq_true,decide_eq_true_eq] at h
 obtain ⟨⟨h1,h2⟩,_⟩:=h
 obtain ⟨hi,hl⟩:=index_note n.1.data.toList (sgL n.2) h1
 unfold candP byN
 rw [hi,if_neg (by omega),Int.toNat_natCast,show n.1.data.toList.length-1+1=n.1.data.toList.length by omega,show n.1.data.toList.length-1+2=n.1.data.toList.length+1 by omega,List.take_left' rfl,
  List.drop_append,List.drop_of_length_le (by omega),show n.1.data.toList.length+1-n.1.data.toList.length=1 by omega,List.nil_append,List.drop_succ_cons,List.drop_zero,rdsL_back n.2 17 (by omega)]
def rdD (x:List UInt8):Option (ByteArray × ByteArray):=
 if 69<=x.length/\x.take 4=lSig/\x.getD 68 0=32/\unB ((x.drop 4).take 64)=true/\unB (x.drop 69)=true then some (unT ((x.drop 4).take 64),unT (x.drop 69)) else none
def rdsD:List (List UInt8)->Option (List (ByteArray × ByteArray))
 | []=>some []
 | x::r=>(rdD x).bind fun y=>(rdsD r).map (y::·)
theorem rdsD_snoc:∀ (a:List (List UInt8)) (x:List UInt8),rdsD (a++[x])=(rdsD a).bind fun l=>(rdD x).map fun y=>l++[y]
 | [],x=>by simp [rdsD]; cases rdD x <;> rfl
 | z::a,x=>by
  rw [List.cons_append,rdsD,rdsD,rdsD_snoc a x]
  cases rdD z with
  | none=>rfl
  | some y=>cases rdsD a with
   | none=>rfl
   | some l=>cases rdD x <;> rfl
theorem rdsD_app:∀ (a b:List (List UInt8)),rdsD a=none->rdsD (a++b)=none
 | [],_,h=>by cases h
 | z::a,b,h=>by
  rw [List.cons_append,rdsD]
  rw [rdsD] at h
  cases hz:rdD z with
  | none=>rfl
  | some y=>
   rw [hz] at h
   cases ha:rdsD a with
   | none=>rw [rdsD_app a b ha]; rfl
   | some l=>rw [ha] at h; cases h
theorem rdD_ln (x:ByteArray × ByteArray) (h:x.1.size=32):rdD (sLn x)=some x:=by
 have hl:(hexL x.1.data.toList).length=64:=by rw [hexL_length,data_len]; omega
 have e4:(sLn x).drop 4=hexL x.1.data.toList++32::hexL x.2.data.toList:=List.drop_left' rfl
 have e5:((sLn x).drop 4).take 64=hexL x.1.data.toList:=by rw [e4,List.take_left' hl]
 have e6:(sLn x).drop 69=hexL x.2.data.toList:=by
  rw [show (69:Nat)=4+65 from rfl,<- List.drop_drop,e4,List.drop_append,List.drop_of_length_le (by omega),hl]; rfl
 have e7:(sLn x).getD 68 0=32:=by
  have:(sLn x)[68]?=((sLn x).drop 4)[64]?:=by rw [List.getElem?_drop]
  rw [List.getD,this,e4,List.getElem?_append_right (by omega),hl]; rfl
 unfold rdD
 rw [e5,e6,e7,if_pos ⟨by unfold sLn lSig; simp; omega,List.take_left' rfl,rfl,unB_hex _,unB_hex _⟩,unT_hex,unT_hex]
theorem rdsD_back:∀ (sg:List (ByteArray × ByteArray)),(∀ x ∈ sg,x.1.size=32)->rdsD (sg.map sLn)=some sg
 | [],_=>rfl
 | x::sg,h=>by
  rw [List.map_cons,rdsD,rdD_ln x (h x (by simp)),Option.bind_some,rdsD_back sg fun y hy=>h y (by simp [hy])]; rfl
def kOf:List (List UInt8)->Nat
 | []=>0
 | a::l=>if a=[] then 0 else kOf l+1
theorem kOf_le:∀ l,kOf l<=l.length
 | []=>Nat.le_refl _
 | a::l=>by rw [kOf]; have:=kOf_le l; split <;> simp <;> omega
theorem kOf_at:∀ (l:List (List UInt8)) (i:Nat),i<=kOf l->((i<l.length/\l.getD i [] ≠ []) ↔ i<kOf l)
 | [],i,h=>by simp [kOf]
 | a::l,i,h=>by
  rw [kOf] at h ⊢
  by_cases ha:a=[]
  ·rw [if_pos ha] at h ⊢
   obtain rfl:i=0:=by omega
   simp [ha]
  ·rw [if_neg ha] at h ⊢
   cases i with
   | zero=>simp [ha]
   | succ i=>
    have:=kOf_at l i (by omega)
    simp only [List.length_cons,Nat.succ_lt_succ_iff,List.getD_cons_succ]
    exact this
theorem kOf_app:∀ (a:List (List UInt8)) (b:List (List UInt8)),(∀ x ∈ a,x ≠ [])->kOf (a++[]::b)=a.length
 | [],b,_=>by simp [kOf]
 | x::a,b,h=>by
  rw [List.cons_append,kOf,if_neg (h x (by simp)),kOf_app a b fun y hy=>h y (by simp [hy])]; rfl
def candD (s:List UInt8):Option (ByteArray × List (ByteArray × ByteArray)):=
 if (lnL s).2=[] then (rdsD (((lnL s).1.drop (kOf (lnL s).1+1)).take 19)).map fun sg=>(⟨(jn ((lnL s).1.take (kOf (lnL s).1))).toArray⟩,sg) else none
theorem candD_by (n:ByteArray × List (ByteArray × ByteArray)) (h:gN n=true):candD (byN n)=some n:=by
 unfold gN at h
 simp only [Bool.and_eq_true,decide_eq_true_eq,List.all_eq_true] at h
 obtain ⟨⟨h1,h2⟩,h3⟩:=h
 obtain ⟨ls,g1,g2,g3⟩:=(gT_iff _).1 h1
 have e:byN n=jn (ls++[]::n.2.map sLn):=by unfold byN sgL; rw [g3,jn_app,jn_cons]; rfl
 have hL:lnL (byN n)=(ls++[]::n.2.map sLn,[]):=by
  rw [e]
  refine lnL_jn _ fun a ha=>?_
  rcases List.mem_append.1 ha with h | h
  ·exact (g2 a h).2
  ·rcases List.mem_cons.1 h with h | h
   ·rw [h]; intro y hy; cases hy
   ·obtain ⟨x,_,rfl⟩:=List.mem_map.1 h
    exact sLn_no10 x
 unfold candD
 rw [hL]
 simp only [if_true]
 rw [kOf_app ls _ fun x hx=>(g2 x hx).1,List.take_left' rfl,<- g3,List.drop_append,List.drop_of_length_le (by omega),show ls.length+1-ls.length=1 by omega,List.nil_append,List.drop_succ_cons,List.drop_zero,
  List.take_of_length_le (by rw [List.length_map]; omega),rdsD_back n.2 fun x hx=>by
   have:=h3 x hx
   unfold gS at this
   simp only [Bool.and_eq_true,decide_eq_true_eq] at this
   exact this.1.1]
 rfl
def rdN (s:List UInt8):Option (ByteArray × List (ByteArray × ByteArray)):=chkC gN byN s (candP s)
theorem rdN_D (s:List UInt8):rdN s=chkC gN byN s (candD s):=chkC_same gN byN candP candD candP_by candD_by s
theorem rdN_by {n:ByteArray × List (ByteArray × ByteArray)} (h:gN n=true):rdN (byN n)=some n:=chkC_good (candP_by n h) h
theorem rdN_some {s:List UInt8} {n:ByteArray × List (ByteArray × ByteArray)} (h:rdN s=some n):gN n=true/\byN n=s:=chkC_some h
def gO (o:List UInt8):Bool:=o.all (fun c=>decide (33<=c.toNat/\c.toNat<=126)) && decide (1<=o.length/\o.length<=64)
structure Ck where
 o:ByteArray
 n:Int
 r:ByteArray
def gC (c:Ck):Bool:=gO c.o.data.toList && decide (0<=c.n) && decide (c.n<=1024) && decide (c.r.size=32)
def lTitle:List UInt8:=[111,115,116,108,101,114,32,99,104,101,99,107,112,111,105,110,116]
def ckL (c:Ck):List UInt8:=jn [lTitle,c.o.data.toList,Lib.itoa c.n,hexL c.r.data.toList]
theorem gC_iff {c:Ck}:gC c=true ↔ gO c.o.data.toList=true/\0<=c.n/\c.n<=1024/\c.r.size=32:=by
 unfold gC; simp [and_assoc]
theorem gO_no10 {l:List UInt8} (h:gO l=true):no10 l:=by
 unfold gO at h
 simp only [Bool.and_eq_true,List.all_eq_true,decide_eq_true_eq] at h
 intro x hx e
 have:=h.1 x hx
 rw [e] at this
 simp at this
theorem title_no10:no10 lTitle:=by unfold no10 lTitle; decide
theorem dec_no10 (u:Nat):no10 (Lib.decDigits u):=fun x hx e=>by
 have:=isD_nat ((dec_dig u).1 x hx)
 rw [e] at this
 simp at this
theorem hex_no10 (l:List UInt8):no10 (hexL l):=fun x hx=>(hex_chars l x hx).1
theorem itoa_of {n:Int} (h:0<=n):Lib.itoa n=Lib.decDigits n.toNat:=by unfold Lib.itoa; rw [if_neg (by omega)]
def ckP (s:List UInt8):Option Ck:=
 let p:=Lib.splitK nl 0 (min 5 (s.length+1)-1) s
 if p.length<=4 then none else some ⟨⟨(p.getD 1 []).toArray⟩,numI (p.getD 2 []),unT (p.getD 3 [])⟩
theorem splitK_line (a r:List UInt8) (k:Nat) (h:no10 a):Lib.splitK nl 0 (k+1) (a++10::r)=a::Lib.splitK nl 0 k r:=by
 have hi:=index_at a 10 [] r h
 simp only [List.cons_append,List.nil_append] at hi
 have h1:((a.length:Int) == -1)=false:=by
  cases h:((a.length:Int) == -1)
  ·rfl
  ·have:=eq_of_beq h; omega
 rw [Lib.splitK,show nl=[10] from rfl,hi,h1]
 simp [List.drop_append,List.drop_of_length_le]
theorem ckP_by (c:Ck) (h:gC c=true):ckP (ckL c)=some c:=by
 obtain ⟨h1,h2,h3,h4⟩:=gC_iff.1 h
 have hlen:5<=(ckL c).length:=by unfold ckL lTitle; simp [jn]
 have hk:min 5 ((ckL c).length+1)-1=4:=by omega
 have hp:Lib.splitK nl 0 4 (ckL c)=[lTitle,c.o.data.toList,Lib.itoa c.n,hexL c.r.data.toList,[]]:=by
  unfold ckL
  rw [jn_cons,jn_cons,jn_cons,jn_cons,splitK_line _ _ 3 title_no10,splitK_line _ _ 2 (gO_no10 h1),splitK_line _ _ 1 (by rw [itoa_of h2]; exact dec_no10 _),splitK_line _ _ 0 (hex_no10 _)]
  rfl
 unfold ckP
 simp only [hk,hp]
 rw [if_neg (by simp)]
 simp only [List.getD_cons_succ,List.getD_cons_zero]
 rw [itoa_of h2,numI_dec _ (by omega),unT_hex,Int.toNat_of_nonneg h2]
def pCk (s:List UInt8):Option Ck:=chkC gC ckL s (ckP s)
theorem pCk_by {c:Ck} (h:gC c=true):pCk (ckL c)=some c:=chkC_good (ckP_by c h) h
theorem pCk_some {s:List UInt8} {c:Ck} (h:pCk s=some c):gC c=true/\ckL c=s:=chkC_some h
def fmtN (n:ByteArray × List (ByteArray × ByteArray)):ByteArray:=if gN n=true then ⟨(byN n).toArray⟩ else ByteArray.empty
def fmtE (n:ByteArray × List (ByteArray × ByteArray)):Int:=if gN n=true then 0 else 1
end Go.Proofs.YthpfpkikmaiddaaGreatDoor.Nt
