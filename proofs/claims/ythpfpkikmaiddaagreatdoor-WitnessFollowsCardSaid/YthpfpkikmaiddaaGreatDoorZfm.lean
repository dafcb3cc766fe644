/- - -/
import Derived.Test.YthpfpkikmaiddaaGreatDoorZpk
set_option linter.all false
namespace Go.Proofs.YthpfpkikmaiddaaGreatDoor.Pk
abbrev Sec:=List UInt8
def zeroS:Sec:=List.replicate 64 0
def padS (t:List UInt8):Sec:=t++List.replicate (64-t.length) 0
theorem padS_length (t:List UInt8) (h:t.length<=64):(padS t).length=64:=by simp [padS]; omega
theorem zeroS_length:zeroS.length=64:=by simp [zeroS]
def tear (k:Nat) (new old:Sec):Sec:=new.take k++old.drop k
theorem tear_all (new old:Sec) (hn:new.length=64) (ho:old.length=64):tear 64 new old=new:=by
 simp [tear,List.take_of_length_le (Nat.le_of_eq hn),List.drop_of_length_le (Nat.le_of_eq ho)]
abbrev WrD:=Nat × Sec
def runW (s:List Sec) (ws:List WrD):List Sec:=ws.foldl (fun s x=>s.set x.1 x.2) s
theorem runW_snoc (s:List Sec) (ws:List WrD) (x:WrD):runW s (ws++[x])=(runW s ws).set x.1 x.2:=by simp [runW]
theorem runW_length (s:List Sec) (ws:List WrD):(runW s ws).length=s.length:=by
 induction ws generalizing s with
 | nil=>rfl
 | cons x ws ih=>rw [show runW s (x::ws)=runW (s.set x.1 x.2) ws from rfl,ih]; simp
def okS (s:List Sec):Prop:=∀ x ∈ s,x.length=64
def okW (n:Nat) (ws:List WrD):Prop:=∀ x ∈ ws,x.1<n/\x.2.length=64
theorem okS_set {s:List Sec} (h:okS s) (n:Nat) {t:Sec} (ht:t.length=64):okS (s.set n t):=fun x hx=>by
 rcases List.mem_or_eq_of_mem_set hx with h1 | rfl
 ·exact h x h1
 ·exact ht
theorem okS_getD {s:List Sec} (h:okS s) (n:Nat):(s.getD n zeroS).length=64:=by
 by_cases hn:n<s.length
 ·rw [List.getD_eq_getElem?_getD,List.getElem?_eq_getElem hn]; exact h _ (List.getElem_mem hn)
 ·rw [List.getD_eq_getElem?_getD,List.getElem?_eq_none (by omega)]; exact zeroS_length
theorem okW_cons {n:Nat} {x:WrD} {ws:List WrD} (h:okW n (x::ws)):(x.1<n/\x.2.length=64)/\okW n ws:=⟨h x (by simp),fun y hy=>h y (by simp [hy])⟩
theorem okW_snoc {n:Nat} {x:WrD} {ws:List WrD} (h:okW n ws) (h1:x.1<n) (h2:x.2.length=64):okW n (ws++[x]):=fun y hy=>by
 rcases List.mem_append.1 hy with h3 | h3
 ·exact h y h3
 ·obtain rfl:y=x:=by simpa using h3
  exact ⟨h1,h2⟩
theorem okW_nil (n:Nat):okW n []:=fun _ h=>by cases h
theorem okS_runW {s:List Sec} (h:okS s) {n:Nat}:∀ {ws:List WrD},okW n ws->okS (runW s ws):=by
 intro ws
 induction ws generalizing s with
 | nil=>exact fun _=>h
 | cons x ws ih=>intro hw; exact ih (okS_set h _ (okW_cons hw).1.2) (okW_cons hw).2
structure Wr where
 at':Nat
 bef:Sec
 aft:Sec
def pendW:List Sec->List WrD->List Wr
 | _,[]=>[]
 | s,x::ws=>⟨x.1,s.getD x.1 zeroS,x.2⟩::pendW (s.set x.1 x.2) ws
theorem pendW_snoc:∀ (s:List Sec) (ws:List WrD) (x:WrD),pendW s (ws++[x])=pendW s ws++[⟨x.1,(runW s ws).getD x.1 zeroS,x.2⟩]
 | _,[],_=>rfl
 | s,y::ws,x=>by
  rw [List.cons_append,pendW,pendW,pendW_snoc _ ws x]; rfl
def keepAt (keep:List Int) (i:Nat):Nat:=if keep=[] then 0 else (min (max (keep.getD (i % keep.length) 0) 0) 64).toNat
def lay1 (keep:List Int) (i:Nat) (s:List Sec) (x:WrD):List Sec:=s.set x.1 (tear (keepAt keep i) x.2 (s.getD x.1 zeroS))
def settleN (keep:List Int) (s:List Sec) (ws:List WrD):Nat->List Sec
 | 0=>s
 | i+1=>match ws[i]? with
  | some x=>lay1 keep i (settleN keep s ws i) x
  | none=>settleN keep s ws i
def settle (keep:List Int) (s:List Sec) (ws:List WrD):List Sec:=settleN keep s ws ws.length
theorem settleN_length (keep:List Int) (s:List Sec) (ws:List WrD):∀ i,(settleN keep s ws i).length=s.length
 | 0=>rfl
 | i+1=>by
  unfold settleN
  split
  ·simp [lay1,settleN_length keep s ws i]
  ·exact settleN_length keep s ws i
structure Dev where
 safe:List Sec
 ws:List WrD
 taken:Nat
 fall:Nat
 off:Bool
structure Dev.ok (D:Dev):Prop where
 s:okS D.safe
 w:okW D.safe.length D.ws
 n:D.safe.length<=4096
def Dev.seen (D:Dev):List Sec:=runW D.safe D.ws
theorem Dev.ok.seen_len {D:Dev}:D.seen.length=D.safe.length:=runW_length _ _
theorem Dev.ok.seen {D:Dev} (h:D.ok):okS D.seen:=okS_runW h.s h.w
def Dev.stepD (D:Dev):Dev:=if D.fall=1 then { D with fall:=0,off:=true } else { D with fall:=D.fall-1,taken:=D.taken+1 }
def Dev.goes (D:Dev):Bool:=D.fall ≠ 1
def Dev.refused (D:Dev) (n:Int):Int:=if D.off then 7 else if n<0∨(D.safe.length:Int)<=n then 1 else 0
def Dev.writeE (D:Dev) (n:Int) (t:List UInt8):Int:=if D.refused n ≠ 0 then D.refused n else if 64<t.length then 1 else if D.goes then 0 else 7
def Dev.write (D:Dev) (n:Int) (t:List UInt8):Dev:=
 if D.refused n ≠ 0 then D else if 64<t.length then D else if D.goes then { D.stepD with ws:=D.ws++[(n.toNat,padS t)] } else D.stepD
def Dev.barrierE (D:Dev):Int:=if D.off then 7 else if D.goes then 0 else 7
def Dev.barrier (D:Dev):Dev:=if D.off then D else if D.goes then { D.stepD with safe:=D.seen,ws:=[] } else D.stepD
def Dev.crash (D:Dev) (keep:List Int):Dev:={ safe:=settle keep D.safe D.ws,ws:=[],taken:=D.taken,fall:=0,off:=false }
def Dev.new (n:Nat):Dev:={ safe:=List.replicate n zeroS,ws:=[],taken:=0,fall:=0,off:=false }
theorem Dev.new_ok (n:Nat) (h:n<=4096):(Dev.new n).ok:=⟨fun x hx=>by rw [List.eq_of_mem_replicate hx]; exact zeroS_length,okW_nil _,by simpa [Dev.new] using h⟩
theorem Dev.ok.step {D:Dev} (h:D.ok):D.stepD.ok:=by
 unfold Dev.stepD; split <;> exact ⟨h.s,h.w,h.n⟩
theorem Dev.step_ws (D:Dev):D.stepD.ws=D.ws:=by unfold Dev.stepD; split <;> rfl
theorem Dev.step_safe (D:Dev):D.stepD.safe=D.safe:=by unfold Dev.stepD; split <;> rfl
theorem Dev.ok.barrier {D:Dev} (h:D.ok):D.barrier.ok:=by
 unfold Dev.barrier
 split
 ·exact h
 ·split
  ·exact ⟨h.seen,okW_nil _,by simp only [Dev.ok.seen_len]; exact h.n⟩
  ·exact h.step
theorem Dev.ok.write {D:Dev} (h:D.ok) (n:Int) (t:List UInt8):(D.write n t).ok:=by
 unfold Dev.write
 split
 ·exact h
 ·next h0=>
  split
  ·exact h
  ·next h1=>
   split
   ·refine ⟨by simpa [Dev.step_safe] using h.s,?_,by simpa [Dev.step_safe] using h.n⟩
    simp only [Dev.step_safe]
    refine okW_snoc h.w ?_ (padS_length t (by omega))
    unfold Dev.refused at h0
    split at h0
    ·simp at h0
    ·split at h0
     ·simp at h0
     ·simp; omega
   ·exact h.step
end Go.Proofs.YthpfpkikmaiddaaGreatDoor.Pk
namespace Go.Proofs.YthpfpkikmaiddaaGreatDoor.Pk
theorem numL_acc (l:List UInt8):∀ a:Nat,l.foldl (fun n (x:UInt8)=>n*256+x.toNat) a=a*256 ^ l.length+numL l:=by
 induction l with
 | nil=>intro a; simp [numL]
 | cons x l ih=>
  intro a
  have h1:=ih (a*256+x.toNat)
  have h2:=ih (0*256+x.toNat)
  show (x::l).foldl _ a=a*256 ^ (x::l).length+(x::l).foldl _ 0
  rw [List.foldl_cons,List.foldl_cons,h1,h2,List.length_cons,Nat.pow_succ,Nat.zero_mul,Nat.zero_add,Nat.add_mul]
  have e:a*256*256 ^ l.length=a*(256 ^ l.length*256):=by rw [Nat.mul_assoc,Nat.mul_comm 256]
  rw [e]; omega
theorem numL_cons (x:UInt8) (l:List UInt8):numL (x::l)=x.toNat*256 ^ l.length+numL l:=by
 have:=numL_acc l x.toNat
 rw [numL,List.foldl_cons]
 simpa using this
theorem numL_beN (x:Nat):∀ k,numL (beN x k)=x % 256 ^ k
 | 0=>by simp [beN,numL,Nat.mod_one]
 | k+1=>by
  have hp:2 ^ (8*k)=256 ^ k:=by rw [Nat.pow_mul]
  rw [beN,numL_cons,beN_length,numL_beN x k,UInt8.toNat_ofNat',hp]
  have h1:x / 256 ^ k % 256 % 2 ^ 8=x / 256 ^ k % 256:=Nat.mod_eq_of_lt (by omega)
  rw [h1,Nat.pow_succ,Nat.mod_mul]
  rw [Nat.mul_comm,Nat.add_comm]
theorem numL_zeros (k:Nat):numL (List.replicate k 0)=0:=by
 induction k with
 | zero=>rfl
 | succ k ih=>rw [List.replicate_succ,numL_cons,ih]; simp
theorem numR_back (k n:Nat) (r:List UInt8) (hk:n<256 ^ k) (hn:n<=9223372036854775807):numR k (beN n k++r) 0=((n:Int),r,0):=by
 have ht:(beN n k++r).take k=beN n k:=by rw [List.take_append_of_le_length (by rw [beN_length]; exact Nat.le_refl _),List.take_of_length_le (by rw [beN_length]; exact Nat.le_refl _)]
 have hd:(beN n k++r).drop k=r:=by
  have:=List.drop_left (l₁:=beN n k) (l₂:=r)
  rwa [beN_length] at this
 rw [numR,if_neg (by decide),if_neg (by rw [List.length_append,beN_length]; omega),ht,hd,numL_beN,Nat.mod_eq_of_lt hk,if_neg (by omega)]
abbrev Bs:=List UInt8
abbrev Ct:=List (Bs × Bs)
def txL (s:Bs):Bs:=beN s.length 2++s
theorem txL_length (s:Bs):(txL s).length=2+s.length:=by rw [txL,List.length_append,beN_length]
def pairL (p:Bs × Bs):Bs:=txL p.1++txL p.2
def bytesC (c:Ct):Bs:=beN c.length 2++c.flatMap pairL
structure Ct.ok (c:Ct):Prop where
 n:c.length<=64
 each:∀ p ∈ c,1<=p.1.length/\p.1.length<=32/\p.2.length<=65535
 rise:c.Pairwise (fun p q=>p.1<q.1)
def putC:Ct->Bs->Bs->Ct
 | [],n,t=>[(n,t)]
 | p::r,n,t=>if p.1<n then p::putC r n t else if p.1=n then (n,t)::r else (n,t)::p::r
def getC (c:Ct) (n:Bs):Option Bs:=(c.find? fun p=>decide (p.1=n)).map Prod.snd
def dropC (c:Ct) (n:Bs):Ct:=c.filter fun p=>decide (p.1 ≠ n)
theorem Ct.ok_nil:Ct.ok []:=⟨by simp,by simp,List.Pairwise.nil⟩
theorem lt_irrefl_bs (a:Bs):¬ a<a:=List.lt_irrefl a
theorem lt_trans_bs {a b c:Bs} (h:a<b) (k:b<c):a<c:=List.lt_trans h k
theorem lt_total_bs {a b:Bs} (h:¬ a<b) (k:a ≠ b):b<a:=by
 have h1:b<=a:=List.not_lt.1 h
 rcases Decidable.em (b<a) with h2 | h2
 ·exact h2
 ·exact absurd (List.le_antisymm (List.not_lt.1 h2) h1) k
theorem nil_lt_bs {a:Bs} (h:1<=a.length):([]:Bs)<a:=by
 cases a with
 | nil=>simp at h
 | cons x l=>exact List.nil_lt_cons x l
theorem putC_mem {c:Ct} {n t:Bs} {p:Bs × Bs} (h:p ∈ putC c n t):p=(n,t)∨p ∈ c:=by
 induction c with
 | nil=>simpa [putC] using h
 | cons q r ih=>
  unfold putC at h
  split at h
  ·rcases List.mem_cons.1 h with h1 | h1
   ·exact .inr (by simp [h1])
   ·rcases ih h1 with h2 | h2
    ·exact .inl h2
    ·exact .inr (by simp [h2])
  ·split at h
   ·rcases List.mem_cons.1 h with h1 | h1
    ·exact .inl h1
    ·exact .inr (by simp [h1])
   ·rcases List.mem_cons.1 h with h1 | h1
    ·exact .inl h1
    ·exact .inr h1
theorem putC_rise {c:Ct} {n t:Bs} (h:c.Pairwise (fun p q=>p.1<q.1)):(putC c n t).Pairwise (fun p q=>p.1<q.1):=by
 induction c with
 | nil=>simp [putC]
 | cons q r ih=>
  obtain ⟨h1,h2⟩:=List.pairwise_cons.1 h
  unfold putC
  split
  ·next hlt=>
   refine List.pairwise_cons.2 ⟨fun p hp=>?_,ih h2⟩
   rcases putC_mem hp with rfl | hp
   ·exact hlt
   ·exact h1 p hp
  ·next hlt=>
   split
   ·next he=>
    exact List.pairwise_cons.2 ⟨fun p hp=>by show n<p.1; rw [<- he]; exact h1 p hp,h2⟩
   ·next he=>
    refine List.pairwise_cons.2 ⟨fun p hp=>?_,h⟩
    have hq:=lt_total_bs hlt he
    rcases List.mem_cons.1 hp with rfl | hp
    ·exact hq
    ·exact lt_trans_bs hq (h1 p hp)
theorem getC_none {c:Ct} {n:Bs}:getC c n=none ↔ ∀ p ∈ c,p.1 ≠ n:=by simp [getC]
theorem getC_of_mem {c:Ct} (h:c.Pairwise (fun p q=>p.1<q.1)) {p:Bs × Bs} (hp:p ∈ c):getC c p.1=some p.2:=by
 induction c with
 | nil=>cases hp
 | cons q r ih=>
  obtain ⟨h1,h2⟩:=List.pairwise_cons.1 h
  rcases List.mem_cons.1 hp with rfl | hp
  ·simp [getC]
  ·have:¬ q.1=p.1:=fun e=>lt_irrefl_bs p.1 (e ▸ h1 p hp)
   have e2:getC (q::r) p.1=getC r p.1:=by simp [getC,this]
   rw [e2,ih h2 hp]
theorem putC_len {c:Ct} (n t:Bs) (h:c.Pairwise (fun p q=>p.1<q.1)):(putC c n t).length=if (getC c n).isSome then c.length else c.length+1:=by
 induction c with
 | nil=>simp [putC,getC]
 | cons q r ih=>
  obtain ⟨h1,h2⟩:=List.pairwise_cons.1 h
  have ih:=ih h2
  unfold putC
  split
  ·next hlt=>
   have e:¬ q.1=n:=fun e2=>lt_irrefl_bs n (by rw [e2] at hlt; exact hlt)
   have e2:getC (q::r) n=getC r n:=by simp [getC,e]
   rw [e2,List.length_cons,List.length_cons,ih]
   split <;> rfl
  ·next hlt=>
   split
   ·next he=>simp [getC,he]
   ·next he=>
    have hn:getC (q::r) n=none:=getC_none.2 fun p hp e=>by
     have hq:=lt_total_bs hlt he
     rcases List.mem_cons.1 hp with rfl | hp
     ·exact he e
     ·exact lt_irrefl_bs n (lt_trans_bs hq (e ▸ h1 p hp))
    rw [hn]; rfl
def putE (c:Ct) (n t:Bs):Int:=if n.length<1∨32<n.length then 1 else if 65535<t.length then 4 else if getC c n=none/\64<=c.length then 6 else 0
def putM (c:Ct) (n t:Bs):Ct:=if putE c n t=0 then putC c n t else c
theorem putE_zero {c:Ct} {n t:Bs} (h:putE c n t=0):(1<=n.length/\n.length<=32)/\t.length<=65535/\(getC c n=none->c.length<64):=by
 unfold putE at h
 split at h
 ·cases h
 ·split at h
  ·cases h
  ·split at h
   ·cases h
   ·next h1 h2 h3=>exact ⟨by omega,by omega,fun h4=>by
     rcases Nat.lt_or_ge c.length 64 with h5 | h5
     ·exact h5
     ·exact absurd ⟨h4,h5⟩ h3⟩
theorem Ct.ok.put {c:Ct} (h:c.ok) (n t:Bs):(putM c n t).ok:=by
 unfold putM
 split
 ·next he=>
  obtain ⟨h1,h2,h3⟩:=putE_zero he
  refine ⟨?_,fun p hp=>?_,putC_rise h.rise⟩
  ·rw [putC_len n t h.rise]
   split
   ·exact h.n
   ·next hs=>have:=h3 (by simpa using hs); omega
  ·rcases putC_mem hp with rfl | hp
   ·exact ⟨h1.1,h1.2,h2⟩
   ·exact h.each p hp
 ·exact h
theorem putC_last {c:Ct} {n t:Bs} (h:∀ p ∈ c,p.1<n):putC c n t=c++[(n,t)]:=by
 induction c with
 | nil=>rfl
 | cons q r ih=>rw [putC,if_pos (h q (by simp)),ih fun p hp=>h p (by simp [hp])]; rfl
theorem textR_back (most:Int) (s r:Bs) (hs:s.length<=65535) (hm:(s.length:Int)<=most):textR most (txL s++r) 0=(s,r,0):=by
 have h2:numL ((txL s++r).take 2)=s.length:=by
  rw [txL,List.append_assoc,List.take_append_of_le_length (by rw [beN_length]; omega),List.take_of_length_le (by rw [beN_length]; omega),numL_beN]
  exact Nat.mod_eq_of_lt (by
   have:(256:Nat) ^ 2=65536:=by decide
   omega)
 have hl:=txL_length s
 have ht:((txL s++r).take (2+s.length)).drop 2=s:=by
  rw [List.take_append_of_le_length (by omega),List.take_of_length_le (by omega),txL]
  have:=List.drop_left (l₁:=beN s.length 2) (l₂:=s)
  rwa [beN_length] at this
 have hd:(txL s++r).drop (2+s.length)=r:=by
  have:=List.drop_left (l₁:=txL s) (l₂:=r)
  rwa [hl] at this
 rw [textR,if_neg (by decide),if_neg (by rw [List.length_append]; omega),h2,if_neg (by split <;> omega),if_neg (by rw [List.length_append]; omega),ht,hd]
def parseL:Nat->Bs->Int->Bs->Ct->Option Ct
 | 0,l,e,_,acc=>if endE l e=0 then some acc else none
 | k+1,l,e,last,acc=>
  if ¬ last<(textR 32 l e).1 then none
  else parseL k (textR 65535 (textR 32 l e).2.1 (textR 32 l e).2.2).2.1 (textR 65535 (textR 32 l e).2.1 (textR 32 l e).2.2).2.2 (textR 32 l e).1 (acc++[((textR 32 l e).1,(textR 65535 (textR 32 l e).2.1 (textR 32 l e).2.2).1)])
def parseC (s:Bs):Option Ct:=if 64<(numR 2 s 0).1 then none else parseL (numR 2 s 0).1.toNat (numR 2 s 0).2.1 (numR 2 s 0).2.2 [] []
theorem parseL_back:∀ (c acc:Ct) (last:Bs),(∀ p ∈ c,1<=p.1.length/\p.1.length<=32/\p.2.length<=65535)->c.Pairwise (fun p q=>p.1<q.1)->(∀ p ∈ c,last<p.1) ->
  parseL c.length (c.flatMap pairL) 0 last acc=some (acc++c)
 | [],acc,last,_,_,_=>by simp [parseL,endE]
 | p::r,acc,last,he,hr,hl=>by
  obtain ⟨h1,h2⟩:=List.pairwise_cons.1 hr
  have hp:=he p (by simp)
  have e1:textR 32 ((p::r).flatMap pairL) 0=(p.1,txL p.2++r.flatMap pairL,0):=by
   rw [List.flatMap_cons,pairL,List.append_assoc]
   exact textR_back 32 p.1 _ (by omega) (by omega)
  have e2:textR 65535 (txL p.2++r.flatMap pairL) 0=(p.2,r.flatMap pairL,0):=textR_back 65535 p.2 _ hp.2.2 (by omega)
  rw [List.length_cons,parseL,e1,if_neg (by simpa using hl p (by simp))]
  simp only [e2]
  rw [parseL_back r _ p.1 (fun q hq=>he q (by simp [hq])) h2 h1]
  simp
theorem parseC_back {c:Ct} (h:c.ok):parseC (bytesC c)=some c:=by
 have hn:=h.n
 have e1:numR 2 (bytesC c) 0=((c.length:Int),c.flatMap pairL,0):=numR_back 2 c.length _ (by
  have:(256:Nat) ^ 2=65536:=by decide
  omega) (by omega)
 unfold parseC
 rw [e1,if_neg (by simp; omega)]
 simp only [Int.toNat_natCast]
 rw [parseL_back c [] [] h.each h.rise (fun p hp=>nil_lt_bs (h.each p hp).1)]
 rfl
theorem bytesC_le {c:Ct} (h:c.ok):2<=(bytesC c).length/\(bytesC c).length<=4200000:=by
 have:∀ c:Ct,(∀ p ∈ c,1<=p.1.length/\p.1.length<=32/\p.2.length<=65535)->(c.flatMap pairL).length<=c.length*65600:=by
  intro c
  induction c with
  | nil=>simp
  | cons p r ih=>
   intro he
   have hp:=he p (by simp)
   have:=ih fun q hq=>he q (by simp [hq])
   rw [List.flatMap_cons,List.length_append,pairL,List.length_append,txL_length,txL_length,List.length_cons]
   omega
 have h1:=this c h.each
 have h2:=h.n
 rw [bytesC,List.length_append,beN_length]
 have h3:c.length*65600<=64*65600:=Nat.mul_le_mul_right _ h2
 omega
def hdr (n len:Nat):Bs:=beN n 8++(beN len 4++beN n 8)
theorem hdr_length (n len:Nat):(hdr n len).length=20:=by simp [hdr,beN_length]
def headR (h:Bs):Int × Int × Int:=
 ((numR 8 h 0).1,(numR 4 (numR 8 h 0).2.1 (numR 8 h 0).2.2).1,(numR 8 (numR 4 (numR 8 h 0).2.1 (numR 8 h 0).2.2).2.1 (numR 4 (numR 8 h 0).2.1 (numR 8 h 0).2.2).2.2).1)
def headOk (h:Bs) (half:Nat):Bool:=decide (1<=(headR h).1/\(headR h).1 ≠ 9223372036854775807/\(headR h).1=(headR h).2.2/\(headR h).2.1<=((half:Int)-1)*64)
def bodyS (S:List Sec) (n k:Nat):Bs:=((S.drop n).take k).flatten
def readM (S:List Sec) (n half:Nat):Option (Nat × Ct):=
 if headOk (S.getD n zeroS) half then (parseC ((bodyS S (n+1) (half-1)).take (headR (S.getD n zeroS)).2.1.toNat)).map fun c=>((headR (S.getD n zeroS)).1.toNat,c) else none
theorem readM_congr {S S':List Sec} {n half:Nat} (h:∀ i,n<=i->i<n+half->S'[i]?=S[i]?) (hh:1<=half):readM S' n half=readM S n half:=by
 have e0:S'.getD n zeroS=S.getD n zeroS:=by
  rw [List.getD_eq_getElem?_getD,List.getD_eq_getElem?_getD,h n (Nat.le_refl _) (by omega)]
 have e1:(S'.drop (n+1)).take (half-1)=(S.drop (n+1)).take (half-1):=by
  apply List.ext_getElem?
  intro i
  rw [List.getElem?_take,List.getElem?_take]
  split
  ·rw [List.getElem?_drop,List.getElem?_drop]; exact h _ (by omega) (by omega)
  ·rfl
 unfold readM bodyS
 rw [e0,e1]
theorem numR_le (k:Nat) (l:Bs) (e:Int):0<=(numR k l e).1/\(numR k l e).1<=9223372036854775807:=by
 unfold numR
 split
 ·simp
 ·split
  ·simp
  ·split
   ·simp
   ·simp; omega
theorem headR_of (h:Bs) (hl:h.length=64) (h1:1<=(headR h).1) (h2:(headR h).1=(headR h).2.2) :
  headR h=((numL (h.take 8):Int),(numL ((h.drop 8).take 4):Int),(numL ((h.drop 12).take 8):Int)):=by
 have a1:(numR 8 h 0)=((numL (h.take 8):Int),h.drop 8,0):=by
  unfold headR at h1
  unfold numR at h1 ⊢
  rw [if_neg (by decide),if_neg (by omega)] at h1 ⊢
  split
  ·next hg=>rw [if_pos hg] at h1; simp at h1
  ·rfl
 have a2:numR 4 (h.drop 8) 0=((numL ((h.drop 8).take 4):Int),h.drop 12,0):=by
  have hb:=numL_lt 4 ((h.drop 8).take 4) (by rw [List.length_take,List.length_drop]; omega)
  have:(256:Nat) ^ 4=4294967296:=by decide
  unfold numR
  rw [if_neg (by decide),if_neg (by rw [List.length_drop]; omega),if_neg (by omega),List.drop_drop]
 have a3:(numR 8 (h.drop 12) 0).1=(numL ((h.drop 12).take 8):Int):=by
  unfold headR at h2 h1
  simp only [a1,a2] at h2 h1
  unfold numR at h2 ⊢
  rw [if_neg (by decide),if_neg (by rw [List.length_drop]; omega)] at h2 ⊢
  split
  ·next hg=>rw [if_pos hg] at h2; simp at h2; omega
  ·rfl
 unfold headR
 simp only [a1,a2,a3]
def window (j k:Nat) (h:Bs):Sec:=(List.replicate 64 (0:UInt8)).zipIdx.map fun p=>if j<=p.2/\p.2<k then h.getD p.2 0 else 0
theorem window_get (j k:Nat) (h:Bs) (i:Nat):(window j k h)[i]?=if i<64 then some (if j<=i/\i<k then h.getD i 0 else 0) else none:=by
 unfold window
 rw [List.getElem?_map,List.getElem?_zipIdx,List.getElem?_replicate]
 split <;> simp
theorem window_length (j k:Nat) (h:Bs):(window j k h).length=64:=by simp [window]
def Part (s:Sec):Prop:=∃ n len j k,n<256 ^ 8/\len<256 ^ 4/\s=window j k (hdr n len)
theorem zeroS_get (i:Nat):zeroS[i]?=if i<64 then some 0 else none:=by unfold zeroS; exact List.getElem?_replicate
theorem Part.zero:Part zeroS:=⟨0,0,0,0,by decide,by decide,by
 apply List.ext_getElem?
 intro i
 rw [window_get,zeroS_get]
 simp⟩
theorem pad_get (t:Bs) (h:t.length<=64) (i:Nat):(padS t)[i]?=if i<64 then some (t.getD i 0) else none:=by
 unfold padS
 rw [List.getElem?_append]
 split
 ·next hi=>rw [if_pos (by omega),List.getD_eq_getElem?_getD,List.getElem?_eq_getElem hi]; rfl
 ·next hi=>
  rw [List.getElem?_replicate]
  have:t.getD i 0=0:=by rw [List.getD_eq_getElem?_getD,List.getElem?_eq_none (by omega)]; rfl
  rw [this]
  split
  ·rw [if_pos (by omega)]
  ·rw [if_neg (by omega)]
theorem pad_hdr (n len:Nat):padS (hdr n len)=window 0 64 (hdr n len):=by
 apply List.ext_getElem?
 intro i
 rw [pad_get _ (by rw [hdr_length]; omega),window_get]
 split
 ·rw [if_pos (by omega)]
 ·rfl
theorem tear_get (k:Nat) (new old:Sec) (hn:new.length=64) (ho:old.length=64) (i:Nat):(tear k new old)[i]?=if i<k then new[i]? else old[i]?:=by
 unfold tear
 rw [List.getElem?_append,List.length_take,hn]
 by_cases h1:i<k
 ·rw [if_pos h1]
  by_cases h2:i<64
  ·rw [if_pos (by omega),List.getElem?_take,if_pos h1]
  ·rw [if_neg (by omega),List.getElem?_drop,List.getElem?_eq_none (by omega),List.getElem?_eq_none (by omega)]
 ·rw [if_neg h1,if_neg (by omega),List.getElem?_drop]
  by_cases h2:k<=64
  ·rw [Nat.min_eq_left h2,show k+(i-k)=i by omega]
  ·rw [List.getElem?_eq_none (by omega),List.getElem?_eq_none (by omega)]
theorem tear_zero_window (k j m:Nat) (h:Bs):tear k zeroS (window j m h)=window (max j k) m h:=by
 apply List.ext_getElem?
 intro i
 rw [tear_get _ _ _ zeroS_length (window_length _ _ _),zeroS_get,window_get,window_get]
 by_cases h1:i<k
 ·rw [if_pos h1]
  split
  ·rw [if_neg (by omega)]
  ·rfl
 ·rw [if_neg h1]
  split
  ·by_cases h3:j<=i/\i<m
   ·rw [if_pos h3,if_pos (by omega)]
   ·rw [if_neg h3,if_neg (by omega)]
  ·rfl
theorem tear_hdr_zero (k n len:Nat):tear k (padS (hdr n len)) zeroS=window 0 k (hdr n len):=by
 apply List.ext_getElem?
 intro i
 rw [tear_get _ _ _ (padS_length _ (by rw [hdr_length]; omega)) zeroS_length,pad_get _ (by rw [hdr_length]; omega),zeroS_get,window_get]
 by_cases h1:i<k
 ·rw [if_pos h1]
  split
  ·rw [if_pos (by omega)]
  ·rfl
 ·rw [if_neg h1]
  split
  ·rw [if_neg (by omega)]
  ·rfl
theorem Part.tear {s:Sec} (h:Part s) (k:Nat):Part (tear k zeroS s):=by
 obtain ⟨n,len,j,m,h1,h2,rfl⟩:=h
 exact ⟨n,len,max j k,m,h1,h2,tear_zero_window _ _ _ _⟩
theorem Part.part (n len k:Nat) (h1:n<256 ^ 8) (h2:len<256 ^ 4):Part (Go.Proofs.YthpfpkikmaiddaaGreatDoor.Pk.tear k (padS (hdr n len)) zeroS):=⟨n,len,0,k,h1,h2,tear_hdr_zero _ _ _⟩
theorem numL_inj:∀ {a b:List UInt8},a.length=b.length->numL a=numL b->a=b
 | [],[],_,_=>rfl
 | [],y::b,hl,_=>by simp at hl
 | x::a,[],hl,_=>by simp at hl
 | x::a,y::b,hl,h=>by
  have hl':a.length=b.length:=by simpa using hl
  rw [numL_cons,numL_cons,hl'] at h
  have h1:=numL_lt _ a hl'
  have h2:=numL_lt _ b rfl
  have hp:0<256 ^ b.length:=Nat.pos_of_ne_zero (by simp)
  have hxy:x.toNat=y.toNat:=by
   rcases Nat.lt_trichotomy x.toNat y.toNat with h3 | h3 | h3
   ·have:=Nat.mul_le_mul_right (256 ^ b.length) (Nat.succ_le_of_lt h3)
    rw [Nat.succ_mul] at this; omega
   ·exact h3
   ·have:=Nat.mul_le_mul_right (256 ^ b.length) (Nat.succ_le_of_lt h3)
    rw [Nat.succ_mul] at this; omega
  rw [hxy] at h
  rw [UInt8.toNat_inj.1 hxy,numL_inj hl' (by omega)]
theorem numL_pos {l:List UInt8} (h:1<=numL l):∃ i,i<l.length/\l.getD i 0 ≠ 0:=by
 rcases Decidable.em (∃ i,i<l.length/\l.getD i 0 ≠ 0) with h1 | h1
 ·exact h1
 ·exfalso
  have:l=List.replicate l.length 0:=by
   apply List.ext_getElem?
   intro i
   rw [List.getElem?_replicate]
   split
   ·next hi=>
    have h2:l.getD i 0=0:=by
     rcases Decidable.em (l.getD i 0=0) with h3 | h3
     ·exact h3
     ·exact absurd ⟨i,hi,h3⟩ h1
    rw [List.getD_eq_getElem?_getD,List.getElem?_eq_getElem hi] at h2
    rw [List.getElem?_eq_getElem hi]; simpa using h2
   ·next hi=>exact List.getElem?_eq_none (by omega)
  rw [this,numL_zeros] at h; omega
theorem hdr_get (n len i:Nat):(hdr n len).getD i 0=if i<8 then (beN n 8).getD i 0 else if i<12 then (beN len 4).getD (i-8) 0 else (beN n 8).getD (i-12) 0:=by
 unfold hdr
 rw [List.getD_eq_getElem?_getD,List.getElem?_append,beN_length]
 split
 ·rw [List.getD_eq_getElem?_getD]
 ·rw [List.getElem?_append,beN_length]
  split
  ·rw [if_pos (by omega),List.getD_eq_getElem?_getD]
  ·rw [if_neg (by omega),List.getD_eq_getElem?_getD,show i-8-4=i-12 by omega]
theorem window_getD (j k:Nat) (h:Bs) (i:Nat) (hi:i<64):(window j k h).getD i 0=if j<=i/\i<k then h.getD i 0 else 0:=by
 rw [List.getD_eq_getElem?_getD,window_get,if_pos hi]; rfl
theorem window_first (j k:Nat) (h:Bs) (i:Nat) (hi:i<8):((window j k h).take 8).getD i 0=if j<=i/\i<k then h.getD i 0 else 0:=by
 rw [List.getD_eq_getElem?_getD,List.getElem?_take,if_pos hi,<- List.getD_eq_getElem?_getD,window_getD _ _ _ _ (by omega)]
theorem window_last (j k:Nat) (h:Bs) (i:Nat) (hi:i<8):(((window j k h).drop 12).take 8).getD i 0=if j<=12+i/\12+i<k then h.getD (12+i) 0 else 0:=by
 rw [List.getD_eq_getElem?_getD,List.getElem?_take,if_pos hi,List.getElem?_drop,<- List.getD_eq_getElem?_getD,window_getD _ _ _ _ (by omega)]
theorem window_whole (n len j k half:Nat) (h:headOk (window j k (hdr n len)) half=true):window j k (hdr n len)=padS (hdr n len):=by
 have h0:1<=(headR (window j k (hdr n len))).1/\(headR (window j k (hdr n len))).1 ≠ 9223372036854775807/\(headR (window j k (hdr n len))).1=(headR (window j k (hdr n len))).2.2/\(headR (window j k (hdr n len))).2.1<=((half:Int)-1)*64:=by
  simpa [headOk] using h
 obtain ⟨h1,_,h3,_⟩:=h0
 have hR:=headR_of _ (window_length j k (hdr n len)) h1 h3
 rw [hR] at h1 h3
 simp only at h1 h3
 have hA:((window j k (hdr n len)).take 8).length=8:=by rw [List.length_take,window_length]; rfl
 have hC:(((window j k (hdr n len)).drop 12).take 8).length=8:=by rw [List.length_take,List.length_drop,window_length]; rfl
 have hAC:=numL_inj (hA.trans hC.symm) (by omega)
 obtain ⟨i0,hi0,hne⟩:=numL_pos (l:=(window j k (hdr n len)).take 8) (by omega)
 rw [hA] at hi0
 have hne2:=hne
 rw [hAC,window_last _ _ _ _ hi0] at hne2
 rw [window_first _ _ _ _ hi0] at hne
 have hj:j<=i0/\i0<k:=by
  rcases Decidable.em (j<=i0/\i0<k) with hh | hh
  ·exact hh
  ·rw [if_neg hh] at hne; exact absurd rfl hne
 have hk:12+i0<k:=by
  rcases Decidable.em (j<=12+i0/\12+i0<k) with hh | hh
  ·exact hh.2
  ·rw [if_neg hh] at hne2; exact absurd rfl hne2
 have each:∀ i,i<8->(if j<=i/\i<k then (hdr n len).getD i 0 else 0)=if j<=12+i/\12+i<k then (hdr n len).getD (12+i) 0 else 0:=fun i hi=>by
  rw [<- window_first _ _ _ _ hi,<- window_last _ _ _ _ hi,hAC]
 have twin:∀ i,i<8->(hdr n len).getD (12+i) 0=(hdr n len).getD i 0:=fun i hi=>by
  rw [hdr_get,hdr_get,if_neg (by omega),if_neg (by omega),if_pos hi,show 12+i-12=i by omega]
 apply List.ext_getElem?
 intro i
 rw [window_get,pad_get _ (by rw [hdr_length]; omega)]
 by_cases hi:i<64
 ·rw [if_pos hi,if_pos hi]
  congr 1
  by_cases hw:j<=i/\i<k
  ·rw [if_pos hw]
  ·rw [if_neg hw]
   by_cases hlow:i<j
   ·have:=each i (by omega)
    rw [if_neg (by omega),if_pos (by omega),twin i (by omega)] at this
    exact this
   ·by_cases h20:i<20
    ·have:=each (i-12) (by omega)
     rw [if_pos (by omega),if_neg (by omega)] at this
     rw [<- twin (i-12) (by omega),show 12+(i-12)=i by omega] at this
     exact this.symm
    ·rw [List.getD_eq_getElem?_getD,List.getElem?_eq_none (by rw [hdr_length]; omega)]; rfl
 ·rw [if_neg hi,if_neg hi]
theorem headR_hdr (n len:Nat) (hn:n<=9223372036854775807) (hl:len<256 ^ 4):headR (padS (hdr n len))=((n:Int),(len:Int),(n:Int)):=by
 have p8:(256:Nat) ^ 8=18446744073709551616:=by decide
 have p4:(256:Nat) ^ 4=4294967296:=by decide
 have e:padS (hdr n len)=beN n 8++(beN len 4++(beN n 8++List.replicate (64-(hdr n len).length) 0)):=by
  unfold padS hdr; simp only [List.append_assoc]
 rw [e]
 unfold headR
 rw [numR_back 8 n _ (by omega) hn]
 simp only
 rw [numR_back 4 len _ hl (by omega)]
 simp only
 rw [numR_back 8 n _ (by omega) hn]
theorem headR_zero:headR zeroS=(0,0,0):=by decide +kernel
theorem headOk_zero (half:Nat):headOk zeroS half=false:=by
 unfold headOk; rw [headR_zero]; simp
theorem readM_zero {S:List Sec} {n half:Nat} (h:S.getD n zeroS=zeroS):readM S n half=none:=by
 unfold readM; rw [h,if_neg (by rw [headOk_zero]; simp)]
theorem readM_part {S:List Sec} {n half m len j k:Nat} (h:S.getD n zeroS=window j k (hdr m len)) (x:Nat × Ct) (hr:readM S n half=some x):S.getD n zeroS=padS (hdr m len):=by
 unfold readM at hr
 split at hr
 ·next ho=>rw [h] at ho; rw [h]; exact window_whole _ _ _ _ _ ho
 ·cases hr
end Go.Proofs.YthpfpkikmaiddaaGreatDoor.Pk
namespace Go.Proofs.YthpfpkikmaiddaaGreatDoor.Pk
def cut:Nat->Bs->List Bs
 | 0,_=>[]
 | f+1,t=>if t=[] then [] else t.take 64::cut f (t.drop 64)
theorem cut_nil (f:Nat):cut f []=[]:=by cases f <;> rfl
theorem cut_le:∀ (f:Nat) (t:Bs),∀ x ∈ cut f t,x.length<=64
 | 0,_,x,h=>by cases h
 | f+1,t,x,h=>by
  unfold cut at h
  split at h
  ·cases h
  ·rcases List.mem_cons.1 h with rfl | h
   ·rw [List.length_take]; omega
   ·exact cut_le f _ x h
theorem cut_len:∀ (f:Nat) (t:Bs),t.length<=64*f->64*(cut f t).length<t.length+64
 | 0,t,h=>by simp [cut]
 | f+1,t,h=>by
  unfold cut
  split
  ·simp
  ·next hne=>
   have h0:0<t.length:=List.length_pos_iff.2 hne
   have:=cut_len f (t.drop 64) (by rw [List.length_drop]; omega)
   rw [List.length_drop] at this
   rw [List.length_cons]
   rcases Nat.lt_or_ge 64 t.length with h1 | h1
   ·omega
   ·have e:t.drop 64=[]:=List.drop_of_length_le (by omega)
    rw [e,cut_nil]; simp; omega
theorem cut_flat:∀ (f:Nat) (t:Bs),t.length<=64*f->(((cut f t).map padS).flatten).take t.length=t
 | 0,t,h=>by
  have:t=[]:=List.eq_nil_of_length_eq_zero (by omega)
  subst this; rfl
 | f+1,t,h=>by
  unfold cut
  split
  ·next he=>subst he; rfl
  ·next hne=>
   have h0:0<t.length:=List.length_pos_iff.2 hne
   rw [List.map_cons,List.flatten_cons]
   rcases Nat.lt_or_ge 64 t.length with h1 | h1
   ·have e:padS (t.take 64)=t.take 64:=by unfold padS; rw [List.length_take,Nat.min_eq_left (by omega)]; simp
    have ih:=cut_flat f (t.drop 64) (by rw [List.length_drop]; omega)
    rw [e,List.take_append,List.length_take,Nat.min_eq_left (by omega),List.take_take,Nat.min_eq_right (by omega)]
    rw [List.length_drop] at ih
    rw [ih,List.take_append_drop]
   ·have e:t.drop 64=[]:=List.drop_of_length_le (by omega)
    have e2:t.take 64=t:=List.take_of_length_le (by omega)
    rw [e,cut_nil,e2]
    simp only [List.map_nil,List.flatten_nil,List.append_nil]
    unfold padS
    rw [List.take_append_of_le_length (Nat.le_refl _),List.take_of_length_le (Nat.le_refl _)]
theorem cut_flat_len (f:Nat) (t:Bs) (h:t.length<=64*f):t.length<=(((cut f t).map padS).flatten).length:=by
 have:=congrArg List.length (cut_flat f t h)
 rw [List.length_take] at this; omega
def wr:Nat->List Bs->List WrD
 | _,[]=>[]
 | n,t::r=>(n,padS t)::wr (n+1) r
theorem wr_length:∀ (n:Nat) (l:List Bs),(wr n l).length=l.length
 | _,[]=>rfl
 | n,t::r=>by simp [wr,wr_length (n+1) r]
theorem wr_mem:∀ (n:Nat) (l:List Bs) (x:WrD),x ∈ wr n l->n<=x.1/\x.1<n+l.length/\∃ t ∈ l,x.2=padS t
 | _,[],x,h=>by cases h
 | n,t::r,x,h=>by
  rcases List.mem_cons.1 h with rfl | h
  ·exact ⟨Nat.le_refl _,by simp,t,by simp,rfl⟩
  ·obtain ⟨h1,h2,u,h3,h4⟩:=wr_mem (n+1) r x h
   exact ⟨by omega,by simp; omega,u,by simp [h3],h4⟩
theorem runW_out:∀ (ws:List WrD) (S:List Sec) (i:Nat),(∀ x ∈ ws,x.1 ≠ i)->(runW S ws)[i]?=S[i]?
 | [],S,i,_=>rfl
 | x::ws,S,i,h=>by
  show (runW (S.set x.1 x.2) ws)[i]?=_
  rw [runW_out ws _ i fun y hy=>h y (by simp [hy]),List.getElem?_set,if_neg (h x (by simp))]
theorem runW_wr:∀ (l:List Bs) (S:List Sec) (n i:Nat),n+l.length<=S.length->i<l.length->(runW S (wr n l))[n+i]?=(l[i]?).map padS
 | [],S,n,i,_,h=>by simp at h
 | t::r,S,n,i,hS,h=>by
  show (runW (S.set n (padS t)) (wr (n+1) r))[n+i]?=_
  have hl:(t::r).length=r.length+1:=by simp
  rw [hl] at hS h
  cases i with
  | zero=>
   rw [runW_out _ _ _ (fun x hx=>by have:=(wr_mem _ _ _ hx).1; omega),Nat.add_zero,List.getElem?_set,if_pos rfl,if_pos (by omega)]; rfl
  | succ i=>
   have:=runW_wr r (S.set n (padS t)) (n+1) i (by rw [List.length_set]; omega) (by omega)
   rw [show n+(i+1)=n+1+i by omega,this]; rfl
theorem settleN_out (keep:List Int) (S:List Sec) (ws:List WrD) (i:Nat) (h:∀ x ∈ ws,x.1 ≠ i):∀ k,(settleN keep S ws k)[i]?=S[i]?
 | 0=>rfl
 | k+1=>by
  unfold settleN
  split
  ·next x hx=>
   unfold lay1
   rw [List.getElem?_set,if_neg (h x (List.mem_of_getElem? hx)),settleN_out keep S ws i h k]
  ·exact settleN_out keep S ws i h k
theorem settle_one (keep:List Int) (S:List Sec) (n:Nat) (t:Sec) (hn:n<S.length):(settle keep S [(n,t)])[n]?=some (tear (keepAt keep 0) t (S.getD n zeroS)):=by
 show (lay1 keep 0 S (n,t))[n]?=_
 unfold lay1
 rw [List.getElem?_set,if_pos rfl,if_pos hn]
theorem settle_none (keep:List Int) (S:List Sec):settle keep S []=S:=rfl
theorem body_back (S:List Sec) (n k f:Nat) (t:Bs) (hf:t.length<=64*f) (hk:(cut f t).length<=k) (h:∀ i,i<(cut f t).length->S[n+i]?=((cut f t)[i]?).map padS):(bodyS S n k).take t.length=t:=by
 obtain ⟨j,rfl⟩:∃ j,k=(cut f t).length+j:=⟨k-(cut f t).length,by omega⟩
 have e:(S.drop n).take (cut f t).length=(cut f t).map padS:=by
  apply List.ext_getElem?
  intro i
  rw [List.getElem?_take,List.getElem?_drop,List.getElem?_map]
  split
  ·next hi=>exact h i hi
  ·next hi=>rw [List.getElem?_eq_none (by omega)]; rfl
 unfold bodyS
 rw [List.take_add,List.flatten_append,e,List.take_append_of_le_length (cut_flat_len f t hf),cut_flat f t hf]
def layM:List Bs->Dev->Nat->Int × Dev
 | [],D,_=>(D.barrierE,D.barrier)
 | t::r,D,n=>if D.writeE n t=0 then layM r (D.write n t) (n+1) else (D.writeE n t,D.write n t)
def zeros:Bs:=List.replicate 64 0
def commitM (D:Dev) (at_:Nat) (h:Bs) (l:List Bs):Int × Dev:=
 if (layM [zeros] D at_).1=0 then
  if (layM l (layM [zeros] D at_).2 (at_+1)).1=0 then layM [h] (layM l (layM [zeros] D at_).2 (at_+1)).2 at_ else layM l (layM [zeros] D at_).2 (at_+1)
 else layM [zeros] D at_
theorem refused_in {D:Dev} {n:Nat} (ho:D.off=false) (hn:n<D.safe.length):D.refused n=0:=by
 unfold Dev.refused
 rw [ho,if_neg (by simp),if_neg (by omega)]
theorem write_goes {D:Dev} {n:Nat} {t:Bs} (ho:D.off=false) (hn:n<D.safe.length) (ht:t.length<=64) (hg:D.fall ≠ 1) :
  D.writeE n t=0/\D.write n t={ D with fall:=D.fall-1,taken:=D.taken+1,ws:=D.ws++[(n,padS t)] }:=by
 have hr:=refused_in ho hn
 have hgo:D.goes=true:=by simp [Dev.goes,hg]
 have h64:¬ 64<t.length:=by omega
 unfold Dev.writeE Dev.write
 simp only [hr,hgo,h64,ne_eq,not_true,if_false,if_true]
 refine ⟨trivial,?_⟩
 unfold Dev.stepD
 simp only [hg,if_false,Int.toNat_natCast]
theorem write_stops {D:Dev} {n:Nat} {t:Bs} (ho:D.off=false) (hn:n<D.safe.length) (ht:t.length<=64) (hg:D.fall=1) :
  D.writeE n t=7/\D.write n t={ D with fall:=0,off:=true }:=by
 have hr:=refused_in ho hn
 have hgo:D.goes=false:=by simp [Dev.goes,hg]
 have h64:¬ 64<t.length:=by omega
 unfold Dev.writeE Dev.write
 simp only [hr,hgo,h64,ne_eq,not_true,if_false,Bool.false_eq_true]
 refine ⟨trivial,?_⟩
 unfold Dev.stepD
 simp only [hg,if_true]
theorem barrier_goes {D:Dev} (ho:D.off=false) (hg:D.fall ≠ 1):D.barrierE=0/\D.barrier={ D with fall:=D.fall-1,taken:=D.taken+1,safe:=D.seen,ws:=[] }:=by
 have hgo:D.goes=true:=by simp [Dev.goes,hg]
 unfold Dev.barrierE Dev.barrier
 simp only [ho,hgo,if_true,Bool.false_eq_true,if_false]
 refine ⟨trivial,?_⟩
 unfold Dev.stepD
 simp only [hg,if_false,ho]
theorem barrier_stops {D:Dev} (ho:D.off=false) (hg:D.fall=1):D.barrierE=7/\D.barrier={ D with fall:=0,off:=true }:=by
 have hgo:D.goes=false:=by simp [Dev.goes,hg]
 unfold Dev.barrierE Dev.barrier
 simp only [ho,hgo,Bool.false_eq_true,if_false]
 refine ⟨trivial,?_⟩
 unfold Dev.stepD
 simp only [hg,if_true]
structure Laid1 (D D':Dev) (n:Nat) (l:List Bs):Prop where
 off:D'.off=false
 ws:D'.ws=[]
 safe:D'.safe=runW D.safe (D.ws++wr n l)
 taken:D'.taken<=D.taken+l.length+1
 fall:D'.fall<=D.fall
structure Fell (D D':Dev) (n:Nat) (l:List Bs):Prop where
 off:D'.off=true
 safe:D'.safe=D.safe
 ws:∃ m,m<=l.length/\D'.ws=D.ws++(wr n l).take m
 taken:D'.taken<=D.taken+l.length+1
 fall:D'.fall<=D.fall
theorem layM_cases:∀ (l:List Bs) (D:Dev) (n:Nat),D.off=false->n+l.length<=D.safe.length->(∀ t ∈ l,t.length<=64) ->
  ((layM l D n).1=0/\Laid1 D (layM l D n).2 n l)∨((layM l D n).1=7/\Fell D (layM l D n).2 n l)
 | [],D,n,ho,_,_=>by
  unfold layM
  by_cases hg:D.fall=1
  ·obtain ⟨h1,h2⟩:=barrier_stops ho hg
   rw [h1,h2]
   exact .inr ⟨rfl,rfl,rfl,⟨0,Nat.le_refl _,by simp⟩,by simp,by simp⟩
  ·obtain ⟨h1,h2⟩:=barrier_goes ho hg
   rw [h1,h2]
   exact .inl ⟨rfl,ho,rfl,by simp [wr,Dev.seen],by simp,by simp⟩
 | t::r,D,n,ho,hn,ht=>by
  have hl:(t::r).length=r.length+1:=by simp
  rw [hl] at hn
  have h64:=ht t (by simp)
  unfold layM
  by_cases hg:D.fall=1
  ·obtain ⟨h1,h2⟩:=write_stops (n:=n) (t:=t) ho (by omega) h64 hg
   rw [h1,h2,if_neg (by decide)]
   exact .inr ⟨rfl,rfl,rfl,⟨0,Nat.zero_le _,by simp⟩,by simp; omega,by simp⟩
  ·obtain ⟨h1,h2⟩:=write_goes (n:=n) (t:=t) ho (by omega) h64 hg
   rw [h1,if_pos rfl]
   have ih:=layM_cases r (D.write n t) (n+1) (by rw [h2]; exact ho) (by rw [h2]; show n+1+r.length<=D.safe.length; omega) (fun u hu=>ht u (by simp [hu]))
   rcases ih with ⟨e1,e2⟩ | ⟨e1,e2⟩
   ·refine .inl ⟨e1,e2.off,e2.ws,?_,?_,?_⟩
    ·rw [e2.safe,h2]; simp [wr]
    ·have h3:=e2.taken
     have h4:(D.write n t).taken=D.taken+1:=by rw [h2]
     rw [hl]; omega
    ·have h3:=e2.fall
     have h4:(D.write n t).fall=D.fall-1:=by rw [h2]
     omega
   ·refine .inr ⟨e1,e2.off,?_,?_,?_,?_⟩
    ·rw [e2.safe,h2]
    ·obtain ⟨m,hm,e3⟩:=e2.ws
     exact ⟨m+1,by rw [hl]; omega,by rw [e3,h2]; simp [wr]⟩
    ·have h3:=e2.taken
     have h4:(D.write n t).taken=D.taken+1:=by rw [h2]
     rw [hl]; omega
    ·have h3:=e2.fall
     have h4:(D.write n t).fall=D.fall-1:=by rw [h2]
     omega
theorem layM_ok:∀ (l:List Bs) (D:Dev) (n:Nat),D.ok->(layM l D n).2.ok
 | [],D,_,h=>h.barrier
 | t::r,D,n,h=>by
  unfold layM
  split
  ·exact layM_ok r _ _ (h.write _ _)
  ·exact h.write _ _
theorem commitM_ok (D:Dev) (at_:Nat) (h:Bs) (l:List Bs) (hD:D.ok):(commitM D at_ h l).2.ok:=by
 unfold commitM
 split
 ·split
  ·exact layM_ok _ _ _ (layM_ok _ _ _ (layM_ok _ _ _ hD))
  ·exact layM_ok _ _ _ (layM_ok _ _ _ hD)
 ·exact layM_ok _ _ _ hD
structure Region (S:List Sec) (base half num:Nat) (c:Ct) (last:Nat):Prop where
 fit:base+2*half<=S.length
 half2:2<=half
 last1:last<=1
 few:num<=1000000
 cur:readM S (base+last*half) half=if num=0 then none else some (num,c)
 old:∀ x,readM S (base+(1-last)*half) half=some x->x.1<num
 part:Part (S.getD (base+(1-last)*half) zeroS)
 part2:Part (S.getD (base+last*half) zeroS)
 zero:num=0->last=1/\c=[]
theorem Region.new (S:List Sec) (base half:Nat) (hf:base+2*half<=S.length) (h2:2<=half) (hz:∀ i,S.getD i zeroS=zeroS):Region S base half 0 [] 1:=
 ⟨hf,h2,Nat.le_refl _,Nat.zero_le _,by rw [if_pos rfl]; exact readM_zero (hz _),(fun x hx=>by rw [readM_zero (hz _)] at hx; cases hx),(by rw [hz]; exact Part.zero),(by rw [hz]; exact Part.zero),fun _=>⟨rfl,rfl⟩⟩
theorem getD_of (S S':List Sec) (n:Nat) (h:S'[n]?=S[n]?):S'.getD n zeroS=S.getD n zeroS:=by
 rw [List.getD_eq_getElem?_getD,List.getD_eq_getElem?_getD,h]
theorem getD_some {S:List Sec} {n:Nat} {s:Sec} (h:S[n]?=some s):S.getD n zeroS=s:=by
 rw [List.getD_eq_getElem?_getD,h]; rfl
theorem Region.congr {S S':List Sec} {base half num:Nat} {c:Ct} {last:Nat} (h:Region S base half num c last) (hl:S'.length=S.length) (he:∀ i,base<=i->i<base+2*half->S'[i]?=S[i]?):Region S' base half num c last:=by
 have h1:=h.last1
 have h2:=h.half2
 have b1:last*half<=half:=by rcases (show last=0∨last=1 by omega) with rfl | rfl <;> omega
 have b2:(1-last)*half<=half:=by rcases (show last=0∨last=1 by omega) with rfl | rfl <;> omega
 have e1:readM S' (base+last*half) half=readM S (base+last*half) half:=readM_congr (fun i hi hj=>he i (by omega) (by omega)) (by omega)
 have e2:readM S' (base+(1-last)*half) half=readM S (base+(1-last)*half) half:=readM_congr (fun i hi hj=>he i (by omega) (by omega)) (by omega)
 exact ⟨by rw [hl]; exact h.fit,h2,h1,h.few,by rw [e1]; exact h.cur,by rw [e2]; exact h.old,by rw [getD_of S S' _ (he _ (by omega) (by omega))]; exact h.part,by rw [getD_of S S' _ (he _ (by omega) (by omega))]; exact h.part2,h.zero⟩
theorem Region.touch {S S':List Sec} {base half num:Nat} {c:Ct} {last:Nat} (h:Region S base half num c last) (hl:S'.length=S.length)
  (he:∀ i,i<base+(1-last)*half∨base+(1-last)*half+half<=i->S'[i]?=S[i]?) (hp:Part (S'.getD (base+(1-last)*half) zeroS)) (ho:∀ x,readM S' (base+(1-last)*half) half=some x->x.1<num):Region S' base half num c last:=by
 have h1:=h.last1
 have h2:=h.half2
 have far:∀ i,base+last*half<=i->i<base+last*half+half->S'[i]?=S[i]?:=fun i hi hj=>he i (by
  rcases (show last=0∨last=1 by omega) with rfl | rfl
  ·simp only [Nat.zero_mul,Nat.sub_zero,Nat.one_mul,Nat.add_zero] at *; omega
  ·simp only [Nat.zero_mul,Nat.sub_self,Nat.one_mul,Nat.add_zero] at *; omega)
 have e1:readM S' (base+last*half) half=readM S (base+last*half) half:=readM_congr far (by omega)
 exact ⟨by rw [hl]; exact h.fit,h2,h1,h.few,by rw [e1]; exact h.cur,ho,hp,by rw [getD_of S S' _ (far _ (Nat.le_refl _) (by omega))]; exact h.part2,h.zero⟩
theorem Region.turn {S S':List Sec} {base half num:Nat} {c d:Ct} {last:Nat} (h:Region S base half num c last) (hl:S'.length=S.length) (hn:num<1000000)
  (he:∀ i,i<base+(1-last)*half∨base+(1-last)*half+half<=i->S'[i]?=S[i]?) (hp:Part (S'.getD (base+(1-last)*half) zeroS)) (ho:readM S' (base+(1-last)*half) half=some (num+1,d)):Region S' base half (num+1) d (1-last):=by
 have h1:=h.last1
 have h2:=h.half2
 have far:∀ i,base+last*half<=i->i<base+last*half+half->S'[i]?=S[i]?:=fun i hi hj=>he i (by
  rcases (show last=0∨last=1 by omega) with rfl | rfl
  ·simp only [Nat.zero_mul,Nat.sub_zero,Nat.one_mul,Nat.add_zero] at *; omega
  ·simp only [Nat.zero_mul,Nat.sub_self,Nat.one_mul,Nat.add_zero] at *; omega)
 have e1:readM S' (base+last*half) half=readM S (base+last*half) half:=readM_congr far (by omega)
 have hll:1-(1-last)=last:=by omega
 refine ⟨by rw [hl]; exact h.fit,h2,by omega,by omega,by rw [if_neg (by omega)]; exact ho,fun x hx=>?_,?_,hp,fun e=>by omega⟩
 ·rw [hll,e1,h.cur] at hx
  split at hx
  ·cases hx
  ·cases hx; exact Nat.lt_succ_self _
 ·rw [hll,getD_of S S' _ (far _ (Nat.le_refl _) (by omega))]; exact h.part2
structure Calm (D:Dev):Prop where
 ok:D.ok
 off:D.off=false
 ws:D.ws=[]
def toC (base half last:Nat):Nat:=base+(1-last)*half
def pieces (d:Ct):List Bs:=cut (bytesC d).length (bytesC d)
theorem pieces_le (d:Ct):∀ t ∈ pieces d,t.length<=64:=cut_le _ _
theorem pieces_len (d:Ct) (half:Nat) (h:(bytesC d).length<=64*(half-1)):(pieces d).length<=half-1:=by
 have:=cut_len (bytesC d).length (bytesC d) (by omega)
 unfold pieces; omega
theorem seen_calm {D:Dev} (h:Calm D):D.seen=D.safe:=by unfold Dev.seen; rw [h.ws]; rfl
theorem runW_one (S:List Sec) (n:Nat) (t:Sec) (hn:n<S.length):(runW S [(n,t)])[n]?=some t:=by
 show (S.set n t)[n]?=_
 rw [List.getElem?_set,if_pos rfl,if_pos hn]
theorem runW_one_out (S:List Sec) (n i:Nat) (t:Sec) (hi:i ≠ n):(runW S [(n,t)])[i]?=S[i]?:=runW_out _ _ _ fun x hx=>by
 obtain rfl:x=(n,t):=by simpa using hx
 exact fun e=>hi e.symm
theorem padS_zeros:padS zeros=zeroS:=by decide +kernel
theorem wr_zeros (n:Nat):wr n [zeros]=[(n,zeroS)]:=by simp [wr,padS_zeros]
theorem take_one {α:Type} (x:α) (m:Nat):[x].take m=[]∨[x].take m=[x]:=by
 cases m with
 | zero=>exact .inl rfl
 | succ m=>exact .inr (by simp)
structure After (D D':Dev) (base half num:Nat) (c d:Ct) (last:Nat):Prop where
 ok:D'.ok
 len:D'.safe.length=D.safe.length
 taken:D'.taken<=D.taken+half+5
 fall:D'.fall<=D.fall
 wsl:D'.ws.length<=half+5
 crash:∀ keep,(D'.crash keep).safe.length=D.safe.length/\(Region (D'.crash keep).safe base half num c last∨Region (D'.crash keep).safe base half (num+1) d (1-last))
structure Done (D D':Dev) (base half num:Nat) (d:Ct) (last:Nat):Prop where
 calm:Calm D'
 len:D'.safe.length=D.safe.length
 taken:D'.taken<=D.taken+half+5
 fall:D'.fall<=D.fall
 region:Region D'.safe base half (num+1) d (1-last)
 out:∀ i,i<base∨base+2*half<=i->D'.safe[i]?=D.safe[i]?
theorem toC_in {base half last:Nat} (h:last<=1) (h2:2<=half):base<=toC base half last/\toC base half last+half<=base+2*half:=by
 unfold toC
 rcases (show last=0∨last=1 by omega) with rfl | rfl
 ·simp only [Nat.sub_zero,Nat.one_mul]; omega
 ·simp only [Nat.sub_self,Nat.zero_mul]; omega
theorem commit_cases {D:Dev} {base half num:Nat} {c d:Ct} {last:Nat} (hD:Calm D) (hR:Region D.safe base half num c last) (hd:d.ok) (hn:num<1000000) (hl:(bytesC d).length<=64*(half-1)) :
  ((commitM D (toC base half last) (hdr (num+1) (bytesC d).length) (pieces d)).1=0/\Done D (commitM D (toC base half last) (hdr (num+1) (bytesC d).length) (pieces d)).2 base half num d last) ∨
  ((commitM D (toC base half last) (hdr (num+1) (bytesC d).length) (pieces d)).1=7/\(commitM D (toC base half last) (hdr (num+1) (bytesC d).length) (pieces d)).2.off=true/\After D (commitM D (toC base half last) (hdr (num+1) (bytesC d).length) (pieces d)).2 base half num c d last):=by
 have hokall:=commitM_ok D (toC base half last) (hdr (num+1) (bytesC d).length) (pieces d) hD.ok
 have h1:=hR.last1
 have h2:=hR.half2
 have hfit:=hR.fit
 obtain ⟨hi1,hi2⟩:=toC_in (base:=base) h1 h2
 have hpart:Part (D.safe.getD (toC base half last) zeroS):=hR.part
 have hold:∀ x,readM D.safe (toC base half last) half=some x->x.1<num:=hR.old
 have hpl:=pieces_len d half hl
 have hbl:=(bytesC_le hd).2
 have p4:(256:Nat) ^ 4=4294967296:=by decide
 have p8:(256:Nat) ^ 8=18446744073709551616:=by decide
 have touch:∀ S',S'.length=D.safe.length->(∀ i,i<toC base half last∨toC base half last+half<=i->S'[i]?=D.safe[i]?)->Part (S'.getD (toC base half last) zeroS)->(∀ x,readM S' (toC base half last) half=some x->x.1<num)->Region S' base half num c last:=fun S' e1 e2 e3 e4=>hR.touch e1 e2 e3 e4
 have turn:∀ S',S'.length=D.safe.length->(∀ i,i<toC base half last∨toC base half last+half<=i->S'[i]?=D.safe[i]?)->Part (S'.getD (toC base half last) zeroS)->readM S' (toC base half last) half=some (num+1,d)->Region S' base half (num+1) d (1-last):=fun S' e1 e2 e3 e4=>hR.turn e1 hn e2 e3 e4
 generalize toC base half last=a at *
 generalize hH:hdr (num+1) (bytesC d).length=H at *
 have hHl:H.length<=64:=by rw [<- hH,hdr_length]; omega
 have hhp:∀ k,Part (tear k (padS H) zeroS):=fun k=>by rw [<- hH]; exact Part.part _ _ k (by omega) (by omega)
 have hwhole:Part (padS H):=by
  have:=hhp 64
  rwa [tear_all _ _ (padS_length _ hHl) zeroS_length] at this
 have c1:=layM_cases [zeros] D a hD.off (by simp; omega) (by simp [zeros])
 unfold commitM at hokall ⊢
 rcases c1 with ⟨e1,l1⟩ | ⟨e1,f1⟩
 rotate_left
 ·
  rw [e1,if_neg (by decide)] at hokall ⊢
  refine .inr ⟨e1,f1.off,hokall,by rw [f1.safe],by have:=f1.taken; simp at this; omega,f1.fall,?_,fun keep=>?_⟩
  ·obtain ⟨m,hm,hw⟩:=f1.ws
   rw [hw,hD.ws,List.nil_append,List.length_take,wr_length,List.length_singleton]; omega
  ·have hs:((layM [zeros] D a).2.crash keep).safe=settle keep D.safe (layM [zeros] D a).2.ws:=by rw [Dev.crash,f1.safe]
   obtain ⟨m,hm,hw⟩:=f1.ws
   rw [hD.ws,List.nil_append,wr_zeros] at hw
   rw [hs]
   refine ⟨by unfold settle; rw [settleN_length],.inl ?_⟩
   rcases take_one (a,zeroS) m with hw2 | hw2
   ·rw [hw,hw2,settle_none]
    exact touch _ rfl (fun _ _=>rfl) hpart hold
   ·rw [hw,hw2]
    have ht:=settle_one keep D.safe a zeroS (by omega)
    have hout:∀ i,i ≠ a->(settle keep D.safe [(a,zeroS)])[i]?=D.safe[i]?:=fun i hi=>settleN_out keep D.safe _ i (fun x hx=>by
     obtain rfl:x=(a,zeroS):=by simpa using hx
     exact fun e=>hi e.symm) _
    refine touch _ (by unfold settle; rw [settleN_length]) (fun i hi=>hout i (by omega)) ?_ (fun x hx=>?_)
    ·rw [getD_some ht]; exact hpart.tear _
    ·obtain ⟨n,len,j,k,q1,q2,q3⟩:=hpart
     have hg:(settle keep D.safe [(a,zeroS)]).getD a zeroS=window (max j (keepAt keep 0)) k (hdr n len):=by
      rw [getD_some ht,q3,tear_zero_window,Nat.max_comm]
     have hg2:=readM_part hg x hx
     rw [hg] at hg2
     have hsame:D.safe.getD a zeroS=padS (hdr n len):=by
      rw [q3]
      apply List.ext_getElem?
      intro i
      have q4:(window (max j (keepAt keep 0)) k (hdr n len))[i]?=(padS (hdr n len))[i]?:=by rw [hg2]
      rw [window_get,pad_get _ (by rw [hdr_length]; omega)] at q4
      rw [window_get,pad_get _ (by rw [hdr_length]; omega)]
      by_cases hi:i<64
      ·rw [if_pos hi,if_pos hi] at q4 ⊢
       by_cases hw3:j<=i/\i<k
       ·rw [if_pos hw3]
       ·rw [if_neg (by omega)] at q4
        rw [if_neg hw3]; exact q4
      ·rw [if_neg hi,if_neg hi]
     have hset:settle keep D.safe [(a,zeroS)]=D.safe:=by
      apply List.ext_getElem?
      intro i
      by_cases hi:i=a
      ·subst hi
       have e3:(settle keep D.safe [(i,zeroS)]).getD i zeroS=D.safe.getD i zeroS:=by rw [hg,hg2,hsame]
       have e4:i<(settle keep D.safe [(i,zeroS)]).length:=by unfold settle; rw [settleN_length]; omega
       have e5:i<D.safe.length:=by omega
       rw [List.getD_eq_getElem?_getD,List.getD_eq_getElem?_getD,List.getElem?_eq_getElem e4,List.getElem?_eq_getElem e5] at e3
       rw [List.getElem?_eq_getElem e4,List.getElem?_eq_getElem e5]
       simpa using e3
      ·exact hout i hi
     rw [hset] at hx
     exact hold x hx
 ·rw [e1,if_pos rfl] at hokall ⊢
  have s1:(layM [zeros] D a).2.safe=runW D.safe [(a,zeroS)]:=by rw [l1.safe,hD.ws,List.nil_append,wr_zeros]
  have t1:=l1.taken
  have u1:=l1.fall
  have o1:=l1.off
  have w1:=l1.ws
  generalize (layM [zeros] D a).2=D1 at *
  have L1:D1.safe.length=D.safe.length:=by rw [s1,runW_length]
  have x1:D1.safe[a]?=some zeroS:=by rw [s1]; exact runW_one _ _ _ (by omega)
  have y1:∀ i,i ≠ a->D1.safe[i]?=D.safe[i]?:=fun i hi=>by rw [s1]; exact runW_one_out _ _ _ _ hi
  simp only [List.length_singleton] at t1
  have c2:=layM_cases (pieces d) D1 (a+1) o1 (by omega) (pieces_le d)
  rcases c2 with ⟨e2,l2⟩ | ⟨e2,f2⟩
  rotate_left
  ·
   rw [e2,if_neg (by decide)] at hokall ⊢
   refine .inr ⟨e2,f2.off,hokall,by rw [f2.safe,L1],by have:=f2.taken; omega,Nat.le_trans f2.fall u1,?_,fun keep=>?_⟩
   ·obtain ⟨m,hm,hw⟩:=f2.ws
    rw [hw,w1,List.nil_append,List.length_take,wr_length]; omega
   ·obtain ⟨m,hm,hw⟩:=f2.ws
    rw [w1,List.nil_append] at hw
    have hs:((layM (pieces d) D1 (a+1)).2.crash keep).safe=settle keep D1.safe ((wr (a+1) (pieces d)).take m):=by rw [Dev.crash,f2.safe,hw]
    rw [hs]
    have hout:∀ i,i<a+1∨a+half<=i->(settle keep D1.safe ((wr (a+1) (pieces d)).take m))[i]?=D1.safe[i]?:=fun i hi=>settleN_out keep D1.safe _ i (fun x hx=>by
     have:=wr_mem _ _ _ (List.mem_of_mem_take hx); omega) _
    have hlen:(settle keep D1.safe ((wr (a+1) (pieces d)).take m)).length=D.safe.length:=by unfold settle; rw [settleN_length,L1]
    refine ⟨hlen,.inl ?_⟩
    have hz:(settle keep D1.safe ((wr (a+1) (pieces d)).take m)).getD a zeroS=zeroS:=getD_some ((hout a (by omega)).trans x1)
    exact touch _ hlen (fun i hi=>(hout i (by omega)).trans (y1 i (by omega))) (by rw [hz]; exact Part.zero) (fun x hx=>by rw [readM_zero hz] at hx; cases hx)
  ·rw [e2,if_pos rfl] at hokall ⊢
   have s2:(layM (pieces d) D1 (a+1)).2.safe=runW D1.safe (wr (a+1) (pieces d)):=by rw [l2.safe,w1,List.nil_append]
   have t2:=l2.taken
   have u2:=l2.fall
   have o2:=l2.off
   have w2:=l2.ws
   generalize (layM (pieces d) D1 (a+1)).2=D2 at *
   have L2:D2.safe.length=D.safe.length:=by rw [s2,runW_length,L1]
   have y2:∀ i,i<a+1∨a+half<=i->D2.safe[i]?=D1.safe[i]?:=fun i hi=>by
    rw [s2]; exact runW_out _ _ _ fun x hx=>by have:=wr_mem _ _ _ hx; omega
   have x2:D2.safe[a]?=some zeroS:=(y2 a (by omega)).trans x1
   have b2:∀ i,i<(pieces d).length->D2.safe[a+1+i]?=((pieces d)[i]?).map padS:=fun i hi=>by
    rw [s2]; exact runW_wr _ _ _ _ (by omega) hi
   have whole:∀ S',S'.length=D.safe.length->S'[a]?=some (padS H)->(∀ i,i ≠ a->S'[i]?=D2.safe[i]?)->readM S' a half=some (num+1,d):=fun S' hS1 hS2 hS3=>by
    have hb:=body_back S' (a+1) (half-1) (bytesC d).length (bytesC d) (by omega) hpl (fun i hi=>by rw [hS3 _ (by omega)]; exact b2 i hi)
    have hh:headR (padS H)=(((num+1:Nat):Int),((bytesC d).length:Int),((num+1:Nat):Int)):=by rw [<- hH]; exact headR_hdr _ _ (by omega) (by omega)
    have hok:headOk (padS H) half=true:=by
     unfold headOk
     rw [hh]
     simp; omega
    unfold readM
    rw [getD_some hS2,hok,if_pos rfl,hh]
    simp only [Int.toNat_natCast]
    rw [hb,parseC_back hd]; rfl
   have c3:=layM_cases [H] D2 a o2 (by simp; omega) (by simpa using hHl)
   rcases c3 with ⟨e3,l3⟩ | ⟨e3,f3⟩
   ·
    have s3:(layM [H] D2 a).2.safe=runW D2.safe [(a,padS H)]:=by rw [l3.safe,w2,List.nil_append]; rfl
    have t3:=l3.taken
    have u3:=l3.fall
    have x3:(layM [H] D2 a).2.safe[a]?=some (padS H):=by rw [s3]; exact runW_one _ _ _ (by omega)
    have y3:∀ i,i ≠ a->(layM [H] D2 a).2.safe[i]?=D2.safe[i]?:=fun i hi=>by rw [s3]; exact runW_one_out _ _ _ _ hi
    have L3:(layM [H] D2 a).2.safe.length=D.safe.length:=by rw [s3,runW_length,L2]
    have far:∀ i,i<a∨a+half<=i->(layM [H] D2 a).2.safe[i]?=D.safe[i]?:=fun i hi=>(y3 i (by omega)).trans ((y2 i (by omega)).trans (y1 i (by omega)))
    simp only [List.length_singleton] at t3
    exact .inl ⟨e3,⟨hokall,l3.off,l3.ws⟩,L3,by omega,by omega,turn _ L3 far (by rw [getD_some x3]; exact hwhole) (whole _ L3 x3 y3),fun i hi=>far i (by omega)⟩
   ·
    have t3:=f3.taken
    have u3:=f3.fall
    simp only [List.length_singleton] at t3
    refine .inr ⟨e3,f3.off,hokall,by rw [f3.safe,L2],by omega,by omega,?_,fun keep=>?_⟩
    ·obtain ⟨m,hm,hw⟩:=f3.ws
     rw [hw,w2,List.nil_append,List.length_take,wr_length,List.length_singleton]; omega
    ·obtain ⟨m,hm,hw⟩:=f3.ws
     rw [w2,List.nil_append] at hw
     have hs:((layM [H] D2 a).2.crash keep).safe=settle keep D2.safe (([(a,padS H)]:List WrD).take m):=by rw [Dev.crash,f3.safe,hw]; rfl
     rw [hs]
     have hlen:(settle keep D2.safe (([(a,padS H)]:List WrD).take m)).length=D.safe.length:=by unfold settle; rw [settleN_length,L2]
     refine ⟨hlen,?_⟩
     rcases take_one (a,padS H) m with hw2 | hw2
     ·rw [hw2,settle_none]
      have hz:D2.safe.getD a zeroS=zeroS:=getD_some x2
      exact .inl (touch _ L2 (fun i hi=>(y2 i (by omega)).trans (y1 i (by omega))) (by rw [hz]; exact Part.zero) (fun x hx=>by rw [readM_zero hz] at hx; cases hx))
     ·rw [hw2] at hlen ⊢
      have ht:=settle_one keep D2.safe a (padS H) (by omega)
      have hz:D2.safe.getD a zeroS=zeroS:=getD_some x2
      rw [hz] at ht
      have hout:∀ i,i ≠ a->(settle keep D2.safe [(a,padS H)])[i]?=D2.safe[i]?:=fun i hi=>settleN_out keep D2.safe _ i (fun x hx=>by
       obtain rfl:x=(a,padS H):=by simpa using hx
       exact fun e=>hi e.symm) _
      have far:∀ i,i<a∨a+half<=i->(settle keep D2.safe [(a,padS H)])[i]?=D.safe[i]?:=fun i hi=>(hout i (by omega)).trans ((y2 i (by omega)).trans (y1 i (by omega)))
      have hp:Part ((settle keep D2.safe [(a,padS H)]).getD a zeroS):=by rw [getD_some ht]; exact hhp _
      cases hx:readM (settle keep D2.safe [(a,padS H)]) a half with
      | none=>exact .inl (touch _ hlen far hp (fun x hx2=>by rw [hx] at hx2; cases hx2))
      | some x=>
       have hg:(settle keep D2.safe [(a,padS H)]).getD a zeroS=window 0 (keepAt keep 0) (hdr (num+1) (bytesC d).length):=by rw [getD_some ht,<- hH,tear_hdr_zero]
       have hg2:=readM_part hg x hx
       rw [hH] at hg2
       have hxx:(settle keep D2.safe [(a,padS H)])[a]?=some (padS H):=by
        rw [getD_some ht] at hg2
        rw [ht,hg2]
       exact .inr (turn _ hlen far hp (whole _ hlen hxx hout))
end Go.Proofs.YthpfpkikmaiddaaGreatDoor.Pk
